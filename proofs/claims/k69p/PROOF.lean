import PyProof.Rows.All
import Wide.All
import OpenK.AllK
import Wide.FinOn
import Lean
import PyProof.EqAt
import PyProof.EqKinds
import PyProof.TupleCall
import PyProof.StationsW
import PyProof.PassesOwn
import PyProof.RulesAs
import PyProof.ExcClass3
import PyProof.Rows.CatchOwn
import OpenK.KMake
import OpenK.KWalk
import PyProof.InstStoreFacts
import PyProof.ExcBaseAll.ValueError
import PyProof.RangeIter
import OpenK.KRaise
import PyProof.NsDelKeeps
import KE.KIsAll
import PyProof.P3In
import PyProof.NeData
import PyProof.ExcArgs
import PyProof.CompUse
import PyProof.ReprLen
import KE.KSortTup
import PyProof.SumAny
import PyProof.Rows.SeqCalls
import KE.KRevIter
import PyProof.TupleOfGen
import PyProof.CollectIter
import PyProof.Draws
import PyProof.EnumMake
import KE.KEqDict
import KE.KDictSum
import PyProof.ConsumeS
import PyProof.WalkInts
import KE.KIntText
import PyProof.Rows.FStr
import PyProof.StrBlockH
import PyProof.MeetsStr2
import PyProof.StrLawsTight
import PyProof.Rows.StrItems
import PyProof.Rows.StrSplitAre
import PyProof.StrLawsOcc
import PyProof.Rows.ReprOcc
import PySem.Challenge.RW_thinnet_k69_deeds_refused
open PySem.W (Frag nsIn keepIn fnOf codeIn mg_of mg_none_of)
set_option Elab.async false
set_option linter.all false
set_option maxRecDepth 100000
open Array renaming length_toList->gl,getElem?_eq_getElem->i_,getElem?_toList->kI,getElem?_eq_some_iff->kR,getElem?_eq_none->nR
open Array.Perm renaming refl->nI
open Bool renaming false_ne_true->gE,and_eq_true->gS,eq_iff_iff->gi,false_eq_true->gs,eq_false_iff->iI,not_eq_true'->lA,beq_eq_decide_eq->lU,false_and->nt
open Classical renaming em->jC,propDecidable->jL,byContradiction->kd
open False renaming elim->gy
open ForInStep renaming yield->j6
open Int renaming toNat_natCast->jF,zero_add->ko,le_refl->nS
open List renaming length_map->Ev,getElem?_eq_getElem->Go,mem_cons_self->Op,mem_singleton->Re,mem_map->TM,mem_cons->Tk,mem_cons_of_mem->T0,getElem?_map->UF,getElem?_eq_some_iff->Uf,size_toArray->f8,length_append->gD,getD_eq_getElem?_getD->gF,length_cons->gG,mem_append_right->gH,mem_append->gM,not_mem_nil->gO,nodup_cons->gP,map_cons->gQ,map_append->gR,toArray->gU,append_nil->gZ,range->gf,mem_filter->gg,nil_append->gj,replicate->gq,length_singleton->gu,pairwise_cons->g0,length_nil->hG,map_map->h7,nodup_nil->h8,getElem_mem->iE,map_congr_left->iN,length_filter_le->iP,mem_append_left->iS,length_take->iT,mem_of_getElem?->iU,cons_ne_nil->iW,getElem?_append_right->iX,nodup_append->ic,drop_eq_getElem_cons->ig,zip_cons_cons->ik,mem_range->io,length_zip->i4,zipWith->i6,getElem?_append_left->i9,flatMap_cons->jG,length_range->jH,filter_congr->jI,filter_cons_of_neg->jM,any_eq_true->jQ,take_of_length_le->jT,length_set->ja,perm_append_singleton->jd,append_assoc->jf,pairwise_iff_getElem->ji,getLast?_eq_some_iff->jj,lt_irrefl->jn,lookup_cons->jo,mem_flatMap->jp,filter_cons_of_pos->jt,lookup->j_,pairwise_map->kE,mem_iff_getElem?->kJ,getElem?_eq_none->kL,all_eq_true->kM,pairwise_append->kO,getElem_map->kP,mem_iff_getElem->kQ,lt_trans->kU,map_id->kX,of_mem_zip->kY,getElem?_zip_eq_some->ke,filter_map->kg,getElem?_replicate->kz,length_eq_zero_iff->k6,getElem?_cons_succ->k7,take_sublist->k9,reverse_cons->k_,length->lC,take_length->lL,ext_getElem->lO,singleton_append->lR,getElem?_set_ne->lY,forIn_cons->li,length_reverse->l_,filter_eq_self->mB,mem_filterMap->mJ,zip_nil_right->mM,perm_ext_iff_of_nodup->mW,getElem?_set->mY,zip_nil_left->md,ext_getElem?->me,mem_of_find?_eq_some->mo,getElem?_eq_none_iff->mq,getLast?_eq_none_iff->mw,length_drop->m8,drop_length->m_,pairwise_singleton->nF,filter_nil->nJ,getElem?_set_self->nN,filter_eq_nil_iff->nW,length_replicate->nX,forIn_nil->nY,getElem?_zipWith->nZ,take_append_drop->nj
open List.Perm renaming trans->nL,swap->ni
open List.cons renaming inj->lI
open Nat renaming le_refl->Rs,ne_of_lt->gB,zero_le->gK,lt_of_lt_of_le->gL,le_trans->gN,lt_irrefl->hU,le_succ->hZ,lt_succ_of_lt->iO,lt_succ_self->jO,ne_of_gt->jU,toDigits->jY,toDigits_of_lt_base->ju,lt_of_le_of_lt->j4,not_lt->j7,min_le_right->kN,mod_lt->ku,le_of_lt->lX,le_of_eq->lZ,toDigits_append_toDigits->mG,isDigit_of_mem_toDigits->mR,succ_le_succ->m9,sub_self->nC
open Ne renaming symm->gc
open Option renaming map_eq_some_iff->gY,isSome_map->mX
open Option.some renaming inj->XV
open Or renaming inl->gx,inr->iK
open PyProof.Rows renaming slot_tuple_getitem->iA,callWith_type1->iF,listUpdate_at->jc,get?_update_seq->j8,AllBare->kF,boot_sorted->kW,boot_all->lV,listItems_at->lz,seqEpoch_at->mI,lt_int->nO
open PyProof.Rows.KeyOrd renaming kle_refl->ii,kle_of_klt->lB,kle_trans->lM,kle_antisymm->oB
open PySem renaming Addr->Ch,wpAny_bind->Cn,Value->Db,Shared->No,wpAny_pure->On,Heap->gA,Program->gC,Expr->gI,World->gJ,Around->gX,wpAny_mono->gh,sizeLine_eq->gn,FuncData->gp,wpAny_holding->gw,wpAny_loadPart'->h9,wpAny_callSpecial?_slot->h_,wpAny_Call_Name_kw->iB,wpAny_field->iC,Stmt->iD,wpAny_truthy_bool->iG,wpAny_newObj_type->iH,wpAny_pyIter_tuple->iJ,wpAny_call_entry->iV,wpAny_seqItems->iY,wpAny_loadPart_at->iZ,wpAny_pyIter_list->ia,wpAny_isSubtype_exc->ie,codeAny_builtin->ij,IsPair->im,Builtin->iq,wpAny_dictEntries->iz,plainId_quiet->i8,wpAny_typeNameOfWhole_keyiter->jJ,Scope->jK,NameKind->jP,wpAny_call->jR,wpAny_letGo->jS,wpAny_setField_rec->jW,wpAny_passesOwn->jZ,PyData->je,typeIs_str->jg,codeAny_call_builtin->jh,Keyword->jl,wpAny_setField->jm,wpAny_typeNameOf_keyiter->jq,wpAny_getItem_str_slice->jr,wpAny_attempt->jv,wpAny_execs_nil->jy,DictEntry->jz,tupleKind_room_in1->j5,wpAny_updateSeq->j9,IsZip->kC,codeAny_mono->kG,ExceptHandler->kT,wpAny_typeOf->ki,wpAny_rule->kr,richCompare_meets_room->lE,wpAny_standAt->lF,wpAny_onRaise->lH,wpAny_isInstance->lJ,wpAny_notOrdered_dict->lS,IsPart->lg,post_val_or_str->lj,wpAny_updateSeq_pair->lr,wpAny_dictEpoch->l7,wpAny_tryCatch->mE,wpAny_of_eq->mH,wpAny_newList->mV,PlainAttrs->mi,call_meets->mj,BindsTo->mz,wpAny_execs_cons->m6,noFill_tuple_add->m7,PassesOwn->nG,wpAny_specialOf->nH
open PySem.Around renaming under_plainId->jD
open PySem.AutoSeq1 renaming sub_tuple_tuple->nA
open PySem.Builtin.Builtins renaming bindParams->mO
open PySem.Builtin.Dict renaming showsAll->lT,dictSlotArgs->mr,samePairs->nU,takeOut->n9
open PySem.Builtin.Dict_items renaming ownsTuple->mF
open PySem.Builtin.List renaming listExtendWith->jX,listTooLong->km,listLengthHint->mP,listSameRef->nE
open PySem.Builtin.Slice renaming slicePlaces->kZ,sliceAdjust->mh
open PySem.Builtin.SmallTypes renaming nextOf->iM,ownedTupleIsFree->iu,ownedTupleHandOut->kn
open PySem.Builtin.Str renaming occurrences->iR
open PySem.Builtin.Tuple renaming tupleExact->kj,tupleCompareSizes->lW,tupleItemsOf->mT,tupleIsExact->mU
open PySem.Calls renaming spliced_cons->kh,spliced_nil->k8,callWith_builtin->lD,Name_function_global->mS,evalArgs_plain->n6
open PySem.Code renaming quiet_builtin->mL
open PySem.EntryCells renaming newEntry->n_
open PySem.Expr renaming Call->mQ
open PySem.F renaming slot_dict_keyiterator_next->iw,slot_tuple_iterator_next->jb,slot_zip_next->lw,args_dict_keyiterator_next_1->l8,entry_dict_keyiterator_next->l9,args_tuple_iterator_next_1->mC,entry_tuple_iterator_next->mN,called_tuple->nh
open PySem.Heap renaming get?_push_of_some->FM,get?_push_size->Sc,lt_size->TW,get?_update_other->eq,size_push->gz,get?_update_self->g8,SameBut->jB,IsTuple->nB,ExtBut->nP,IsList->nQ
open PySem.Heap.SameBut renaming update->jN
open PySem.Heap.UpToSlots renaming refl->oA
open PySem.NameKind renaming free->hV,cell->lG
open PySem.Obj renaming mapSeq->g9,mapFields->i7,data_mapFields->jV,isFreed_of_fields->lQ
open PySem.PassesOwn renaming never->iL
open PySem.PyData renaming depthAll->iQ,eqv->ir,canLayAll0->iy,hasDict->kH,hasDictAll->mZ,leavesShortAll->ng
open PySem.SeqAt.EqAt renaming int_str->oC,str_int->oE
open PySem.Shared renaming heap->kA
open PySem.Str renaming ofString->g_,join->jE
open PySem.Value renaming ref->ZB,none->gW,type->gv,str->jk,builtin->jw,bool->jx,notImplemented->n8
open Sum renaming inr->i5,inl->lP
open Sum.inr renaming inj->jA
open True renaming intro->ip
open PySem PySem.Spec PyProof.Rows
local macro_rules | `(tactic| walk_at "s")=>`(tactic| (constructor <;> first | rfl | decide +kernel))
namespace _p

local macro_rules|`(tactic|let#[$x,*]:=$e)=>open Lean Parser Tactic in do
 let q k a:=mkNode ``rcasesPatLo #[mkNode ``rcasesPatMed #[mkNullNode #[mkNode k a]],mkNullNode]
 let p:Syntax:=(← `(term|⟨$x,*⟩)).raw.rewriteBottomUp fun s=>if s.isIdent then q ``rcasesPat.one #[s] else if s.getKind= ``Term.hole then q ``rcasesPat.ignore s.getArgs else if s.getKind= ``Term.anonymousCtor||s.getKind= `«term#[_,]» then q ``rcasesPat.tuple s.getArgs else s
 let m:TSyntax ``rcasesPatMed:=⟨p[0]⟩
 `(tactic|obtain $m:rcasesPatMed:=$e)
local macro_rules|`(tactic|exists $x,*)=>`(tactic|refine⟨$x,*, ?_⟩)
local macro_rules|`(tactic|lk)=>`(tactic|first|lia|omega)
local macro_rules|`(tactic|cbv)=>`(tactic|decide)
local macro_rules|`($f^$x)=>if f.raw.getTrailingSize>0 then Lean.Macro.throwUnsupported else match f with|`($g $a*)=>`($g $a* $x)|_=>`($f $x)
local macro_rules|`(#[%$t $y,*])=>if t.getTrailingSize>0||y.getElems.size=0 then Lean.Macro.throwUnsupported else `(⟨$y,*⟩)
open Option renaming some->P3,none->o_
open Bool renaming true->p_,false->q_
abbrev r_(a:Type u):=List a
abbrev s_(a:Type u):=Option a
namespace L2
abbrev Key:=Sum Int Str
def Jp:Key->Db->Bool
 |.inl k,v=>Value.isInt k v
 |.inr x,v=>Value.isStrOf x v
def d8(w:gJ):Key->Int
 |.inl k=>hashInt k
 |.inr x=>hashStr w x
theorem A3:∀{k:Key}{v:Db},Jp k v=p_->(∃i t,k=lP i/\v=Value.int i t)\/(∃x t,k=i5 x/\v=jk x t)
 |.inl i,v,h=>by
  let#[t,e]:=Value.isInt_shape h;exact .inl #[i,t,rfl,e]
 |.inr x,v,h=>by
  let#[t,e]:=Value.isStrOf_shape h;exact .inr #[x,t,rfl,e]
def Qk(i:Int)(t:Tok):Jp (.inl i)^.int i t=p_:=by simp[Jp,Value.isInt]
def Qj(x:Str)(t:Tok):Jp (.inr x)^.str x t=p_:=by simp[Jp,Value.isStrOf]
def Y9(a b:Int):decide ((lP a:Key)=lP b)=(a==b):=by
 grind
def Y6(a b:Str):decide ((i5 a:Key)=i5 b)=decide (a=b):=by
 grind
def Y8(a:Int)(b:Str):decide ((lP a:Key)=i5 b)=q_:=decide_eq_false λq=>nomatch q
def Y7(a:Str)(b:Int):decide ((i5 a:Key)=lP b)=q_:=decide_eq_false λq=>nomatch q
def Ax(c:gC)(w:gJ):PySem.KeyKind c w Key where
 is:=Jp
 hash:=d8 w
 inj:=λv a b l g=>by
  rcases A3 l with⟨i,t,rfl,rfl⟩|⟨x,t,rfl,rfl⟩
  .rcases A3 g with⟨j,u,rfl,e⟩|⟨y,u,rfl,e⟩
   .injection e with d _;rw[d]
   .exact nomatch e
  .rcases A3 g with⟨j,u,rfl,e⟩|⟨y,u,rfl,e⟩
   .exact nomatch e
   .injection e with d _;rw[d]
 byValue:=λk v h=>by
  rcases A3 h with⟨i,t,rfl,rfl⟩|⟨x,t,rfl,rfl⟩ <;>rfl
 pyHash:=λf h=>by
  rcases A3 f with⟨i,t,rfl,rfl⟩|⟨x,t,rfl,rfl⟩
  .exact wpAny_pyHash_int h
  .exact wpAny_pyHash_str h
 eqBool:=λm f h=>by
  rcases A3 m with⟨i,t,rfl,rfl⟩|⟨x,t,rfl,rfl⟩
  .rcases A3 f with⟨j,u,rfl,rfl⟩|⟨y,u,rfl,rfl⟩
   .rw[Y9]at h;exact wpAny_eqBool_int h
   .rw[Y8]at h;exact oC i t y u _ _ _ _ h
  .rcases A3 f with⟨j,u,rfl,rfl⟩|⟨y,u,rfl,rfl⟩
   .rw[Y7]at h;exact oE x t j u _ _ _ _ h
   .rw[Y6]at h;exact wpAny_eqBool_str h
 «strs»:=λk x t v h=>by
  rcases A3 h with⟨i,u,rfl,e⟩|⟨y,u,rfl,e⟩
  .exact nomatch e
  .injection e with d _
   subst d
   cases v <;>rfl
def MG(a:gC)(w:gJ)(i:Int)(t:Tok):(Ax a w).is (.inl i)^.int i t=p_:=Qk i t
def MF(a:gC)(w:gJ)(x:Str)(t:Tok):(Ax a w).is (.inr x)^.str x t=p_:=Qj x t
inductive V where
 |non|bl (b:Bool)|int (i:Int)|str (x:Str)|byt (b:Array UInt8)|flt (b:UInt64)|ref (a:Ch)|ty (n:String)
 deriving DecidableEq
def RelV:V->Db->Prop
 |.non,u=>u=gW
 |.bl b,u=>u=jx b
 |.int i,u=>∃t,u=Value.int i t
 |.str x,u=>∃t,u=jk x t
 |.byt b,u=>∃t,u=Value.bytes b t
 |.flt b,u=>∃t,u=Value.float b t
 |.ref a,u=>u=ZB a
 |.ty n,u=>u=gv n
abbrev Vals:r_ V->r_ Db->Prop:=Paired RelV
def Vals.length{a:r_ V}{b:r_ Db}(r:Vals a b):a.length=b.length:=Paired.length r
theorem Vals.get:∀{a:r_ V}{b:r_ Db}{i:Nat}{x:V},Vals a b->a[i]?=P3 x->∃u,b[i]?=P3 u/\RelV x u
 |_,_,_,_,.nil,e=>by simp at e
 |_,_,0,_,.cons r _,e=>by simp_all
 |_,_,i+1,x,.cons _ t,e=>by
  let#[u,c,d]:=Vals.get t^by simpa using e
  simp_all
theorem Vals.set{x:V}{u:Db}(r:RelV x u):∀{a:r_ V}{b:r_ Db} (i:Nat),Vals a b->Vals (a.set i x)^b.set i u
 |_,_,_,.nil=>.nil
 |_,_,0,.cons _ t=>.cons r t
 |_,_,i+1,.cons q t=>.cons q^Vals.set r i t
theorem Vals.append:∀{a b:r_ V}{c d:r_ Db},Vals a c->Vals b d->Vals (a++b) (c++d)
 |_,_,_,_,.nil,s=>s
 |_,_,_,_,.cons r t,s=>.cons r^Vals.append t s
theorem Vals.take:∀{a:r_ V}{b:r_ Db} (n:Nat),Vals a b->Vals (a.take n)^b.take n
 |_,_,0,_=>.nil
 |_,_,_+1,.nil=>.nil
 |_,_,n+1,.cons r t=>.cons r^Vals.take n t
theorem Vals.drop:∀{a:r_ V}{b:r_ Db} (n:Nat),Vals a b->Vals (a.drop n)^b.drop n
 |_,_,0,r=>r
 |_,_,_+1,.nil=>.nil
 |_,_,n+1,.cons _ t=>Vals.drop n t
def RelO:s_ V->s_ Db->Prop
 |some v,P3 u=>RelV v u
 |none,o_=>True
 |_,_=>False
def KV{a:Type}:r_ (a×V)->r_ (a×Db)->Prop:=Paired fun(p:a×V) (q:a×Db)=>p.1=q.1/\RelV p.2 q.2
def kV:Key->V
 |.inl i=>.int i
 |.inr x=>.str x
inductive HO where
 |lst (xs:List V)
 |tup (xs:List V)
 |dK (kvs:List (Key×V))|dT (kvs:List (List Key×V))
 |set (S:Int->Bool) (n:Nat)
 |ins (C dx:Ch) (fs:List (Str×V))
 |own (x:Ch)
 |xd (fs:List (Str×V))
 |met (f x:Ch)
 |rng (lo hi:Int)
 |frz (o:Obj) (u:HO)
 |tbl (ps:Array Db)
 |ext (φ:gA->Prop)
 |vol (u:HO)
abbrev Hp:=Ch->s_ HO
def AY(H:Hp)(a:Ch)(o:HO):Hp:=λb=>if b=a then P3 o else H b
def AH{H:Hp}{a:Ch}{o:HO}:AY H a o a=P3 o:=by unfold AY;grind
def AF{H:Hp}{a b:Ch}{o:HO}(h:b≠a):AY H a o b=H b:=by unfold AY;rw[if_neg h]
def W7{H:Hp}{a b:Ch}{o u:HO}(h:H a=P3 o)(c:H b=P3 u)(d:o≠u):a≠b:=by
 grind
def AW{H:Hp}{a b:Ch}{o:HO}(h:H a=P3 o)(c:H b=o_):a≠b:=by
 grind
def IsTupN(h:gA)(a:Ch)(b:Array Db):Prop:=∃o,h.get? a=P3 o/\o.cls=.type "tuple"/\∃n,o.data=.seq b n/\o.dict=o_/\o.slots=#[]
def IsTupN.tup{h:gA}{a:Ch}{b:Array Db}(x:IsTupN h a b):IsTup h a b:=let #[o,c,d,n,e,_]:=x;#[o,c,d,n,e]
def IsTupN.new(h:gA)(a:Array Db):IsTupN (h.push {cls:=.type "tuple",data:=.seq a}) h.objs.size a:=#[_,Sc _ rfl,rfl,_,rfl,rfl,rfl]
section
variable (P:Program)(w:World)
def ObjOk(H:Hp)(h:gA)(a:Ch):HO->Prop
 |.lst d=>d.length<=sizeLine/\∃(b:r_ Db) (n:Nat),Vals d b/\h.get? a=P3 {cls:=.type "list",data:=.seq b.toArray n}
 |.tup d=>d.length<=sizeLine/\∃b:r_ Db,Vals d b/\IsTupN h a b.toArray
 |.dK c=>c.length<=sizeLine/\(a==sysModules)=q_/\∃k,KV c k/\h.DictOf (Ax P w) a k
 | .dT c=>c.length<=sizeLine/\(a==sysModules)=q_/\∃d:r_ (r_ Key×Ch×Db),
   Paired (fun(p:r_ Key×V) (q:r_ Key×Ch×Db)=>p.1=q.1/\H q.2.1=P3^.tup^p.1.map kV/\RelV p.2 q.2.2) c d /\
   ∃o l y,h.get? a=P3 o/\o.ExactDict/\o.data=.dict l y/\l.toList=d.map^entryOfKey^tupleKind^Ax P w/\(d.map (·.1)).Nodup
 |.set S n=>h.SetOf (intKind P w) a S n
 | .ins C i g=>H i=P3^.own a/\g.length<=1000/\i≠a/\h.get? a=P3^PySem.W.instObj C i /\
   ∃e,h.Ns1 i e/\(∀f,RelO (g.lookup f)^e f)/\PySem.Within e (g.map (·.1))
 |.own _=>∃o,h.get? a=P3 o
 |.xd g=>∃e,h.Ns1 a e/\∀f,RelO (g.lookup f)^e f
 |.rng z A=>∃t u v,h.get? a=P3 {cls:=.type "range",data:=.fields #[ .int z t,.int A u,.int 1 v]}
 |.frz o u=>h.get? a=P3 o/\ObjOk H h a u
 |.tbl B=>h.get? a=P3 {cls:=.none,data:=.fields B}
 |.met f x=>h.get? a=P3^PySem.W.methodObj (.ref f)^.ref x
 |.vol u=>ObjOk H h a u
 |.ext j=>j h/\(∃o,h.get? a=P3 o)/\∀m r:gA,j m->(∀o,m.get? a=P3 o->r.get? a=P3 o)->j r
def HOk(H:Hp)(h:gA):Prop:=∀a o,H a=P3 o->ObjOk P w H h a o
end
section
variable {P:Program}{w:World}{H H':Hp}{h h':Heap}{a:Addr}{o:HO}
def ObjOk.lt(x:ObjOk P w H h a o):a<h.objs.size:=by
 induction o with
 |lst d=>let#[_,_,_,_,e]:=x;exact TW e
 |tup d=>let#[_,_,_,p]:=x;exact p.tup.lt
 |dK b=>let#[_,_,_,_,o,_,_,e,_]:=x;exact TW e
 |dT b=>let#[_,_,_,_,o,_,_,e,_]:=x;exact TW e
 |set S n=>let#[o,_,_,_,e,_]:=x;exact TW e
 |ins C i g=>let#[_,_,_,e,_]:=x;exact TW e
 |own y=>let#[_,e]:=x;exact TW e
 |xd g=>let#[_,#[_,_,_,e,_],_]:=x;exact TW e
 |rng j k=>let#[_,_,_,e]:=x;exact TW e
 |vol u c=>exact c x
 |frz ob u c=>let#[e,_]:=x;exact TW e
 |tbl l=>exact TW (show h.get? a=P3 _ from x)
 |met f y=>exact TW (show h.get? a=P3 _ from x)
 |ext m=>let#[_,#[_,e],_]:=x;exact TW e
theorem Paired.mapP{e g:Type}{F G:e->g->Prop}:∀{c:r_ e}{d:r_ g},Paired F c d->(∀a b,F a b->G a b)->Paired G c d
 |_,_,.nil,_=>.nil
 |_,_,.cons r t,f=>.cons (f _ _ r)^Paired.mapP t f
def Paired.imp'{e g:Type}{F G:e->g->Prop}(f:∀a b,F a b->G a b){c:r_ e}{d:r_ g}(r:Paired F c d):Paired G c d:=Paired.mapP r f
def ObjOk.stay(x:ObjOk P w H h a o)(k:∀b u,(b=a\/H b=P3^.own a)->h.get? b=P3 u->h'.get? b=P3 u)
  (F:∀b,H b=P3^.own a->H' b=P3^.own a) (G:∀b l,H b=P3^.tup l->H' b=P3^.tup l):ObjOk P w H' h' a o:=by
 induction o with
 |lst l=>let#[z,j,n,r,e]:=x;exact#[z,j,n,r,k _ _ (.inl rfl) e]
 |tup l=>let#[z,j,r,ob,e,c]:=x;exact#[z,j,r,ob,k _ _ (.inl rfl) e,c]
 |dK m=>let#[z,y,I,r,ob,g,i,e,c]:=x;exact#[z,y,I,r,ob,g,i,k _ _ (.inl rfl) e,c]
 |dT m=>
  let#[z,y,l,r,ob,g,i,e,c]:=x;exact#[z,y,l,Paired.mapP r λp q z=>#[z.1,G _ _ z.2.1,z.2.2],ob,g,i,k _ _ (.inl rfl) e,c]
 |set S n=>let#[ob,g,i,t,e,c]:=x;exact#[ob,g,i,t,k _ _ (.inl rfl) e,c]
 |ins C M J=>
  let#[d,z,K,e,s,#[A,g,i,L,c],r]:=x;exact#[F _ d,z,K,k _ _ (.inl rfl) e,s,#[A,g,i,k _ _ (.inr d) L,c],r]
 |own y=>let#[ob,e]:=x;exact#[ob,k _ _ (.inl rfl) e]
 |xd J=>let#[s,#[A,g,i,e,c],r]:=x;exact#[s,#[A,g,i,k _ _ (.inl rfl) e,c],r]
 |rng N O=>let#[t,u,v,e]:=x;exact#[t,u,v,k _ _ (.inl rfl) e]
 |vol u B=>exact B x
 |frz ob u B=>let#[e,q]:=x;exact#[k _ _ (.inl rfl) e,B q]
 |tbl D=>
  have e:h.get? a=P3 {cls:=.none,data:=.fields D}:=x;show h'.get? a=P3 {cls:=.none,data:=.fields D};exact k a _ (.inl rfl) e
 |met f y=>
  have e:h.get? a=P3^PySem.W.methodObj (.ref f)^.ref y:=x;show h'.get? a=P3^PySem.W.methodObj (.ref f)^.ref y;exact k a _ (.inl rfl) e
 |ext Q=>let#[p,#[o,e],E]:=x;exact#[E _ _ p λo q=>k _ _ (.inl rfl) q,#[o,k _ _ (.inl rfl) e],E]
def HOk.lt(x:HOk P w H h)(e:H a=P3 o):a<h.objs.size:=(x a o e).lt
def HOk.fresh(x:HOk P w H h)(e:h.objs.size<=a):H a=o_:=by
 cases q:H a with
 |none=>rfl
 |some u=>exact absurd (gL (x.lt q) e)^hU _
def HOk.kept(x:HOk P w H h)(k:∀b u,h.get? b=P3 u->h'.get? b=P3 u):HOk P w H h':=λa o e=>
 (x a o e).stay (λb u _ q=>k b u q) (λ_ q=>q) λ_ _ q=>q
def HOk.laid(x:HOk P w H h)(k:∀b u,h.get? b=P3 u->h'.get? b=P3 u)(g:h.objs.size<=a)(new:ObjOk P w (AY H a o) h' a o):HOk P w (AY H a o) h':=λb u e=>by
 have d:=x.fresh g
 by_cases f:b=a
 .subst f;rw[AH]at e;grind
 .rw[AF f]at e
  exact(x b u e).stay (λc v _ q=>k c v q) (λc q=>by rw[AF^AW q d];exact q) λc i q=>by rw[AF^AW q d];exact q
end
def Rd(H:Hp)(a:Ch)(u:HO):Prop:=H a=P3 u\/∃o,H a=P3^.frz o u
def Rd.ok{P:gC}{w:gJ}{H:Hp}{h:gA}{a:Ch}{u:HO}(r:Rd H a u)(x:HOk P w H h):ObjOk P w H h a u:=by
 rcases r with r|⟨o,r⟩
 .exact x a u r
 .let#[_,q]:=x a _ r
  exact q
def cw:s_ HO->Prop
 |some (.lst _)=>True
 |some (.dK _)=>True
 |some (.dT _)=>True
 |some (.set _ _)=>True
 |some (.vol _)=>True
 |some (.ext _)=>True
 |_=>False
section
variable {P:Program}{w:World}{H:Hp}{h h':Heap}{x e:Addr}{o':HO}
def HOk.write(ok:HOk P w H h)(f:cw^H x)(o:e=x\/H e=P3^.own x)(k:∀b u,b≠e->h.get? b=P3 u->h'.get? b=P3 u)(i:∃u,h'.get? e=P3 u)
  (new:ObjOk P w (AY H x o') h' x o'):HOk P w (AY H x o') h':=λb u q=>by
 have a:∀c y,H c=P3^.own y->c≠x:=λc y r z=>by subst z;rw[r]at f;exact f
 have d:∀c g,H c=P3^.tup g->c≠x:=λc g r z=>by subst z;rw[r]at f;exact f
 by_cases l:b=x
 .subst l;rw[AH]at q;cases q;exact new
 .rw[AF l]at q
  by_cases j:b=e
  .have m:H b=P3^.own x:=by
    grind
   rw[q]at m;cases m
   let#[v,n]:=i;exact#[v,by rw[j];exact n]
  .refine(ok b u q).stay (λc v p r=>k c v ?_ r) (λc r=>by rw[AF^a c b r];exact r) λc g r=>by rw[AF^d c g r];exact r
   grind
end
structure Un (fs ex:List Ch) (H H':Hp) (h h':gA):Prop where
 keep:∀b o,h.get? b=P3 o->H b=o_->b∉fs->b∉ex->h'.get? b=P3 o
 slot:∀b o,h.get? b=P3 o->H b=o_->b∈fs->b∉ex->∃sl,h'.get? b=P3 {o with slots:=sl}
 free:∀b o,h.get? b=P3 o->H b=o_->b∉ex->H' b=o_
 there:∀b o,h.get? b=P3 o->b∉ex->∃o',h'.get? b=P3 o'
 tups:∀b xs,H b=P3^.tup xs->H' b=P3 (.tup xs)
 frzs:∀b o u,H b=P3^.frz o u->H' b=P3 (.frz o u)
 tbls:∀b ps,H b=P3^.tbl ps->∃more,H' b=P3^.tbl (ps++more)
section
variable {fs ex:r_ Addr}{H H1:Hp}{h h1 h':Heap}{a x e:Addr}{o:HO}
def Un.any(u:Un fs ex H H1 h h1){b:Ch}{ob:Obj}(q:h.get? b=P3 ob)(n:H b=o_)(c:b∉ex):∃e,h1.get? b=P3 {ob with slots:=e}:=by
 by_cases d:b∈fs
 .exact u.slot b ob q n d c
 .exact#[_,u.keep b ob q n d c]
def Un.kept(k:∀b u,h.get? b=P3 u->h'.get? b=P3 u):Un fs ex H H h h':=
 #[λb ob q _ _ _=>k b ob q,λb ob q _ _ _=>#[_,k b ob q],λ_ _ _ n _=>n,λb ob q _=>#[ob,k b ob q],λ_ _ q=>q,λ_ _ _ q=>q,λ_ c q=>#[#[],by rw[q];simp]]
def Un.refl:Un fs ex H H h h:=Un.kept λ_ _ q=>q
def Un.laid(k:∀b u,h.get? b=P3 u->h'.get? b=P3 u)(d:h.objs.size<=a)(c:H a=o_):Un fs ex H (AY H a o) h h' where
 keep:=λb u q _ _ _=>k b u q
 slot:=λb u q _ _ _=>#[_,k b u q]
 free:=λb u q n _=>by rw[AF^gB^gL (TW q) d];exact n
 there:=λb u q _=>#[u,k b u q]
 tups:=λb e q=>by rw[AF^AW q c];exact q
 frzs:=λb u e q=>by rw[AF^AW q c];exact q
 tbls:=λb f q=>#[#[],by rw[AF^AW q c,q];simp]
def Un.write(f:cw^H x)(m:e=x\/H e=P3^.own x)(k:∀b u,b≠e->h.get? b=P3 u->h'.get? b=P3 u)(i:∃u,h'.get? e=P3 u):Un fs ex H (AY H x o) h h':=by
 have j:∀b,H b=o_->b≠x:=λb n z=>by subst z;rw[n]at f;exact f
 have g:∀b,H b=o_->b≠e:=λb n z=>by
  grind
 have c:∀b u,H b=P3 u->¬cw^P3 u->b≠x:=λb u q p z=>by grind
 refine#[λb u q n _ _=>k b u (g b n) q,λb u q n _ _=>#[u.slots,k b u (g b n) q],λb u q n _=>by rw[AF^j b n];exact n,λb u q _=>?_,
  λb l q=>by rw[AF^c b _ q λz=>z];exact q,λb u l q=>by rw[AF^c b _ q λz=>z];exact q,λb r q=>#[#[],by rw[AF^c b _ q λz=>z,q];simp]]
 by_cases d:b=e
 .simp_all
 .exact#[u,k b u d q]
end
def fb(h:gA)(H:Hp):r_ Ch:=(gf h.objs.size).filter λa=>(H a).isSome
def K8(h:gA)(H:Hp):gA:=PySem.W.hideAll h^fb h H
def Qo(h:gA)(H:Hp):(K8 h H).objs.size=h.objs.size:=PySem.W.hideAll_size _ _
def TY{h:gA}{H:Hp}{b:Ch}{o:Obj}(e:h.get? b=P3 o)(n:H b=o_):(K8 h H).get? b=P3 o:=
 PySem.W.hideAll_get _ e λa=>by
  have q:=(gg.mp a).2
  grind
def VO{h:gA}{H:Hp}{b:Ch}{o:Obj}(e:(K8 h H).get? b=P3 o):h.get? b=P3 o/\H b=o_:=by
 have a:=PySem.W.of_hideAll _ e;exists a;cases q:H b with
 |none=>rfl
 |some x=>
  have z:(K8 h H).get? b=o_:=PySem.W.hideAll_none _^gg.mpr #[io.mpr^TW a,by simp[q]]
  grind
structure Mod (K:Frag) (mg:Str->Option Db) (base:gA):Prop where
 kin:K.In base
 glob:base.Ns mainGlobals mg
 blt:∃mb,base.Ns builtinsNs mb/\∀x:Str,x ≠ "__name__"->mb x=bootBuiltins x
 nolimit:base.NoLimit
/-- the context:a def's body (or a comprehension's block) running. base:fixed through the whole law;s₀,H₀:the entry;outer:the frames whose slots others may change (a def's callers);stack:all frames that run;
   ex:iterators that were made ahead of the entry and are walked here^a comprehension's;fn:the names whose cells were made at the entry (a def:all;a comprehension's block:its own);calm:not within an except suite;pn:zF that every state bears;xe:what is wanted of an exception that leaves the code -/
structure Cx where
 prog:gC
 w:gJ
 K:Frag
 mg:Str->Option Db
 base:gA
 A:gX
 N:List Str
 s₀:No
 H₀:Hp
 env:Env
 outer:List Env
 stack:List Env
 ex:List Ch
 fn:Str->Bool
 calm:Bool
 pn:List (Ch×Obj)
 xe:Db->No->Prop
def Js(l:r_ Env):r_ Ch:=l.filterMap (·.frame)
abbrev Cx.fs(X:Cx):r_ Ch:=Js X.outer
def Pu(a:jK)(x:Str):Prop:=a.names.lookup x=P3 .local\/a.names.lookup x=P3 .cell\/a.names.lookup x=P3 .free
def Loc(a:jK)(x:Str):Prop:=a.names.lookup x=P3 .local\/a.names.lookup x=P3 .cell
def Look(a:Env)(h:gA)(m:Str->s_ Db)(x:Str)(u:Db):Prop:=
 (a.kindOf x=P3 .local/\m x=P3 u)\/((a.kindOf x=P3 .cell\/a.kindOf x=P3 .free)/\∃c,a.cells.lookup x=P3 c/\h.IsCell c^P3 u)
structure Cx.Ok (X:Cx):Prop where
 mod:Mod X.K X.mg X.base
 kind:X.env.scope.kind=.function
 glob:X.env.globals=mainGlobals
 blt:X.env.builtins=builtinsNs
 above:X.s₀.heap.objs.size<=X.env.locals
 inj:∀x y c,X.env.cells.lookup x=P3 c->X.env.cells.lookup y=P3 c->x=y
 has:∀x,(X.env.kindOf x=P3 .cell\/X.env.kindOf x=P3 .free)->∃c,X.env.cells.lookup x=P3 c
 cab:∀x c,X.fn x=p_->X.env.cells.lookup x=P3 c->X.s₀.heap.objs.size<=c
 hd:X.calm=p_->X.A.handled=o_
 frames:X.A.frames=P3 X.stack
 stk:X.stack=X.outer\/(X.stack=X.env::X.outer/\X.env.frame=P3 X.env.locals)
 exf:∀b∈X.ex,b≠X.env.locals/\∀x c,X.env.cells.lookup x=P3 c->c≠b
 bs:∀b o,X.base.get? b=P3 o->X.s₀.heap.get? b=P3 o/\X.H₀ b=o_
 bsz:X.base.objs.size<=X.s₀.heap.objs.size
 noex:∀b o,X.base.get? b=P3 o->b∉X.ex
 exfs:∀b∈X.ex,b∉X.fs
 funs:X.s₀.heap.FunFrames X.base X.outer
 frf:∀b∈X.fs,X.H₀ b=o_
structure Inv (X:Cx) (zF:List (Ch×Obj)) (σ:List^Option V) (H:Hp) (s:No):Prop where
 ok:X.Ok
 os:s.os=X.s₀.os
 bare:kF s.gens
 base:Un X.fs X.ex X.H₀ H X.s₀.heap s.heap
 loc:∃m,s.heap.Ns X.env.locals m/\∀(i:Nat) (x:Str) (v:V),X.N[i]?=P3 x->σ[i]?=P3^P3 v->Pu X.env.scope x->∃u,RelV v u/\Look X.env s.heap m x u
 cell:∀x c,X.env.cells.lookup x=P3 c->∃v,s.heap.IsCell c v
 free:H X.env.locals=o_
 freeC:∀x c,X.env.cells.lookup x=P3 c->H c=o_
 pin:∀p∈X.pn++zF,s.heap.get? p.1=P3 p.2/\H p.1=o_/\p.1≠X.env.locals/\p.1∉X.fs/\∀v,p.2.data≠.cell v
 hok:HOk X.prog X.w H s.heap
 len:σ.length=X.N.length
section
variable {X:Cx}{zF:r_ (Addr×Obj)}{σ:r_^s_ V}{H H':Hp}{s:Shared}{h':Heap}
def Cx.Ok.nofr(ok:X.Ok){b:Ch}{o:Obj}(e:X.base.get? b=P3 o):b∉X.fs:=λa=>by
 have:=(ok.funs.mem a).1
 grind
def Inv.bs(I:Inv X zF σ H s):∀b o,X.base.get? b=P3 o->s.heap.get? b=P3 o/\H b=o_:=λb o e=>
 #[I.base.keep b o (I.ok.bs b o e).1 (I.ok.bs b o e).2 (I.ok.nofr e)^I.ok.noex b o e,I.base.free b o (I.ok.bs b o e).1 (I.ok.bs b o e).2 (I.ok.noex b o e)]
def Inv.bk(I:Inv X zF σ H s):∀b o,X.base.get? b=P3 o->s.heap.get? b=P3 o:=λb o e=>(I.bs b o e).1
def Inv.mod(I:Inv X zF σ H s):Mod X.K X.mg X.base:=I.ok.mod
def Inv.kIn(I:Inv X zF σ H s):X.K.In s.heap:=I.ok.mod.kin.keeps I.bk
def Inv.lt(I:Inv X zF σ H s):X.env.locals<s.heap.objs.size:=let #[_,a,_]:=I.loc;a.lt
def Inv.sz(I:Inv X zF σ H s):X.s₀.heap.objs.size<=s.heap.objs.size:=gN I.ok.above^lX I.lt
def Inv.nofs(I:Inv X zF σ H s){a:Ch}(h:s.heap.objs.size<=a):a∉X.fs:=λb=>by
 let#[_,o,c,_]:=I.ok.funs.mem b;exact absurd (gL (TW c)^gN I.sz h)^hU _
def Inv.cne(I:Inv X zF σ H s):∀x c,X.env.cells.lookup x=P3 c->c≠X.env.locals:=λx c e z=>by
 let#[v,o,d,f]:=I.cell x c e;let#[m,#[g,h,i,a,b,_],_]:=I.loc
 grind
def Inv.funs(I:Inv X zF σ H s):s.heap.FunFrames X.base X.outer:=by
 have all:∀(l:r_ _),(∀b∈Js l,b∈X.fs)->X.s₀.heap.FunFrames X.base l->s.heap.FunFrames X.base l:=by
  intro l
  induction l with
  |nil=>intro _ _;trivial
  |cons g r h=>
   intro d i;let#[j,#[L,o,f,k,m,n],p]:=i;have a:=d L (by unfold Js;simp_all);let#[q,e]:=I.base.slot L o m (I.ok.frf L a) a λz=>I.ok.exfs L z a;exact#[j,#[L,_,f,k,e,n],h (λb c=>d b^by unfold Js;rw[List.filterMap_cons,f];exact T0 _ c) p]
 exact all _ (λ_ c=>c) I.ok.funs
def Inv.stack(I:Inv X zF σ H s):s.heap.FunFrames X.base X.stack:=by
 rcases I.ok.stk with e|⟨e,a⟩
 .rw[e];exact I.funs
 .rw[e]
  let#[m,b,_]:=I.loc;exact .cons (by rw[I.ok.kind];decide) a b (Heap.get?_none_of_le^gN I.ok.bsz I.ok.above) I.funs
def Inv.stkSub(I:Inv X zF σ H s):∀b∈Js X.stack,b∈X.env.locals::X.fs:=λb a=>by
 rcases I.ok.stk with e|⟨e,c⟩
 .grind
 .rw[e]at a
  unfold Js at a;rw[List.filterMap_cons,c]at a;exact a
def Inv.stkFree(I:Inv X zF σ H s):∀b∈Js X.stack,H b=o_:=λb a=>by
 rcases Tk.mp^I.stkSub b a with e|a
 .rw[e];exact I.free
 .let#[_,o,c,_]:=I.ok.funs.mem a
  exact I.base.free b o c (I.ok.frf b a) λz=>I.ok.exfs b z a
def Inv.step{g':Array GenState}{t':Nat}{d':Drawn}{ch:r_ Ch}(I:Inv X zF σ H s)
  (f:∀b∈ch,(b∈X.ex\/X.s₀.heap.objs.size<=b)/\b≠X.env.locals/\(∀x c,X.env.cells.lookup x=P3 c->c≠b)/\∀p∈X.pn++zF,p.1≠b)
  (keep:∀b o,b≠X.env.locals->b∉X.fs->b∉ch->s.heap.get? b=P3 o->H b=o_->h'.get? b=P3 o)
  (y:∀b o,b≠X.env.locals->b∈X.fs->b∉ch->s.heap.get? b=P3 o->H b=o_->∃N,h'.get? b=P3 {o with slots:=N}) (free:∀b o,b∉ch->s.heap.get? b=P3 o->H b=o_->H' b=o_)
  (B:∀b o,b∉ch->s.heap.get? b=P3 o->∃E,h'.get? b=P3 E)
  (tups:∀b A,H b=P3^.tup A->H' b=P3^.tup A) (F:∀b o u,H b=P3^.frz o u->H' b=P3^.frz o u) (G:∀b M,H b=P3^.tbl M->∃J,H' b=P3^.tbl (M++J))
  (U:∀m,s.heap.Ns X.env.locals m->h'.Ns X.env.locals m) (hok:HOk X.prog X.w H' h') (V:kF g'):
  Inv X zF σ H' {s with heap:=h',gens:=g',drawn:=d',toks:=t'}:=by
 have K:∀b o,X.s₀.heap.get? b=P3 o->b≠X.env.locals:=λb o e=>gB^gL (TW e) I.ok.above
 have j:∀b o,X.s₀.heap.get? b=P3 o->b∉X.ex->b∉ch:=λb o e a C=>by
  rcases(f b C).1 with z|z
  .exact a z
  .exact absurd (gL (TW e) z)^hU _
 have g:∀x c,X.env.cells.lookup x=P3 c->∀v,s.heap.IsCell c v->h'.IsCell c v:=λx c e v #[o,D,O]=>by
  have h:c∉ch:=λz=>(f c z).2.2.1 x c e rfl
  by_cases Q:c∈X.fs
  .let#[N,q]:=y c o (I.cne x c e) Q h D^I.freeC x c e
   exact#[_,q,O]
  .exact#[o,keep c o (I.cne x c e) Q h D^I.freeC x c e,O]
 refine#[I.ok,I.os,V,#[λb o e n C a=>?_,λb o e n C a=>?_,λb o e n a=>?_,λb o e a=>?_,λb A e=>tups b A^I.base.tups b A e,λb o A e=>F b o A^I.base.frzs b o A e,λb M e=>?_],?_,λx c e=>?_,?_,λx c e=>?_,λp R=>?_,hok,I.len]
 .exact keep b o (K b o e) C (j b o e a) (I.base.keep b o e n C a)^I.base.free b o e n a
 .let#[N,t]:=I.base.slot b o e n C a
  let#[P,L]:=y b _ (K b o e) C (j b o e a) t^I.base.free b o e n a;exact#[P,L]
 .let#[E,t]:=I.base.there b o e a
  exact free b E (j b o e a) t^I.base.free b o e n a
 .let#[E,t]:=I.base.there b o e a
  exact B b E (j b o e a) t
 .let#[W,t]:=I.base.tbls b M e
  let#[Y,L]:=G b _ t;exact#[W++Y,by rw[L,Array.append_assoc]]
 .let#[m,Z,hl]:=I.loc
  refine#[m,U m Z,λi x v t L e3=>?_];let#[u,r,l]:=hl i x v t L e3;exists u,r
  rcases l with l|⟨k,c,e,z⟩
  .exact .inl l
  .exact .inr #[k,c,e,g x c e _ z]
 .let#[v,z]:=I.cell x c e
  exact#[v,g x c e v z]
 .let#[m,#[o,_,_,D,_],_]:=I.loc
  exact free _ o (λz=>(f _ z).2.1 rfl) D I.free
 .let#[v,o,D,O]:=I.cell x c e
  exact free c o (λz=>(f c z).2.2.1 x c e rfl) D^I.freeC x c e
 .let#[e,n,S,T,d]:=I.pin p R
  have h:p.1∉ch:=λz=>(f p.1 z).2.2.2 p R rfl;exact#[keep p.1 p.2 S T h e n,free p.1 p.2 h e n,S,T,d]
def Inv.un{f:Nat}(I:Inv X zF σ H s)(u:Un X.fs [] H H' s.heap h')(hok:HOk X.prog X.w H' h'):Inv X zF σ H' {s with heap:=h',toks:=f}:=by
 let#[m,#[o,l,p,d,r],_]:=id I.loc;let#[q,g]:=u.any d I.free^by simp
 exact I.step (ch:=[]) (λ_ z=>nomatch z) (λb o _ c _ e n=>u.keep b o e n c^by simp) (λb o _ c _ e n=>u.slot b o e n c^by simp) (λb o _ e n=>u.free b o e n^by simp) (λb o _ e=>u.there b o e^by simp) u.tups u.frzs u.tbls (λt h=>by
  let#[v,i,j,a,k]:=h;rw[d]at a;cases a
  exact#[_,_,_,g,k]) hok I.bare
def Inv.call{h:Array GenState}{k:Nat}{l:Drawn}{i:r_ Ch}(I:Inv X zF σ H s)(u:Un (Js X.stack) i H H' s.heap h')(hok:HOk X.prog X.w H' h')(q:kF h)
  (d:∀b∈i,(b∈X.ex\/X.s₀.heap.objs.size<=b)/\b≠X.env.locals/\(∀x c,X.env.cells.lookup x=P3 c->c≠b)/\∀p∈X.pn++zF,p.1≠b):
  Inv X zF σ H' {s with heap:=h',gens:=h,drawn:=l,toks:=k}:=by
 let#[m,#[o,C,D,j,r],_]:=id I.loc;let#[E,g]:=u.any j I.free λz=>(d _ z).2.1 rfl
 exact I.step d (λb o g t a e n=>u.keep b o e n (λz=>(Tk.mp^I.stkSub b z).elim g t) a) (λb o _ _ a e n=>u.any e n a) (λb o a e n=>u.free b o e n a) (λb o a e=>u.there b o e a) u.tups u.frzs u.tbls (λF v=>by
  let#[G,y,A,f,B]:=v;rw[j]at f;cases f
  exact#[_,_,_,g,B]) hok q
def Inv.turned{t':Nat}{it:Ch}(I:Inv X zF σ H s)(k:∀b o,b≠it->s.heap.get? b=P3 o->h'.get? b=P3 o)(y:H it=o_)(d:it≠X.env.locals)
  (h1:it∈X.ex\/X.s₀.heap.objs.size<=it) (f:∀x c,X.env.cells.lookup x=P3 c->c≠it) (g:∀p∈X.pn++zF,p.1≠it):Inv X zF σ H {s with heap:=h',toks:=t'}:=by
 have h:∀b u,H b=P3 u->b≠it:=λb u e z=>by grind
 refine I.step (g':=s.gens) (d':=s.drawn) (ch:=[it]) (λb i=>?_) (λb o _ _ a e _=>k b o (λz=>a^by simp[z]) e) (λb o _ _ a e _=>#[o.slots,k b o (λz=>a^by simp[z]) e]) (λ_ _ _ _ n=>n)
  (λb o a e=>#[o,k b o (λz=>a^by simp[z]) e]) (λ_ _ e=>e) (λ_ _ _ e=>e) (λb A e=>#[#[],by rw[e];simp]) (λm j=>?_) (λb u e=>?_) I.bare
 .have e:b=it:=by simpa using i
  subst e;exact#[h1,d,f,g]
 .let#[o,l,t,w,r]:=j
  exact#[o,l,t,k _ o (gc d) w,r]
 .refine(I.hok b u e).stay (λc v a q=>k c v ?_ q) (λ_ q=>q) λ_ _ q=>q
  grind
def Inv.tok(I:Inv X zF σ H s)(t:Nat):Inv X zF σ H {s with toks:=t}:=I.un Un.refl I.hok
def Inv.kept{t':Nat}(I:Inv X zF σ H s)(k:∀b u,s.heap.get? b=P3 u->h'.get? b=P3 u):Inv X zF σ H {s with heap:=h',toks:=t'}:=I.un (Un.kept k)^I.hok.kept k
def Inv.laid{a:Ch}{o:HO}{t':Nat}(I:Inv X zF σ H s)(k:∀b u,s.heap.get? b=P3 u->h'.get? b=P3 u)(c:s.heap.objs.size<=a)(d:ObjOk X.prog X.w (AY H a o) h' a o):
  Inv X zF σ (AY H a o) {s with heap:=h',toks:=t'}:=I.un (Un.laid k c^I.hok.fresh c)^I.hok.laid k c d
def Inv.write{x e:Ch}{o:HO}{g:Nat}(I:Inv X zF σ H s)(d:cw^H x)(f:e=x\/H e=P3^.own x)(k:∀b u,b≠e->s.heap.get? b=P3 u->h'.get? b=P3 u)(a:∃u,h'.get? e=P3 u)
  (c:ObjOk X.prog X.w (AY H x o) h' x o):Inv X zF σ (AY H x o) {s with heap:=h',toks:=g}:=I.un (Un.write d f k a)^I.hok.write d f k a c
def Inv.pins_of{a:r_ (Ch×Obj)}(I:Inv X zF σ H s)(h:∀p∈a,s.heap.get? p.1=P3 p.2/\H p.1=o_/\p.1≠X.env.locals/\p.1∉X.fs/\∀v,p.2.data≠.cell v):Inv X a σ H s:=
 #[I.ok,I.os,I.bare,I.base,I.loc,I.cell,I.free,I.freeC,λp b=>(gM.mp b).elim (λz=>I.pin p^iS _ z)^h p,I.hok,I.len]
def Hv{N:r_ Str}(c:N.Nodup){i j:Nat}{x:Str}(a:N[i]?=P3 x)(b:N[j]?=P3 x):i=j:=by
 let#[f,d]:=Uf.mp a;let#[g,e]:=Uf.mp b;exact(List.getElem_inj c).mp^d.trans e.symm
def Ja{M:Model}{A:gX}{E:Db->No->Prop}{i:Nat}{x:Str}{v:V}{u:Db}{Q:Unit->No->Prop}(I:Inv X zF σ H s)(hN:X.N.Nodup)(hi:X.N[i]?=P3 x)(B:Loc X.env.scope x)(r:RelV v u)
  (h:∀s',Inv X zF (σ.set i^P3 v) H s'->(∃a,jB a s.heap s'.heap/\(a=X.env.locals\/X.env.cells.lookup x=P3 a))->Q () s') (hf:X.fn x=p_\/X.env.scope.names.lookup x=P3 .local:=by first|exact .inl rfl|exact .inr rfl|assumption):wpAny M A (storeName X.env x u) Q E s:=by
 let#[m,hn,hl]:=id I.loc;have P:(X.env.scope.kind==.class||(X.env.scope.kind==.module&&X.env.locals !=X.env.globals))=q_:=by rw[I.ok.kind];rfl
 have F:i<σ.length:=by rw[I.len];exact(Uf.mp hi).1
 have J:=I.cne
 have g:∀{a:Ch}{h':gA},(∃o,s.heap.get? a=P3 o/\H a=o_)->jB a s.heap h'->HOk X.prog X.w H h':=λ{a h'} ha f b ob e=>by
  let#[_,_,C]:=ha;refine(I.hok b ob e).stay (λc W t q=>(f.2 c ?_).trans q) (λ_ q=>q) λ_ _ q=>q;rintro rfl
  rcases t with rfl|t
  .rw[C]at e;cases e
  .rw[C]at t;cases t
 rcases B with G|G
 .refine wpAny_storeName_local G hn (λh' a0 f=>?_) P
  let#[oL,_,_,a1,_]:=id hn;refine h _ #[I.ok,I.os,I.bare,#[λb o e n K B=>?_,λb o e n K B=>?_,I.base.free,λb o e B=>?_,I.base.tups,I.base.frzs,I.base.tbls],#[_,a0,λj y v' l D e3=>?_],λy c e=>?_,I.free,I.freeC,λp hp=>?_,g #[oL,a1,I.free] f,by simpa using I.len] #[_,f,.inl rfl]
  .exact(f.2 b^gB^gL (TW e) I.ok.above).trans^I.base.keep b o e n K B
  .let#[sl,l]:=I.base.slot b o e n K B
   exact#[sl,(f.2 b^gB^gL (TW e) I.ok.above).trans l]
  .let#[o',l]:=I.base.there b o e B
   exact#[o',(f.2 b^gB^gL (TW e) I.ok.above).trans l]
  .by_cases L:j=i
   .subst L
    rw[hi]at l;cases l
    rw[nN F]at D;cases D;exact#[u,r,.inl #[G,by simp]]
   .rw[lY^gc L]at D
    let#[u',r',q]:=hl j y v' l D e3;exists u',r'
    rcases q with⟨k,e⟩|⟨k,c,e,z⟩
    .refine .inl #[k,?_]
     have:y≠x:=λe=>L^Hv hN l (e▸hi)
     simp[this,e]
    .exact .inr #[k,c,e,z.sameBut f^J y c e]
  .let#[W,z]:=I.cell y c e
   exact#[W,z.sameBut f^J y c e]
  .let#[e,n,Y,nf,d]:=I.pin p hp
   exact#[(f.2 p.1 Y).trans e,n,Y,nf,d]
 .have O:X.fn x=p_:=by
   rcases hf with z|z
   .exact z
   .rw[z]at G;cases G
  let#[c,t]:=I.ok.has x^.inl G;let#[W,z]:=I.cell x c t;refine wpAny_storeName_cell I.ok.kind G t z λh' R f=>?_;let#[oc,S,T]:=id z;refine h {s with heap:=h'} #[I.ok,I.os,I.bare,#[λb o e n K B=>?_,λb o e n K B=>?_,I.base.free,λb o e B=>?_,I.base.tups,I.base.frzs,I.base.tbls],#[m,hn.sameBut f^gc^J x c t,λj y v' l D e3=>?_],λy Z e=>?_,I.free,I.freeC,λp hp=>?_,g #[oc,S,I.freeC x c t] f,by simpa using I.len] #[c,f,.inr t]
  .exact(f.2 b^gB^gL (TW e)^I.ok.cab x c O t).trans^I.base.keep b o e n K B
  .let#[sl,l]:=I.base.slot b o e n K B
   exact#[sl,(f.2 b^gB^gL (TW e)^I.ok.cab x c O t).trans l]
  .let#[o',l]:=I.base.there b o e B
   exact#[o',(f.2 b^gB^gL (TW e)^I.ok.cab x c O t).trans l]
  .by_cases L:j=i
   .subst L
    rw[hi]at l;cases l
    rw[nN F]at D;cases D;exact#[u,r,.inr #[.inl G,c,t,R]]
   .rw[lY^gc L]at D
    let#[u',r',q]:=hl j y v' l D e3;exists u',r'
    rcases q with q|⟨k,Z,e,z'⟩
    .exact .inl q
    .refine .inr #[k,Z,e,z'.sameBut f ?_]
     rintro rfl;exact L^Hv hN l (I.ok.inj _ _ _ e t▸hi)
  .by_cases U:Z=c
   .subst U;exact#[_,R]
   .let#[w2,z2]:=I.cell y Z e
    exact#[w2,z2.sameBut f U]
  .let#[e,n,Y,nf,d]:=I.pin p hp
   refine#[(f.2 p.1 ?_).trans e,n,Y,nf,d];intro q;rw[q,S]at e;have q':oc=p.2:=XV e;exact d W^by rw[←q'];exact T
def FN{M:Model}{A:gX}{E:Db->No->Prop}{i:Nat}{x:Str}{v:V}{u:Db}{Q:Unit->No->Prop}(I:Inv X zF σ H s)(b:X.N.Nodup)(hi:X.N[i]?=P3 x)(c:Loc X.env.scope x)(r:RelV v u)
  (h:∀a,Inv X zF (σ.set i^P3 v) H a->Q () a) (d:X.fn x=p_\/X.env.scope.names.lookup x=P3 .local:=by first|exact .inl rfl|exact .inr rfl|assumption):wpAny M A (storeName X.env x u) Q E s:=
 Ja I b hi c r (λa e _=>h a e) d
def Inv.call'{a:No}{e:r_ Ch}(I:Inv X zF σ H s)(f:a.os=s.os)(u:Un (Js X.stack) e H H' s.heap a.heap)(hok:HOk X.prog X.w H' a.heap)(g:kF a.gens)
  (d:∀b∈e,(b∈X.ex\/X.s₀.heap.objs.size<=b)/\b≠X.env.locals/\(∀x c,X.env.cells.lookup x=P3 c->c≠b)/\∀p∈X.pn++zF,p.1≠b):Inv X zF σ H' a:=by
 let#[h',h,i,j,k]:=a;subst f;exact I.call u hok g d
end
abbrev XK:=Db->s_ Ch->Hp->Prop
abbrev St:=r_^s_ V
abbrev VK:=V->Hp->Prop
abbrev TE:=St->Hp->VK->Prop
abbrev TT:=St->Hp->(Bool->Hp->Prop)->Prop
abbrev TA:=St->Hp->(r_ V->Hp->Prop)->Prop
structure Ends where
 nx:St->Hp->Prop
 rt:VK
 bk:St->Hp->Prop:=λ_ _=>False
 ct:St->Hp->Prop:=λ_ _=>False
abbrev TS:=Ends->St->Hp->Prop
def EP(X:Cx)(b:r_ (Ch×Obj))(c:St)(Q:VK)(u:Db)(d:No):Prop:=∃v a,Inv X b c a d/\RelV v u/\Q v a
def TP(X:Cx)(c:r_ (Ch×Obj))(d:St)(Q:Bool->Hp->Prop)(b:Bool)(e:No):Prop:=∃a,Inv X c d a e/\Q b a
def AP(X:Cx)(c:r_ (Ch×Obj))(d:St)(Q:r_ V->Hp->Prop)(e:r_ Db)(f:No):Prop:=∃a b,Inv X c d b f/\Vals a e/\Q a b
def SP(X:Cx)(c:r_ (Ch×Obj))(D:Ends)(f:Flow)(d:No):Prop:=
 match f with
 |.next=>∃b a,Inv X c b a d/\D.nx b a
 |.brk=>∃b a,Inv X c b a d/\D.bk b a
 |.cont=>∃b a,Inv X c b a d/\D.ct b a
 |.ret u=>∃v b a,Inv X c b a d/\RelV v u/\D.rt v a
def PE(X:Cx)(e:gI)(t:TE):Prop:=
 ∀(b:r_ (Ch×Obj)) (s:No) (a:St) (H:Hp) (Q:VK),Inv X b a H s->t a H Q->wpAny (model X.prog X.w) X.A (eval e X.env) (EP X b a Q) X.xe s
def PT(X:Cx)(e:gI)(t:TT):Prop:=
 ∀(b:r_ (Ch×Obj)) (s:No) (a:St) (H:Hp) (Q:Bool->Hp->Prop),Inv X b a H s->t a H Q->wpAny (model X.prog X.w) X.A (isTrue e X.env^eval e X.env) (TP X b a Q) X.xe s
def PW(X:Cx)(e:gI)(t:TT):Prop:=
 ∀(a:Sem Db) (c:r_ (Ch×Obj)) (s:No) (b:St) (H:Hp) (Q:Bool->Hp->Prop),Inv X c b H s->t b H Q->wpAny (model X.prog X.w) X.A (isTrue e X.env a) (TP X c b Q) X.xe s
def PW.pt{X:Cx}{e:gI}{t:TT}(h:PW X e t):PT X e t:=h _
def PA(X:Cx)(c:r_ gI)(t:TA):Prop:=
 ∀(pos:Pos) (b:r_ (Ch×Obj)) (s:No) (a:St) (H:Hp) (Q:r_ V->Hp->Prop),Inv X b a H s->t a H Q->wpAny (model X.prog X.w) X.A (spliced^backTo pos^starEach c X.env) (AP X b a Q) X.xe s
def PS(X:Cx)(c:iD)(t:TS):Prop:=
 ∀(a:r_ (Ch×Obj)) (s:No) (b:St) (H:Hp) (D:Ends),Inv X a b H s->t D b H->wpAny (model X.prog X.w) X.A (exec c X.env) (SP X a D) X.xe s
def PSs(X:Cx)(c:r_ iD)(t:TS):Prop:=
 ∀(a:r_ (Ch×Obj)) (s:No) (b:St) (H:Hp) (D:Ends),Inv X a b H s->t D b H->wpAny (model X.prog X.w) X.A (execs c X.env) (SP X a D) X.xe s
def Aq{b:Type}{t:Sem b}{Q c:b->No->Prop}{M:Model}{A:gX}{E:Db->No->Prop}{s:No}(h:wpAny M A t Q E s)(d:∀a s,Q a s->c a s):wpAny M A t c E s:=gh h d λ_ _ x=>x
section
variable {X:Cx}
def BZ(i:Nat):TE:=λa H Q=>∃v,a[i]?=P3^P3 v/\Q v H
def tC(v:V):TE:=λ_ H Q=>Q v H
def De{i:Nat}{x:Str}{pos:Pos}(k:X.N[i]?=P3 x)(n:Pu X.env.scope x)(f:(x==("__debug__":Str))=q_:=by decide)(g:(x==("__classdict__":Str))=q_:=by decide):PE X (.Name x pos)^BZ i:=by
 intro w s o H Q I h;let#[v,e,h]:=h;let#[m,p,q]:=I.loc;let#[u,r,l]:=q i x v k e n;have b:EP X _ o Q u s:=#[v,H,I,r,h]
 rcases l with⟨d,t⟩|⟨d,c,j,a⟩
 .exact wpAny_Name (wpAny_loadName_local I.ok.kind d p t b) f
 .rcases d with d|d
  .exact wpAny_Name (wpAny_loadName_cell I.ok.kind d j a b) f
  .exact wpAny_Name (wpAny_loadName_free I.ok.kind d j a b g) f
def Ah{i j pos}:PE X (.Constant (.int i) j pos)^tC^.int i:=λ_ _ _ H _ I h=>wpAny_Constant_int #[.int i,H,I.tok _,#[_,rfl],h]
def bM{b j pos}:PE X (.Constant (.bool b) j pos)^tC^.bl b:=λ_ _ _ H _ I h=>Constant_bool #[.bl b,H,I,rfl,h]
def SY{j pos}:PE X (.Constant .none j pos)^tC .non:=λ_ _ _ H _ I h=>Constant_none #[.non,H,I,rfl,h]
def NU{x j pos}:PE X (.Constant (.str x) j pos)^tC^.str x:=λ_ _ _ H _ I h=>Calls.Constant_str #[.str x,H,I.tok _,#[_,rfl],h]
def Gl(X:Cx)(x:Str):Prop:=X.env.kindOf x=P3 .globalImplicit
def Cq{E:Db->No->Prop}{a:r_ (Ch×Obj)}{s:No}{b:St}{H:Hp}{x:Str}{u:Db}{pos:Pos}{Q:Db->No->Prop}(I:Inv X a b H s)(c:Gl X x)(d:X.mg x=P3 u)(h:Q u s)
  (e:(x==("__debug__":Str))=q_:=by decide):wpAny (model X.prog X.w) X.A (eval (.Name x pos) X.env) Q E s:=
 mS I.ok.kind c (Calls.loadGlobal_global (by rw[I.ok.glob];exact I.mod.glob.keeps I.bk) d h) e
def C1{E:Db->No->Prop}{a:r_ (Ch×Obj)}{s:No}{b:St}{H:Hp}{x:Str}{u:Db}{pos:Pos}{Q:Db->No->Prop}(I:Inv X a b H s)(c:Gl X x)(d:X.mg x=o_)(e:bootBuiltins x=P3 u)(h:Q u s)
  (f:x ≠ "__name__":=by decide) (g:(x==("__debug__":Str))=q_:=by decide):wpAny (model X.prog X.w) X.A (eval (.Name x pos) X.env) Q E s:=by
 let#[k,i,j]:=I.mod.blt;exact mS I.ok.kind c (Calls.loadGlobal_builtin (by rw[I.ok.glob];exact I.mod.glob.keeps I.bk) d (by rw[I.ok.blt];exact i.keeps I.bk) ((j x f).trans e) h) g
def Oq{x:Str}{v:V}{u:Db}{pos:Pos}(a:Gl X x)(b:X.mg x=P3 u)(r:RelV v u)(c:(x==("__debug__":Str))=q_:=by decide):PE X (.Name x pos)^tC v:=
 λ_ _ _ H _ I h=>Cq I a b #[v,H,I,r,h] c
def Ou{x:Str}{v:V}{u:Db}{pos:Pos}(a:Gl X x)(b:X.mg x=o_)(c:bootBuiltins x=P3 u)(r:RelV v u)(d:x ≠ "__name__":=by decide)(e:(x==("__debug__":Str))=q_:=by decide):PE X (.Name x pos)^tC v:=
 λ_ _ _ H _ I h=>C1 I a b c #[v,H,I,r,h] d e
variable {a b:Expr}{ta tb:TE}{pos:Pos}
def tB(t:TE):TT:=λd H Q=>t d H λx H1=>∃c,x=.bl c/\Q c H1
def YX{e:gI}{t:TE}(h:PE X e t)(f:∀c,isTrue e X.env c=(do let v ←c;standAt e.pos;holding [v]^truthy v):=by intro _;rfl):PT X e^tB t:=by
 intro m s g H Q I i;refine isTrue_plain (Aq (h _ s g H _ I i) λv n #[x,H1,j,k,l]=>?_)^f _;let#[d,rfl,q]:=l;cases k;exact iG #[H1,j,q]
variable {tA tB':TT}{rest:r_ Expr}
def ah(t u:TT):TT:=λd H Q=>t d H λc H1=>if c=p_ then u d H1 Q else Q q_ H1
def fg(t u:TT):TT:=λd H Q=>t d H λc H1=>if c=p_ then Q p_ H1 else u d H1 Q
def dX(t:TT):TT:=λd H Q=>t d H λc H1=>Q (!c) H1
def Oe(d:PT X a tA):PW X (.BoolOp .And [a] pos) tA:=by
 intro g i s f H Q I h;refine isTrue_and^Aq (d _ s f H Q I h) λc j e=>?_;cases c with
 |true=>exact isTrue_and_nil e
 |false=>exact e
def YW(d:PT X a tA):PW X (.BoolOp .Or [a] pos) tA:=by
 intro g i s f H Q I h;refine isTrue_or^Aq (d _ s f H Q I h) λc j e=>?_;cases c with
 |false=>exact isTrue_or_nil e
 |true=>exact e
def SD(e:PT X a tA)(f:PW X (.BoolOp .And (b::rest) pos) tB'):PW X (.BoolOp .And (a::b::rest) pos)^ah tA tB':=by
 intro g l s d H Q I h;refine isTrue_and^Aq (e _ s d H _ I h) λc i #[H1,j,k]=>?_;cases c with
 |true=>exact f g _ i d H1 Q j k
 |false=>assumption
def bJ(e:PT X a tA)(f:PW X (.BoolOp .Or (b::rest) pos) tB'):PW X (.BoolOp .Or (a::b::rest) pos)^fg tA tB':=by
 intro g l s d H Q I h;refine isTrue_or^Aq (e _ s d H _ I h) λc i #[H1,j,k]=>?_;cases c with
 |true=>assumption
 |false=>exact f g _ i d H1 Q j k
def YY(c:PT X a tA):PT X (.UnaryOp .Not a pos)^dX tA:=λe s d H Q I h=>isTrue_not^c _ s d H _ I h
def ag(ta tb:TE):TE:=λd H Q=>ta d H λx H1=>∃c,x=.bl c/\if c=p_ then tb d H1 Q else Q (.bl q_) H1
def dW(ta tb:TE):TE:=λd H Q=>ta d H λx H1=>∃c,x=.bl c/\if c=p_ then Q (.bl p_) H1 else tb d H1 Q
def aU(ta:TE):TE:=λd H Q=>ta d H λx H1=>∃c,x=.bl c/\Q (.bl (!c)) H1
def Yk(g:PE X a ta)(i:PE X (.BoolOp .And (b::rest) pos) tb):PE X (.BoolOp .And (a::b::rest) pos)^ag ta tb:=by
 intro l s e H Q I h;refine BoolOp_and^Aq (g _ s e H _ I h) λv j #[x,H1,f,k,d]=>?_;let#[c,rfl,d]:=d;cases k;refine iG ?_;cases c with
 |true=>exact i _ j e H1 Q f d
 |false=>exact#[.bl _,H1,f,rfl,d]
def bL(g:PE X a ta)(i:PE X (.BoolOp .Or (b::rest) pos) tb):PE X (.BoolOp .Or (a::b::rest) pos)^dW ta tb:=by
 intro l s e H Q I h;refine BoolOp_or^Aq (g _ s e H _ I h) λv j #[x,H1,f,k,d]=>?_;let#[c,rfl,d]:=d;cases k;refine iG ?_;cases c with
 |false=>exact i _ j e H1 Q f d
 |true=>exact#[.bl _,H1,f,rfl,d]
def Yg(e:PE X a ta):PE X (.UnaryOp .Not a pos)^aU ta:=by
 intro j s f H Q I h;refine UnaryOp_^Aq (e _ s f H _ I h) λv k #[x,H1,g,i,d]=>?_;let#[c,rfl,d]:=d;cases i;exact not_of^iG #[.bl _,H1,g,rfl,d]
def fh(t:TT)(ta tb:TE):TE:=λd H Q=>t d H λc H1=>if c=p_ then ta d H1 Q else tb d H1 Q
def L8{c:gI}(j:PT X c tA)(k:PE X a ta)(l:PE X b tb):PE X (.IfExp c a b pos)^fh tA ta tb:=by
 intro m s e H Q I h;refine wpAny_IfExp^Aq (j _ s e H _ I h) λd f #[H1,g,i]=>?_;cases d with
 |true=>exact k _ f e H1 Q g i
 |false=>exact l _ f e H1 Q g i
end
def SqL(K:Frag)(H:Hp)(a:Ch)(c:r_ V):Prop:=
 Rd H a (.lst c) \/
  ∃(o:Obj) (b:Array Db) (n:Nat),K.lookup a=P3 o/\o.cls=.type "list"/\o.dict=o_/\o.data=.seq b n/\b.size<=sizeLine/\Vals c b.toList
def SqT(K:Frag)(H:Hp)(a:Ch)(c:r_ V):Prop:=
 Rd H a (.tup c) \/
  ∃(o:Obj) (b:Array Db) (n:Nat),K.lookup a=P3 o/\o.cls=.type "tuple"/\o.data=.seq b n/\b.size<=sizeLine/\Vals c b.toList
def eX:Db->s_ V
 |.none=>P3 .non
 |.bool b=>P3^.bl b
 |.int i _=>P3^.int i
 |.str x _=>P3^.str x
 |.bytes b _=>P3^.byt b
 |.float b _=>P3^.flt b
 |.ref a=>P3^.ref a
 |.type n=>P3^.ty n
 |_=>o_
def RelV.abs{x:V}{u:Db}(r:RelV x u):eX u=P3 x:=by
 cases x with
 |non=>cases r;rfl
 |bl _=>cases r;rfl
 |int _=>let#[t,rfl]:=r;rfl
 |str _=>let#[t,rfl]:=r;rfl
 |byt _=>let#[t,rfl]:=r;rfl
 |flt _=>let#[t,rfl]:=r;rfl
 |ref _=>cases r;rfl
 |ty _=>cases r;rfl
def RelV.inj{x y:V}{u:Db}(r:RelV x u)(q:RelV y u):x=y:=XV^r.abs.symm.trans q.abs
theorem Vals.inj:∀{a b:r_ V}{c:r_ Db},Vals a c->Vals b c->a=b
 |_,_,_,.nil,.nil=>rfl
 |_,_,_,.cons r t,.cons d e=>by rw[r.inj d,Vals.inj t e]
section
variable {X:Cx}{zF:r_ (Addr×Obj)}{σ:St}{H:Hp}{s:Shared}{a:Addr}{xs ys:r_ V}
def SqL.of{K:Frag}(h:H a=P3^.lst xs):SqL K H a xs:=.inl^.inl h
def SqT.of{K:Frag}(h:H a=P3^.tup xs):SqT K H a xs:=.inl^.inl h
def Inv.list(I:Inv X zF σ H s)(h:SqL X.K H a xs):∃b:r_ Db,Vals xs b/\PlainL s.heap a b.toArray/\xs.length<=sizeLine:=by
 rcases h with h|⟨o,b,n,c,d,f,g,i,r⟩
 .let#[z,b,n,r,e]:=h.ok I.hok
  exact#[_,r,#[_,n,e,rfl,rfl,rfl],z]
 .exists _,r,#[o,n,I.kIn a o c,d,f,by lk]
  have e:=r.length
  grind
def Inv.tuple(I:Inv X zF σ H s)(h:SqT X.K H a xs):∃b:r_ Db,Vals xs b/\IsTup s.heap a b.toArray/\xs.length<=sizeLine:=by
 rcases h with h|⟨o,b,n,c,d,f,g,r⟩
 .let#[z,b,r,p]:=h.ok I.hok
  exact#[_,r,p.tup,z]
 .exists _,r,#[o,I.kIn a o c,d,n,by lk]
  have e:=r.length
  grind
def Inv.list_inj(I:Inv X zF σ H s)(h:SqL X.K H a xs)(f:SqL X.K H a ys):xs=ys:=by
 let#[c,r,#[o,n,e,_,_,d],_]:=I.list h;let#[b,g,#[i,j,k,_,_,l],_]:=I.list f
 have:c=b:=by grind
 subst this;exact r.inj g
def Inv.tuple_inj(I:Inv X zF σ H s)(h:SqT X.K H a xs)(f:SqT X.K H a ys):xs=ys:=by
 let#[c,r,#[o,e,_,n,d],_]:=I.tuple h;let#[b,g,#[i,j,_,k,l],_]:=I.tuple f
 have:c=b:=by grind
 subst this;exact r.inj g
end
abbrev Cx.wish(X:Cx)(E:Db->No->Prop):Cx:={X with xe:=E}
abbrev Cx.nox(X:Cx):Cx:=X.wish λ_ _=>False
def Cx.Ok.wish{X:Cx}(ok:X.Ok)(E:Db->No->Prop):(X.wish E).Ok:=
 #[ok.mod,ok.kind,ok.glob,ok.blt,ok.above,ok.inj,ok.has,ok.cab,ok.hd,ok.frames,ok.stk,ok.exf,ok.bs,ok.bsz,ok.noex,ok.exfs,ok.funs,ok.frf]
def Cx.Ok.unwish{X:Cx}{E:Db->No->Prop}(ok:(X.wish E).Ok):X.Ok:=
 #[ok.mod,ok.kind,ok.glob,ok.blt,ok.above,ok.inj,ok.has,ok.cab,ok.hd,ok.frames,ok.stk,ok.exf,ok.bs,ok.bsz,ok.noex,ok.exfs,ok.funs,ok.frf]
section
variable {X:Cx}{zF:r_ (Addr×Obj)}{σ:St}{H:Hp}{s:Shared}{E:Value->Shared->Prop}
def Inv.wish(I:Inv X zF σ H s)(E:Db->No->Prop):Inv (X.wish E) zF σ H s:=#[I.ok.wish E,I.os,I.bare,I.base,I.loc,I.cell,I.free,I.freeC,I.pin,I.hok,I.len]
def Inv.unwish(I:Inv (X.wish E) zF σ H s):Inv X zF σ H s:=#[I.ok.unwish,I.os,I.bare,I.base,I.loc,I.cell,I.free,I.freeC,I.pin,I.hok,I.len]
def SP.unwish{D:Ends}{f:Flow}{c:No}(h:SP (X.wish E) zF D f c):SP X zF D f c:=by
 cases f with
 |next=>let#[b,a,I,q]:=h;exact#[_,a,I.unwish,q]
 |brk=>let#[b,a,I,q]:=h;exact#[_,a,I.unwish,q]
 |cont=>let#[b,a,I,q]:=h;exact#[_,a,I.unwish,q]
 |ret u=>let#[v,b,a,I,r,q]:=h;exact#[v,_,a,I.unwish,r,q]
def PSs.nox{a:r_ iD}{t:TS}(h:PSs X.nox a t):PSs X a t:=λzF s σ H D I b=>
 gh (h _ s σ H D (I.wish _) b) (λ_ _ q=>q.unwish) λ_ _ z=>gy z
end
section
variable {X:Cx}{st:Stmt}{rest:r_ Stmt}{t u:TS}{e:Expr}{te:TE}{pos:Pos}
def Wh:TS:=λD a H=>D.nx a H
def P7(t u:TS):TS:=λD a H=>t {D with nx:=u D} a H
def Ke:PSs X [] Wh:=λ_ _ a H _ I h=>jy #[a,H,I,h]
def Az(h1:PS X st t)(a:PSs X rest u):PSs X (st::rest)^P7 t u:=by
 intro g s b H D I h;refine m6^Aq (h1 _ s b H _ I h) λf c q=>?_;cases f with
 |next=>
  let#[i,d,e,q]:=q;exact a _ c _ d D e q
 |ret v=>exact q
 |brk=>exact q
 |cont=>exact q
def CM(h1:PS X st t):PSs X [st] t:=by
 intro b s a H D I h;refine m6^Aq (h1 _ s a H D I h) λf c q=>?_;cases f with
 |next=>exact jy q
 |ret v=>exact q
 |brk=>exact q
 |cont=>exact q
def Inv.quiet{a:r_ (Ch×Obj)}{b:St}{H:Hp}{s:No}(I:Inv X a b H s):interactive X.env=q_:=by simp[interactive,I.ok.kind]
def aY(te:TE):TS:=λD a H=>te a H λ_ H1=>D.nx a H1
def Kg(b:PE X e te)(c:swapsWith e o_ pos.line X.env=pure q_:=by rfl):PS X (.Expr e pos)^aY te:=λg s a H D I h=>wpAny_Expr_any (Aq (b _ s a H _ I h) λv i #[x,H1,d,j,f]=>#[a,H1,d,f]) I.quiet c
def Uz(te:TE):TS:=λD a H=>te a H D.rt
def D9(b:PE X e te):PS X (.Return (P3 e) pos)^Uz te:=λg s a H D I h=>wpAny_Return_some^Aq (b _ s a H _ I h) λv i #[x,H1,c,d,f]=>#[x,a,H1,c,d,f]
def aW(c:TT)(t u:TS):TS:=λD a H=>c a H λb H1=>if b=p_ then t D a H1 else u D a H1
def Oi{c:gI}{a b:r_ iD}{f:TT}(k:PT X c f)(l:PSs X a t)(m:PSs X b u):PS X (.If c a b pos)^aW f t u:=by
 intro n s e H D I h;refine wpAny_If^Aq (k _ s e H _ I h) λd g #[H1,i,j]=>?_;cases d with
 |true=>exact l _ g e H1 D i j
 |false=>exact m _ g e H1 D i j
end
abbrev TG:=V->St->Hp->(St->Hp->Prop)->Prop
abbrev Zu:=r_ V->St->Hp->(St->Hp->Prop)->Prop
def PG(X:Cx)(a:gI)(t:TG):Prop:=
 ∀(b:r_ (Ch×Obj)) (s:No) (c:St) (H:Hp) (v:V) (u:Db) (Q:St->Hp->Prop),Inv X b c H s->RelV v u->t v c H Q->
  wpAny (model X.prog X.w) X.A (assign a X.env u) (λ_ f=>∃d e,Inv X b d e f/\Q d e) X.xe s
def cu(X:Cx)(g:r_ gI)(t:Zu):Prop:=
 ∀(a:r_ (Ch×Obj)) (s:No) (b:St) (H:Hp) (c:r_ V) (d:r_ Db) (Q:St->Hp->Prop),Inv X a b H s->Vals c d->t c b H Q->
  wpAny (model X.prog X.w) X.A (assignInOrder ((assignEach g X.env).map (·.2)) d) (λ_ h=>∃e f,Inv X a e f h/\Q e f) X.xe s
abbrev Zs:=V->V->V->Hp->(Hp->Prop)->Prop
def cm(X:Cx)(t:Zs):Prop:=
 ∀(a:r_ (Ch×Obj)) (s:No) (b:St) (H:Hp) (o i v:V) (c d u:Db) (Q:Hp->Prop),Inv X a b H s->RelV o c->RelV i d->RelV v u->t o i v H Q->
  wpAny (model X.prog X.w) X.A (setItem c d u) (λ_ f=>∃e,Inv X a b e f/\Q e) X.xe s
abbrev dD:=V->V->Hp->VK->Prop
def fP(X:Cx)(c:Operator)(t:dD):Prop:=
 ∀(a:r_ (Ch×Obj)) (s:No) (b:St) (H:Hp) (x y:V) (v u:Db) (Q:VK),Inv X a b H s->RelV x v->RelV y u->t x y H Q->
  wpAny (model X.prog X.w) X.A (inplaceOp c v u) (EP X a b Q) X.xe s
section
variable {X:Cx}{pos:Pos}
def Gd(i:Nat):TG:=λv a H Q=>Q (a.set i^P3 v) H
def FQ{i:Nat}{x:Str}(a:X.N.Nodup)(hi:X.N[i]?=P3 x)(b:Loc X.env.scope x)(c:X.fn x=p_\/X.env.scope.names.lookup x=P3 .local:=by first|exact .inl rfl|exact .inr rfl|assumption):PG X (.Name x pos)^Gd i:=λe s f H v u Q I r h=>wpAny_assign_Name^FN I a hi b r (λg d=>#[_,H,d,h]) c
def eI:Zu:=λa b H Q=>a=[]/\Q b H
def bh(t:TG)(u:Zu):Zu:=λa b H Q=>∃v r,a=v::r/\t v b H λc d=>u r c d Q
def Oo:cu X [] eI:=by
 intro b s a H c d Q I r h;let#[e,h]:=h;exact assignInOrder_nil #[a,H,I,h]
def FP{e:gI}{a:r_ gI}{t:TG}{u:Zu}(h1:PG X e t)(b:cu X a u)
  (c:(assignEach (e::a) X.env).map (·.2)=assign e X.env::(assignEach a X.env).map (·.2):=by rfl):cu X (e::a)^bh t u:=by
 intro l s d H m n Q I r h;let#[v,o,f,h]:=h;subst f;cases r with
 |cons r g=>
  rw[c];exact assignInOrder_cons^Aq (h1 _ s d H _ _ _ I r h) λ_ i #[_,H1,j,k]=>b _ i _ H1 _ _ Q j g k
def eG(K:Frag)(n:Nat)(t:Zu):TG:=λv c H Q=>∃a b,v=.ref a/\SqT K H a b/\b.length=n/\t b c H Q
def SV{c:r_ gI}{k:Nat}{t:Zu}{n:Nat}(g:X.calm=p_)(h:cu X c t)
  (i:(assignEach c X.env).length=n:=by rfl) (d:(assignEach c X.env).findIdx? (·.1)=o_:=by rfl):PG X (.Tuple c k pos)^eG X.K n t:=by
 intro A s j H v u Q I r f;let#[a,l,m,p,q,f]:=f;subst m;cases r;let#[w,x,y,B]:=I.tuple p;exact assign_Tuple_tuple (I.ok.hd g) y (by simp[i,←q,x.length]) d λC z=>h _ _ j H l _ Q (I.kept λb o e=>z b o (gB^TW e) e) (by lk) f
def bg(to b:TE)(t:Zs):TG:=λv a H Q=>to a H λo H1=>b a H1 λi c=>t o i v c λd=>Q a d
def NT{o i:gI}{to d:TE}{t:Zs}(e:PE X o to)(hi:PE X i d)(f:cm X t)
  (C:∀v,assign (.Subscript o i pos) X.env v=(do
   let a ←holding [v]^eval o X.env
   let b ←holding [v,a] (eval i X.env)
   standAt pos
   holding [v,a,b] (setItem a b v)
   release [v,a,b] []):=by intro _;rfl):PG X (.Subscript o i pos)^bg to d t:=λD s c H v u Q I r h=>Cn^gw^Aq (e _ s c H _ I h) λa g #[x,H1,j,k,l]=>Cn^gw^Aq (hi _ g c H1 _ j l) λb m #[y,n,p,q,w]=>Cn^lF^Cn^gw^Aq (f _ m c n x y v a b u _ p k q r w) λ_ E #[z,A,B]=>wpAny_release #[c,z,A,B]
def Lr(b:TE)(g:TG):TS:=λD a H=>b a H λx H1=>g x a H1 D.nx
def Kh{a e:gI}{b:TE}{g:TG}(d:PE X e b)(f:PG X a g)(i:swapsWithSole [a] e pos.line X.env=pure q_:=by rfl)(j:swappedStores [a] e X.env=pure o_:=by rfl)
  (h1:(assignEach [a] X.env).map (·.2)=[assign a X.env]:=by rfl):PS X (.Assign [a] e pos)^Lr b g:=by
 intro o s c H D I h;refine wpAny_Assign_stores (Aq (d _ s c H _ I h) λv k #[x,H1,l,m,n]=>?_) i j;rw[h1];exact Aq (f _ k c H1 x v _ l m n) λ_ p q=>q
def Cw{i:Nat}{x:Str}{e:gI}{b:TE}{a:Pos}(c:X.N.Nodup)(hi:X.N[i]?=P3 x)(d:Loc X.env.scope x)(f:PE X e b)(g:swapsWith e (P3^.Name x a) pos.line X.env=pure q_:=by rfl)(j:X.fn x=p_\/X.env.scope.names.lookup x=P3 .local:=by first|exact .inl rfl|exact .inr rfl|assumption):
  PS X (.Assign [.Name x a] e pos) (Lr b^Gd i):=λp s k H D I h=>wpAny_Assign_Name (Aq (f _ s k H _ I h) λv q #[y,H1,l,m,n]=>FN l c hi d m (λr o=>#[_,H1,o,n]) j) g
def dh(i:Nat)(b:TE)(c:dD):TS:=λD a H=>∃x,a[i]?=P3^P3 x/\b a H λy H1=>c x y H1 λz d=>D.nx (a.set i^P3 z) d
def Yb{i:Nat}{x:Str}{e:gI}{q:TE}{j:Operator}{t:dD}{d:Pos}(C:X.N.Nodup)(hi:X.N[i]?=P3 x)(n:Loc X.env.scope x)(E:PE X e q)(F:fP X j t)(G:X.fn x=p_\/X.env.scope.names.lookup x=P3 .local:=by first|exact .inl rfl|exact .inr rfl|assumption):
  PS X (.AugAssign (.Name x d) j e pos) (dh i q t):=by
 intro o s B H D I h;let#[v,J,h]:=h;let#[m,K,L]:=I.loc;have p:Pu X.env.scope x:=by rcases n with k|k;exact .inl k;exact .inr^.inl k
 let#[u,r,l]:=L i x v hi J p;refine wpAny_AugAssign_Name ?_
 have go:wpAny (model X.prog X.w) X.A (eval e X.env) (λw f=>wpAny (model X.prog X.w) X.A (inplaceOp j u w) (λr g=>wpAny (model X.prog X.w) X.A (storeName X.env x r) (λ_=>SP X o D .next) X.xe g) X.xe f) X.xe s:=by
  refine Aq (E o s B H _ I h) λw M #[y,H1,O,P,Q]=>?_;refine Aq (F o M B H1 v y u w _ O r P Q) λz Z #[zv,R,S,T,U]=>?_;exact FN S C hi n T (λs3 V=>#[_,R,V,U]) G
 rcases l with⟨a,W⟩|⟨a,c,Y,b⟩
 .exact wpAny_loadName_local I.ok.kind a K W go
 .rcases a with a|a
  .exact wpAny_loadName_cell I.ok.kind a Y b go
  .rcases n with k|k
   .have:X.env.scope.names.lookup x=P3 .free:=a
    rw[k]at this;cases this
   .have:X.env.scope.names.lookup x=P3 .free:=a
    rw[k]at this;cases this
def fo(f:Int->Int->Int):dD:=λx y H Q=>∃i j,x=.int i/\y=.int j/\Q (.int^f i j) H
def ZG:fP X .Add (fo λi j=>i+j):=by
 intro e s f H x y v u Q I a b h;let#[i,j,c,d,q]:=h;subst c;subst d
 let#[t,rfl]:=a;let#[g,rfl]:=b;exact iadd_int #[.int _,H,I.tok _,#[_,rfl],q]
end
section
variable {X:Cx}{pos:Pos}
def YA(c:TT)(g:TS):TS:=λD a H=>∃W:Nat->St->Hp->Prop,(∃m,W m a H)/\∀m a H,W m a H->
 c a H λb H1=>if b=p_ then ∃N:St->Hp->Prop,(∀d e,N d e->∃f,f<m/\W f d e)/\g {D with nx:=N,ct:=N,bk:=D.nx} a H1 else D.nx a H1
def SK{c:gI}{a:r_ iD}{t:TT}{u:TS}(x:nG (model X.prog X.w) X.A X.env X.xe)(F:PT X c t)(G:PSs X a u):PS X (.While c a [] pos)^YA t u:=by
 intro l s J H D I h;let#[W,#[K,L],d]:=h;refine wpAny_While^codeAny_whileLoop (λn M=>∃y z,Inv X l y z M/\W n y z) ?_ K #[J,H,I,L];rintro n O ⟨i,H1,P,Q⟩;refine jZ x^Aq (F l O i H1 _ P^d n i H1 Q) λb R #[B,C,j]=>?_;cases b with
 | true=>
  let#[N,E,j]:=j;rw[if_pos rfl];refine jZ x^Aq (G l R i B _ C j) λf S k=>?_;cases f with
  |next=>
   let#[e,g,m,o]:=k;let#[p,q,r]:=E e g o;exact#[p,q,e,g,m,r]
  |cont=>
   let#[e,g,m,o]:=k;let#[p,q,r]:=E e g o;exact#[p,q,e,g,m,r]
  |brk=>exact k
  |ret v=>exact k
 |false=>
  rw[if_neg gE];exact jy #[i,B,C,j]
end
structure It where
 go:Nat->Hp->Prop
 yld:Nat->Hp->V->Hp->Prop
 stop:Nat->Hp->Prop
def Ft(X:Cx)(a:r_ (Ch×Obj))(H:Hp)(b:Ch):Prop:=
 H b=o_/\b≠X.env.locals/\b∉X.fs/\(b∈X.ex\/X.s₀.heap.objs.size<=b)/\(∀x c,X.env.cells.lookup x=P3 c->c≠b)/\∀p∈X.pn++a,p.1≠b
def Inv.fpOk{X:Cx}{d:r_ (Ch×Obj)}{g:St}{H f:Hp}{s:No}{b:Ch}(I:Inv X d g H s)(a:s.heap.objs.size<=b)(h:f b=o_):Ft X d f b:=by
 refine#[h,jU^gL I.lt a,I.nofs a,.inr^gN I.sz a,λx c e z=>?_,λp i z=>?_]
 .let#[v,q]:=I.cell x c e
  exact absurd (gL q.lt^by rw[z];exact a)^hU _
 .exact absurd (gL (TW (I.pin p i).1)^by rw[z];exact a)^hU _
structure Turn (P:gC) (w:gJ) (K:Frag) (tg:gI) (J:It) (fp:List Ch) (it:Ch) (tn:Nat->gA->Prop):Prop where
 mem:it∈fp
 obj:∀i h,tn i h->∀b∈fp,∃o,h.get? b=P3 o/\∀v,o.data≠.cell v
 keep:∀i h h',tn i h->(∀b∈fp,∀o,h.get? b=P3 o->h'.get? b=P3 o)->tn i h'
 item:∀(X:Cx),X.prog=P->X.w=w->X.K=K->X.calm=p_->∀(i:Nat) (zF:List (Ch×Obj)) (s:No) (σ:St) (H:Hp) (E:Db->No->Prop),Inv X zF σ H s->(∀b∈fp,Ft X zF H b)->tn i s.heap->J.go i H->
  wpAny (model P w) X.A (pyNext^.ref it) (λr s1=>∃u,r=P3 u /\
   wpAny (model P w) X.A (letOwnedTupleGo tg (.ref it) u) (λ_ s2=>∃x H',Inv X zF σ H' s2/\RelV x u/\J.yld i H x H'/\tn (i+1) s2.heap/\∀b∈fp,H' b=o_) E s1) E s
 done:∀(X:Cx),X.prog=P->X.w=w->X.K=K->X.calm=p_->∀(i:Nat) (zF:List (Ch×Obj)) (s:No) (σ:St) (H:Hp) (E:Db->No->Prop),Inv X zF σ H s->(∀b∈fp,Ft X zF H b)->tn i s.heap->J.stop i H->
  wpAny (model P w) X.A (pyNext^.ref it) (λr s1=>r=o_/\Inv X zF σ H s1) E s
 self:∀(A:gX) (i:Nat) (s:No) (Q:Db->No->Prop) (E:Db->No->Prop),tn i s.heap->Q (.ref it) s->wpAny (model P w) A (pyIter^.ref it) Q E s
abbrev TI:=St->Hp->(It->Hp->Prop)->Prop
def fQ(X:Cx)(d:r_ (Ch×Obj))(i:St)(j:gI)(R:It->Hp->Prop)(a:Db)(e:No):Prop:=
 ∃(f:Ch) (g:r_ Ch) (h:Nat->gA->Prop) (J:It) (c:Hp),a=.ref f/\Inv X d i c e/\Turn X.prog X.w X.K j J g f h/\h 0 e.heap/\(∀b∈g,Ft X d c b)/\R J c
def PI(X:Cx)(d a:gI)(e:TI):Prop:=
 ∀(c:r_ (Ch×Obj)) (s:No) (b:St) (H:Hp) (R:It->Hp->Prop),Inv X c b H s->e b H R->
  wpAny (model X.prog X.w) X.A (eval a X.env) (λv f=>wpAny (model X.prog X.w) X.A (pyIter v) (fQ X c b d R) X.xe f) X.xe s
def PD {M:Model}{A:gX}{E:Db → No → Prop}{s:No}{b:gI}{c:Ch}{u:Db}{o:Obj}{n:String}{d:Array Db}{Q:Unit → No → Prop} (e:s.heap.get? c=P3 o) (f:o.cls=.type n) (g:o.data=.fields d)
    (h:["enumerate","zip","dict_itemiterator","dict_reverseitemiterator","odict_iterator","itertools.zip_longest","itertools.pairwise"].contains n=q_) (a:Q () s):wpAny M A (letOwnedTupleGo b (.ref c) u) Q E s:=by
  unfold letOwnedTupleGo
  cases b <;>first
    |exact On a
    |(cases u <;>first
        |exact On a
        | (refine Cn^wpAny_load e ?_
           rw[f,g];show wpAny M A (if(["enumerate","zip","dict_itemiterator","dict_reverseitemiterator","odict_iterator","itertools.zip_longest","itertools.pairwise"].contains n && d[0]?==P3^rawInt _)=p_ then _ else _) Q E s;rw[if_neg^by grind];exact On a))
def fA(K:Frag)(a:Ch):It:=
 #[λi H=>∃b x,SqL K H a b/\b[i]?=P3 x,λi H x c=>c=H/\∀b,SqL K H a b->b[i]?=P3 x,λi H=>∃b,SqL K H a b/\b.length<=i]
def Z0(K:Frag)(a:Ch):It:=
 #[λi H=>∃b x,SqT K H a b/\b[i]?=P3 x,λi H x c=>c=H/\∀b,SqT K H a b->b[i]?=P3 x,λi H=>∃b,SqT K H a b/\b.length<=i]
def cx(lo:Int)(n:Nat):It:=#[λi _=>i<n,λi H x a=>a=H/\x=.int (lo+i),λi _=>n<=i]
def P2{P:gC}{w:gJ}{K:Frag}{R:gI}(a g:Ch):Turn P w K R (fA K a) [g] g (λi h=>h.IsListIter g a i) where
 mem:=by simp
 obj:=λi h f b j=>by
  have e:b=g:=by simpa using j
  subst e;let#[o,e,c,d]:=f;exact#[o,e,λv z=>by rw[d]at z;cases z]
 keep:=λi h m f k=>f.at λo e=>k g (by simp) o e
 item:=by
  intro X r t y N i O s Q H E I n f A;subst r t y;let#[S,x,q,B]:=A;let#[C,D,p,T]:=I.list q;let#[u,U,V]:=D.get B;let#[F,G,W,J,L,M]:=n g (by simp);refine wpAny_pyNext_list_item f p.isList (x:=u) (by simpa using U) λm l Y=>?_;have Z:Inv X O Q H {s with heap:=m}:=I.turned (t':=s.toks) (λb o j e=>(Y.2 b j).trans e) F G J L M;let#[o,e,c,d]:=id l;exact#[u,rfl,PD (s:={s with heap:=m}) e c d (by cbv) #[x,H,Z,V,#[rfl,λys hy=>by rw[I.list_inj hy q];exact B],l,λb j=>(n b j).1]]
 done:=by
  intro X r t y N i O s Q H E I n f A;subst r t y;let#[S,q,B]:=A;let#[C,D,p,T]:=I.list q;let#[F,G,W,J,L,M]:=n g (by simp);have hl:=D.length;exact wpAny_pyNext_list_end (I.ok.hd N) f p.isList (by simp;lk) λm eb=>#[rfl,I.turned (t':=s.toks) (λb o j e=>eb b o j e) F G J L M]
 self:=λ_ _ _ _ _ f h=>wpAny_pyIter_listiter f h
def HP{P:gC}{w:gJ}{K:Frag}{R:gI}(a g:Ch):Turn P w K R (Z0 K a) [g] g (λi h=>h.IsTupleIter g a i) where
 mem:=by simp
 obj:=λi h f b j=>by
  have e:b=g:=by simpa using j
  subst e;let#[o,e,c,d]:=f;exact#[o,e,λv z=>by rw[d]at z;cases z]
 keep:=λi h n f k=>f.at λo e=>k g (by simp) o e
 item:=by
  intro X t y A N i O s Q H E I q f B;subst t y A;let#[S,x,r,C]:=B;let#[l,D,p,T]:=I.tuple r;let#[u,U,V]:=D.get C;let#[F,G,W,J,L,M]:=q g (by simp);refine wpAny_pyNext_tuple_item f (show s.heap.IsTuple a l.toArray from p) (x:=u) (by simpa using U) λn m Y=>?_;have Z:Inv X O Q H {s with heap:=n}:=I.turned (t':=s.toks) (λb o j e=>(Y.2 b j).trans e) F G J L M;let#[o,e,c,d]:=id m;exact#[u,rfl,PD (s:={s with heap:=n}) e c d (by cbv) #[x,H,Z,V,#[rfl,λys hy=>by rw[I.tuple_inj hy r];exact C],m,λb j=>(q b j).1]]
 done:=by
  intro X t y A N i O s Q H E I q f B;subst t y A;let#[S,r,C]:=B;let#[l,D,p,T]:=I.tuple r;let#[F,G,W,J,L,M]:=q g (by simp);have hl:=D.length;exact wpAny_pyNext_tuple_end (I.ok.hd N) f (show s.heap.IsTuple a l.toArray from p) (by simp;lk) λn eb=>#[rfl,I.turned (t':=s.toks) (λb o j e=>eb b o j e) F G J L M]
 self:=λ_ _ _ _ _ f h=>wpAny_pyIter_tupleiter f h
def NA{P:gC}{w:gJ}{K:Frag}{G:gI}(c:Ch)(g:Int)(n:Nat):Turn P w K G (cx g n) [c] c (λi h=>IsRangeIter h c (g+(i:Nat)*1) ((n:Int) - (i:Nat)) 1) where
 mem:=by simp
 obj:=λi h a b d=>by
  simp_all
 keep:=λi h j a k=>k c (by simp) _ a
 item:=by
  intro X m p q r i C s D H E I l a u;subst m p q;let#[x,y,J,z,A,B]:=l c (by simp);have W:=Walks.range (prog:=X.prog) (w:=X.w) (I.ok.hd r) c g 1 n;refine W.item i s _ _ u a λv j F L f M=>?_;let#[t,rfl]:=L;have N:Inv X C D H {s with heap:=j,toks:=F}:=I.turned (λb o d e=>M b o (by simpa using d) e) x y z A B;refine#[_,rfl,PD (s:={s with heap:=j,toks:=F}) (n:="range_iterator") f rfl rfl (by cbv) #[.int (g+i),H,N,#[t,?_],#[rfl,rfl],f,λb d=>(l b d).1]];rw[Int.mul_one]
 done:=by
  intro X m p q r i C s D H E I l a u;subst m p q;let#[x,y,J,z,A,B]:=l c (by simp);exact wpAny_pyNext_range_end (I.ok.hd r) a (by have:n<=i:=u;lk) λj O=>#[rfl,I.turned (t':=s.toks) (λb o d e=>O b o d e) x y z A B]
 self:=λ_ _ _ _ _ a h=>wpAny_pyIter_rangeiter a h
section
variable {X:Cx}{tg:Expr}
def eE(K:Frag)(b:TE):TI:=λc H R=>b c H λx H1=>∃a,x=.ref a/\(∃d,SqT K H1 a d)/\R (Z0 K a) H1
def SR{l:gI}{d:TE}(f:PE X l d):PI X tg l^eE X.K d:=by
 intro r s g H R I h;refine Aq (f _ s g H _ I h) λv i #[x,H1,c,j,k]=>?_;let#[a,e,#[t,m],q]:=k;subst e;cases j;let#[n,u,p,w]:=c.tuple m;refine iJ (p) ?_;refine#[_,_,_,_,H1,rfl,c.kept λb o e=>FM _ e,HP a _,#[_,Sc _ rfl,rfl,rfl],λb y=>?_,q];have e:b=i.heap.objs.size:=by grind
 subst e;exact c.fpOk (Rs _)^c.hok.fresh^Rs _
def Lz{d:r_ (Ch×Obj)}{f:St}{H:Hp}{s:No}{R:It->Hp->Prop}{E:Db->No->Prop}{a c:Int}{t u v:Tok}{g:Nat}(I:Inv X d f H s)(h1:-(2 ^ 62)<=a)(i:a<2 ^ 62)(j:-(2 ^ 62)<=c)(k:c<2 ^ 62)
  (q:R (cx a (c - a).toNat) H):wpAny (model X.prog X.w) X.A (pyIter^.ref s.heap.objs.size) (fQ X d f tg R) E {s with heap:=s.heap.push {cls:=.type "range",data:=.fields #[ .int a t,.int c u,.int 1 v]},toks:=g}:=by
 refine wpAny_pyIter_range (IsRange.new ..) (small_one h1 i j k) ?_;have h:Inv X d f H {s with heap:=s.heap.push {cls:=.type "range",data:=.fields #[ .int a t,.int c u,.int 1 v]},toks:=g}:=I.kept λb o e=>FM _ e
 refine#[(s.heap.push {cls:=.type "range",data:=.fields #[ .int a t,.int c u,.int 1 v]}).objs.size,[(s.heap.push {cls:=.type "range",data:=.fields #[ .int a t,.int c u,.int 1 v]}).objs.size],_,_,H,rfl,
  h.kept (t':=g) λb o e=>FM _ e,NA _ a (c - a).toNat,?_,λb l=>?_,q]
 .have m:a+((0:Nat):Int)*1=a:=by simp
  have n:(((c - a).toNat:Nat):Int) - ((0:Nat):Int)=Builtin.Range.rangeSize a c 1:=by rw[rangeSize_one];grind
  show IsRangeIter _ _ (a+((0:Nat):Int)*1) ((((c - a).toNat:Nat):Int) - ((0:Nat):Int)) 1;rw[m,n];exact Sc _ rfl
 .have e:b=(s.heap.push {cls:=.type "range",data:=.fields #[ .int a t,.int c u,.int 1 v]}).objs.size:=by simpa using l
  subst e;exact h.fpOk (Rs _)^h.hok.fresh^Rs _
def bd(a:TA):TI:=λb H R=>a b H λc H1=>∃j:Int,c=[.int j]/\-(2 ^ 62)<=j/\j<2 ^ 62/\R (cx 0 j.toNat) H1
def bc(a:TA):TI:=λb H R=>a b H λc H1=>∃i j:Int,c=[.int i,.int j]/\(-(2 ^ 62)<=i/\i<2 ^ 62/\-(2 ^ 62)<=j/\j<2 ^ 62)/\R (cx i (j - i).toNat) H1
def QJ{a:gI}{c:TA}{p pos:Pos}(d:Gl X "range")(f:X.mg "range"=o_)(g:PA X [a] c)(i:starEach [a] X.env=[(q_,eval a X.env)]:=by rfl):PI X tg (.Call (.Name "range" p) [a] [] pos)^bd c:=by
 intro u s k H R I h;refine Call_^C1 I d f boot_range (iF (Aq (g _ _ s k H _ I h) λv w #[x,H1,l,m,b]=>?_) i rfl);let#[j,e,b,n,q]:=b;subst e;cases m with
 |cons r o=>
  cases o;let#[t,rfl]:=r;exact call_range_1^Lz l (by lk) (by lk) b n^by simpa using q
def QI{a b:gI}{g:TA}{p pos:Pos}(k:Gl X "range")(l:X.mg "range"=o_)(m:PA X [a,b] g)(n:starEach [a,b] X.env=[(q_,eval a X.env),(q_,eval b X.env)]:=by rfl)(c:starEach [b] X.env=[(q_,eval b X.env)]:=by rfl):
  PI X tg (.Call (.Name "range" p) [a,b] [] pos) (bc g):=by
 intro A s o H R I h;refine Call_ (C1 I k l boot_range^iF (Aq (m _ _ s o H _ I h) λB C #[D,H1,u,v,d]=>?_) (by rw[n,c])^by rw[c];rfl);let#[i,j,e,#[d,w,x,y],q]:=d;subst e;cases v with
 | cons r f=>
  cases f with
  |cons z f=>
   cases f;let#[t,rfl]:=r;let#[E,rfl]:=z;exact call_range_2^Lz u d w x y q
def de(e:TI)(g:TG)(f:TS):TS:=λD a H=>e a H λJ H1=>∃W:Nat->Nat->St->Hp->Prop,(∃m,W 0 m a H1)/\∀i m a H,W i m a H->
 (J.stop i H/\D.nx a H)\/(J.go i H/\∃N:St->Hp->Prop,(∀c b,N c b->∃d,d<m/\W (i+1) d c b)/\∀x b,J.yld i H x b->g x a b λh j=>f {D with nx:=N,ct:=N,bk:=D.nx} h j)
def Hf(a:r_ Ch)(h:gA):r_ (Ch×Obj):=a.filterMap λb=>(h.get? b).map λo=>(b,o)
def Dh{a:r_ Ch}{h:gA}{b:Ch}{o:Obj}(c:b∈a)(e:h.get? b=P3 o):(b,o)∈Hf a h:=mJ.mpr #[b,c,by rw[e];rfl]
def QT{a:r_ Ch}{h:gA}{p:Ch×Obj}(c:p∈Hf a h):p.1∈a/\h.get? p.1=P3 p.2:=by
 let#[b,f,e]:=mJ.mp c;cases q:h.get? b with
 |none=>grind
 |some o=>
  rw[q]at e;have d:=XV e;subst d
  simp_all
def Inv.pinned{a:r_ (Ch×Obj)}{f:St}{H:Hp}{s:No}{c:r_ Ch}(I:Inv X a f H s)(h:∀b∈c,Ft X a H b)(i:∀b∈c,∃o,s.heap.get? b=P3 o/\∀v,o.data≠.cell v):Inv X (a++Hf c s.heap) f H s:=
 I.pins_of λp j=>(gM.mp j).elim (λz=>I.pin p^gH _ z) λz=>by
  let#[g,e]:=QT z;let#[k,l,m,_]:=h _ g;let#[o,n,d]:=i _ g
  grind
def Inv.unpinned{a pl:r_ (Ch×Obj)}{b:St}{H:Hp}{s:No}(I:Inv X (a++pl) b H s):Inv X a b H s:=I.pins_of λp c=>I.pin p^gH _^iS _ c
def Kf{a:gI}{t:r_ iD}{wi:TI}{g:TG}{tb:TS}{pos:Pos}(C:nG (model X.prog X.w) X.A X.env X.xe)(hc:X.calm=p_)(hi:PI X tg a wi)(hg:PG X tg g)(c:PSs X t tb)
  (hs:∀x,foldedSetIterable a X.env x=pure x:=by intro _;rfl):PS X (.For tg a t [] pos)^de wi g tb:=by
 intro z s σ H D I h;refine wpAny_For (Aq (hi z s σ H _ I h) λv s1 h1=>Aq h1 λa0 s2 h2=>?_) hs;let#[it,E,tn,J,H2,e,I2,T,R,f2,W,#[m0,w0],F]:=h2;subst e;have j:∀{q:Hp},(∀b∈E,q b=o_)->∀b∈E,Ft X z q b:=λhn b c=>#[hn b c,(f2 b c).2];refine codeAny_forLoop_any (λn s'=>∃i G q,Inv X z G q s'/\tn i s'.heap/\(∀b∈E,q b=o_)/\W i n G q) ?_ m0 #[0,σ,H2,I2,R,λb c=>(f2 b c).1,w0];rintro n s3 ⟨i,K,Q,I3,L,M,w3⟩
 rcases F i n K Q w3 with⟨O,qn⟩|⟨go,N,hN,step⟩
 .refine jZ C^Aq (T.done X rfl rfl rfl hc i z s3 K Q X.xe I3 (j M) L O) λr s4 #[S,I4]=>?_
  subst S;exact jy #[K,Q,I4,qn]
 .refine jZ C^Aq (T.item X rfl rfl rfl hc i z s3 K Q X.xe I3 (j M) L go) λr s4 #[u,S,h4]=>?_
  subst S;refine jZ C^Aq h4 λ_ s5 #[x,H5,I5,r5,y5,B,U]=>?_;have V:=I5.pinned (j U)^T.obj _ _ B;refine jZ C^Aq (hg _ s5 K H5 x u _ V r5^step x H5 y5) λ_ s6 #[Y,H6,I6,q6]=>?_;refine jZ C^Aq (c _ s6 Y H6 _ I6 q6) λf Z y=>?_
  have again:∀{k:St}{l:Hp},Inv X (z++Hf E s5.heap) k l Z->N k l->∃m,m<n/\∃i G q,Inv X z G q Z/\tn i Z.heap/\(∀b∈E,q b=o_)/\W i m G q:=λ{k l} p P=>by
   let#[m',hm,w7]:=hN k l P;refine#[m',hm,i+1,k,l,p.unpinned,T.keep _ _ _ B λb c o e=>(p.pin (b,o)^gH _^gH _^Dh c e).1,λb c=>?_,w7];let#[o,e,d]:=T.obj _ _ B b c;exact(p.pin (b,o)^gH _^gH _^Dh c e).2.1
  cases f with
  |next=>let#[k,l,p,P]:=y;exact again p P
  |cont=>let#[k,l,p,P]:=y;exact again p P
  |brk=>let#[k,l,p,y]:=y;exact#[k,l,p.unpinned,y]
  |ret v=>let#[x7,k,l,p,r7,y]:=y;exact#[x7,k,l,p.unpinned,r7,y]
end
def PJ{K:Frag}{a:Ch}{xs:r_ V}{g:TG}{l:TS}{D:Ends}{b:St}{H:Hp}(c:Nat->St->Hp->Prop)(o:c 0 b H)(r:∀i b H,i<=xs.length->c i b H->SqT K H a xs)
  (s:∀i x b H,xs[i]?=P3 x->c i b H->g x b H λf h=>l {D with nx:=c (i+1),ct:=c (i+1),bk:=D.nx} f h) (t:∀b H,c xs.length b H->D.nx b H):
  ∃W:Nat->Nat->St->Hp->Prop,(∃m,W 0 m b H)/\∀i m b H,W i m b H->
   ((Z0 K a).stop i H/\D.nx b H)\/((Z0 K a).go i H/\∃N:St->Hp->Prop,(∀j d,N j d->∃n,n<m/\W (i+1) n j d)/\∀x d,(Z0 K a).yld i H x d->g x b d λf h=>l {D with nx:=N,ct:=N,bk:=D.nx} f h):=by
 exists λi m b H=>m=xs.length - i/\i<=xs.length/\c i b H,#[xs.length,by simp,gK _,o];rintro i m b H ⟨rfl,u,p⟩;have q:=r i b H u p
 by_cases k:i<xs.length
 .refine .inr #[#[xs,xs[i],q,by simp],_,λj d v=>#[_,by lk,rfl,k,v],λx d y=>?_]
  let#[e,y]:=y;subst e;exact s i x b _ (y xs q) p
 .have e:i=xs.length:=by lk
  subst e;exact .inl #[#[xs,q,Rs _],t b H p]
abbrev R2:=V->V->Hp->VK->Prop
def OpR(X:Cx)(f:Db->Db->Sem Db)(r:R2):Prop:=
 ∀(a:r_ (Ch×Obj)) (s:No) (b:St) (H:Hp) (x y:V) (v u:Db) (Q:VK),Inv X a b H s->RelV x v->RelV y u->r x y H Q->
  wpAny (model X.prog X.w) X.A (f v u) (EP X a b Q) X.xe s
def ej(X:Cx)(f:Db->Sem Db)(r:V->Hp->VK->Prop):Prop:=
 ∀(a:r_ (Ch×Obj)) (s:No) (b:St) (H:Hp) (x:V) (v:Db) (Q:VK),Inv X a b H s->RelV x v->r x H Q->
  wpAny (model X.prog X.w) X.A (f v) (EP X a b Q) X.xe s
def CallR(X:Cx)(f:Db)(r:r_ V->Hp->VK->Prop):Prop:=
 ∀(a:r_ (Ch×Obj)) (s:No) (b:St) (H:Hp) (c:r_ V) (d:r_ Db) (Q:VK),Inv X a b H s->Vals c d->r c H Q->
  wpAny (model X.prog X.w) X.A (call f d) (EP X a b Q) X.xe s
def e6(X:Cx)(r:V->Hp->(Bool->Hp->Prop)->Prop):Prop:=
 ∀(a:r_ (Ch×Obj)) (s:No) (b:St) (H:Hp) (x:V) (v:Db) (Q:Bool->Hp->Prop),Inv X a b H s->RelV x v->r x H Q->
  wpAny (model X.prog X.w) X.A (truthy v) (TP X a b Q) X.xe s
def C8(r:R2)(b c:TE):TE:=λa H Q=>b a H λx H1=>c a H1 λy d=>r x y d Q
def fc(r:V->Hp->VK->Prop)(a:TE):TE:=λb H Q=>a b H λx H1=>r x H1 Q
def rI(C:Int->Int->Prop)(g:Int->Int->V):R2:=λx y H Q=>∃i j,x=.int i/\y=.int j/\C i j/\Q (g i j) H
def Gr(g:Int->Int->V):R2:=λx y H Q=>∃i j,x=.int i/\y=.int j/\Q (g i j) H
def rU(g:Int->V):V->Hp->VK->Prop:=λx H Q=>∃i,x=.int i/\Q (g i) H
section
variable {X:Cx}{a b:Expr}{ta tb:TE}{pos:Pos}
def Zg(k:PE X a ta)(l:PE X b tb){j:r_ (Ch×Obj)}{s:No}{c:St}{H:Hp}{R:V->V->Hp->Prop}(I:Inv X j c H s)
  (h:ta c H λx H1=>tb c H1 λy d=>R x y d) {Q:Db->No->Prop}{f:Db->Db->Sem Db}
  (m:∀v u i x y d,Inv X j c d i->RelV x v->RelV y u->R x y d->wpAny (model X.prog X.w) X.A (f v u) Q X.xe i):
  wpAny (model X.prog X.w) X.A (eval a X.env) (λv e=>wpAny (model X.prog X.w) X.A (eval b X.env) (λu g=>wpAny (model X.prog X.w) X.A (f v u) Q X.xe g) X.xe e) X.xe s:=Aq (k _ s c H _ I h) λv n #[x,H1,o,p,q]=>Aq (l _ n c H1 _ o q) λu i #[y,d,r,t,z]=>m v u i x y d r p t z
def BS{c:Operator}{r:R2}(d:OpR X (binaryOp c) r)(e:PE X a ta)(f:PE X b tb):PE X (.BinOp a c b pos)^C8 r ta tb:=λn s g H Q I h=>wpAny_BinOp^Zg e f I h λv u i x y j k l m q=>d _ i g j x y v u Q k l m q
def bK{c:UnaryOp}{r:V->Hp->VK->Prop}(e:ej X (unaryOp c) r)(f:PE X a ta):PE X (.UnaryOp c a pos)^fc r ta:=λl s d H Q I h=>UnaryOp_^Aq (f _ s d H _ I h) λv g #[x,H1,i,j,k]=>e _ g d H1 x v Q i j k
def dA{f:Db->Db->Sem Db}{C:Int->Int->Prop}{g:Int->Int->Int}
  (c:∀(i j:Int) (t u:Tok) (s:No) (Q:Db->No->Prop) (E:Db->No->Prop),C i j->Q (.int (g i j) s.toks) {s with toks:=s.toks+1}->wpAny (model X.prog X.w) X.A (f (.int i t)^.int j u) Q E s):
  OpR X f (rI C λi j=>.int^g i j):=by
 intro m s n H x y v u Q I d e h;let#[i,j,rfl,rfl,k,q]:=h;let#[t,rfl]:=d;let#[l,rfl]:=e;exact c i j t l s _ _ k #[.int _,H,I.tok _,#[_,rfl],q]
def bR{f:Db->Db->Sem Db}{g:Int->Int->Int}
  (c:∀(i j:Int) (t u:Tok) (s:No) (Q:Db->No->Prop) (E:Db->No->Prop),Q (.int (g i j) s.toks) {s with toks:=s.toks+1}->wpAny (model X.prog X.w) X.A (f (.int i t)^.int j u) Q E s):
  OpR X f (Gr λi j=>.int^g i j):=by
 intro l s m H x y v u Q I d e h;let#[i,j,rfl,rfl,q]:=h;let#[t,rfl]:=d;let#[k,rfl]:=e;exact c i j t k s _ _ #[.int _,H,I.tok _,#[_,rfl],q]
def VM{f:Db->Db->Sem Db}{g:Int->Int->Bool}
  (c:∀(i j:Int) (t u:Tok) (s:No) (Q:Db->No->Prop) (E:Db->No->Prop),Q (.bool^g i j) s->wpAny (model X.prog X.w) X.A (f (.int i t)^.int j u) Q E s):
  OpR X f (Gr λi j=>.bl^g i j):=by
 intro l s m H x y v u Q I d e h;let#[i,j,rfl,rfl,q]:=h;let#[t,rfl]:=d;let#[k,rfl]:=e;exact c i j t k s _ _ #[.bl _,H,I,rfl,q]
def WV(i j:Int):Prop:=0<j/\j<1073741824
def Z6(i j:Int):Prop:=0<=j/\j<=1000000/\i.natAbs<2 ^ 64
def CMul(i j:Int):Prop:=(-(2 ^ 64)<i/\i<2 ^ 64)\/(-(2 ^ 64)<j/\j<2 ^ 64)
def CMul.ok{i j:Int}(h:CMul i j):IntMulOk i j:=by
 rcases h with⟨c,d⟩|⟨c,d⟩
 .exact .of_left^intBits_le_64 c d
 .exact .of_right^intBits_le_64 c d
def op_add:OpR X (binaryOp .Add) (Gr λi j=>.int (i+j)):=bR λ_ _ _ _ _ _ _ q=>add_int q
def op_sub:OpR X (binaryOp .Sub) (Gr λi j=>.int (i - j)):=bR λ_ _ _ _ _ _ _ q=>sub_int q
def op_mul:OpR X (binaryOp .Mult) (rI CMul λi j=>.int (i*j)):=dA λ_ _ _ _ _ _ _ c q=>mul_int q c.ok
def Km:OpR X (binaryOp .FloorDiv) (rI WV λi j=>.int (i / j)):=dA λi j _ _ _ _ _ c q=>by
 have d:=c.1;have e:=c.2;exact floordiv_int (by lk) (by grind)^.inl^PyProof.noPylong_small^by lk
def Cy:OpR X (binaryOp .Mod) (rI (λ_ j=>0<j) λi j=>.int (i % j)):=dA λi j _ _ _ _ _ c q=>mod_int' (by lk)^by rw[Int.fmod_eq_emod_of_nonneg i^by lk];exact q
def Sk:OpR X (binaryOp .Pow) (rI Z6 λi j=>.int (i ^ j.toNat)):=dA λ_ _ _ _ _ _ _ c q=>pow_int_small c.1 c.2.1 c.2.2 q
def fZ{f:Db->Sem Db}{g:Int->Int}
  (c:∀(i:Int) (t:Tok) (s:No) (Q:Db->No->Prop) (E:Db->No->Prop),Q (.int (g i) s.toks) {s with toks:=s.toks+1}->wpAny (model X.prog X.w) X.A (f^.int i t) Q E s):
  ej X f (rU λi=>.int^g i):=by
 intro e s j H x v Q I d h;let#[i,rfl,q]:=h;let#[t,rfl]:=d;exact c i t s _ _ #[.int _,H,I.tok _,#[_,rfl],q]
def X2:ej X (unaryOp .USub) (rU λi=>.int (-i)):=fZ λ_ _ _ _ _ q=>neg_int q
end
def aj:V->V->Bool
 |.non,.non=>p_|.non,.int _=>p_|.int _,.non=>p_|.non,.bl _=>p_|.bl _,.non=>p_|.non,.str _=>p_|.str _,.non=>p_
 |.int _,.int _=>p_|.bl _,.bl _=>p_|.str _,.str _=>p_|.byt _,.byt _=>p_
 |.int _,.str _=>p_|.str _,.int _=>p_|.bl _,.str _=>p_|.str _,.bl _=>p_
 |_,_=>q_
def fJ:R2:=λx y H Q=>aj x y=p_/\Q (.bl (decide (x=y))) H
def fG:R2:=λx y H Q=>aj x y=p_/\Q (.bl (!decide (x=y))) H
def HD{i j:Int}:decide (V.int i=V.int j)=(i==j):=by
 rw[gi];simp
def LH{i j:Bool}:decide (V.bl i=V.bl j)=(i==j):=by
 rw[gi];simp
def HC{i j:Str}:decide (V.str i=V.str j)=(i==j):=by
 rw[gi];simp
def PZ{i j:Array UInt8}:decide (V.byt i=V.byt j)=(i.toList==j.toList):=by
 rw[gi]
 simp_all
section
variable {X:Cx}{a b c:Expr}{ta tb tc:TE}{pos:Pos}
def Ad{c:r_ (Ch×Obj)}{d:St}{H:Hp}{s:No}{Q:VK}{k f:Bool}(I:Inv X c d H s)(q:Q (.bl k) H)(e:k=f):EP X c d Q (.bool f) s:=by
 subst e;exact#[.bl k,H,I,rfl,q]
def A6:OpR X (compareOp .Eq) fJ:=by
 intro g s k H x y v u Q I f c h;let#[e,q]:=h;cases x with
 |non=>
  cases f;cases y with
  |non=>cases c;exact PySem.EqNone.eq_none_none^Ad I q^by simp
  |bl j=>cases c;exact PySem.EqNone.eq_none_bool^Ad I q^by simp
  |int j=>let#[d,rfl]:=c;exact PySem.EqNone.eq_none_int^Ad I q^by simp
  |str j=>let#[d,rfl]:=c;exact PySem.EqNone.eq_none_str^Ad I q^by simp
  |_=>exact absurd (show q_=p_ from e) gE
 |bl i=>
  cases f;cases y with
  |non=>cases c;exact PySem.EqNone.eq_bool_none^Ad I q^by simp
  |bl j=>cases c;exact eq_bool^Ad I q LH
  |str j=>let#[d,rfl]:=c;exact PySem.EqMixed.eq_bool_str^Ad I q^by simp
  |_=>exact absurd (show q_=p_ from e) gE
 |int i=>
  let#[t,rfl]:=f;cases y with
  |non=>cases c;exact PySem.EqNone.eq_int_none^Ad I q^by simp
  |int j=>let#[d,rfl]:=c;exact eq_int^Ad I q HD
  |str j=>let#[d,rfl]:=c;exact PySem.EqMixed.eq_int_str^Ad I q^by simp
  |_=>exact absurd (show q_=p_ from e) gE
 |str i=>
  let#[t,rfl]:=f;cases y with
  |non=>cases c;exact PySem.EqNone.eq_str_none^Ad I q^by simp
  |bl j=>cases c;exact PySem.EqMixed.eq_str_bool^Ad I q^by simp
  |int j=>let#[d,rfl]:=c;exact PySem.EqMixed.eq_str_int^Ad I q^by simp
  |str j=>let#[d,rfl]:=c;exact eq_str^Ad I q HC
  |_=>exact absurd (show q_=p_ from e) gE
 |byt i=>
  let#[t,rfl]:=f;cases y with
  |byt j=>let#[d,rfl]:=c;exact PySem.W.eq_bytes^Ad I q PZ
  |_=>exact absurd (show q_=p_ from e) gE
 |_=>cases y <;>exact absurd (show q_=p_ from e) gE
def Jh:OpR X (compareOp .NotEq) fG:=by
 intro g s k H x y v u Q I f c h;let#[e,q]:=h;cases x with
 |non=>
  cases f;cases y with
  |non=>cases c;exact PySem.EqNone.ne_none_none^Ad I q^by simp
  |bl j=>cases c;exact PySem.EqNone.ne_none_bool^Ad I q^by simp
  |int j=>let#[d,rfl]:=c;exact PySem.EqNone.ne_none_int^Ad I q^by simp
  |str j=>let#[d,rfl]:=c;exact PySem.EqNone.ne_none_str^Ad I q^by simp
  |_=>exact absurd (show q_=p_ from e) gE
 |bl i=>
  cases f;cases y with
  |non=>cases c;exact PySem.EqNone.ne_bool_none^Ad I q^by simp
  |bl j=>cases c;exact ne_bool^Ad I q^congrArg not LH
  |str j=>let#[d,rfl]:=c;exact PySem.EqMixed.ne_bool_str^Ad I q^by simp
  |_=>exact absurd (show q_=p_ from e) gE
 |int i=>
  let#[t,rfl]:=f;cases y with
  |non=>cases c;exact PySem.EqNone.ne_int_none^Ad I q^by simp
  |int j=>let#[d,rfl]:=c;exact ne_int^Ad I q^congrArg not HD
  |str j=>let#[d,rfl]:=c;exact PySem.EqMixed.ne_int_str^Ad I q^by simp
  |_=>exact absurd (show q_=p_ from e) gE
 |str i=>
  let#[t,rfl]:=f;cases y with
  |non=>cases c;exact PySem.EqNone.ne_str_none^Ad I q^by simp
  |bl j=>cases c;exact PySem.EqMixed.ne_str_bool^Ad I q^by simp
  |int j=>let#[d,rfl]:=c;exact PySem.EqMixed.ne_str_int^Ad I q^by simp
  |str j=>let#[d,rfl]:=c;exact ne_str^Ad I q^congrArg not HC
  |_=>exact absurd (show q_=p_ from e) gE
 |byt i=>
  let#[t,rfl]:=f;cases y with
  |byt j=>let#[d,rfl]:=c;exact PySem.W.ne_bytes^Ad I q^congrArg not PZ
  |_=>exact absurd (show q_=p_ from e) gE
 |_=>cases y <;>exact absurd (show q_=p_ from e) gE
def op_lt:OpR X (compareOp .Lt) (Gr λi j=>.bl (decide (i<j))):=VM λ_ _ _ _ _ _ _ q=>nO q
def op_le:OpR X (compareOp .LtE) (Gr λi j=>.bl (decide (i<=j))):=VM λ_ _ _ _ _ _ _ q=>le_int q
def W4:OpR X (compareOp .Gt) (Gr λi j=>.bl (decide (j<i))):=VM λ_ _ _ _ _ _ _ q=>gt_int q
def bQ:OpR X (compareOp .GtE) (Gr λi j=>.bl (decide (j<=i))):=VM λ_ _ _ _ _ _ _ q=>ge_int q
def QP:OpR X (compareOp .Lt) (λx y H Q=>∃i j,x=.str i/\y=.str j/\Q (.bl (decide (i.cps.toList<j.cps.toList))) H):=by
 intro e s f H x y v u Q I c d h;let#[i,j,rfl,rfl,q]:=h;let#[t,rfl]:=c;let#[g,rfl]:=d;exact lt_str (Ad I q rfl)
def QR:OpR X (compareOp .In) (λx y H Q=>∃i j,x=.str i/\y=.str j/\Q (.bl (!(iR j i 0 j.length 1).isEmpty)) H):=by
 intro e s f H x y v u Q I c d h;let#[i,j,rfl,rfl,q]:=h;let#[t,rfl]:=c;let#[g,rfl]:=d;exact in_str (Ad I q rfl)
def NV:OpR X (compareOp .Is) (λx y H Q=>y=.non/\Q (.bl (decide (x=.non))) H):=by
 intro e s f H x y v u Q I c d h;let#[rfl,q]:=h;cases d;refine is_none_gen^Ad I q ?_
 cases x <;>first
  |omega
  |(let#[t,rfl]:=c;rfl)
def Ow:OpR X (compareOp .IsNot) (λx y H Q=>y=.non/\Q (.bl (!decide (x=.non))) H):=by
 intro e s f H x y v u Q I c d h;let#[rfl,q]:=h;cases d;refine isnot_none_gen^Ad I q ?_
 cases x <;>first
  |omega
  |(let#[t,rfl]:=c;rfl)
def OpR.or{f:Db->Db->Sem Db}{r c:R2}(h:OpR X f r)(i:OpR X f c):OpR X f (λx y H Q=>r x y H Q\/c x y H Q):=by
 intro j s d H x y v u Q I e g q
 rcases q with q|q
 .exact h _ s d H x y v u Q I e g q
 .exact i _ s d H x y v u Q I e g q
def E3(b:gI){c:CmpOp}(h:c≠.In:=by decide)(f:c≠.NotIn:=by decide):behindInMarks c b=q_:=by
 have d:(c==CmpOp.In)=q_:=by grind
 have e:(c==CmpOp.NotIn)=q_:=by grind
 cases b <;>simp[behindInMarks,d,e]
def VH{c:CmpOp}{r:R2}(d:OpR X (compareOp c) r)(e:PE X a ta)(f:PE X b tb)(g:behindInMarks c b=q_):PE X (.Compare a [c] [b] pos)^C8 r ta tb:=λo s i H Q I h=>wpAny_Compare1 (Zg e f I h λv u j x y k l m n q=>d _ j i k x y v u Q l m n q) g
def OP(t:TE):TT:=λc H Q=>t c H λx d=>∃k,x=.bl k/\Q k d
def EN{d:CmpOp}{r:R2}(g:OpR X (compareOp d) r)(i:PE X a ta)(j:PE X b tb)(l:behindInMarks d b=q_):PT X (.Compare a [d] [b] pos)^OP^C8 r ta tb:=by
 intro G s f H Q I h
 refine wpAny_isTrue_Compare1 (Aq (i _ s f H _ I h) λv m #[x,H1,n,o,p]=>Aq (j _ m f H1 _ n p) λu q #[y,t,w,A,B]=>
  Aq (g _ q f t x y v u _ w o A B) λc J #[z,C,D,E,k,e,F]=>?_) l
 subst e;cases E;exact iG #[C,D,F]
def NF(r e:R2)(ta tb tc:TE):TE:=λc H Q=>ta c H λx H1=>tb c H1 λy f=>r x y f λz d=>∃k,z=.bl k /\
 (if k=p_ then tc c d λg h=>e y g h Q else Q (.bl q_) d)
def Sd{i f:CmpOp}{r l:R2}(q:OpR X (compareOp i) r)(j:OpR X (compareOp f) l)(t:PE X a ta)(w:PE X b tb)(A:PE X c tc)
  (B:lastMarks [i,f] [b,c]=q_:=by with_unfolding_all rfl):PE X (.Compare a [i,f] [b,c] C)^NF r l ta tb tc:=by
 intro Y s g H Q I h
 refine Compare_chain (Aq (t _ s g H _ I h) λv D #[x,H1,E,F,G]=>chain_link (Aq (w _ D g H1 _ E G) λu J #[y,K,L,m,M]=>
  Aq (q _ J g K x y v u _ L F m M) λd N #[z,n,o,O,k,e,p]=>?_)) B
 subst e;cases O;refine iG ?_;cases k with
 |false=>exact ite_ff #[.bl _,n,o,rfl,p]
 |true=>exact ite_tt^chain_last^Aq (A _ N g n _ o p) λP R #[S,T,U,V,W]=>j _ R g T y S u P Q U m V W
def SH{i f:CmpOp}{r l:R2}(q:OpR X (compareOp i) r)(j:OpR X (compareOp f) l)(t:PE X a ta)(w:PE X b tb)(A:PE X c tc)
  (B:lastMarks [i,f] [b,c]=q_:=by with_unfolding_all rfl):PT X (.Compare a [i,f] [b,c] C)^OP^NF r l ta tb tc:=by
 intro zF s g H Q I h
 refine isTrue_chain (Aq (t _ s g H _ I h) λv D #[x,H1,E,F,G]=>test_link (Aq (w _ D g H1 _ E G) λu J #[y,K,L,m,M]=>
  Aq (q _ J g K x y v u _ L F m M) λd N #[z,n,o,O,k,e,p]=>?_)) B
 subst e;cases O;refine iG ?_;cases k with
 |false=>
  let#[k',P,R]:=p;cases P;exact ite_ff #[n,o,R]
 |true=>
  refine ite_tt^test_last^Aq (A _ N g n _ o p) λS T #[U,V,W,Y,Z]=>Aq (j _ T g V y U u S _ W m Y Z) λd' s5 #[z2,H5,I5,r5,k2,e2,q5]=>?_;subst e2;cases r5;exact iG #[H5,I5,q5]
def WP(K:Frag)(x:V)(H:Hp)(k:Bool):Prop:=
 match x with
 |.non=>k=q_
 |.bl b=>k=b
 |.int i=>k=(i !=0)
 |.str y=>y.length<=sizeLine/\k=((y.length:Int) !=0)
 |.byt y=>y.size<=sizeLine/\k=((y.size:Int) !=0)
 |.ref p=>(∃c,SqL K H p c/\k=!c.isEmpty)\/(∃c,SqT K H p c/\k=!c.isEmpty)\/∃d,H p=P3^.dK d/\k=!d.isEmpty
 |_=>False
def Nm{d:Type}{c:r_ (d×V)}{e:r_ (d×Db)}(r:KV c e):(!e.isEmpty)=!c.isEmpty:=by
 cases r <;>rfl
def IB{d:r_ V}{c:r_ Db}(r:Vals d c):(!c.toArray.isEmpty)=!d.isEmpty:=by
 cases r <;>simp
def F7:(sizeLine:Nat)<2 ^ 63:=by cbv
def RQ:e6 X (λx H Q=>∃k,WP X.K x H k/\Q k H):=by
 intro B s C H x v Q I j h;let#[k,e,q]:=h;have D:=F7;have E:sizeLine=16777216:=gn;cases x with
 |non=>
  cases j;have c:k=q_:=e;subst c;exact truthy_none #[H,I,q]
 |bl b=>
  cases j;have c:k=b:=e;subst c;exact iG #[H,I,q]
 |int i=>
  let#[t,rfl]:=j;have c:k=(i !=0):=e;subst c;exact PySem.P.truthy_int #[H,I,q]
 |str y=>
  let#[t,rfl]:=j;obtain⟨z,c⟩:y.length<=sizeLine/\k=((y.length:Int) !=0):=e;subst c;exact PySem.P.truthy_str (by lk) #[H,I.tok _,q]
 |byt y=>
  let#[t,rfl]:=j;obtain⟨z,c⟩:y.size<=sizeLine/\k=((y.size:Int) !=0):=e;subst c;exact PySem.W.truthy_bytes (by lk) #[H,I.tok _,q]
 | ref p=>
  cases j;have c:(∃g,SqL X.K H p g/\k=!g.isEmpty)\/(∃g,SqT X.K H p g/\k=!g.isEmpty)\/∃d,H p=P3^.dK d/\k=!d.isEmpty:=e
  rcases c with⟨g,l,c⟩|⟨g,l,c⟩|⟨d,l,c⟩
  .subst c
   let#[o,r,pl,u]:=I.list l;have f:=r.length;exact wpAny_truthy_list pl.isList (by simp only[f8];lk) #[H,I.tok _,by rw[IB r];exact q]
  .subst c
   let#[o,r,pl,u]:=I.tuple l;have f:=r.length;exact truthy_tuple pl (by simp only[f8];lk) #[H,I.tok _,by rw[IB r];exact q]
  .subst c
   obtain⟨u,A,n,r,m⟩:d.length<=sizeLine/\(p==sysModules)=q_/\∃n,KV d n/\s.heap.DictOf (Ax X.prog X.w) p n:=I.hok p _ l;have f:d.length=n.length:=Paired.length r;exact wpAny_truthy_dict A m (by lk) #[H,I.tok _,by rw[Nm r];exact q]
 |_=>exact(show False from e).elim
def SG(f:PE X a ta)(g:∀c,isTrue a X.env c=(do let v ←c;standAt a.pos;holding [v]^truthy v)):
  PT X a (λd H Q=>ta d H λx e=>∃k,WP X.K x e k/\Q k e):=λn s d H Q I h=>isTrue_plain (Aq (f _ s d H _ I h) λv i #[x,H1,j,l,m]=>RQ _ i d H1 x v Q j l m)^g _
def NX:OpR X (binaryOp .Add) (λx y H Q=>∃i j,x=.str i/\y=.str j/\i.length+j.length<=sizeLine/\Q (.str (i++j)) H):=by
 intro g s k H x y v u Q I c d h;let#[i,j,rfl,rfl,e,q]:=h;let#[t,rfl]:=c;let#[f,rfl]:=d;exact add_str (λf l=>#[.str _,H,I.tok _,#[_,rfl],q]) e
def vals1{x:V}{c:r_ Db}(r:Vals [x] c):∃u,c=[u]/\RelV x u:=by
 cases r with
 |cons e d=>cases d;grind
def vals2{x y:V}{c:r_ Db}(r:Vals [x,y] c):∃u d,c=[u,d]/\RelV x u/\RelV y d:=by
 cases r with
 |cons e f=>
  cases f with
  |cons g h=>cases h;exact#[_,_,rfl,e,g]
def LQ:CallR X (.type "str") (λc H Q=>∃i,c=[.int i]/\i.natAbs.log2<1920/\Q (.str^toString i) H):=by
 intro e s f H c g Q I r h;let#[i,rfl,d,q]:=h;let#[u,rfl,t,rfl]:=vals1 r;exact PySem.P.str_of_int d #[.str _,H,I.tok _,#[_,rfl],q]
def Zz(K:Frag)(x:V)(H:Hp)(n:Nat):Prop:=
 match x with
 |.str y=>y.length<=sizeLine/\n=y.length
 |.byt y=>y.size<=sizeLine/\n=y.size
 |.ref p=>(∃c,SqL K H p c/\n=c.length)\/∃c,SqT K H p c/\n=c.length
 |_=>False
def IV:CallR X (.builtin "len") (λc H Q=>∃x n,c=[x]/\Zz X.K x H n/\Q (.int n) H):=by
 intro o s v H c w Q I r h;let#[x,n,rfl,e,q]:=h;let#[u,rfl,g]:=vals1 r;have z:=F7;have A:sizeLine=16777216:=gn;cases x with
 |str y=>
  let#[t,rfl]:=g;obtain⟨l,f⟩:y.length<=sizeLine/\n=y.length:=e;subst f;exact len_str (by lk) #[.int _,H,I.tok _,#[_,rfl],q]
 |byt y=>
  let#[t,rfl]:=g;obtain⟨l,f⟩:y.size<=sizeLine/\n=y.size:=e;subst f;exact PySem.W.len_bytes (by lk) #[.int _,H,I.tok _,#[_,rfl],q]
 | ref p=>
  cases g;have f:(∃c,SqL X.K H p c/\n=c.length)\/∃c,SqT X.K H p c/\n=c.length:=e
  rcases f with⟨c,i,f⟩|⟨c,i,f⟩
  .subst f
   let#[j,k,pl,m]:=I.list i;have d:=k.length;exact Calls.call_len_list pl.isList (by simp only[f8];lk) #[.int c.length,H,I.tok _,#[_,by simp only[f8];rw[d]],q]
  .subst f
   let#[j,k,pl,m]:=I.tuple i;have d:=k.length;exact len_tuple pl (by simp only[f8];lk) #[.int c.length,H,I.tok _,#[_,by simp only[f8];rw[d]],q]
 |_=>exact(show False from e).elim
end
structure ObjM (h:gA) (x dx C:Ch) (mA:Str->Option Db):Prop where
 obj:h.get? x=P3 (PySem.W.instObj C dx)
 ns:h.Ns1 dx mA
 ne:dx≠x
def Qf{h:gA}{d:Ch}{f:Str->s_ Db}(n:h.Ns1 d f):∃g,h.get? d=P3 g/\∀b,PySem.W.lookIn b g=P3^f b:=by
 let#[o,i,q,j,k,l,_,m]:=n;refine#[o,j,λb=>?_];have e:=m b;unfold nsFind findBy at e;unfold PySem.W.lookIn;rw[k]
 dsimp only
 split
 .simp_all
 .have a:i.toList.any (·.refKey)=q_:=by
   rw[List.any_eq_false];intro y p;let#[z,t,c]:=l y^Array.mem_toList_iff.mp p;simp[DictEntry.refKey,c]
  grind
def ObjM.look{h:gA}{x c C:Ch}{d:Str->s_ Db}(I:ObjM h x c C d):∃b,PySem.W.InstAt h x (PySem.W.instObj C c) C^P3 b/\∀a,PySem.W.lookIn a b=P3^d a:=
 let #[b,e,f]:=Qf I.ns
 #[b,#[I.obj,rfl,rfl,e],f]
section
variable {prog:Program}{w:World}{A:Around}{E:Value->Shared->Prop}{s:Shared}{K:Frag}{x dx C f:Addr}{mA:Str->s_ Value}{name:Str}{v:Value}
def Vc{a:Bool}{Q:Db->No->Prop}(X:K.In s.heap)(I:ObjM s.heap x dx C mA)(c:PySem.W.plainGet K C name=p_)(d:PySem.W.hasDictIn K C=p_)
  (e:PySem.W.findIn K (.ref C) name=P3 o_) (g:mA name=P3 v) (b:PySem.W.handedIn v=p_) (h:Q v {s with toks:=s.toks+1}):
  wpAny (model prog w) A (getAttr (.ref x) name a) Q E s:=by
 let#[j,J,i]:=I.look;exact PySem.W.get_value X J (PySem.W.plainGet_of c).1 (PySem.W.findObj_own d e rfl (by rw[i,g])) b h
def Ta{pl:Sem Bool}{Q:Db×r_ Db->No->Prop}(X:K.In s.heap)(I:ObjM s.heap x dx C mA)(a:PySem.W.plainGet K C name=p_)
  (b:PySem.W.findIn K (.ref C) name=P3^P3^.ref f) (c:PySem.W.isFn K^.ref f=p_) (e:mA name=o_) (h:Q (.ref f,[.ref x]) s):
  wpAny (model prog w) A (getMethod (.ref x) name pl) Q E s:=by
 let#[d,J,g]:=I.look;exact PySem.W.method_fn X J (PySem.W.plainGet_of a).1 (PySem.W.plainGet_of a).2 b (beq_iff_eq.mp c) (by show(PySem.W.lookIn _ d).map _=P3 _;grind) h
def U5{l:r_ Str}{Q:Unit->No->Prop}(X:K.In s.heap)(I:ObjM s.heap x dx C mA)
  (m:PySem.W.findIn K (.ref C) "__setattr__"=P3^P3^.builtin "object.__setattr__") (n:PySem.W.plainOver K C=p_) (o:PySem.W.takerIn K C name=P3 o_) (p:PySem.W.hasDictIn K C=p_)
  (q:PySem.Within mA l) (t:l.length<=sizeLine)
  (h:∀e,ObjM e x dx C (λy=>if y=name then P3 v else mA y)->jB dx s.heap e->Q () {s with heap:=e,toks:=s.toks+2}):
  wpAny (model prog w) A (setAttr (.ref x) name v) Q E s:=by
 let#[F,J,G]:=I.look;refine PySem.W.set_plain X J m^PySem.W.osa_open (s:={s with toks:=s.toks+1}) (r:=o_) X J n o λb=>?_;let#[H,u,g]:=PySem.W.any_some p;have z:=I.obj;refine Cn^On^Cn^Cn^wpAny_loadPart z^Cn^PySem.W.Looks.here (s:={s with toks:=s.toks+1}) (PySem.W.looks_clsIn X u) ?_;rw[g];refine On (a:=P3 dx)^Cn^On^Cn ?_;refine wpAny_nsSet1 (s:={s with toks:=s.toks+1}) I.ns λe c d=>?_;let#[L,B,D,i,j,k]:=c.count^PySem.Within.cons name v q;refine Cn^wpAny_lookBehind i (by rw[j];exact pastItsLine_dict^gN k^by grind) ?_;exact On^h _ #[(d.2 _^gc I.ne).trans I.obj,c,I.ne] d
def S1{R:Result->No->Prop}{a:r_ Db}{b:r_ (Str×Db)}(X:K.In s.heap)(c:PySem.W.makesIn K C=p_)
  (hi:PySem.W.findIn K (.ref C) "__init__"=P3^P3^.ref f) (d:PySem.W.typeIn K^.ref f=P3^.type "function")
  (h:codeAny (model prog w) (A.under^.builtin "type.__call__" #[.ref C::a,b]) (.call (.ref f) #[.ref (s.heap.objs.size+1)::a,b]) (PySem.W.InitBack (s.heap.objs.size+1) R)
   {s with heap:=(s.heap.push PySem.W.emptyDict).push^PySem.W.instObj C s.heap.objs.size}):
  codeAny (model prog w) A (.call (.ref C) #[a,b]) R s:=PySem.W.make_core (PySem.W.makes_of X c) (PySem.W.looks_findIn X hi) (λself=>PySem.W.bind_fn X _ d) (.inl rfl) h
end
def DZ(f:Str)(v:V):r_ (Str×V)->r_ (Str×V)
 |[]=>[(f,v)]
 |(g,x)::r=>if g=f then(g,v)::r else(g,x)::DZ f v r
theorem GX(f g:Str)(v:V):∀c:r_ (Str×V),(DZ f v c).lookup g=if g=f then P3 v else c.lookup g
 |[]=>by
  show j_ g [(f,v)]=_
  by_cases h:g=f
  .simp_all
  simp_all
 | (k,x)::r=>by
  have d:=GX f g v r;rw[show DZ f v ((k,x)::r)=(if k=f then(k,v)::r else(k,x)::DZ f v r)from rfl]
  by_cases a:k=f
  .rw[if_pos a]
   by_cases h:g=k
   .simp_all
   .have b:(g==k)=q_:=beq_eq_false_iff_ne.mpr h
    simp only[j_,b,if_neg λe:g=f=>h^e.trans a.symm]
  .rw[if_neg a]
   by_cases h:g=k
   .simp_all
   .have b:(g==k)=q_:=beq_eq_false_iff_ne.mpr h
    simp only[j_,b];exact d
theorem F9(f:Str)(v:V):∀a:r_ (Str×V),f∈(DZ f v a).map (·.1)/\∀g,g∈a.map (·.1)->g∈(DZ f v a).map (·.1)
 |[]=>#[by simp[DZ],λg h=>by simp at h]
 |(k,x)::r=>by
  let#[b,c]:=F9 f v r;rw[show DZ f v _=(if k=f then(k,v)::r else(k,x)::DZ f v r)from rfl]
  grind
theorem GZ(f:Str)(v:V):∀a:r_ (Str×V),(DZ f v a).length<=a.length+1
 |[]=>by simp[DZ]
 |(k,x)::r=>by
  have b:=GZ f v r;rw[show DZ f v _=(if k=f then(k,v)::r else(k,x)::DZ f v r)from rfl]
  grind
def RelO.some_of{v:V}{o:s_ Db}(r:RelO (P3 v) o):∃u,o=P3 u/\RelV v u:=by
 cases o with
 |none=>exact(r).elim
 |some u=>exact#[u,rfl,r]
def RelO.none_of{o:s_ Db}(r:RelO o_ o):o=o_:=by
 cases o with
 |none=>rfl
 |some u=>exact(r).elim
def Qp{v:V}{u:Db}(r:RelV v u):PySem.W.handedIn u=p_:=by
 cases v with
 |non=>cases(r);rfl
 |bl b=>cases(r);rfl
 |int i=>let#[t,e]:=(r);cases e;rfl
 |str x=>let#[t,e]:=(r);cases e;rfl
 |byt b=>let#[t,e]:=(r);cases e;rfl
 |flt b=>let#[t,e]:=(r);cases e;rfl
 |ref a=>cases(r);rfl
 |ty n=>cases(r);rfl
section
variable {P:Program}{w:World}{H:Hp}{h:Heap}{a C dx:Addr}{fs:r_ (Str×V)}
def G6(hok:HOk P w H h)(e:H a=P3^.vol^.ins C dx fs):∃b,ObjM h a dx C b/\(∀f,RelO (fs.lookup f)^b f)/\PySem.Within b (fs.map (·.1))/\fs.length<=1000/\H dx=P3^.own a:=by
 let#[d,z,c,ob,b,n,r,q]:=(hok a _ e);exact#[b,#[ob,n,c],r,q,z,d]
end
structure Cls (K:Frag) (C:Ch):Prop where
 pg:PySem.W.plainGet K C Str.empty=p_
 hd:PySem.W.hasDictIn K C=p_
 po:PySem.W.plainOver K C=p_
 sa:PySem.W.findIn K (.ref C) "__setattr__"=P3^P3^.builtin "object.__setattr__"
def Cls.get{K:Frag}{C:Ch}(c:Cls K C)(f:Str):PySem.W.plainGet K C f=p_:=c.pg
def NoAttr(K:Frag)(C:Ch)(f:Str):Prop:=PySem.W.findIn K (.ref C) f=P3 o_
def NoAttr.taker{K:Frag}{C:Ch}{f:Str}(n:NoAttr K C f):PySem.W.takerIn K C f=P3 o_:=by
 unfold PySem.W.takerIn;rw[n];rfl
structure f_ (K:Frag) (C:Ch) (f:Str) (v:V) (u:Db):Prop where
 at_:PySem.W.findIn K (.ref C) f=P3 (P3 u)
 rel:RelV v u
 get:PySem.W.specialIn K u "__get__"=P3 o_
 cp:PySem.W.copiedNames.contains f=q_
structure Ug (K:Frag) (C:Ch) (m:Str) (f:Ch):Prop where
 at_:PySem.W.findIn K (.ref C) m=P3 (P3^.ref f)
 fn:PySem.W.isFn K^.ref f=p_
 kp:keepIn K^.ref f=p_
section
variable {X:Cx}{zF:r_ (Addr×Obj)}{σ:St}{H:Hp}{s:Shared}{a C dx:Addr}{fs:r_ (Str×V)}{f:Str}{v:V}{A:Around}{E:Value->Shared->Prop}
def Nu{b:Bool}{Q:Db->No->Prop}(I:Inv X zF σ H s)(e:H a=P3^.vol^.ins C dx fs)(c:Cls X.K C)(n:NoAttr X.K C f)(l:fs.lookup f=P3 v)
  (h:∀u d,Inv X zF σ H d->RelV v u->Q u d):wpAny (model X.prog X.w) A (getAttr (.ref a) f b) Q E s:=by
 let#[i,O,r,_,_,_]:=G6 I.hok e;let#[u,j,g]:=RelO.some_of (v:=v) (o:=i f) (by grind);exact Vc I.kIn O (c.get f) c.hd n j (Qp g)^h u _ (I.tok _) g
def IF{m:Str}{g:Ch}{pl:Sem Bool}{Q:Db×r_ Db->No->Prop}(I:Inv X zF σ H s)(e:H a=P3^.vol^.ins C dx fs)(c:Cls X.K C)(k:Ug X.K C m g)(l:fs.lookup m=o_)
  (h:Q (.ref g,[.ref a]) s):wpAny (model X.prog X.w) A (getMethod (.ref a) m pl) Q E s:=by
 let#[b,O,r,_,_,_]:=G6 I.hok e;exact Ta I.kIn O (c.get m) k.at_ k.fn (RelO.none_of^by grind) h
def NK{y:V}{u:Db}{Q:Unit->No->Prop}(I:Inv X zF σ H s)(e:H a=P3^.vol^.ins C dx fs)(c:Cls X.K C)(n:NoAttr X.K C f)(L:fs.length<1000)(m:RelV y u)
  (h:∀i,Inv X zF σ (AY H a^.vol^.ins C dx^DZ f y fs) i->Q () i):wpAny (model X.prog X.w) A (setAttr (.ref a) f u) Q E s:=by
 let#[j,O,r,k,_,l]:=G6 I.hok e;have p:(fs.map (·.1)).length<=sizeLine:=by rw[Ev,gn];lk
 refine U5 I.kIn O c.sa c.po n.taker c.hd k p λt d B=>h _ ?_;have D:∃o,t.get? dx=P3 o:=let #[o,_,_,F,_]:=d.ns;#[o,F]
 refine I.write (x:=a) (e:=dx) (by rw[e];exact ip) (.inr l) (λb q G z=>(B.2 b G).trans z) D ?_;refine#[by rw[AF O.ne];exact l,?_,O.ne,d.obj,_,d.ns,λg=>?_,λg J=>?_]
 .have:=GZ f y fs;lk
 .show RelO ((DZ f y fs).lookup g) (if g=f then P3 u else j g)
  rw[GX]
  by_cases q:g=f
  .rw[if_pos q,if_pos q];exact m
  .rw[if_neg q,if_neg q];exact r g
 .by_cases q:g=f
  .rw[q];exact(F9 f y fs).1
  .refine(F9 f y fs).2 g^k g λz=>J ?_
   show(if g=f then P3 u else j g)=o_;rw[if_neg q];exact z
def Inv.made(I:Inv X zF σ H s):Inv X zF σ (AY (AY H s.heap.objs.size^.own (s.heap.objs.size+1)) (s.heap.objs.size+1)^.vol^.ins C s.heap.objs.size [])
  {s with heap:=(s.heap.push PySem.W.emptyDict).push^PySem.W.instObj C s.heap.objs.size}:=by
 have c:(s.heap.push PySem.W.emptyDict).get? s.heap.objs.size=P3 PySem.W.emptyDict:=Sc s.heap rfl
 have g:((s.heap.push PySem.W.emptyDict).push^PySem.W.instObj C s.heap.objs.size).get? (s.heap.objs.size+1)=P3^PySem.W.instObj C s.heap.objs.size:=by
  have:=Sc (s.heap.push PySem.W.emptyDict) (o:=PySem.W.instObj C s.heap.objs.size) rfl
  rwa[gz]at this
 have h:(s.heap.push PySem.W.emptyDict).Ns s.heap.objs.size (λ_=>o_):=#[PySem.W.emptyDict,#[],_,c,rfl,(λe i=>absurd i^by simp),λ_=>rfl];have j:=I.laid (a:=s.heap.objs.size) (o:=.own (s.heap.objs.size+1)) (h':=s.heap.push PySem.W.emptyDict) (t':=s.toks) (λb u q=>FM _ q) (Rs _) #[_,c];refine j.laid (a:=s.heap.objs.size+1) (o:=.vol^.ins C s.heap.objs.size []) (t':=s.toks) (λb u q=>FM _ q) (lZ^gz _ _) ?_;have d:s.heap.objs.size≠s.heap.objs.size+1:=gB^jO _;refine#[by rw[AF d,AH],gK _,d,g,λ_=>o_,(Heap.Ns1.of_empty h).at λo q=>FM _ q,λ_=>ip,λy k=>absurd rfl k]
def V9{b:gC}{w:gJ}{c:Env}{e:gI}{f:Str}{pos:Pos}{s:No}{Q:Db->No->Prop}(g:attributeBase e f c^eval e c=eval e c)
  (h:wpAny (model b w) A (eval e c) (λo d=>wpAny (model b w) A (getAttr o f p_) Q E d) E s):wpAny (model b w) A (eval (.Attribute e f pos) c) Q E s:=
 Attribute_any_ h (by rw[arm_eval_Attribute,g])
end
def df(K:Frag)(c:TE)(f:Str):TE:=λd H Q=>c d H λx H1=>∃a C e b v,x=.ref a/\H1 a=P3^.vol^.ins C e b/\Cls K C/\NoAttr K C f/\b.lookup f=P3 v/\Q v H1
def di(K:Frag)(g h:TE)(f:Str):TS:=λD b H=>h b H λy H1=>g b H1 λx d=>∃a C e c,x=.ref a/\d a=P3^.vol^.ins C e c/\Cls K C/\NoAttr K C f/\c.length<1000 /\
 D.nx b (AY d a^.vol^.ins C e^DZ f y c)
section
variable {X:Cx}{o e value:Expr}{f:Str}{pos pos':Pos}{ta tv:TE}
def Yi(b:PE X e ta)(d:attributeBase e f X.env^eval e X.env=eval e X.env):PE X (.Attribute e f pos)^df X.K ta f:=by
 intro r s g H Q I h;refine V9 d^Aq (b _ s g H _ I h) λu t #[x,H1,i,j,a,C,w,y,v,ex,k,c,n,l,q]=>?_;subst ex;obtain rfl:u=ZB a:=j;exact Nu i k c n l λz A m p=>#[v,H1,m,p,q]
def Ya(d:PE X o ta)(e:PE X value tv)(g:swapsWith value (P3^.Attribute o f pos') pos.line X.env=pure q_):PS X (.Assign [.Attribute o f pos'] value pos)^di X.K ta tv f:=by
 intro z s b H D I h;refine plainObj_wpAny_Assign_Attribute (Aq (e _ s b H _ I h) λu i #[y,H1,j,k,q]=>Aq (d _ i b H1 _ j q) λm A #[x,B,p,r,a,C,E,F,ex,t,c,n,l,v]=>?_) g;subst ex;obtain rfl:m=ZB a:=r;exact NK p t c n l k λG w=>#[b,_,w,v]
end
section
variable {X:Cx}{zF:r_ (Addr×Obj)}{σ:St}{H:Hp}{s:Shared}{A:Around}{E:Value->Shared->Prop}{Q:Value->Shared->Prop}{c:Value}{b:Bool}
inductive FH (K:Frag) (H:Hp):V->Db->Prop where
 |non:FH K H .non^.type "NoneType"
 |bl (x:Bool):FH K H (.bl x)^.type "bool"
 |int (i:Int):FH K H (.int i)^.type "int"
 |str (x:Str):FH K H (.str x)^.type "str"
 |flt (x:UInt64):FH K H (.flt x)^.type "float"
 |lst {a:Ch}{xs:List V} (e:H a=P3^.lst xs):FH K H (.ref a)^.type "list"
 |frz {a:Ch}{o:Obj}{xs:List V} (e:H a=P3^.frz o^.lst xs):FH K H (.ref a)^.type "list"
 |tup {a:Ch}{xs:List V} (e:H a=P3^.tup xs):FH K H (.ref a)^.type "tuple"
 |dF {a:Ch}{o:Obj}{kvs:List (Key×V)} (e:H a=P3^.frz o^.dK kvs):FH K H (.ref a)^.type "dict"
 |dK {a:Ch}{kvs:List (Key×V)} (e:H a=P3^.dK kvs):FH K H (.ref a)^.type "dict"
 |dT {a:Ch}{kvs:List (List Key×V)} (e:H a=P3^.dT kvs):FH K H (.ref a)^.type "dict"
 | ins {a C dx:Ch}{fs:List (Str×V)} (e:H a=P3^.vol^.ins C dx fs) (cl:Cls K C) (ha:PySem.W.findIn K (.ref C) "__class__"=P3^P3^.builtin "object.__class__")
   (hn:PySem.W.specialIn K (.builtin "object.__class__") "__get__"=P3^P3^.builtin "getset_descriptor.__get__") (htk:PySem.W.takesIn K^.builtin "object.__class__"=P3 p_)
   (hm:PySem.W.mroIn K C^.type "object"=P3 p_):FH K H (.ref a)^.ref C
def Ql{x:V}{u t:Db}(I:Inv X zF σ H s)(f:RelV x u)(ty:FH X.K H x t)(e:PySem.W.kitOne X.K t c=P3 b)(h:∀D,Q (.bool b) {s with toks:=D}):
  wpAny (model X.prog X.w) A (call (.builtin "isinstance") [u,c]) Q E s:=by
 cases ty with
 |non=>cases(show u=gW from f);exact PySem.W.kia_one PySem.W.kitx_none I.kIn ip e (λz=>nomatch z) h
 |bl y=>cases(show u=jx y from f);exact PySem.W.kia_one PySem.W.kitx_bool I.kIn ip e (λz=>nomatch z) h
 |int i=>let#[t,q]:=(show ∃t,u=Value.int i t from f);cases q;exact PySem.W.kia_one PySem.W.kitx_int I.kIn ip e (λz=>nomatch z) h
 |str y=>let#[t,q]:=(show ∃t,u=jk y t from f);cases q;exact PySem.W.kia_one PySem.W.kitx_str I.kIn ip e (λz=>nomatch z) h
 |flt y=>let#[t,q]:=(show ∃t,u=Value.float y t from f);cases q;exact PySem.W.kia_one PySem.W.kitx_float I.kIn ip e (λz=>nomatch z) h
 |@lst a l d=>
  cases(show u=ZB a from f);let#[_,_,n,_,g]:=(show ObjOk X.prog X.w H s.heap a^.lst l from I.hok a _ d);exact PySem.W.kia_one PySem.W.kitx_list I.kIn #[_,g,rfl] e (λz=>nomatch z) h
 |@frz a ob l d=>
  cases(show u=ZB a from f);let#[_,_,_,n,_,g]:=(show ObjOk X.prog X.w H s.heap a^.frz ob^.lst l from I.hok a _ d);exact PySem.W.kia_one PySem.W.kitx_list I.kIn #[_,g,rfl] e (λz=>nomatch z) h
 |@tup a l d=>
  cases(show u=ZB a from f);let#[_,_,_,p]:=(show ObjOk X.prog X.w H s.heap a^.tup l from I.hok a _ d);let#[o,g,k,_]:=p;exact PySem.W.kia_one PySem.W.kitx_tuple I.kIn #[o,g,k] e (λz=>nomatch z) h
 |@dF a ob j d=>
  cases(show u=ZB a from f);let#[_,_,_,F,_,p]:=(show ObjOk X.prog X.w H s.heap a^.frz ob^.dK j from I.hok a _ d);let#[o,r,v,g,k,_]:=p;exact PySem.W.kia_one PySem.W.kitx_dict I.kIn #[o,g,k.1] e (λz=>nomatch z) h
 |@dK a j d=>
  cases(show u=ZB a from f);let#[_,_,F,_,p]:=(show ObjOk X.prog X.w H s.heap a^.dK j from I.hok a _ d);let#[o,r,v,g,k,_]:=p;exact PySem.W.kia_one PySem.W.kitx_dict I.kIn #[o,g,k.1] e (λz=>nomatch z) h
 |@dT a j d=>
  cases(show u=ZB a from f);let#[_,_,l,_,o,r,v,g,k,_]:=(show ObjOk X.prog X.w H s.heap a^.dT j from I.hok a _ d);exact PySem.W.kia_one PySem.W.kitx_dict I.kIn #[o,g,k.1] e (λz=>nomatch z) h
 |@ins a C N P d B G L m M=>
  cases(show u=ZB a from f);let#[R,O,_]:=G6 I.hok d;let#[S,J,_]:=O.look;exact PySem.W.kia_one (PySem.W.kitx_own (B.get _) B.hd G L m M) I.kIn J e (λz=>nomatch z) h
end
structure Room (k:Nat) (A:gX):Prop where
 hd:A.handled=o_
 dp:A.depth+3*k+5<recursionLimit
 un:A.units+16*k+200<cLine
 gd:A.guards=P3 []
def Room.mono{j k:Nat}{A:gX}(r:Room k A)(h:j<=k):Room j A:=#[r.hd,by have:=r.dp;lk,by have:=r.un;lk,by first|exact r.gd|grind|grind]
def Room.deeper{k:Nat}{A:gX}(r:Room (k+1) A)(a:Env):Room k^A.deeper a:=
 #[r.hd,by have:=r.dp;show A.depth+1+3*k+5<_;lk,by have:=r.un;show A.units+3+16*k+200<_;lk,by first|exact r.gd|omega|grind]
def Room.in1{k:Nat}{A:gX}(r:Room (k+1) A):Room k A.in1:=
 #[r.hd,by have:=r.dp;grind,by have:=r.un;grind,by first|exact r.gd|omega|grind]
def Nj{A:gX}{C:Ch}{a:r_ Db}{b:r_ (Str×Db)}:(A.under^.builtin "type.__call__" #[.ref C::a,b]).depth=A.depth+1:=by
 first|rfl|omega
def Ni{A:gX}{C:Ch}{a:r_ Db}{b:r_ (Str×Db)}:(A.under^.builtin "type.__call__" #[.ref C::a,b]).units=A.units+1:=by
 first|rfl|omega
def Room.make{k:Nat}{A:gX}(r:Room (k+1) A)(C:Ch)(a:r_ Db)(b:r_ (Str×Db)):Room k^A.under^.builtin "type.__call__" #[.ref C::a,b]:=
 #[r.hd,by have:=r.dp;rw[Nj];lk,by have:=r.un;rw[Ni];lk,by first|exact r.gd|omega|grind]
def Room.depth{k:Nat}{A:gX}(r:Room k A):A.depth<recursionLimit:=by have:=r.dp;lk
def Room.units{k:Nat}{A:gX}(r:Room k A):A.units+64<cLine:=by have:=r.un;lk
def Room.units0{k:Nat}{A:gX}(r:Room k A):A.units<cLine:=by have:=r.un;lk
def P8:TA:=λ_ H Q=>Q [] H
def OQ(b:TE)(c:TA):TA:=λa H Q=>b a H λx H1=>c a H1 λd e=>Q (x::d) e
section
variable {X:Cx}{e:Expr}{es:r_ Expr}{te:TE}{t:TA}{pos:Pos}
def Bt:PA X [] P8:=λ_ _ _ _ H Q I h=>k8 #[[],H,I,.nil,h]
def Aw(b:PE X e te)(c:PA X es t)(d:starEach (e::es) X.env=(q_,eval e X.env)::starEach es X.env:=by rfl):PA X (e::es)^OQ te t:=by
 intro f p s a H Q I h;rw[d];exact kh^Aq (b _ s a H _ I h) λu g #[x,H1,i,j,k]=>Aq (c _ _ g a H1 _ i k) λq r #[v,l,m,n,o]=>#[_,l,m,.cons j n,o]
def dS(t:TA):TE:=λb H Q=>t b H λa H1=>a.length<=sizeLine/\∀p,H1 p=o_->Q (.ref p)^AY H1 p^.tup a
def dY(t:TA):TE:=λb H Q=>t b H λa H1=>a.length<=sizeLine/\∀p,H1 p=o_->Q (.ref p)^AY H1 p^.lst a
def Yf{x1}(h:PA X es t):PE X (.Tuple es x1 pos)^dS t:=by
 intro d s f H Q I g;refine wpAny_Tuple_spliced^Aq (h pos d s f H _ I g) λi a #[j,H1,c,r,z,q]=>#[by rw[←r.length];exact z,?_];have k:H1 a.heap.objs.size=o_:=c.hok.fresh^Rs _;refine#[.ref a.heap.objs.size,AY H1 a.heap.objs.size^.tup j,c.laid (t':=a.toks) (λb u e=>FM _ e) (Rs _) ?_,rfl,q _ k];exact#[z,i,r,IsTupN.new _ _]
def Kj(h:PA X es t):PE X (.List es pos)^dY t:=by
 intro d s f H Q I g;refine wpAny_List_spliced^Aq (h pos d s f H _ I g) λi a #[j,H1,c,r,z,q]=>#[by rw[←r.length];exact z,?_];have k:H1 a.heap.objs.size=o_:=c.hok.fresh^Rs _;refine#[.ref a.heap.objs.size,AY H1 a.heap.objs.size^.lst j,c.laid (t':=a.toks) (λb u e=>FM _ e) (Rs _) ?_,rfl,q _ k];exact#[z,i,0,r,Sc _ rfl]
end
abbrev Sp:=r_ V->Hp->VK->XK->Prop
abbrev Q7:=r_ Env->Hp->No->XK->Db->No->Prop
structure Env0 (P:gC) (w:gJ) (K:Frag) (mg:Str->Option Db) (base:gA) (A:gX) (outer:List Env) (s:No) (H:Hp):Prop where
 frames:A.frames=P3 outer
 mod:Mod K mg base
 bs:∀b o,base.get? b=P3 o->s.heap.get? b=P3 o/\H b=o_
 bsz:base.objs.size<=s.heap.objs.size
 funs:s.heap.FunFrames base outer
 frf:∀b∈Js outer,H b=o_
 hok:HOk P w H s.heap
 bare:kF s.gens
def CE(a:r_ Env)(P:gC)(w:gJ)(H:Hp)(s:No)(Q:VK)(u:Db)(b:No):Prop:=
 ∃v c,b.os=s.os/\kF b.gens/\Un (Js a) [] H c s.heap b.heap/\HOk P w c b.heap/\RelV v u/\Q v c
def CR(c:Q7)(a:r_ Env)(P:gC)(w:gJ)(H:Hp)(s:No)(Q:VK)(E:XK)(r:Result)(b:No):Prop:=
 match r with
 |.ok (.ret u)=>CE a P w H s Q u b
 |.ok _=>False
 |.error e=>c a H s E e b
structure FnOk (P:gC) (w:gJ) (K:Frag) (mg:Str->Option Db) (base:gA) (CX:Q7) (k:Nat) (f:Ch) (fd:gp) (ps:List Str) (sp:Sp):Prop where
 len:∀vs H Q E,sp vs H Q E->vs.length=ps.length
 run:∀(A:gX) (outer:List Env) (s:No) (H:Hp) (args:Args) (us:List Db) (vs:List V) (Q:VK) (E:XK),Room k A->Env0 P w K mg base A outer s H->mz s fd args^ps.zip us->Vals vs us->sp vs H Q E->
  codeAny (model P w) A (.call (.ref f) args) (CR CX outer P w H s Q E) s
def FnOk.imp{P:gC}{w:gJ}{K:Frag}{e:Str->s_ Db}{a:gA}{g:Q7}{k:Nat}{f:Ch}{fd:gp}{ps:r_ Str}{sp c:Sp}(F:FnOk P w K e a g k f fd ps sp)
  (h:∀b H Q E,c b H Q E->sp b H Q E):FnOk P w K e a g k f fd ps c:=
 #[λb H Q E q=>F.len b H Q E^h _ _ _ _ q,λA d s H i j b Q E l m n o p=>F.run A _ s H _ j b Q E l m n o^h _ _ _ _ p]
def Env0.make{P:gC}{w:gJ}{K:Frag}{c:Str->s_ Db}{b:gA}{A:gX}{a:r_ Env}{s:No}{H:Hp}(e:Env0 P w K c b A a s H)(C:Ch)(d:r_ Db)(f:r_ (Str×Db)):
  Env0 P w K c b (A.under^.builtin "type.__call__" #[.ref C::d,f]) a s H:=#[by first|exact e.frames|grind,e.mod,e.bs,e.bsz,e.funs,e.frf,e.hok,e.bare]
def Env0.in1{P:gC}{w:gJ}{K:Frag}{c:Str->s_ Db}{b:gA}{A:gX}{a:r_ Env}{s:No}{H:Hp}(e:Env0 P w K c b A a s H):
  Env0 P w K c b A.in1 a s H:=#[e.frames,e.mod,e.bs,e.bsz,e.funs,e.frf,e.hok,e.bare]
section
variable {X:Cx}{zF:r_ (Addr×Obj)}{σ:St}{H:Hp}{s s':Shared}
def Inv.env0(I:Inv X zF σ H s):Env0 X.prog X.w X.K X.mg X.base X.A X.stack s H:=
 #[I.ok.frames,I.ok.mod,I.bs,gN I.ok.bsz I.sz,I.stack,I.stkFree,I.hok,I.bare]
def Inv.after{Q:VK}{u:Db}(I:Inv X zF σ H s)(h:CE X.stack X.prog X.w H s Q u s'):EP X zF σ Q u s':=by
 let#[v,f,i,a,j,c,r,q]:=h;let#[k,g,d,t,e]:=s';obtain rfl:e=s.os:=i;exact#[v,f,I.call j c a λb z=>absurd z^by simp,r,q]
end
def OR(sp:Sp)(a:r_ V)(E:XK)(t:TA):TE:=λb H Q=>t b H λc H1=>sp (c++a) H1 Q E
def Wi(C:Ch)(m:Str)(sp:Sp)(b:r_ V)(E:XK)(e:TE)(t:TA):TE:=λc H Q=>e c H λx H1=>∃a f d,x=.ref a/\H1 a=P3^.vol^.ins C f d/\d.lookup m=o_ /\
 t c H1 λg h=>sp (x::(g++b)) h Q E
def aV(C:Ch)(sp:Sp)(b:r_ V)(E:XK)(t:TA):TE:=λc H Q=>t c H λd H1=>∀x a,H1 x=o_->H1 a=o_->a≠x->
 sp (.ref x::(d++b)) (AY (AY H1 a^.own x) x^.vol^.ins C a []) (λv e=>v=.non/\Q (.ref x) e) E
def Binds(K:Frag)(fd:gp)(ps:r_ Str)(b:r_ Db):Prop:=
 ∀(s:No) (a:r_ Db),K.In s.heap->(a++b).length=ps.length->mz s fd #[a,[]]^ps.zip (a++b)
def Binds.all{K:Frag}{fd:gp}{ps:r_ Str}(h:∀a:r_ Db,a.length=ps.length->bindArgs fd #[a,[]]=pure^ps.zip a):Binds K fd ps []:=λs a _ b=>by
 rw[gZ]at b ⊢;exact .of_eq^h a b
def CH(b:Q7)(X:Cx)(E:XK):Prop:=∀(c:r_ (Ch×Obj)) (d:St) (H:Hp) (s:No) (e:Db) (a:No),Inv X c d H s->b X.stack H s E e a->X.xe e a
section
variable {X:Cx}{CX:Q7}{k:Nat}{f C:Addr}{fd:FuncData}{ps:r_ Str}{sp:Sp}{dvs:r_ V}{ds:r_ Value}{E:XK}{x m:Str}{p pos apos:Pos}{e o:Expr}{es:r_ Expr}{ta:TE}{t:TA}
def KW{c:r_ (Ch×Obj)}{d:St}{H:Hp}{s:No}{Q:VK}{a:r_ Db}{vs:r_ V}(F:FnOk X.prog X.w X.K X.mg X.base CX k f fd ps sp)(i:Room k X.A)(j:Binds X.K fd ps ds)(l:Vals dvs ds)(n:CH CX X E)
  (I:Inv X c d H s) (r:Vals vs a) (h:sp (vs++dvs) H Q E):wpAny (model X.prog X.w) X.A (call (.ref f) a) (EP X c d Q) X.xe s:=by
 have g:Vals (vs++dvs) (a++ds):=r.append l;have q:(a++ds).length=ps.length:=by rw[←g.length];exact F.len _ _ _ _ h
 refine jR^kG (F.run X.A X.stack s H #[a,[]] (a++ds) (vs++dvs) Q E i I.env0 (j s a I.kIn q) g h) λr t b=>?_;cases r with
 |error e=>exact n c d H s e t I b
 |ok v=>
  cases v with
  |ret u=>exact I.after b
  |next=>exact gy b
  |brk=>exact gy b
  |cont=>exact gy b
def G3(F:FnOk X.prog X.w X.K X.mg X.base CX k f fd ps sp)(d:Room k X.A)(g:Gl X x)(i:X.mg x=P3^.ref f)(j:keepIn X.K^.ref f=p_)(l:Binds X.K fd ps ds)(n:Vals dvs ds)(u:CH CX X E)
  (v:PA X (e::es) t) (a:(x==("__debug__":Str))=q_:=by decide) (y:starEach (e::es) X.env=(q_,eval e X.env)::starEach es X.env:=by rfl) (b:(backTo pos^starEach es X.env).any (·.1)=q_:=by rfl):
  PE X (.Call (.Name x p) (e::es) [] pos) (OR sp dvs E t):=λB s z H Q I h=>iB^Cq I g i (PySem.W.callWith_K I.ok.mod.kin j (Aq (v _ _ s z H _ I h) λD G #[J,H1,c,r,q]=>#[c.kIn,KW F d l n u c r q]) y b) a
def Se(F:FnOk X.prog X.w X.K X.mg X.base CX k f fd ps sp)(b:Room k X.A)(c:Gl X x)(d:X.mg x=P3^.ref f)(e:keepIn X.K^.ref f=p_)(g:Binds X.K fd ps ds)(i:Vals dvs ds)(j:CH CX X E)
  (a:(x==("__debug__":Str))=q_:=by decide):PE X (.Call (.Name x p) [] [] pos)^OR sp dvs E P8:=λl s n H Q I h=>iB^Cq I c d (PySem.W.callWith_K0 I.kIn e^KW F b g i j I .nil h) a
def Ki{pl:Sem Bool}(v:PE X o ta)(c:Cls X.K C)(g:Ug X.K C m f)(F:FnOk X.prog X.w X.K X.mg X.base CX k f fd ps sp)(y:Room k X.A)(z:Binds X.K fd ps ds)(B:Vals dvs ds)(D:CH CX X E)(G:PA X (e::es) t)
  (b:starEach (e::es) X.env=(q_,eval e X.env)::starEach es X.env:=by rfl) (d:(backTo pos^starEach es X.env).any (·.1)=q_:=by rfl)
  (J:eval (.Call (.Attribute o m apos) (e::es) [] pos) X.env=(do
   let ov ←eval o X.env
   standAt apos.atName
   let (f,first) ←holding [ov] (getMethod ov m pl)
   callWith pos f first (backTo pos^starEach (e::es) X.env) (backToKw pos^keywordEach [] X.env)):=by rfl):
  PE X (.Call (.Attribute o m apos) (e::es) [] pos) (Wi C m sp dvs E ta t):=by
 intro P s i H Q I h;refine PySem.W.methodCall_KW (Aq (v _ s i H _ I h) λu L #[x,H1,j,M,a,R,S,ex,N,l,q]=>?_) J;subst ex;obtain rfl:u=ZB a:=M;exact IF j N c g l^PySem.W.callWith_K I.ok.mod.kin g.kp (Aq (G _ _ L i H1 _ j q) λT U #[vs,V,n,r,O]=>#[n.kIn,KW (vs:=.ref a::vs) F y z B D n (.cons rfl r) O]) b d
def Sa{pl:Sem Bool}(e:PE X o ta)(c:Cls X.K C)(d:Ug X.K C m f)(F:FnOk X.prog X.w X.K X.mg X.base CX k f fd ps sp)(g:Room k X.A)(i:Binds X.K fd ps ds)(j:Vals dvs ds)(n:CH CX X E)
  (r:eval (.Call (.Attribute o m apos) [] [] pos) X.env=(do
   let ov ←eval o X.env
   standAt apos.atName
   let (f,first) ←holding [ov] (getMethod ov m pl)
   callWith pos f first (backTo pos^starEach [] X.env) (backToKw pos^keywordEach [] X.env)):=by rfl):
  PE X (.Call (.Attribute o m apos) [] [] pos) (Wi C m sp dvs E ta P8):=by
 intro z s t H Q I h;refine PySem.W.methodCall_KW (Aq (e _ s t H _ I h) λu B #[x,H1,b,v,a,D,G,ex,y,l,q]=>?_) r;subst ex;obtain rfl:u=ZB a:=v;exact IF b y c d l^PySem.W.callWith_K0 b.kIn d.kp^KW (vs:=[.ref a]) F g i j n b (.cons rfl .nil) q
structure Mk (K:Frag) (C f:Ch):Prop where
 makes:PySem.W.makesIn K C=p_
 init:PySem.W.findIn K (.ref C) "__init__"=P3 (P3^.ref f)
 fn:PySem.W.isFn K^.ref f=p_
 kp:keepIn K^.ref C=p_
def Rj{g:r_ (Ch×Obj)}{i:St}{H:Hp}{s:No}{Q:VK}{b:r_ Db}{j:r_ V}(M:Mk X.K C f)(F:FnOk X.prog X.w X.K X.mg X.base CX k f fd ps sp)(q:Room (k+1) X.A)(t:Binds X.K fd ps ds)(y:Vals dvs ds)
  (z:CH CX X E) (I:Inv X g i H s) (r:Vals j b)
  (h:∀x c,H x=o_->H c=o_->c≠x->sp (.ref x::(j++dvs)) (AY (AY H c^.own x) x^.vol^.ins C c []) (λv B=>v=.non/\Q (.ref x) B) E):
  wpAny (model X.prog X.w) X.A (call (.ref C) b) (EP X g i Q) X.xe s:=by
 have l:=h (s.heap.objs.size+1) s.heap.objs.size (I.hok.fresh^hZ _) (I.hok.fresh^Rs _)^gB^jO _;have d:=Inv.made (C:=C) I;have n:Vals (V.ref (s.heap.objs.size+1)::(j++dvs)) (ZB (s.heap.objs.size+1)::(b++ds)):=.cons rfl (r.append y)
 have D:(ZB (s.heap.objs.size+1)::b++ds).length=ps.length:=by
  have e:=n.length;rw[F.len _ _ _ _ l]at e;exact e.symm
 refine jR (S1 (f:=f) I.kIn M.makes M.init (beq_iff_eq.mp M.fn) (kG (F.run _ X.stack _ _ #[ZB (s.heap.objs.size+1)::b,[]] (ZB (s.heap.objs.size+1)::(b++ds)) _ _ E (q.make C b [])
  (d.env0.make C b []) (t _ (ZB (s.heap.objs.size+1)::b) d.kIn D) n l) λr G a=>?_))
 cases r with
 |error e=>exact z g i _ _ e G d a
 | ok J=>
  cases J with
  |ret u=>
   let#[v,L,N,O,P,R]:=d.after a;subst P;exact#[O,#[V.ref (s.heap.objs.size+1),L,N,rfl,R]]
  |next=>exact gy a
  |brk=>exact gy a
  |cont=>exact gy a
def VF(M:Mk X.K C f)(F:FnOk X.prog X.w X.K X.mg X.base CX k f fd ps sp)(d:Room (k+1) X.A)(g:Gl X x)(i:X.mg x=P3^.ref C)(j:Binds X.K fd ps ds)(l:Vals dvs ds)(n:CH CX X E)
  (u:PA X (e::es) t) (a:(x==("__debug__":Str))=q_:=by decide) (v:starEach (e::es) X.env=(q_,eval e X.env)::starEach es X.env:=by rfl) (b:(backTo pos^starEach es X.env).any (·.1)=q_:=by rfl):
  PE X (.Call (.Name x p) (e::es) [] pos) (aV C sp dvs E t):=λz s y H Q I h=>iB^Cq I g i (PySem.W.callWith_K I.ok.mod.kin M.kp (Aq (u _ _ s y H _ I h) λB D #[G,H1,c,r,q]=>#[c.kIn,Rj M F d j l n c r q]) v b) a
end
section
variable {fd:FuncData}{ps ks:r_ Str}
structure e9 (K:Frag) (fd:gp) (ps ks:List Str) (g:List Db->List Db->List Db) (gV:List V->List V->List V):Prop where
 to:∀(s:No) (us ws:List Db),K.In s.heap->(g us ws).length=ps.length->mz s fd #[us,ks.zip ws] (ps.zip^g us ws)
 rel:∀{vs:List V}{us:List Db}{zs:List V}{ws:List Db},Vals vs us->Vals zs ws->Vals (gV vs zs)^g us ws
end
structure A8 (N P:List Str) (sc:jK):Prop where
 kind:sc.kind=.function
 co:sc.isCoroutine=q_
 gen:sc.isGenerator=q_
 nd:N.Nodup
 pre:N.take P.length=P
 par:∀x∈P,sc.names.lookup x=P3 .local\/sc.names.lookup x=P3 .cell
 nofree:∀y∈sc.names,y.2≠.free
theorem J8{a:Str->s_ jP}{x:Str}:∀{binds:r_ (Str×Db)}{m:Str->s_ Db},(∀v,(x,v)∉binds)->bindL a binds m x=m x
 |[],_,_=>rfl
 |(n,v)::r,m,h=>by
  unfold bindL;rw[J8 λw b=>h w^T0 _ b]
  split
  .grind
  .rfl
theorem J_{a:Str->s_ jP}{x:Str}:∀{binds:r_ (Str×Db)}{m:Str->s_ Db},(∀v,(x,v)∉binds)->bindC a binds m x=m x
 |[],_,_=>rfl
 |(n,v)::r,m,h=>by
  unfold bindC;rw[J_ λw b=>h w^T0 _ b]
  split
  .rfl
  grind
theorem J9{a:Str->s_ jP}{x:Str}{v:Db}:∀{P:r_ Str}{b:r_ Db}{i:Nat}{m:Str->s_ Db},P.Nodup->P[i]?=P3 x->b[i]?=P3 v->a x=P3 .local->
  bindL a (P.zip b) m x=P3 v
 |[],_,_,_,_,h,_,_=>by simp at h
 |_::_,[],_,_,_,_,h,_=>by simp at h
 |p::P,w::b,0,m,c,d,e,f=>by
  simp at d e;subst d;subst e
  show bindL a ((p,w)::P.zip b) m p=_;unfold bindL;rw[J8 λv g=>(gP.mp c).1 (kY g).1,if_pos f];simp
 |p::P,w::b,i+1,m,c,d,e,f=>by
  unfold bindL;exact J9 (i:=i) (gP.mp c).2 (by simp_all) (by simp_all) f
theorem KA{a:Str->s_ jP}{x:Str}{v:Db}:∀{P:r_ Str}{b:r_ Db}{i:Nat}{m:Str->s_ Db},P.Nodup->P[i]?=P3 x->b[i]?=P3 v->a x≠P3 .local->
  bindC a (P.zip b) m x=P3 v
 |[],_,_,_,_,h,_,_=>by simp at h
 |_::_,[],_,_,_,_,h,_=>by simp at h
 |p::P,w::b,0,m,c,d,e,f=>by
  simp at d e;subst d;subst e
  show bindC a ((p,w)::P.zip b) m p=_;unfold bindC;rw[J_ λv g=>(gP.mp c).1 (kY g).1,if_neg f];simp
 |p::P,w::b,i+1,m,c,d,e,f=>by
  unfold bindC;exact KA (i:=i) (gP.mp c).2 (by simp_all) (by simp_all) f
def start(N:r_ Str)(a:r_ V):St:=a.map P3++gq (N.length - a.length) o_
def C4(i:Q7)(P:gC)(w:gJ)(K:Frag)(mg:Str->s_ Db)(base:gA)(N:r_ Str)(c:Str)(a:jK)(f:Ch)(h:Db)(A:gX)(outer:r_ Env)(s:No)(H:Hp)(E:XK):Cx where
 prog:=P
 w:=w
 K:=K
 mg:=mg
 base:=base
 A:=A.deeper (envOfC c a s.heap.objs.size f h)
 N:=N
 s₀:=s
 H₀:=H
 env:=envOfC c a s.heap.objs.size f h
 outer:=outer
 stack:=envOfC c a s.heap.objs.size f h::outer
 ex:=[]
 calm:=p_
 fn:=λ_=>p_
 pn:=[]
 xe:=λe k=>wpAny (model P w) (A.deeper^envOfC c a s.heap.objs.size f h) (leaving (envOfC c a s.heap.objs.size f h) e) (λ_ g=>i outer H s E e g) (λl g=>i outer H s E l g) k
def Mh{a:jK}{n:Nat}{x:Str}(h:a.names.lookup x=P3 .cell):∃c,(cellsFrom n a.names []).lookup x=P3 c:=by
 have q:=PySem.W.cellsFrom_some a.names n []^.inl h;exact Option.isSome_iff_exists.mp q
def Qn{O:Q7}{P:gC}{w:gJ}{K:Frag}{L:Str->s_ Db}{m:gA}{N ps:r_ Str}{j:Str}{d:jK}{f:Ch}{G:Db}{A:gX}{g:r_ Env}{s Q:No}{H:Hp}{E:XK}{M:r_ Db}{t:r_ V}
  (S:A8 N ps d) (U:A.handled=o_) (o:Env0 P w K L m A g s H) (Z:t.length=ps.length) (r:Vals t M)
  (x:InCallC s s.heap.objs.size (bindL (envOfC j d s.heap.objs.size f G).kindOf (ps.zip M) λ_=>o_) (cellsFrom (s.heap.objs.size+1) d.names []) (bindC (envOfC j d s.heap.objs.size f G).kindOf (ps.zip M) λ_=>o_) Q):
  Inv (C4 O P w K L m N j d f G A g s H E) [] (start N t) H Q:=by
 have W:ps.length<=N.length:=by have:=congrArg lC S.pre;rw[iT]at this;lk
 let#[I,tk,rfl,R]:=x.done;have B:∀b:Ch,b∉(C4 O P w K L m N j d f G A g s H E).ex:=λb z=>absurd (show b∈([]:r_ Ch)from z)^by simp
 exists#[o.mod,S.kind,rfl,rfl,Rs _,λy z c I l=>?_,λy C=>?_,λy c _ h=>?_,λ_=>U,Around.frames_deeper o.frames,.inr #[rfl,rfl],λb z=>absurd z^B b,o.bs,o.bsz,λb _ _=>B b,λb z=>absurd z^B b,o.funs,o.frf],
  rfl,o.bare,Un.kept R,#[_,x.toInCall.ns,λi y v I l h3=>?_],λy c h=>#[_,x.cell y c h],o.hok.fresh^Rs _,λy c h=>?_,λp D=>absurd (show p∈([]:r_ (Ch×Obj))from D)^by simp,o.hok.kept R
 .exact name_of_addr x.apart (PySem.mem_of_lookup I)^PySem.mem_of_lookup l
 .have C:d.names.lookup y=P3 .cell\/d.names.lookup y=P3 .free:=C
  rcases C with C|C
  .exact Mh C
  .exact absurd rfl (S.nofree _^PySem.mem_of_lookup C)
 .exact lX^x.above y c^PySem.mem_of_lookup h
 .have J:i<t.length:=by
   unfold start at l
   by_cases J:i<t.length
   .exact J
   .rw[iX^by simpa using J]at l
    rw[kz]at l
    split at l <;>cases l
  have X:t[i]?=P3 v:=by
   unfold start at l;rw[i9 (by simpa using J),UF]at l;cases e:t[i]? with
   |none=>rw[e]at l;cases l
   |some a=>rw[e]at l;cases l;rfl
  let#[u,T,Y]:=r.get X
  have D:ps[i]?=P3 y:=by
   rw[←S.pre,List.getElem?_take_of_lt^by lk];exact I
  have F:ps.Nodup:=by rw[←S.pre];exact S.nd.sublist^k9 _ _
  exists u,Y
  rcases S.par y^iU D with k|k
  .exact .inl #[k,J9 F D T k]
  .let#[c,e]:=Mh (n:=s.heap.objs.size+1) k
   refine .inr #[.inl k,c,e,?_];have q:=x.cell y c e;rw[KA F D T^by show d.names.lookup y≠_;rw[k];decide]at q;exact q
 .exact o.hok.fresh^lX^x.above y c^PySem.mem_of_lookup h
 .unfold start
  show _=N.length;rw[gD,Ev,nX];lk
def XA{L:Q7}{P:gC}{w:gJ}{K:Frag}{M:Str->s_ Db}{h:gA}{k:Nat}{f:Ch}{name d:Str}{i:Arguments}{j:r_ iD}{a:jK}{dV kV C pm g ct oc:Db}{an od:s_ Ch}
  {R:Array^s_ Db}{N ps:r_ Str}{sp:Sp} (lk:K.lookup f=P3 #[oc,od,.func^fnOf name d i j a dV kV C pm an g ct,R]) (T:codeIn K g d=p_) (S:A8 N ps a)
  (len:∀l H Q E,sp l H Q E->l.length=ps.length)
  (p:∀(A:gX) (c:r_ Env) (s:No) (H:Hp) (l:r_ V) (Q:VK) (E:XK),Room k^A.deeper^envOfC d a s.heap.objs.size f g->sp l H Q E->
   ∃t,PSs (C4 L P w K M h N d a f g A c s H E) j t/\t {nx:=λ_ m=>Q .non m,rt:=Q} (start N l) H):
  FnOk P w K M h L (k+1) f (fnOf name d i j a dV kV C pm an g ct) ps sp:=by
 refine#[len,λA c s H a0 us l Q E U D hb r F=>?_];have hl:=len _ _ _ _ F;have KX:K.In s.heap:=D.mod.kin.keeps λb o e=>(D.bs b o e).1;have X:s.heap.NoLimit:=D.mod.nolimit.keeps λb o e=>(D.bs b o e).1
 have z:∀y∈ps.zip us,a.names.lookup y.1=P3 .local\/(a.names.lookup y.1=P3 .cell/\((cellsFrom (s.heap.objs.size+1) a.names []).lookup y.1).isSome=p_):=fun#[n,v] hy=>by
  rcases S.par n (kY hy).1 with q|q
  .exact .inl q
  .exact .inr #[q,PySem.W.cellsFrom_some _ _ _^.inl q]
 refine codeAny_call_function U.depth (KX _ _ lk) rfl S.co S.gen rfl (PySem.W.codeRec_of KX T) (hb _ _ _ _ ?_);refine wpAny_newFunctionEnv_cells S.kind z λa1 he s1 x=>?_;subst he;refine#[X.keeps x.toInCall.keep,codeAny_func ?_];let#[t,ht,hq]:=p A c s H l Q E (U.deeper _) F;have I:Inv (C4 L P w K M h N d a f g A c s H E) [] (start N l) H s1:=Qn S U.hd D hl r x;refine gh (ht [] s1 (start N l) H _ I hq) (λfl Y B=>?_) λe Y B=>B
 have G:∀{O:St}{m:Hp}{v:V}{u:Db},Inv (C4 L P w K M h N d a f g A c s H E) [] O m Y->RelV v u->Q v m->CE c P w H s Q u Y:=
  λ{O m v u} J Z q=>#[v,m,J.os,J.bare,J.base,J.hok,Z,q]
 cases fl with
 |ret u=>
  let#[v,O,m,J,Z,q]:=B;exact G J Z q
 |next=>
  let#[O,m,J,q]:=B;exact G (v:=V.non) (u:=gW) J rfl q
 |brk=>
  let#[_,_,_,q]:=B;exact gy q
 |cont=>
  let#[_,_,_,q]:=B;exact gy q
section
variable {X:Cx}{x:Str}{p pos:Pos}{e:Expr}{es:r_ Expr}{t:TA}{id T:String}{r:r_ V->Hp->VK->Prop}
def af(r:r_ V->Hp->VK->Prop)(t:TA):TE:=λa H Q=>t a H λb H1=>r b H1 Q
def DF(d:CallR X (.builtin id) r)(f:Gl X x)(g:X.mg x=o_)(i:bootBuiltins x=P3^.builtin id)(j:PA X (e::es) t)(k:x ≠ "__name__":=by decide)(a:(x==("__debug__":Str))=q_:=by decide)
  (l:starEach (e::es) X.env=(q_,eval e X.env)::starEach es X.env:=by rfl) (b:(backTo pos^starEach es X.env).any (·.1)=q_:=by rfl):PE X (.Call (.Name x p) (e::es) [] pos)^af r t:=λw s c H Q I h=>iB^C1 I f g i (PyProof.Rows.callWith_builtin1 (Aq (j _ _ s c H _ I h) λm n #[o,H1,q,u,v]=>d _ n c H1 o m Q q u v) l b) k a
def F5(d:CallR X (.type T) r)(f:Gl X x)(g:X.mg x=o_)(i:bootBuiltins x=P3^.type T)(j:PA X (e::es) t)(k:x ≠ "__name__":=by decide)(a:(x==("__debug__":Str))=q_:=by decide)
  (l:starEach (e::es) X.env=(q_,eval e X.env)::starEach es X.env:=by rfl) (b:(backTo pos^starEach es X.env).any (·.1)=q_:=by rfl):PE X (.Call (.Name x p) (e::es) [] pos)^af r t:=λw s c H Q I h=>iB^C1 I f g i (iF (Aq (j _ _ s c H _ I h) λm n #[o,H1,q,u,v]=>d _ n c H1 o m Q q u v) l b) k a
end
end L2
namespace HT
section
variable {prog:Program}{w:World}{A:Around}{E:Value->Shared->Prop}{s:Shared}
def cat_tup{t b:Ch}{d c:r_ Db}{Q:Db->No->Prop}(r:IsTup s.heap t d.toArray)(u:IsTup s.heap b c.toArray)(x:d≠[])
  (h1:c=[]->Q (.ref t) s) (y:c≠[]->Q (.ref s.heap.objs.size) {s with heap:=s.heap.push {cls:=.type "tuple",data:=.seq (d++c).toArray}})
  (v:d.length+c.length<=sizeLine):wpAny (model prog w) A (binaryOp .Add (.ref t)^.ref b) Q E s:=by
 let#[#[cls,dd,data,k],i,l,n,m]:=id r;let#[#[o,e,j,f],a,g,p,h]:=id u;simp only at l m g h;subst l m g h
 by_cases q:c=[]
 .exact concat_meets #[_,i,rfl] #[_,a,rfl] m7 seq_tuple_add PySem.F.slot_tuple_add PySem.F.entry_tuple_add (PySem.F.args_tuple_add_2 _ _)
   (tuple_addW1 t b d.toArray c.toArray n p dd e k f (by simp_all)^by simp[q]) #[i,a,h1 q]
 .refine concat_meets #[_,i,rfl] #[_,a,rfl] m7 seq_tuple_add PySem.F.slot_tuple_add PySem.F.entry_tuple_add (PySem.F.args_tuple_add_2 _ _)
   (tuple_addW2 t b d.toArray c.toArray n p dd e k f (by grind) (by grind)^by lk) #[i,a,?_]
  simp_all
def sIx(n d:Nat):s_ Int->Nat
 |none=>d
 |some v=>if v<0 then(v+(n:Int)).toNat else min v.toNat n
def sIx_none(n d:Nat):sIx n d o_=d:=rfl
def sIx_nat(n d k:Nat):sIx n d^P3 (k:Int)=min k n:=by
 show(if k<0 then((k:Int)+n).toNat else min _ n)=min k n;rw[if_neg^by lk,jF]
def YL(n d:Nat)(a:d<=n)(o:s_ Int):sIx n d o<=n:=by
 cases o with
 |none=>exact a
 |some v=>
  show(if v<0 then(v+n).toNat else min _ n)<=n
  grind
def Pf(v:Int)(n d:Nat):(if v<0 then max (v+(n:Int)) 0 else min v (n:Int))=((sIx n d^P3 v:Nat):Int):=by
 show(if v<0 then max _ 0 else min v _)=(if v<0 then(v+n).toNat else min _ n)
 grind
def N_(lo hi:s_ Int)(n:Nat):mh lo hi 1 (n:Int)=(((sIx n 0 lo:Nat):Int),((sIx n n hi:Nat):Int)):=by
 refine Prod.ext ?_ ?_
 .cases lo with
  |none=>rfl
  |some v=>exact Pf v n 0
 .cases hi with
  |none=>rfl
  |some v=>exact Pf v n n
def NR(i j:Nat):kZ (i:Int) (j:Int) 1=j - i:=by
 unfold kZ
 grind
def HW{v:Db}{o:s_ Int}{Q:s_ Int->No->Prop}(p:lg v o)(h:Q o s):wpAny (model prog w) A (Builtin.Slice.slicePartIndex v) Q E s:=by
 cases p with
 |none=>exact slicePart_none h
 |int i t=>exact slicePart_int h
def sliceApplied_gen{g:Ch}{e f:Db}{a d:s_ Int}{n:Nat}{Q:Int×Int×Nat->No->Prop}(i:s.heap.IsSliceOf g e f .none)(pl:lg e a)(j:lg f d)
  (h:Q (((sIx n 0 a:Nat):Int),1,sIx n n d - sIx n 0 a) s):wpAny (model prog w) A (Builtin.Slice.sliceApplied (.ref g)^pure (n:Int)) Q E s:=by
 let#[l,b,k,c]:=id i;refine Cn^Cn (iC b c (x:=e) rfl (Cn (iC b c (x:=f) rfl (Cn (iC b c (x:=.none) rfl (On ?_))))));refine Cn^slicePart_none ?_;refine Cn^HW pl^Cn^HW j^Cn^On ?_;show wpAny _ _ (match mh a d 1 (n:Int)with|(a,d)=>pure (a,(1:Int),kZ a d 1)) _ _ s;rw[N_ a d n];show wpAny _ _ (pure _) _ _ s;rw[NR];exact On h
def SQ(a:Array Db)(i k:Nat):((gf k).filterMap fun(m:Nat)=>a[((i:Int)+(m:Int)*1).toNat]?).toArray=((a.toList.drop i).take k).toArray:=by
 have e:(fun(m:Nat)=>a[((i:Int)+(m:Int)*1).toNat]?)=λm=>a[i+m]?:=by
  grind
 rw[e]
 have:=pick_run a i k
 rw[List.filterMap_map]at this;have b:((λx=>a[x]?)∘λx=>i+x)=λm=>a[i+m]?:=rfl
 grind
def getItem_tuple_cut{t g:Ch}{a:Array Db}{n o:Db}{c d:s_ Int}{Q:Db->No->Prop}(f:IsTup s.heap t a)(p:s.heap.IsSliceOf g n o .none)(pl:lg n c)(q:lg o d)
  (x:¬(sIx a.size 0 c=0/\sIx a.size a.size d=a.size))
  (h:Q (.ref s.heap.objs.size) {s with heap:=s.heap.push {cls:=.type "tuple",data:=.seq ((a.toList.drop^sIx a.size 0 c).take (sIx a.size a.size d - sIx a.size 0 c)).toArray}})
  (r:a.size<=sizeLine):wpAny (model prog w) A (getItem (.ref t)^.ref g) Q E s:=by
 have e:sizeOk^.seq ((a.toList.drop^sIx a.size 0 c).take (sIx a.size a.size d - sIx a.size 0 c)).toArray:=by
  show((a.toList.drop^sIx a.size 0 c).take (sIx a.size a.size d - sIx a.size 0 c)).toArray.size<=sizeLine;rw[f8,iT,m8,gl];lk
 have y:sIx a.size a.size d<=a.size:=YL _ _ (Rs _) d;let#[u,i,j,v]:=id p;have k:s.TypeIs (.ref g) "slice":=#[u,i,j];unfold getItem
 try with_reducible refine gw ?_
 first|refine Cn^On ?_|skip
 refine Cn^wpAny_sequenceKey f.typeIs (by cbv) ?_
 refine Cn (h_ (name:=g_ "__getitem__") f.typeIs iA
  (iV iA f.typeIs entry_tuple_getitem ?_^args_tuple_getitem _ _))
 show wpAny _ _ (mT^.ref t >>=_) _ _ s;refine Cn^tupleItemsOf_ f ?_;refine Cn^ki k ?_;rw[if_pos^by cbv];refine Cn^sliceApplied_gen p pl q ?_
 have l:¬((((sIx a.size 0 c:Nat):Int)==0&&(1:Int)==1&&(sIx a.size a.size d - sIx a.size 0 c)==a.size)=p_):=by
  grind
 show wpAny _ _ (if(((sIx a.size 0 c:Nat):Int)==0&&(1:Int)==1&&(sIx a.size a.size d - sIx a.size 0 c)==a.size)=p_ then _ else _) _ _ s;rw[if_neg l,SQ]
 first
  |exact Cn (m:=kj _)^iH (On #[_,rfl,On h]) e
  |grind
  |grind
  |grind
end
end HT
namespace L2
abbrev TO:=St->Hp->(s_ Int->Hp->Prop)->Prop
def PO(X:Cx)(e:s_ gI)(t:TO):Prop:=
 ∀(b:r_ (Ch×Obj)) (s:No) (a:St) (H:Hp) (Q:s_ Int->Hp->Prop),Inv X b a H s->t a H Q->
  wpAny (model X.prog X.w) X.A (evalPart e X.env) (λu d=>∃o c,Inv X b a c d/\lg u o/\Q o c) X.xe s
def U2:TO:=λ_ H Q=>Q o_ H
def aT(t:TE):TO:=λa H Q=>t a H λx H1=>∃i,x=.int i/\Q (P3 i) H1
section
variable {X:Cx}{e:Expr}{te:TE}{lo hi:s_ Expr}{tl th:TO}{pos p2:Pos}
def Om:PO X o_ U2:=λa s b H Q I h=>On #[_,H,I,.none,h]
def Ol(h:PE X e te):PO X (P3 e)^aT te:=by
 intro g s a H Q I b;refine Aq (h _ s a H _ I b) λu j #[x,H1,c,d,f]=>?_;let#[i,rfl,q]:=f;let#[t,rfl]:=d;exact#[_,H1,c,.int i t,q]
def SlR(X:Cx)(r:V->s_ Int->s_ Int->Hp->VK->Prop):Prop:=
 ∀(a:r_ (Ch×Obj)) (s:No) (b:St) (H:Hp) (x:V) (v c d:Db) (lo hi:s_ Int) (e:Ch) (Q:VK),Inv X a b H s->RelV x v->s.heap.IsSliceOf e c d .none->lg c lo->lg d hi->r x lo hi H Q->
  ∃T f,typeLookup (.type T) "__getitem__"=pure^P3^.builtin f/\s.TypeIs v T/\wpAny (model X.prog X.w) X.A (getItem v^.ref e) (EP X a b Q) X.xe s
def SlR.or{r c:V->s_ Int->s_ Int->Hp->VK->Prop}(h:SlR X r)(l:SlR X c):SlR X (λx a b H Q=>r x a b H Q\/c x a b H Q):=by
 intro m s d H x v e f a b g Q I i j pl k q
 rcases q with q|q
 .exact h _ s d H x v e f a b g Q I i j pl k q
 .exact l _ s d H x v e f a b g Q I i j pl k q
def fe(r:V->s_ Int->s_ Int->Hp->VK->Prop)(te:TE)(tl th:TO):TE:=λa H Q=>te a H λx H1=>tl a H1 λl b=>th a b λu c=>r x l u c Q
def L7{r:V->s_ Int->s_ Int->Hp->VK->Prop}(j:SlR X r)(k:PE X e te)(m:PO X lo tl)(n:PO X hi th):PE X (.Subscript e (.Slice lo hi o_ p2) pos)^fe r te tl th:=by
 intro c s d H Q I h;refine Subscript_^Aq (k c s d H _ I h) λv o #[x,H1,p,t,y]=>?_;refine wpAny_Slice^Aq (m c o d H1 _ p y) λf z #[l,B,C,pl,D]=>Aq (n c z d B _ C D) λg a #[u,i,E,F,G]=>?_;rw[evalPart_none];refine On ?_;have J:Inv X c d i {a with heap:=a.heap.push {cls:=.type "slice",data:=.fields #[ f,g,.none]}}:=E.kept (t':=a.toks) λb ob q=>FM _ q;let#[T,N,K,L,M]:=j c {a with heap:=a.heap.push {cls:=.type "slice",data:=.fields #[ f,g,.none]}} d i x v f g l u a.heap.objs.size Q J t (Heap.IsSliceOf.new ..) pl F G;show wpAny (model X.prog X.w) X.A (subscriptTail e (.Slice lo hi o_ p2) v^.ref a.heap.objs.size) (EP X c d Q) X.xe {a with heap:=a.heap.push {cls:=.type "slice",data:=.fields #[ f,g,.none]}};exact tail_any (ops:=[.ref a.heap.objs.size,v]) L K M^by with_unfolding_all rfl
def Mc(a:r_ V)(lo hi:s_ Int):r_ V:=(a.drop^HT.sIx a.length 0 lo).take (HT.sIx a.length a.length hi - HT.sIx a.length 0 lo)
def Gh(a:r_ V)(lo hi:s_ Int):(Mc a lo hi).length<=a.length:=by
 unfold Mc
 grind
def ar(K:Frag):V->s_ Int->s_ Int->Hp->VK->Prop:=λx c d H Q=>∃a b,x=.ref a/\SqT K H a b /\
 ¬(HT.sIx b.length 0 c=0/\HT.sIx b.length b.length d=b.length)/\∀p,H p=o_->Q (.ref p)^AY H p^.tup^Mc b c d
def sl_tup:SlR X^ar X.K:=by
 intro o s p H x v t u g i w Q I j k pl l h;let#[a,e,rfl,m,y,q]:=h;cases j;let#[d,r,f,n]:=I.tuple m;have c:d.toArray.size=e.length:=by exact r.length.symm
 exists _,_,iA.lookup,f.typeIs;refine HT.getItem_tuple_cut f k pl l (by grind) ?_ (by simp_all);rw[c];refine#[.ref _,_,I.laid (λb ob q=>FM _ q) (Rs _) ?_,rfl,q _^I.hok.fresh^Rs _];exact#[gN (Gh e g i) n,_,(r.drop _).take _,IsTupN.new _ _]
def R_(K:Frag):R2:=λx y H Q=>∃a b d c,x=.ref a/\y=.ref b/\SqT K H a d/\SqT K H b c/\d≠[]/\d.length+c.length<=sizeLine /\
 (c=[]->Q (.ref a) H)/\(c≠[]->∀p,H p=o_->Q (.ref p)^AY H p^.tup (d++c))
def Vals.nil_iff{a:r_ V}{b:r_ Db}(r:Vals a b):b=[]↔a=[]:=by
 cases r with
 |nil=>simp
 |cons _ _=>simp
def op_catT:OpR X (binaryOp .Add)^R_ X.K:=by
 intro r s t H x y v u Q I f g h;let#[a,b,A,B,rfl,rfl,i,j,k,l,m,n]:=h;cases f;cases g;let#[o,d,p,_]:=I.tuple i;let#[e,c,p2,_]:=I.tuple j;refine HT.cat_tup p p2 (λz=>k^d.nil_iff.mp z) (λz=>#[.ref a,H,I,rfl,m^c.nil_iff.mp z]) (λz=>?_) (by rw[←d.length,←c.length];exact l);refine#[.ref _,_,I.laid (λb ob q=>FM _ q) (Rs _) ?_,rfl,n (λw=>z^c.nil_iff.mpr w) _^I.hok.fresh^Rs _];exact#[by simp_all,_,d.append c,IsTupN.new _ _]
end
def Uk(n:Nat)(i:Int):s_ Nat:=if 0<=i then(if i<n then P3 i.toNat else o_)else if -(n:Int)<=i then P3 (i+n).toNat else o_
def atI{a:Type}(b:r_ a)(i:Int):s_ a:=(Uk b.length i).bind λj=>b[j]?
def PB{n:Nat}{i:Int}{j:Nat}(h:Uk n i=P3 j):seqIndex? i n=P3 j/\j<n/\-(n:Int)<=i/\i<n:=by
 unfold Uk at h
 by_cases b:0<=i
 .rw[if_pos b]at h
  by_cases a:i<n
  .rw[if_pos a]at h
   have e:i.toNat=j:=XV h;exact#[by rw[seqIndex_of b a,e],by lk,by lk,a]
  grind
 .rw[if_neg b]at h
  by_cases a:-(n:Int)<=i
  .rw[if_pos a]at h
   have e:(i+n).toNat=j:=XV h;exact#[by rw[seqIndex_neg (by lk) a,e],by lk,a,by lk]
  grind
def LR{b:Type}{a:r_ b}{i:Int}{v:b}(h:atI a i=P3 v):∃j,seqIndex? i a.length=P3 j/\a[j]?=P3 v/\j<a.length/\-(a.length:Int)<=i/\i<a.length:=by
 unfold atI at h;cases e:Uk a.length i with
 |none=>simp_all
 |some j=>
  let#[c,d,f,g]:=PB e
  simp_all
def AC{a:Type}{xs:r_ a}{j:Nat}{v:a}(h:xs[j]?=P3 v):atI xs (j:Int)=P3 v:=by
 have b:=(Uf.mp h).1
 have e:Uk xs.length j=P3 j:=by
  unfold Uk
  simp_all
 unfold atI;grind
def Mo{b:Type}(a:r_ b)(v:b):atI (a++[v]) (-1)=P3 v:=by
 have e:Uk (a++[v]).length (-1)=P3 a.length:=by
  unfold Uk
  grind
 unfold atI
 grind
def HI(b:gI):Prop:=∀o i,subscripted b q_ o i=operate [o,i]^getItem o i
def IxR(X:Cx)(r:R2):Prop:=
 ∀(b a:gI) (c:r_ (Ch×Obj)) (s:No) (d:St) (H:Hp) (x y:V) (v u:Db) (Q:VK),Inv X c d H s->RelV x v->RelV y u->r x y H Q->
  subscripted a q_ v u=operate [v,u]^getItem v u->wpAny (model X.prog X.w) X.A (subscriptTail b a v u) (EP X c d Q) X.xe s
def Um(X:Cx)(e:String)(r:V->r_ V->Hp->VK->Prop):Prop:=
 ∀(a:r_ (Ch×Obj)) (s:No) (b:St) (H:Hp) (x:V) (c:r_ V) (v:Db) (d:r_ Db) (Q:VK),Inv X a b H s->RelV x v->Vals c d->r x c H Q->
  wpAny (model X.prog X.w) X.A (call (.builtin e) (v::d)) (EP X a b Q) X.xe s
section
variable {X:Cx}{a b:Expr}{ta tb:TE}{pos:Pos}
def IxR.or{r e:R2}(h:IxR X r)(k:IxR X e):IxR X (λx y H Q=>r x y H Q\/e x y H Q):=by
 intro c d l s f H x y v u Q I g i q j
 rcases q with q|q
 .exact h _ _ _ s f H x y v u Q I g i q j
 .exact k _ _ _ s f H x y v u Q I g i q j
def DD{r:R2}(c:IxR X r)(d:PE X a ta)(e:PE X b tb)(f:HI b):PE X (.Subscript a b pos)^C8 r ta tb:=λn s g H Q I h=>Subscript_^Zg d e I h λv u i x y j k l m q=>c a b _ i g j x y v u Q k l m q^f _ _
def YS(K:Frag):R2:=λx y H Q=>∃p c i v,x=.ref p/\y=.int i/\SqL K H p c/\atI c i=P3 v/\Q v H
def bA(K:Frag):R2:=λx y H Q=>∃p c i v,x=.ref p/\y=.int i/\SqT K H p c/\atI c i=P3 v/\Q v H
def bB:R2:=λx y H Q=>∃z i c,x=.str z/\y=.int i/\z.length<=sizeLine/\atI z.cps.toList i=P3 c/\Q (.str #[#[ c]]) H
def ix_list:IxR X^YS X.K:=by
 intro d e k s l H x y v u Q I B C h m;let#[p,N,i,z,rfl,rfl,D,E,q]:=h;cases B;let#[t,rfl]:=C;let#[f,r,pl,O]:=I.list D;let#[j,n,F,P,G,J]:=LR E;let#[w,L,g]:=r.get F;have R:=r.length;have S:=F7;have c:EP X k l Q w s:=#[z,H,I,g,q]
 by_cases o:0<=i
 .have A:i.toNat=j:=by
   rw[seqIndex_of o J]at n
   grind
  exact item_listR pl.isList o (by lk) (by rw[A];simpa using L) c m
 .have A:(i+(f.toArray.size:Int)).toNat=j:=by
   rw[seqIndex_neg (by lk) G]at n
   grind
  exact subscriptTail_builtinR (x:=w) pl.isList.typeIs slot_list_getitem.lookup
   (wpAny_getItem_list_neg (Q:=λr M=>r=w/\EP X k l Q r M) pl.isList (by lk) (by grind) (by lk) (by grind) #[rfl,c]) m
def ix_tup:IxR X^bA X.K:=by
 intro c d A s B H x y v u Q I f g h k;let#[p,C,i,z,rfl,rfl,l,m,q]:=h;cases f;let#[t,rfl]:=g;let#[n,r,pl,D]:=I.tuple l;let#[j,E,o,F,G,J]:=LR m;let#[w,L,e]:=r.get o;have M:=r.length;have N:=F7
 exact subscriptTail_builtinR pl.typeIs iA.lookup
  (getItem_tuple (j:=j) pl (by lk) (by lk) (by grind) (by grind) #[rfl,#[z,H,I,e,q]]) k
def ZC:IxR X bB:=by
 intro d e m s n H x y v u Q I f g h k;let#[z,i,c,rfl,rfl,o,l,q]:=h;let#[t,rfl]:=f;let#[p,rfl]:=g;let#[j,r,w,A,B,C]:=LR l;have D:z.cps.toList.length=z.length:=by simp[Str.length]
 have E:=F7
 exact tail_any (jg s z t) slot_str_getitem.lookup (getItem_str (by
  grind) (by grind) #[.str _,H,I.tok _,#[_,rfl],q]) k
def fH(K:Frag):R2:=λx y H Q=>YS K x y H Q\/bA K x y H Q\/bB x y H Q
def ZD:IxR X^fH X.K:=ix_list.or^ix_tup.or ZC
def Nh(c:r_ Db)(n j:Nat)(u:Db):g9 (·.setIfInBounds j u) {cls:=.type "list",data:=.seq c.toArray n}={cls:=.type "list",data:=.seq (c.set j u).toArray n}:=by
 simp[g9]
def Inv.lst{f:r_ (Ch×Obj)}{g:St}{H:Hp}{s:No}{p:Ch}{d:r_ V}(I:Inv X f g H s)(h:H p=P3^.lst d):
  ∃(c:r_ Db) (n:Nat),Vals d c/\s.heap.get? p=P3 {cls:=.type "list",data:=.seq c.toArray n}/\d.length<=sizeLine:=by
 let#[z,c,n,r,e]:=I.hok p _ h;exact#[_,n,r,e,z]
def Inv.lstUpd{j:r_ (Ch×Obj)}{k:St}{H:Hp}{s:No}{p:Ch}{m g:r_ V}{d c:r_ Db}{n i:Nat}{f:Obj->Obj}(I:Inv X j k H s)(h:H p=P3^.lst m)
  (o:s.heap.get? p=P3 {cls:=.type "list",data:=.seq d.toArray n}) (l:f {cls:=.type "list",data:=.seq d.toArray n}={cls:=.type "list",data:=.seq c.toArray i}) (r:Vals g c) (v:g.length<=sizeLine) (t:Nat):
  Inv X j k (AY H p^.lst g) {s with heap:=s.heap.update p f,toks:=t}:=by
 have e:(s.heap.update p f).get? p=P3 {cls:=.type "list",data:=.seq c.toArray i}:=by
  rw[g8 f o (by rw[l] <;>rfl),l]
 exact I.write (by rw[h];trivial) (.inl rfl) (λb u w q=>(eq _ _^gc w).trans q) #[_,e] #[v,_,i,r,e]
def Wp:V->V->V->Hp->(Hp->Prop)->Prop:=λo i v H Q=>∃p c k j,o=.ref p/\i=.int k/\H p=P3^.lst c/\Uk c.length k=P3 j/\Q^AY H p^.lst^c.set j v
def set_list:cm X Wp:=by
 intro w s x H o i v F G u Q I y z A h;let#[p,B,k,j,rfl,rfl,f,C,q]:=h;cases y;let#[t,rfl]:=z;let#[c,n,r,d,J]:=I.lst f;let#[g,K,D,E]:=PB C;have L:=r.length;have M:=F7
 have l:Inv X w x (AY H p^.lst^B.set j v) {s with heap:=s.heap.update p (g9 (·.setIfInBounds j u))}:=
  I.lstUpd f d (Nh c n j u) (r.set A j) (by simp_all) s.toks
 by_cases m:0<=k
 .have e:k.toNat=j:=by
   rw[seqIndex_of m E]at g
   grind
  exact PySem.W.ki_setAt d m (by lk) (by grind)^by rw[e];exact#[_,l,q]
 .have e:(k+(c.toArray.size:Int)).toNat=j:=by
   rw[seqIndex_neg (by lk) D]at g
   grind
  exact PySem.W.ki_setBack d (by lk) (by grind) (by lk)^by rw[e];exact#[_,l,q]
def KR(lo hi:s_ Int)(n:Nat):(sliceBounds lo hi o_ n).1=((HT.sIx n 0 lo:Nat):Int)/\(sliceBounds lo hi o_ n).2.1=((HT.sIx n n hi:Nat):Int)/\(sliceBounds lo hi o_ n).2.2=1:=by
 refine#[?_,?_,rfl]
 .cases lo with
  |none=>simp[sliceBounds,HT.sIx]
  |some i=>
   simp only[sliceBounds,HT.sIx,Option.getD_none,show(1:Int) > 0 by cbv,if_true]
   by_cases h:i<0
   .grind
   .simp only[h,if_false] <;>lk
 .cases hi with
  |none=>simp[sliceBounds,HT.sIx]
  |some i=>
   simp only[sliceBounds,HT.sIx,Option.getD_none,show(1:Int) > 0 by cbv,if_true]
   by_cases h:i<0
   .grind
   .simp only[h,if_false] <;>lk
def Iq(c:r_ Db)(lo hi:s_ Int):slicePick c.toArray lo hi o_=((c.drop^HT.sIx c.length 0 lo).take (HT.sIx c.length c.length hi - HT.sIx c.length 0 lo)).toArray:=by
 let#[d,e,f]:=KR lo hi _;unfold slicePick;rw[d,e,f];simp only[sliceRange_one,pick_run] <;>rfl
def YO(K:Frag):V->s_ Int->s_ Int->Hp->VK->Prop:=λx d e H Q=>∃a c,x=.ref a/\SqL K H a c/\∀p,H p=o_->Q (.ref p)^AY H p^.lst^Mc c d e
def sl_list:SlR X^YO X.K:=by
 intro o s p H x v t u e f w Q I g i pl j h;let#[a,k,rfl,l,q]:=h;cases g;let#[m,r,d,n]:=I.list l;have c:=r.length;exists _,_,slot_list_getitem.lookup,d.isList.typeIs;refine wpAny_getItem_list_slice d.isList i pl j .none (by simp) ?_ (by grind);rw[Iq,←c];refine#[.ref _,_,I.laid (λb ob q=>FM _ q) (Rs _) ?_,rfl,q _^I.hok.fresh^Rs _];exact#[gN (Gh k e f) n,_,0,(r.drop _).take _,Sc _ rfl]
def XB:V->Bool
 |.non=>p_
 |.bl _=>p_
 |.int _=>p_
 |.str _=>p_
 |_=>q_
def cB:V->V->Bool
 |.non,.non=>p_
 |.bl a,.bl b=>a==b
 |.bl a,.int b=>(if a then 1 else 0)==b
 |.int a,.bl b=>a==(if b then 1 else 0)
 |.int a,.int b=>a==b
 |.str a,.str b=>a==b
 |_,_=>q_
def LC{A:gX}{s:No}{y x:V}{u v:Db}(e:RelV y u)(c:RelV x v)(g:XB y=p_)(f:XB x=p_):SeqAt.EqAt A s u v^cB y x:=by
 cases y with
 |non=>
  cases e;cases x with
  |non=>cases c;exact SeqAt.EqAt.same _
  |bl b=>cases c;exact SeqAt.EqAt.none_bool b
  |int b=>let#[t,rfl]:=c;exact SeqAt.EqAt.none_int b t
  |str b=>let#[t,rfl]:=c;exact SeqAt.EqAt.none_str b t
  |_=>exact absurd (show q_=p_ from f) gE
 |bl a=>
  cases e;cases x with
  |non=>cases c;exact SeqAt.EqAt.bool_none a
  |bl b=>cases c;exact SeqAt.EqAt.bool_bool a b
  |int b=>let#[t,rfl]:=c;exact SeqAt.EqAt.bool_int a b t
  |str b=>let#[t,rfl]:=c;exact SeqAt.EqAt.bool_str a b t
  |_=>exact absurd (show q_=p_ from f) gE
 |int a=>
  let#[d,rfl]:=e;cases x with
  |non=>cases c;exact SeqAt.EqAt.int_none a d
  |bl b=>cases c;exact SeqAt.EqAt.int_bool a d b
  |int b=>let#[t,rfl]:=c;exact SeqAt.EqAt.int_int a d b t
  |str b=>let#[t,rfl]:=c;exact oC a d b t
  |_=>exact absurd (show q_=p_ from f) gE
 |str a=>
  let#[d,rfl]:=e;cases x with
  |non=>cases c;exact SeqAt.EqAt.str_none a d
  |bl b=>cases c;exact SeqAt.EqAt.str_bool a d b
  |int b=>let#[t,rfl]:=c;exact oE a d b t
  |str b=>let#[t,rfl]:=c;exact SeqAt.EqAt.str_str a d b t
  |_=>exact absurd (show q_=p_ from f) gE
 |_=>exact absurd (show q_=p_ from g) gE
def Fk:CallR X (.type "list") (λA H Q=>∃p f,A=[.ref p]/\(SqL X.K H p f\/SqT X.K H p f)/\∀l,H l=o_->Q (.ref l)^AY H l^.lst f):=by
 intro C s D H A F Q I r h;let#[p,f,rfl,j,q]:=h;let#[u,rfl,E]:=vals1 r;cases E
 have k:∀(c:r_ Db),Vals f c->f.length<=sizeLine->∀(d:gA) (i:Nat),(∀b B,s.heap.get? b=P3 B->d.get? b=P3 B)->
   d.get? s.heap.objs.size=P3 _->EP X C D Q (.ref s.heap.objs.size) {s with heap:=d}:=λc g m d i t e=>
  #[.ref s.heap.objs.size,_,I.laid (t':=s.toks) t (Rs _) (show ObjOk X.prog X.w _ d _^.lst f from#[m,c,i,g,e]),rfl,q _^I.hok.fresh^Rs _]
 rcases j with j|j
 .let#[c,g,pl,m]:=I.list j
  have v:=g.length;let#[o,x,y,n,z]:=pl.isList;exact call_list_seq p (.inl rfl) x y z (λd i t e=>k c g m d i t e)^by grind
 .let#[c,g,pl,m]:=I.tuple j
  have v:=g.length;let#[o,x,y,n,z]:=pl;exact call_list_seq p (.inr rfl) x y z (λd i t e=>k c g m d i t e)^by grind
def JL:CallR X (.type "tuple") (λi H Q=>∃p c,i=[.ref p]/\((SqL X.K H p c/\∀l,H l=o_->Q (.ref l)^AY H l^.tup c)\/(SqT X.K H p c/\Q (.ref p) H))):=by
 intro v s w H i x Q I r h;let#[p,c,rfl,h]:=h;let#[u,rfl,n]:=vals1 r;cases n
 rcases h with⟨d,q⟩|⟨d,q⟩
 .let#[f,g,pl,j]:=I.list d
  have k:=g.length;refine call_tuple_list pl.isList (λy t=>?_) (by grind);have m:=I.kept (t':=s.toks) t;exact#[.ref _,_,m.laid (t':=s.toks) (λb o e=>FM _ e) (Rs _) (show ObjOk _ _ _ _ _^.tup c from#[j,_,g,IsTupN.new _ _]),rfl,q _^m.hok.fresh^Rs _]
 .let#[f,g,pl,j]:=I.tuple d
  exact call_tuple_same pl #[.ref p,H,I,rfl,q]
def aP(K:Frag)(T:String)(x:V)(H:Hp):Prop:=match x with
 |.str _=>T="str"
 |.int _=>T="int"
 | .ref p=>(T="list"/\∃d,SqL K H p d)\/(T="tuple"/\∃o,K.lookup p=P3 o/\o.cls=.type "tuple"/\o.dict=o_) \/
   (T="dict"/\((∃c,H p=P3^.dK c)\/∃c,H p=P3^.dT c))\/(T="set"/\∃S n,H p=P3^.set S n)
 |_=>False
def RM{j:r_ (Ch×Obj)}{k:St}{H:Hp}{s:No}{T:String}{x:V}{v:Db}(I:Inv X j k H s)(r:RelV x v)(ty:aP X.K T x H):
  s.TypeIs v T/\∀a,v=.ref a->∃ob,s.heap.get? a=P3 ob/\ob.dict=o_:=by
 cases x with
 |str z=>
  let#[t,rfl]:=r;cases(show T="str" from ty);exact#[jg s z t,λ_ e=>nomatch e]
 |int i=>
  let#[t,rfl]:=r;cases(show T="int" from ty);exact#[typeIs_int s i t,λ_ e=>nomatch e]
 | ref p=>
  cases r
  rcases ty with⟨rfl,u,l⟩|⟨rfl,o,d,m,f⟩|⟨rfl,d⟩|⟨rfl,S,n,d⟩
  .let#[q,_,pl,_]:=I.list l
   refine#[pl.isList.typeIs,λa e=>?_];cases e;let#[o,n,e,c,f,_]:=pl;exact#[o,e,f]
  .refine#[#[o,I.kIn p o d,m],λa e=>?_]
   cases e;exact#[o,I.kIn _ o d,f]
  .have z:∃o,s.heap.get? p=P3 o/\o.ExactDict:=by
    rcases d with⟨g,d⟩|⟨g,d⟩
    .let#[_,_,_,_,o,_,_,e,ex,_]:=I.hok p _ d
     exact#[o,e,ex]
    .let#[_,_,_,_,o,_,_,e,ex,_]:=I.hok p _ d
     exact#[o,e,ex]
   let#[o,e,ex]:=z;refine#[#[o,e,ex.1],λa h=>?_];cases h;exact#[o,e,ex.2.1]
  .let#[o,_,_,_,e,ex,_]:=I.hok p _ d
   refine#[#[o,e,ex.1],λa h=>?_];cases h;exact#[o,e,ex.2.1]
 |_=>exact gy ty
def fi(K:Frag)(T:String)(r:V->r_ V->Hp->VK->Prop)(to:TE)(t:TA):TE:=λc H Q=>to c H λx H1=>aP K T x H1/\t c H1 λd e=>r x d e Q
variable {o e:Expr}{es:r_ Expr}{to:TE}{t:TA}{name:Str}{apos cpos:Pos}{T id:String}{r:V->r_ V->Hp->VK->Prop}
def W3(p:mi T)(f:Slot T name id)(j:typeOf^.builtin id=pure^.type "method_descriptor")(q:Um X id r)(u:PE X o to)(w:PA X (e::es) t)
  (c:attributeBase o name X.env^eval o X.env=eval o X.env:=by rfl)
  (g:((backTo cpos^starEach (e::es) X.env).all (λx=>!x.1)&&(backToKw cpos^keywordEach [] X.env).all (λx=>x.1.isSome)
   && decide ((e::es).length+([]:r_ jl).length+(if([]:r_ jl).isEmpty then 0 else 1)<30))=p_:=by rfl)
  (d:(apos.endLine==cpos.line)=p_:=by rfl) (y:starEach (e::es) X.env=(q_,eval e X.env)::starEach es X.env:=by rfl) (i:(backTo cpos^starEach es X.env).any (·.1)=q_:=by rfl):
  PE X (.Call (.Attribute o name apos) (e::es) [] cpos) (fi X.K T r to t):=by
 intro N s k H Q I h;refine wpAny_Call_method_late c g d rfl (Aq (u _ s k H _ I h) λv z #[x,H1,l,m,ty,A]=>?_);let#[B,C]:=RM l m ty;exists T,id,p,f,j,B,C;have n:=w cpos _ z k H1 _ l A;rw[y]at n ⊢;refine lD (by simp_all)^n6 ?_;exact Aq n λD E #[F,G,J,L,M]=>q _ E k G x F v D Q J m L M
end
def fR(X:Cx)(e:String)(r:V->r_ V->Hp->VK->Prop):Prop:=
 ∀(a:r_ (Ch×Obj)) (s:No) (b:St) (H:Hp) (x:V) (c:r_ V) (v:Db) (d:r_ Db) (Q:VK),Inv X a b H s->RelV x v->Vals c d->r x c H Q->
  wpAny (model X.prog X.w) X.A (call (.builtin e) (v::d)) (EP X a b Q) X.xe s
theorem Vals.one:∀{x:V}{a:r_ Db},Vals [x] a->∃u,a=[u]/\RelV x u
 |_,_,.cons r .nil=>#[_,rfl,r]
theorem Vals.eraseIdx:∀{a:r_ V}{b:r_ Db} (i:Nat),Vals a b->Vals (a.eraseIdx i)^b.eraseIdx i
 |_,_,_,.nil=>.nil
 |_,_,0,.cons _ t=>t
 |_,_,i+1,.cons r t=>.cons r^Vals.eraseIdx i t
def Vals.reverse{a:r_ V}{b:r_ Db}(h:Vals a b):Vals a.reverse b.reverse:=by
 induction h with
 |nil=>exact .nil
 |cons r t c=>rw[k_,k_];exact Vals.append c^.cons r .nil
theorem Jo{a:Type}:∀(l:r_ a) (i:Nat),(l.eraseIdx i).length<=l.length
 |[],_=>Rs _
 |_::_,0=>hZ _
 |_::r,i+1=>m9^Jo r i
section
variable {X:Cx}{zF:r_ (Addr×Obj)}{σ:St}{H:Hp}{s:Shared}{l:Addr}{xs ys:r_ V}
def Inv.lset{a its':r_ Db}{n:Nat}{f:Array Db->Array Db}{t':Nat}(I:Inv X zF σ H s)(b:H l=P3^.lst xs)
  (e:s.heap.get? l=P3 {cls:=.type "list",data:=.seq a.toArray n}) (c:f a.toArray=its'.toArray) (d:Vals ys its') (g:ys.length<=sizeLine):
  Inv X zF σ (AY H l^.lst ys) {s with heap:=s.heap.update l^g9 f,toks:=t'}:=by
 have q:=PySem.IsL.update e f;rw[c]at q;exact I.write (by rw[b];exact trivial) (.inl rfl) (λk u h i=>(eq _ _^gc h).trans i) #[_,q] #[g,_,_,d,q]
def Inv.lnew{a:r_ Db}{b:Nat}(I:Inv X zF σ H s)(c:Vals ys a)(d:ys.length<=sizeLine):
  Inv X zF σ (AY H s.heap.objs.size^.lst ys) {s with heap:=s.heap.push {cls:=.type "list",data:=.seq a.toArray},toks:=b}:=
 I.laid (λ_ _ q=>FM _ q) (Rs _) #[d,_,0,c,Sc _ rfl]
def Inv.fresh(I:Inv X zF σ H s):H s.heap.objs.size=o_:=I.hok.fresh^Rs _
def Inv.lstM(I:Inv X zF σ H s)(b:H l=P3^.lst xs):xs.length<=sizeLine/\∃(a:r_ Db) (n:Nat),Vals xs a/\xs.length=a.length/\s.heap.get? l=P3 {cls:=.type "list",data:=.seq a.toArray n}:=by
 let#[z,a,n,r,e]:=I.hok l _ b;exact#[z,_,n,r,r.length,e]
def Su{n:Nat}(h:n<=sizeLine):km n=q_:=by
 unfold km
 grind
end
section
variable {X:Cx}
def Oc:V->r_ V->Hp->VK->Prop:=λx b H Q=>∃l a y,x=.ref l/\b=[y]/\H l=P3^.lst a/\a.length<sizeLine/\Q .non^AY H l^.lst (a++[y])
def Bl:fR X "list.append" Oc:=by
 intro g s i H x j v k Q I b c h;let#[l,m,y,rfl,rfl,a,o,q]:=h;cases b;let#[u,rfl,d]:=c.one;let#[z,f,n,r,p,e]:=I.lstM a;refine mj F.slot_list_append #[_,e,rfl] F.entry_list_append (F.args_list_append_2 _ _) (PySem.list_append l _ n u^by grind) #[e,?_];refine#[.non,_,I.lset a e (by simp) (r.append^.cons d .nil) ?_,rfl,q]
 grind
def Ob:V->r_ V->Hp->VK->Prop:=λx d H Q=>∃l b a c,x=.ref l/\d=[.ref b]/\H l=P3^.lst a/\H b=P3^.lst c/\a.length+c.length<=sizeLine/\Q .non^AY H l^.lst (a++c)
def Jl:fR X "list.extend" Ob:=by
 intro y s A H x B v C Q I i j h;let#[l,b,D,E,rfl,rfl,g,k,G,q]:=h;cases i;let#[u,rfl,m]:=j.one;cases m;let#[z,a,n,r,J,e]:=I.lstM g;let#[K,c,o,p,t,w]:=I.lstM k;have f:a.toArray.size+c.toArray.size<=sizeLine:=by grind
 have d:¬(!a.toArray.isEmpty&&km (a.toArray.size+c.toArray.size))=p_:=by
  rw[Su f]
  grind
 refine mj F.slot_list_extend #[_,e,rfl] F.entry_list_extend (F.args_list_extend_2 _ _)
  (AutoSeq1.list_extend_list_list_0 l a.toArray n b _ o d (by grind)^by lk) #[e,w,?_]
 refine#[.non,_,I.lset g e (by simp) (r.append p) ?_,rfl,q]
 grind
end
end L2
namespace Att
open PySem.W PySem.Calls
def Gu{P:Params}{h:gA}:∀(c:r_ Int) (d:r_ Db),WellAll P h d^c.map WData.int->IntsAre d c:=by
 intro c
 induction c with
 |nil=>
  intro d w;cases w;exact .nil
 | cons n c e=>
  intro d w;cases w with
  |cons a b=>
   cases a;exact .cons _ _^e _ b
def QA{l:OpenLaw}{n:Nat}(w:l.most=P3 n){P:Params}{h:gA}{args:r_ WData}{b:r_ Db}
  (c:l.row.toRowW.claim.pre args=p_) (i:WellAll P h b args):
  ∃a k e,b=[ZB a]/\args=[WData.list^e.map WData.int]/\h.get? a=P3 {cls:=.type "list",data:=.seq k.toArray}/\IntsAre k e/\e.length<=n:=by
 have j:WShape.hasAll [] args [.list .int]=p_:=(pre_splitW c).1;have m:l.pre.holds [] {args:=args}=p_:=(pre_splitW c).2;let#[d,r,rfl,p,q]:=hasAllW_cons j;obtain rfl:=hasAllW_nil q;let#[x,rfl,s]:=hasW_list p;let#[e,rfl]:=items_int s
 have f:e.length<=n:=by
  unfold OpenLaw.pre at m
  have o:(WTm.not^.lt (.lit^.int (n:Int))^.len^.arg 0).holds [] {args:=[.list^e.map .int]}=p_:=by
   have o:=(holds_andW m).1
   grind
  have y:=condW_of o^w_not^w_lt w_lit^w_len_list (w_arg rfl)
  grind
 cases i with
 |cons t u=>
  cases u;cases t with
  |list v g=>exact#[_,_,e,rfl,rfl,v,Gu e _ g,f]
def QG(l:OpenLaw)(a:r_ WData):l.row.toRowW.claim.post a (.bool p_) a=p_:=
 postW_of
  (show WShape.has [] _ _=p_ by first|rfl|decide|omega)
  (w_eq_bool (w_res rfl) w_lit) rfl
def attach_call{l:OpenLaw}{n:Nat}{q:gC}{c:r_ Str}{D:(Str->s_ Db)->gA->Prop}{E:gJ->gA->Prop}{d:DefRec}
  (K:l.most=P3 n) (x:d.params.defaults=[])
  (call:∀(w:gJ) (e b:No) (s y:Str->s_ Db) (j:Ch) (o:Obj) (z t g:Db) (a:Ch) (i:r_ Db) (u:r_ Int),
   Ground q c [] D w e s y b.heap->E w b.heap->
   b.heap.get? j=P3 o->o.data=.func^docDef d.name d.params d.body d.scope z t g->b.heap.CodeRec t d.name->s d.name=P3^.ref j->
   b.heap.get? a=P3 {cls:=.type "list",data:=.seq i.toArray}->IntsAre i u->u.length<=n->b.gens=#[]->
   codeAny (model l.prog w) callerA (.call (.ref j) #[[.ref a],[]]) (λr v=>r=.ok^.ret^.bool p_/\OldK b.heap v.heap/\v.os=b.os/\kF v.gens) b):
  WalkO q c D E l.row.toRowW d [] (λf i=>PySem.call f i):=by
 intro w e b s y G Y j o z t g L M N O A F B P H I X k J Q C R;obtain rfl:L=.none:=Dflts.none F x;obtain rfl:M=.none:=Dflts.noKw F;let#[a,i,u,rfl,rfl,m,h,p]:=QA K k C;refine enter_call^kG (call w e b s y j o z t g a i u G Y N (fd_plain O) A B m h p P) λr v S=>?_;let#[rfl,T,U,V]:=S;exact#[.inl #[.bool p_,.bool p_,[],rfl,λ_=>rfl,.bool p_,QG l _,λ_=>#[List.Pairwise.nil,λ_ W=>(nomatch W)]],T,U,V]
end Att
namespace L2
theorem JV:∀{a:r_ Db}{b:r_ Int},IntsAre a b->Vals (b.map V.int) a
 |_,_,.nil=>.nil
 |_,_,.cons n t h=>.cons #[t,rfl]^JV h
def Zy(H:Hp):Prop:=∀b,H b=o_\/∃o a,H b=P3^.frz o^.lst a
def S9{P:gC}{w:gJ}{K:Frag}{A R:Str->s_ Db}{CX:Q7}{k:Nat}{S a:Ch}{fd:gp}{x:Str}{sp:Sp}{c:No}{t:r_ Db}{B:r_ Int}
  (KX:K.In c.heap) (C:c.heap.Ns mainGlobals A) (g:c.heap.Ns builtinsNs R) (T:∀x:Str,x ≠ "__name__"->R x=bootBuiltins x) (D:c.heap.NoLimit) (hg:c.gens=#[])
  (Q:c.heap.get? a=P3 {cls:=.type "list",data:=.seq t.toArray}) (hi:IntsAre t B) (hl:B.length<=sizeLine) (hr:Room k callerA)
  (F:∀i:gA,K.In i->i.Ns mainGlobals A->FnOk P w K A i CX k S fd [x] sp) (y:∀(s:No) (u:Db),mz s fd #[[u],[]] [(x,u)])
  (U:∀H:Hp,Zy H->SqL K H a^B.map V.int->sp [.ref a] H (λv _=>v=.bl p_) λ_ _ _=>False)
  (W:∀H e j,CX [] H c (λ_ _ _=>False) e j->False):
  codeAny (model P w) callerA (.call (.ref S) #[[.ref a],[]]) (λr j=>r=.ok^.ret^.bool p_/\OldK c.heap j.heap/\j.os=c.os/\kF j.gens) c:=by
 have rv:=JV hi;have E:=hi.length
 have p:∀H:Hp,Zy H->SqL K H a^B.map V.int->HOk P w H c.heap->(∀b,H b≠o_->b=a)->(H a≠o_->K.lookup a=o_)->
   codeAny (model P w) callerA (.call (.ref S) #[[.ref a],[]]) (λr j=>r=.ok^.ret^.bool p_/\OldK c.heap j.heap/\j.os=c.os/\kF j.gens) c:=by
  intro H hO hS G hA hK;have f:∀{b:Ch}{o:Obj},c.heap.get? b=P3 o->H b=o_->(K8 c.heap H).get? b=P3 o:=λe n=>TY e n
  have X:∀{b:Ch}{o:Obj}{I:Array jz}{J:Nat},c.heap.get? b=P3 o->o.data=.dict I J->H b=o_:=λ{b o I J} e d=>by
   cases q:H b with
   |none=>rfl
   |some u=>
    have Y:b=a:=hA b (by rw[q];simp);subst Y;rw[Q]at e;cases e
    have d':Data.seq t.toArray _=Data.dict I J:=d;cases d'
  have l:∀{b:Ch}{m:Str->s_ Db},c.heap.Ns b m->(K8 c.heap H).Ns b m:=λ{b m} #[o,I,J,e,d,r]=>#[o,I,J,f e^X e d,d,r]
  have L:K.In^K8 c.heap H:=λb o e=>f (KX b o e) (by
   cases q:H b with
   |none=>rfl
   |some u=>
    have Y:b=a:=hA b (by rw[q];simp);subst Y;rw[hK^by rw[q];simp]at e;cases e)
  have hM:Mod K A^K8 c.heap H:=#[L,l C,#[R,l g,T],let #[mc,h1,h2]:=D;#[mc,l h1,h2]];have e0:Env0 P w K A (K8 c.heap H) callerA [] c H:=#[rfl,hM,λb o e=>VO e,lZ^Qo _ _,trivial,λb g=>absurd (show b∈([]:r_ Ch)from g)^by simp,G,.of_eq hg];refine kG ((F _ L^l C).run callerA [] c H #[[.ref a],[]] [.ref a] [.ref a] _ _ hr e0 (y c^.ref a) (.cons rfl .nil)^U H hO hS) λr j h=>?_;cases r with
  |error e=>exact(W H e j h).elim
  | ok fl=>
   cases fl with
   |next=>exact gy h
   |brk=>exact gy h
   |cont=>exact gy h
   | ret u=>
    let#[v,H',os,M,un,N,r',q]:=h;have q':v=.bl p_:=q;subst q';obtain rfl:u=jx p_:=r';refine#[rfl,OldK.of_keep λb o e=>?_,os,M];cases q:H b with
    |none=>exact un.keep b o e q (by intro z;exact absurd (show b∈([]:r_ Ch)from z)^by simp)^by simp
    | some u=>
     rcases hO b with z|⟨ob,xs,z⟩
     .rw[q]at z;cases z
     .have z2:=un.frzs b ob _ z
      let#[e1,_]:=G b _ z;let#[e2,_]:=N b _ z2;rw[e]at e1;cases e1
      exact e2
 cases Z:K.lookup a with
 |some o=>
  have e:=KX a o Z;rw[Q]at e;cases e;refine p (λ_=>o_) (λ_=>.inl rfl) (.inr #[_,t.toArray,_,Z,rfl,rfl,rfl,by rw[f8,E];exact hl,by simpa using rv]) (λb u z=>by have O:(o_:s_ HO)=P3 u:=z;cases O) (λb z=>absurd rfl z) λz=>absurd rfl z
 | none=>
  refine p (λb=>if b=a then P3^.frz {cls:=.type "list",data:=.seq t.toArray}^.lst^B.map V.int else o_) (λb=>?_) (.inl^.inr #[{cls:=.type "list",data:=.seq t.toArray},if_pos rfl]) (λb u z=>?_) (λb z=>?_) λ_=>Z
  .by_cases g:b=a
   .exact .inr #[_,_,if_pos g]
   .exact .inl^if_neg g
  .by_cases g:b=a
   .have O:=(if_pos g).symm.trans z
    cases O;subst g;exact#[Q,by rw[Ev];exact hl,t,_,rv,Q]
   .have O:=(if_neg g).symm.trans z
    cases O
  .by_cases g:b=a
   .exact g
   .exact absurd (if_neg g) z
def OK{l:PySem.W.OpenLaw}{n k:Nat}{q:gC}{j:r_ Str}{O:(Str->s_ Db)->gA->Prop}{I:gJ->gA->Prop}{d:DefRec}{K:Params->Frag}{CX:gJ->Q7}{sp:gJ->Sp}{x:Str}
  (P:l.most=P3 n) (z:n<=sizeLine) (A:d.params.defaults=[]) (Q:Room k callerA)
  (R:∀(w:gJ) (h:gA),I w h->(K w.params).In h)
  (F:∀(w:gJ) (p:Str->s_ Db) (t:Ch) (h:gA),(K w.params).In h->h.Ns mainGlobals p->p d.name=P3^.ref t->
   ∃fd:gp,(∀(s:No) (u:Db),mz s fd #[[u],[]] [(x,u)]) /\
    ∀c:gA,(K w.params).In c->c.Ns mainGlobals p->FnOk l.prog w (K w.params) p c (CX w) k t fd [x]^sp w)
  (B:∀(w:gJ) (H:Hp) (a:Ch) (y:r_ Int),y.length<=n->Zy H->SqL (K w.params) H a^y.map V.int->sp w [.ref a] H (λv _=>v=.bl p_) λ_ _ _=>False)
  (C:∀(w:gJ) (H:Hp) (s:No) (e:Db) (D:No),CX w [] H s (λ_ _ _=>False) e D->False):
  PySem.W.WalkO q j O I l.row.toRowW d [] (λf J=>PySem.call f J):=by
 refine Att.attach_call P A λw L M p mb t o pm cd S a J y G Y ho hd U E r m i X=>?_;have N:=R w _ Y;let#[fd,Z,hF]:=F w p t _ N G.T.g E;exact S9 N G.T.g G.T.b G.T.builtins G.T.nolimit X r m (gN i z) Q hF Z (λH hO hS=>B w H a y i hO hS) λH e D=>C w H _ e D
end L2
/- THE LAST THEOREM (shape;LID,My.* are yours):
   My.Adr:a structure of the addresses that your layer names (classes,functions);My.Txt K t:a structure (Prop) of the equations over K;
   My.txt_mk:{K}{implicit addresses ..} (e1:nsIn K mainGlobals "law"=P3^P3^.ref f) (e2:K.lookup f=P3 #[oc,od,.func^fnOf "law" "law" params body scope dV kV doc pm an cdv ct,sl]) (e3:codeIn K cdv "law"=p_) ..:∃ t,My.Txt K t
set_option maxRecDepth 100000 in
set_option maxHeartbeats 0 in
def PySem.Challenge.cw_LID_holds:PySem.Challenge.rw_LID.Holds:=by
 w_on;o_law;k_head;(case hw=>w_witness2)
 k_fill
 refine L2.OK (l:=PySem.Challenge.rw_LID) (n:=63) (k:=40) (x:="script") (CX:=λw=>..) (sp:=λ_=>My.sp_law) rfl (by cbv) rfl #[rfl,by cbv,by cbv] (λw h Y=>PySem.W.kIn_of Y) ?F ?S ?C
 case F=>
  intro w mg fa h KX G hmg
  have T:∃t,My.Txt (L2.KOf KX) t:=by
   dsimp only[L2.KOf] -- K must stand as «<heap const> w.params» for k_is
   refine' My.txt_mk ?e1 ?e2 ?e3 ..
   (case e1=>PySem.W.k_is) -- in the order:a name->its address->its object->its parts
   (case e2=>PySem.W.k_is)
   ..
  let#[t,T]:=T;have e0:=hmg.symm.trans^mg_of KX G T.law;cases e0 -- fa is the law's own address;exact#[_,λs u=>.of_eq rfl,λbase kb nb=>My.law_fn T kb nb] -- if «.of_eq rfl» comes too early:refine' #[_,?b,λbase kb nb=>My.law_fn T kb nb];exact λs u=>.of_eq rfl
 case S=>exact λw H a ns hl hO hS=>..
 case C=>exact ..
(the tactic k_is has no namespace:write k_is) -/
namespace L2
def A7(s:iD):Arguments:=match s with
 |.FunctionDef _ a _ _ _ _ _ _ _ _=>a
 |_=>{posonlyargs:=[],args:=[],vararg:=o_,kwonlyargs:=[],kw_defaults:=[],kwarg:=o_,defaults:=[]}
def Aa(s:iD):r_ iD:=match s with
 |.FunctionDef _ _ b _ _ _ _ _ _ _=>b
 |_=>[]
def AK(s:iD):jK:=match s with
 |.FunctionDef _ _ _ _ _ _ a _ _ _=>a
 |_=>{kind:=.function,names:=[],isGenerator:=q_,isCoroutine:=q_}
abbrev Eo:Q7:=λ_ _ _ _ _ _=>False
abbrev E0:XK:=λ_ _ _=>False
def FS{X:Cx}:CH Eo X E0:=λ_ _ _ _ _ _ _ h=>h.elim
structure Fun (K:Frag) (x qual:Str) (st:iD) (f:Ch) (fd:gp):Prop where
 ex:∃(oc:Db) (od:Option Ch) (kV doc pm:Db) (an:Option Ch) (cdv ct:Db) (osl:Array^Option Db),
  fd=fnOf x qual (A7 st) (Aa st) (AK st) .none kV doc pm an cdv ct/\K.lookup f=P3 #[oc,od,.func fd,osl]/\codeIn K cdv qual=p_
 kp:keepIn K^.ref f=p_
section
variable {P:Program}{w:World}{K:Frag}{mg:Str->s_ Value}{base:Heap}
def Fun.ok{x a:Str}{g:iD}{f:Ch}{fd:gp}{N ps:r_ Str}{k:Nat}{sp:Sp}(F:Fun K x a g f fd)(S:A8 N ps^AK g)(len:∀c H Q E,sp c H Q E->c.length=ps.length)
  (d:∀(e:Db) (A:gX) (b:r_ Env) (s:No) (H:Hp) (c:r_ V) (Q:VK) (E:XK),Room k^A.deeper^envOfC a (AK g) s.heap.objs.size f e->sp c H Q E->
   ∃t,PSs (C4 Eo P w K mg base N a (AK g) f e A b s H E).nox (Aa g) t/\t {nx:=λ_ l=>Q .non l,rt:=Q} (start N c) H):FnOk P w K mg base Eo (k+1) f fd ps sp:=by
 let#[r,u,v,m,y,z,e,B,n,rfl,o,i]:=F.ex;refine XA o i S len λA b s H c Q E p j=>?_;let#[t,h,q]:=d _ A _ s H c Q E p j;exact#[t,h.nox,q]
def Fun.binds{x a:Str}{d:iD}{f:Ch}{fd:gp}{ps:r_ Str}(F:Fun K x a d f fd)
  (h:∀(e b g:Db) (i:s_ Ch) (c j:Db) (k:r_ Db),k.length=ps.length->bindArgs (fnOf x a (A7 d) (Aa d) (AK d) .none e b g i c j) #[k,[]]=pure^ps.zip k):Binds K fd ps []:=by
 let#[n,o,e,b,g,i,c,j,l,rfl,p,m]:=F.ex;exact .all^h e _ g i _ j
def IG{x a:Str}{st:iD}{f:Ch}{j:Db}{m e:s_ Ch}{g:Array^s_ Db}{kV d h b i:Db}(l:K.lookup f=P3 #[j,m,.func^fnOf x a (A7 st) (Aa st) (AK st) .none kV d h e b i,g])
  (c:codeIn K b a=p_) (k:keepIn K^.ref f=p_):Fun K x a st f^fnOf x a (A7 st) (Aa st) (AK st) .none kV d h e b i:=#[#[j,m,kV,_,h,e,_,i,_,rfl,l,c],k]
end
def ID{A:gX}{k:Nat}(a:Room k A):A.units+1<cLine:=j4 (Nat.add_le_add_left (by cbv) _) a.units
section
variable {X:Cx}
def pv(i:Nat){x:Str}{pos:Pos}(b:X.N[i]?=P3 x:=by rfl)(c:Pu X.env.scope x:=by first|exact gx rfl|exact iK (gx rfl)|exact iK (iK rfl))(d:(x==("__debug__":Str))=q_:=by decide)
  (a:(x==("__classdict__":Str))=q_:=by decide):PE X (.Name x pos)^BZ i:=De b c d a
end
def BB{A B:Prop}(h:B):if q_=p_ then A else B:=by
 grind
def BX{A B:Prop}(h:A):if p_=p_ then A else B:=by
 grind
def Dl{c A B:Prop}[Decidable c](h1:c->A)(a:¬c->B):if c then A else B:=by
 grind
section
variable {κ:Type}[DecidableEq κ]
def B8(a:r_ (κ×V))(k:κ):s_ V:=(a.find? λb=>decide (b.1=k)).map (·.2)
def putK(a:r_ (κ×V))(k:κ)(v:V):r_ (κ×V):=
 if(a.any λb=>decide (b.1=k))=p_ then a.map (λb=>if b.1=k then(b.1,v)else b)else a++[(k,v)]
def C_{p:κ×V}{r:r_ (κ×V)}{k:κ}(e:p.1=k):B8 (p::r) k=P3 p.2:=by simp[B8,e]
def DA{p:κ×V}{r:r_ (κ×V)}{k:κ}(e:¬p.1=k):B8 (p::r) k=B8 r k:=by simp[B8,e]
theorem Lh(k:κ):∀a:r_ (κ×V),(a.any λb=>decide (b.1=k))=(B8 a k).isSome
 |[]=>rfl
 |p::r=>by
  rw[List.any_cons]
  by_cases e:p.1=k
  .simp[C_ e,decide_eq_true e,Bool.true_or]
  .rw[DA e,decide_eq_false e];exact Lh k r
def EB(a:r_ (κ×V))(k:κ)(v:V):(putK a k v).length<=a.length+1:=by
 unfold putK
 grind
def RelO.isSome_eq{o:s_ V}{u:s_ Db}(r:RelO o u):o.isSome=u.isSome:=by
 cases o with
 |none=>cases u with
  |none=>rfl
  |some _=>exact(r).elim
 |some _=>cases u with
  |none=>exact(r).elim
  |some _=>rfl
def KV.val{a:r_ (κ×V)}{f:r_ (κ×Db)}(r:KV a f)(k:κ):RelO (B8 a k)^valueAt f k:=by
 induction r with
 |nil=>exact ip
 | @cons p q l c h t i=>
  let#[g,j]:=h
  by_cases e:p.1=k
  .have d:=g.symm.trans e
   have b:valueAt (q::c) k=P3 q.2:=by simp[valueAt,d]
   rw[C_ e,b];exact j
  .have d:¬q.1=k:=λz=>e^g.trans z
   have b:valueAt (q::c) k=valueAt c k:=by simp[valueAt,d]
   rw[DA e,b];exact i
def KV.any{a:r_ (κ×V)}{c:r_ (κ×Db)}(r:KV a c)(k:κ):(a.any λb=>decide (b.1=k))=c.any λb=>decide (b.1=k):=by
 induction r with
 |nil=>rfl
 |cons h t d=>simp_all
def KV.repl{b:r_ (κ×V)}{c:r_ (κ×Db)}(r:KV b c)(k:κ){y:V}{u:Db}(f:RelV y u):
  KV (b.map λa=>if a.1=k then(a.1,y)else a) (c.map λa=>if a.1=k then(a.1,u)else a):=by
 induction r with
 |nil=>exact .nil
 |@cons p q g i h t d=>
  refine .cons ?_ d
  by_cases e:p.1=k
  .simp_all
  simp_all
def KV.put{kvs:r_ (κ×V)}{a:r_ (κ×Db)}(r:KV kvs a)(k:κ){y:V}{u:Db}(b:RelV y u):KV (putK kvs k y)^stored a k u:=by
 unfold putK stored;rw[r.any k]
 by_cases e:(a.any λc=>decide (c.1=k))=p_
 .rw[if_pos e,if_pos e];exact r.repl k b
 .rw[if_neg e,if_neg e];exact Paired.snoc r #[rfl,b]
def KV.length{a:r_ (κ×V)}{b:r_ (κ×Db)}(r:KV a b):a.length=b.length:=Paired.length r
end
def Jq{P:gC}{w:gJ}{k:Key}{u:Db}(r:RelV (kV k) u):(Ax P w).is k u=p_:=by
 cases k with
 |inl i=>let#[t,e]:=(r);subst e;exact MG P w i t
 |inr x=>let#[t,e]:=(r);subst e;exact MF P w x t
theorem Jr{P:gC}{w:gJ}:∀{a:r_ Key}{b:r_ Db},Vals (a.map kV) b->ItemsAre (Ax P w) a b
 |[],_,r=>by cases r;exact .nil
 |k::a,_,r=>by
  cases r with
  |cons h t=>exact .cons (Jq h)^Jr t
abbrev KT(H:Hp):r_ (r_ Key×V)->r_ (r_ Key×Ch×Db)->Prop:=Paired λp q=>p.1=q.1/\H q.2.1=P3^.tup^p.1.map kV/\RelV p.2 q.2.2
def KT.val{H:Hp}{a:r_ (r_ Key×V)}{f:r_ (r_ Key×Ch×Db)}(r:KT H a f)(k:r_ Key):RelO (B8 a k) ((atKey f k).map (·.2)):=by
 induction r with
 |nil=>exact ip
 | @cons p q l c h t i=>
  let#[g,_,j]:=h
  by_cases e:p.1=k
  .have d:=g.symm.trans e
   have b:atKey (q::c) k=P3 q.2:=by simp[atKey,d]
   rw[C_ e,b];exact j
  .have d:¬q.1=k:=λz=>e^g.trans z
   have b:atKey (q::c) k=atKey c k:=by simp[atKey,d]
   rw[DA e,b];exact i
def KT.repl{H:Hp}{a:r_ (r_ Key×V)}{c:r_ (r_ Key×Ch×Db)}(r:KT H a c)(k:r_ Key){y:V}{u:Db}(f:RelV y u):
  KT H (a.map λb=>if b.1=k then(b.1,y)else b) (c.map^putAt k u):=by
 induction r with
 |nil=>exact .nil
 |@cons p q g i h t d=>
  refine .cons ?_ d;unfold putAt
  by_cases e:p.1=k
  .simp_all
  simp_all
def KT.put{H:Hp}{kvs:r_ (r_ Key×V)}{a:r_ (r_ Key×Ch×Db)}(r:KT H kvs a)(k:r_ Key){b:Ch}{y:V}{u:Db}(d:H b=P3^.tup^k.map kV)(c:RelV y u):
  KT H (putK kvs k y) (storedH a k b u):=by
 have e:(kvs.any λf=>decide (f.1=k))=(atKey a k).isSome:=by
  rw[Lh,(r.val k).isSome_eq,mX]
 unfold putK storedH;rw[e]
 by_cases q:(atKey a k).isSome=p_
 .rw[if_pos q,if_pos q];exact r.repl k c
 .rw[if_neg q,if_neg q];exact Paired.snoc r #[rfl,d,c]
def KT.keeps{H c:Hp}{a:r_ (r_ Key×V)}{d:r_ (r_ Key×Ch×Db)}(r:KT H a d)(f:∀b e,H b=P3^.tup e->c b=P3^.tup e):KT c a d:=
 Paired.mapP r λ_ _ z=>#[z.1,f _ _ z.2.1,z.2.2]
section
variable {P:Program}{w:World}{H:Hp}{h:Heap}{a:Addr}
def Wj{u:HO}(ok:HOk P w H h)(e:Rd H a u):ObjOk P w H h a u:=e.ok ok
def Ge{b:r_ (Key×V)}(ok:HOk P w H h)(e:Rd H a^.dK b):b.length<=sizeLine/\(a==sysModules)=q_/\∃c,KV b c/\h.DictOf (Ax P w) a c:=
 Wj ok e
def XU{b:r_ (Key×V)}(ok:HOk P w H h)(e:H a=P3^.dK b):b.length<=sizeLine/\(a==sysModules)=q_/\∃c,KV b c/\h.DictOf (Ax P w) a c:=Ge ok^.inl e
def GA{b:r_ Key}(ok:HOk P w H h)(e:H a=P3^.tup^b.map kV):(tupleKind^Ax P w).is h b a:=by
 let#[_,c,r,o,d,f,n,g,_]:=(ok a _ e);exact#[o,_,n,d,f,g,by simpa using Jr r]
def EG{b:r_ (r_ Key×V)}(ok:HOk P w H h)(e:Rd H a^.dT b):b.length<=sizeLine/\(a==sysModules)=q_ /\
  ∃d,KT H b d/\h.DictOfH (tupleKind^Ax P w) a d:=by
 let#[z,y,d,r,o,f,g,i,j,k,n,s]:=(Wj ok e);refine#[z,y,d,r,o,f,g,i,j,k,n,λx c=>?_,s]
 have all:∀{l:r_ _}{m:r_ _},KT H l m->∀x∈m,(tupleKind^Ax P w).is h x.1 x.2.1:=by
  intro l m q
  induction q with
  |nil=>grind
  |@cons p q v A B t u=>
   intro x c
   rcases Tk.mp c with e|c
   .exact GA ok^by grind
   .exact u x c
 exact all r x c
def XR{b:r_ (r_ Key×V)}(ok:HOk P w H h)(e:H a=P3^.dT b):b.length<=sizeLine/\(a==sysModules)=q_ /\
  ∃c,KT H b c/\h.DictOfH (tupleKind^Ax P w) a c:=EG ok^.inl e
end
def DGet(H:Hp)(a:Ch)(y:V)(r:s_ V):Prop:=
 (∃c k,Rd H a^.dK c/\y=kV k/\r=B8 c k)\/∃c k b,Rd H a^.dT c/\y=.ref b/\H b=P3^.tup^k.map kV/\r=B8 c k
def DPut(H:Hp)(a:Ch)(y v:V)(d:Hp):Prop:=
 (∃c k,H a=P3^.dK c/\y=kV k/\c.length<sizeLine/\d=AY H a^.dK^putK c k v) \/
 ∃c k b,H a=P3^.dT c/\y=.ref b/\H b=P3^.tup^k.map kV/\c.length<sizeLine/\d=AY H a^.dT^putK c k v
theorem DGet.k{H:Hp}{a:Ch}{b:r_ (Key×V)}{k:Key}(e:H a=P3^.dK b):DGet H a (kV k)^B8 b k:=.inl #[_,k,.inl e,rfl,rfl]
theorem DPut.k{H:Hp}{a:Ch}{b:r_ (Key×V)}{k:Key}{v:V}(e:H a=P3^.dK b)(c:b.length<sizeLine):DPut H a (kV k) v^AY H a^.dK^putK b k v:=.inl #[_,k,e,rfl,c,rfl]
def DPut.t{H:Hp}{a b:Ch}{c:r_ (r_ Key×V)}{k:r_ Key}{v:V}(e:H a=P3^.dT c)(eb:H b=P3^.tup^k.map kV)(d:c.length<sizeLine):
  DPut H a (.ref b) v (AY H a^.dT^putK c k v):=.inr #[_,k,b,e,rfl,eb,d,rfl]
section
variable {X:Cx}{zF:r_ (Addr×Obj)}{σ:St}{H:Hp}{s:Shared}{a:Addr}{y v:V}{u r:Value}{o:s_ V}{A:Around}{E:Value->Shared->Prop}
def Inv.big(I:Inv X zF σ H s):sysModules<s.heap.objs.size:=Nat.lt_trans (by cbv) (I.mod.glob.keeps I.bk).lt
def Qw{Q:Db->No->Prop}(x:A.units+1<cLine)(I:Inv X zF σ H s)(g:DGet H a y^P3 v)(q:RelV y u)(h:∀f t,Inv X zF σ H t->RelV v f->Q f t):
  wpAny (model X.prog X.w) A (getItem (.ref a) u) Q E s:=by
 rcases g with⟨i,k,e,j,l⟩|⟨i,k,b,e,j,B,l⟩
 .subst j
  let#[z,C,D,c,dd]:=Ge I.hok e;let#[f,m,d]:=RelO.some_of (v:=v) (o:=valueAt D k) (by rw[l];exact c.val k);exact wpAny_getItem_of (Jq q) dd.mapOf m^h f _ (I.tok _) d
 .subst j
  cases(show u=ZB b from q);let#[z,C,F,c,dd]:=EG I.hok e;let#[f,m,d]:=RelO.some_of (v:=v) (o:=(atKey F k).map (·.2)) (by rw[l];exact c.val k);let#[p,G,n]:=gY.mp m;refine wpAny_getItem_heap (j5 x) (GA I.hok B) dd G ?_;rw[n];exact h f _ (I.tok _) d
def eT{Q:Db->No->Prop}(n:A.units+1<cLine)(I:Inv X zF σ H s)(g:DGet H a y o)(j:RelV y u)(h:∀m,Inv X zF σ H m->Q (.bool o.isSome) m):
  wpAny (model X.prog X.w) A (compareOp .In u^.ref a) Q E s:=by
 rcases g with⟨d,k,e,f,l⟩|⟨d,k,b,e,f,p,l⟩
 .subst f
  let#[z,i,t,c,dd]:=Ge I.hok e;refine wpAny_in_of (Jq j) i dd.mapOf ?_;rw[←(c.val k).isSome_eq,←l];exact h _^I.tok _
 .subst f
  cases(show u=ZB b from j);let#[z,i,x,c,dd]:=EG I.hok e;refine wpAny_in_heap (j5 n) (GA I.hok p) i dd ?_;have q:=(c.val k).isSome_eq;rw[mX]at q;rw[←q,←l];exact h _^I.tok _
def V3{Q:Db->No->Prop}(n:A.units+1<cLine)(I:Inv X zF σ H s)(g:DGet H a y o)(j:RelV y u)(h:∀m,Inv X zF σ H m->Q (.bool (!o.isSome)) m):
  wpAny (model X.prog X.w) A (compareOp .NotIn u^.ref a) Q E s:=by
 rcases g with⟨d,k,e,f,l⟩|⟨d,k,b,e,f,p,l⟩
 .subst f
  let#[z,i,t,c,dd]:=Ge I.hok e;refine wpAny_notIn_of (Jq j) i dd.mapOf ?_;rw[←(c.val k).isSome_eq,←l];exact h _^I.tok _
 .subst f
  cases(show u=ZB b from j);let#[z,i,x,c,dd]:=EG I.hok e;refine wpAny_notIn_heap (j5 n) (GA I.hok p) i dd ?_;have q:=(c.val k).isSome_eq;rw[mX]at q;rw[←q,←l];exact h _^I.tok _
def HG{c:gA}{d:Nat}{ob:HO}(I:Inv X zF σ H s)(e:cw^H a)(f:jB a s.heap c)(g:∃q,c.get? a=P3 q)(new:ObjOk X.prog X.w (AY H a ob) c a ob):
  Inv X zF σ (AY H a ob) {s with heap:=c,toks:=d}:=
 I.write e (.inl rfl) (λb q h z=>(f.2 b h).trans z) g new
def Tz{P:gC}{w:gJ}{f:Hp}{e:gA}{b:r_ (Key×V)}{c:r_ (Key×Db)}(z:b.length<=sizeLine)(g:(a==sysModules)=q_)(d:KV b c)(dd:e.DictOf (Ax P w) a c):
  ObjOk P w f e a (.dK b):=#[z,g,c,d,dd]
def Jx{C:Hp}{Q:Unit->No->Prop}(L:A.units+1<cLine)(I:Inv X zF σ H s)(g:DPut H a y v C)(D:RelV y u)(rv:RelV v r)(h:∀F,Inv X zF σ C F->Q () F):
  wpAny (model X.prog X.w) A (setItem (.ref a) u r) Q E s:=by
 rcases g with⟨d,k,e,m,l,n⟩|⟨d,k,b,e,m,G,l,n⟩
 .subst m n
  let#[z,p,M,f,dd]:=XU I.hok e;have t:M.length<=sizeLine:=by rw[←f.length];exact z
  have x:(putK d k v).length<=sizeLine:=by have:=EB d k v;lk
  refine wpAny_setItem_pairs (hsz:=t) (Jq D) dd λJ i B=>h _ ?_;have N:∃q,J.get? a=P3 q:=let #[q,_,_,j,_]:=i;#[q,j]
  exact HG I (by rw[e];exact ip) B N^Tz x p (f.put k rv) i
 .subst m n
  cases(show u=ZB b from D);let#[z,p,O,f,dd]:=XR I.hok e;have t:O.length<=sizeLine:=by rw[←Paired.length f];exact z
  have x:(putK d k v).length<=sizeLine:=by have:=EB d k v;lk
  refine wpAny_setItem_heap (hsz:=t) (j5 L) (GA I.hok G) dd λJ i B=>h _ ?_;let#[q,P,R,j,S,T,U,_,V]:=i;refine HG I (by rw[e];exact ip) B #[q,j] #[x,p,_,(f.put k G rv).keeps λc W K=>?_,q,P,R,j,S,T,U,V];rw[AF^W7 K e λz=>nomatch z];exact K
end
def WR(i:gI):Prop:=∀a b,subscripted i q_ a b=operate [a,b]^getItem a b
def U3{b:gC}{w:gJ}{A:gX}{E:Db->No->Prop}{s:No}{g:Env}{c a:gI}{pos:Pos}{T m:String}{Q:Db->No->Prop}
  (n:typeLookup (.type T) "__getitem__"=pure^P3^.builtin m) (p:WR a)
  (h:wpAny (model b w) A (eval c g) (λo f=>wpAny (model b w) A (eval a g) (λi d=>d.TypeIs o T/\wpAny (model b w) A (getItem o i) Q E d) E f) E s):
  wpAny (model b w) A (eval (.Subscript c a pos) g) Q E s:=by
 refine Subscript_^gh h (λo f j=>gh j (λi d e=>?_) λ_ _ x=>x) λ_ _ x=>x;let#[q,e]:=e;refine Cn ?_;refine Cn^nH q n ?_
 first
  |exact On (Cn (by
  rw[p o i];exact wpAny_operating^gh e (λr l k=>Cn^wpAny_letTemporaryGo^On k) λ_ _ x=>x))
  |grind
  |grind
def Ma{X:Cx}{d:r_ (Ch×Obj)}{f:St}{H:Hp}{s:No}{a:Ch}{y:V}{o:s_ V}(I:Inv X d f H s)(g:DGet H a y o):s.TypeIs (.ref a) "dict":=by
 rcases g with⟨c,k,e,_,_⟩|⟨c,k,b,e,_,_,_⟩
 .let#[_,_,h,_,dd]:=Ge I.hok e
  exact dd.typeIs
 .let#[_,_,i,_,dd]:=EG I.hok e
  exact dd.typeIs
def ac(d ty:TE):TE:=λb H Q=>d b H λx H1=>ty b H1 λy c=>∃a v,x=.ref a/\DGet c a y^P3 v/\Q v c
def ak(d ty e:TE):TS:=λD b H=>e b H λv H1=>d b H1 λx f=>ty b f λy g=>∃a c,x=.ref a/\DPut g a y v c/\D.nx b c
section
variable {X:Cx}{o i value:Expr}{pos pos':Pos}{td ty tv:TE}
def G2(e:X.A.units+1<cLine)(f:PE X o td)(hi:PE X i ty)(j:WR i):PE X (.Subscript o i pos)^ac td ty:=by
 intro w s c H Q I h;refine U3 PySem.F.slot_dict_getitem.lookup j^Aq (f _ s c H _ I h) λu k #[x,H1,l,m,n]=>Aq (hi _ k c H1 _ l n) λz B #[y,p,d,q,a,v,ex,g,r]=>?_;subst ex;obtain rfl:u=ZB a:=m;exact#[Ma d g,Qw e d g q λC D t b=>#[v,p,t,b,r]]
def G1(c:X.A.units+1<cLine)(d:PE X o td)(hi:PE X i ty)(e:PE X value tv)(f:swapsWith value (P3^.Subscript o i pos') pos.line X.env=pure q_):
  PS X (.Assign [.Subscript o i pos'] value pos) (ak td ty tv):=by
 intro G s b H D I h;refine wpAny_Assign_Subscript (Aq (e _ s b H _ I h) λr j #[v,H1,k,l,m]=>Aq (d _ j b H1 _ k m) λu n #[x,p,q,t,w]=>Aq (hi _ n b p _ q w) λJ K #[y,L,z,B,a,C,ex,g,E]=>?_) f;subst ex;obtain rfl:u=ZB a:=t;exact Jx c z g B l λM F=>#[b,C,F,E]
end
def MZ{P:gC}{w:gJ}{H:Hp}(h:gA)(a:sysModules<h.objs.size):ObjOk P w H (h.push {cls:=.type "dict",data:=.dict #[]}) h.objs.size^.dK []:=
 #[gK _,beq_eq_false_iff_ne.mpr^gc^gB a,[],.nil,Heap.DictOf.new h]
def Tp{P:gC}{w:gJ}{H:Hp}(h:gA)(a:sysModules<h.objs.size):ObjOk P w H (h.push {cls:=.type "dict",data:=.dict #[]}) h.objs.size^.dT []:=
 #[gK _,beq_eq_false_iff_ne.mpr^gc^gB a,[],.nil,_,_,0,Sc _ rfl,#[rfl,rfl,rfl],rfl,rfl,h8]
def YF:TE:=λ_ H Q=>∀p,H p=o_->Q (.ref p)^AY H p^.dK []
def YE:TE:=λ_ H Q=>∀p,H p=o_->Q (.ref p)^AY H p^.dT []
section
variable {X:Cx}{pos:Pos}
def Hg:PE X (.Dict [] [] pos) YF:=λa s b H Q I h=>
 wpAny_Dict_empty #[.ref _,_,I.laid (λ_ _ q=>FM _ q) (Rs _)^MZ _ I.big,rfl,h _^I.hok.fresh^Rs _]
def Sb:PE X (.Dict [] [] pos) YE:=λa s b H Q I h=>
 wpAny_Dict_empty #[.ref _,_,I.laid (λ_ _ q=>FM _ q) (Rs _)^Tp _ I.big,rfl,h _^I.hok.fresh^Rs _]
end
def NE:r_ (TE×TE)->St->Hp->(r_ (V×V)->Hp->Prop)->Prop
 |[],_,H,Q=>Q [] H
 |(b,c)::r,a,H,Q=>b a H λx H1=>c a H1 λy d=>NE r a d λe f=>Q ((x,y)::e) f
abbrev VV:r_ (V×V)->r_ (Db×Db)->Prop:=Paired λp q=>RelV p.1 q.1/\RelV p.2 q.2
def dG(X:Cx)(pos:Pos)(b:r_^s_ gI)(a:r_ gI)(c:r_ (TE×TE)):Prop:=
 ∀(e:r_ (Ch×Obj)) (s:No) (d:St) (H:Hp) (Q:r_ (V×V)->Hp->Prop),Inv X e d H s->NE c d H Q->
  wpAny (model X.prog X.w) X.A (evalPairs^pairTrees b a X.env pos) (λh i=>∃f g,Inv X e d g i/\VV f h/\Q f g) X.xe s
def Oj{X:Cx}{pos:Pos}:dG X pos [] [] []:=λa s b H Q I h=>pairTrees_nil_walk #[[],H,I,.nil,h]
def Hd{X:Cx}{pos:Pos}{k v:gI}{d:r_^s_ gI}{e:r_ gI}{tk f:TE}{a:r_ (TE×TE)}(g:PE X k tk)(i:PE X v f)(j:dG X pos d e a):
  dG X pos (P3 k::d) (v::e) ((tk,f)::a):=λC s b H Q I h=>
 pairTrees_cons_walk (Aq (g _ s b H _ I h) λu l #[x,H1,m,n,o]=>Aq (i _ l b H1 _ m o) λD p #[y,q,r,t,w]=>
  Aq (j _ p b q _ r w) λE F #[G,z,A,c,B]=>#[_,z,A,.cons #[n,t] c,B])
def E4(a more:r_ (Key×V)):r_ (Key×V):=more.foldl (λb c=>putK b c.1 c.2) a
def KV.merge:∀{a:r_ (Key×V)}{d:r_ (Key×Db)}{b:r_ (Key×V)}{c:r_ (Key×Db)},KV a d->KV b c->KV (E4 b a)^merged c d:=by
 intro a d b c r
 induction r generalizing b c with
 |nil=>intro q;exact q
 | @cons p q g i h t e=>
  intro f
  exact e (by
   have:=f.put p.1 h.2
   simp_all)
theorem El:∀(more a:r_ (Key×V)),(E4 a more).length<=a.length+more.length
 |[],a=>by show a.length<=a.length+0;lk
 |p::r,a=>by
  have b:=El r^putK a p.1 p.2;have c:=EB a p.1 p.2;show(E4 _ r).length<=_
  grind
theorem IR{P:gC}{w:gJ}:∀{d:r_ (Key×V)}{f:r_ (Db×Db)},VV (d.map λg=>(kV g.1,g.2)) f->∃e,Carries (Ax P w) f e/\KV d e
 |[],_,r=>by cases r;exact#[[],ip,.nil]
 | p::d,_,r=>by
  cases r with
  |@cons a b j k h t=>
   let#[e,c,q]:=IR t;let#[l,i]:=b;exact#[(p.1,i)::e,#[Jq h.1,rfl,c],.cons #[rfl,h.2] q]
def aZ(b:r_ (TE×TE)):TE:=λe H Q=>∀p,H p=o_->NE b e (AY H p^.dK []) λf c=>c p=P3^.dK []/\∃a:r_ (Key×V),f=a.map (λd=>(kV d.1,d.2))/\a.length<=15/\Q (.ref p)^AY c p^.dK^E4 [] a
def Ot{X:Cx}{pos:Pos}{b:r_^s_ gI}{d:r_ gI}{f:r_ (TE×TE)}(h:dG X pos b d f)(g:b.all (·.isSome)=p_)(n:b.length=d.length)(p:b≠[])
  (k:b.length<=15):PE X (.Dict b d pos)^aZ f:=by
 intro r s t H Q I q;have u:=I.hok.fresh^Rs s.heap.objs.size;have v:=I.laid (a:=s.heap.objs.size) (o:=.dK []) (h':=s.heap.push {cls:=.type "dict",data:=.dict #[]}) (t':=s.toks) (λ_ _ q=>FM _ q) (Rs _)^MZ s.heap I.big;refine wpAny_Dict_walk (knd:=Ax X.prog X.w) g n p k^Aq (h r _ t _ _ v^q _ u) λM N #[O,R,m,l,e,i,x,S,y]=>?_;subst x;let#[A,c,B]:=IR (P:=X.prog) (w:=X.w) l;let#[z,C,D,E,dd]:=XU m.hok e;cases E;refine#[A,c,dd,λh' j F=>#[.ref s.heap.objs.size,_,?_,rfl,y]]
 have G:(E4 [] i).length<=sizeLine:=by
  have J:=El i [];rw[hG]at J;rw[gn];lk
 have K:∃q,h'.get? s.heap.objs.size=P3 q:=let #[q,_,_,L,_]:=j;#[q,L]
 exact HG m (by rw[e];exact ip) F K^Tz G C (B.merge .nil) j
structure M1 (X:Cx) (o:gI) (m:Str) (apos:Pos) (e:gI) (cpos:Pos):Prop where
 base:attributeBase o m X.env^eval o X.env=eval o X.env
 few:((backTo cpos^starEach [e] X.env).all (λx=>!x.1)&&(backToKw cpos^keywordEach [] X.env).all (λx=>x.1.isSome)
  && decide (([e]:List gI).length+([]:List jl).length+(if([]:List jl).isEmpty then 0 else 1)<30))=p_
 line:(apos.endLine==cpos.line)=p_
 trees:backTo cpos^starEach [e] X.env=[(q_,eval e X.env)]
structure M2 (X:Cx) (o:gI) (m:Str) (apos:Pos) (e f:gI) (cpos:Pos):Prop where
 base:attributeBase o m X.env^eval o X.env=eval o X.env
 few:((backTo cpos^starEach [e,f] X.env).all (λx=>!x.1)&&(backToKw cpos^keywordEach [] X.env).all (λx=>x.1.isSome)
  && decide (([e,f]:List gI).length+([]:List jl).length+(if([]:List jl).isEmpty then 0 else 1)<30))=p_
 line:(apos.endLine==cpos.line)=p_
 trees:backTo cpos^starEach [e,f] X.env=[(q_,eval e X.env),(q_,eval f X.env)]
def fv(H:Hp)(a:Ch):Prop:=(∃b,Rd H a^.dK b)\/∃b,Rd H a^.dT b
def ZF{X:Cx}{i:r_ (Ch×Obj)}{j:St}{H:Hp}{s:No}{a:Ch}(I:Inv X i j H s)(d:fv H a):
  s.TypeIs (.ref a) "dict"/\(∀b,ZB a=.ref b->∃ob,s.heap.get? b=P3 ob/\ob.dict=o_)/\(a==sysModules)=q_:=by
 rcases d with⟨c,e⟩|⟨c,e⟩
 .let#[_,f,k,_,dd]:=Ge I.hok e
  refine#[dd.typeIs,λb q=>?_,f];cases q;let#[ob,_,_,g,h,_]:=dd;exact#[ob,g,h.2.1]
 .let#[_,f,l,_,dd]:=EG I.hok e
  refine#[dd.typeIs,λb q=>?_,f];cases q;let#[ob,_,_,g,h,_]:=dd;exact#[ob,g,h.2.1]
end L2
set_option maxHeartbeats 4000000
namespace L2
section
def N4{g:Env}:∀(f:r_ (Str×jP)) (h:r_ (Str×Ch)),(∀x,(x,hV)∈f->∃c,g.cells.lookup x=P3 c)->(∀x c,h.lookup x=P3 c->g.cells.lookup x=P3 c)->
  ∃i,(forIn f h fun(x:Str×jP) (r:r_ (Str×Ch))=>(if(x.2==hV)=p_ then do let a ←cellOf g x.1;pure^j6 ((x.1,a)::r) else pure^j6 r:Sem^ForInStep^r_ (Str×Ch)))=(pure i:Sem _) /\
   (∀x c,i.lookup x=P3 c->g.cells.lookup x=P3 c)/\(∀x,((x,hV)∈f\/∃c,h.lookup x=P3 c)->∃c,i.lookup x=P3 c):=by
 intro f
 induction f with
 |nil=>
  intro h _ m;exact#[h,rfl,m,λx d=>d.elim (λz=>absurd z^by simp) λz=>z]
 | cons p r w=>
  intro h q m;let#[n,k]:=p
  by_cases s:k=hV
  .subst s
   let#[c,y]:=q n Op;have j:cellOf g n=pure c:=by simp only[cellOf,y]
   let#[i,e,a,b]:=w ((n,c)::h) (λx d=>q x^T0 _ d) (λx o d=>by
    rw[jo]at d;cases t:x==n with
    |true=>
     rw[t]at d;have u:P3 c=P3 o:=d;cases u
     have:x=n:=by simpa using t
     rw[this];exact y
    |false=>rw[t]at d;exact m x o d)
   refine#[i,?_,a,λx d=>b x ?_]
   .rw[li]
    simp only[beq_self_eq_true,if_true,j,pure_bind];exact e
   .by_cases l:x=n
    .subst l
     exact .inr #[c,by simp[jo]]
    .rcases d with d|⟨o,d⟩
     .rcases Tk.mp d with d|d
      .cases d;exact absurd rfl l
      .exact .inl d
     .refine .inr #[o,?_]
      have:(x==n)=q_:=by simpa using l
      rw[jo,this];exact d
  .have v:(k==hV)=q_:=by simpa using s
   let#[i,e,a,b]:=w h (λx d=>q x^T0 _ d) m;refine#[i,?_,a,λx d=>b x ?_]
   .rw[li]
    simp only[v,gs,if_false,pure_bind];exact e
   .rcases d with d|d
    .rcases Tk.mp d with d|d
     .cases d;exact absurd rfl s
     .exact .inl d
    .exact .inr d
def IQ{scope:jK}{env:Env}(h:∀x,(x,hV)∈scope.names->∃c,env.cells.lookup x=P3 c):
  ∃d,closureFor scope env=pure d/\(∀x c,d.lookup x=P3 c->env.cells.lookup x=P3 c)/\(∀x,(x,hV)∈scope.names->∃c,d.lookup x=P3 c):=by
 let#[d,e,a,b]:=N4 _ [] h (λx c f=>by simp at f);refine#[d,?_,a,λx f=>b x^.inl f];simp[closureFor]
 simp_all
variable {prog:Program}{w:World}{A:Around}{R:Result->Shared->Prop}{s:Shared}
def LM{t a u:gI}{y:r_ gI}{p:jK}{pos:Pos}{F z:Db}{b:Env}(I:Nat->No->Prop)
  (B:∀n s,I n s->wpAny (model prog w) A (pyNext F) (λr d=>match r with
   |none=>R (.ok .next) d
   | some v=>wpAny (model prog w) A (letOwnedTupleGo a F v) (λ_ e=>wpAny (model prog w) A (assign a b v) (λ_ i=>
     wpAny (model prog w) A (forIn y p_ λc r=>if r=p_ then do let ok ←isTrue c b^eval c b;pure^j6 ok else pure^j6 r) (λok f=>
      if ok=p_ then wpAny (model prog w) A (eval t b) (λx j=>
       wpAny (model prog w) A (call (.builtin "list.append") [z,x]) (λ_ k=>∃m,m<n/\I m k) (λ_ _=>False) j) (λ_ _=>False) f
      else ∃m,m<n/\I m f) (λ_ _=>False) i) (λ_ _=>False) e) (λ_ _=>False) d) (λ_ _=>False) s)
  (n:Nat) (h:I n s):
  codeAny (model prog w) A (.compLoop (.ListComp t [#[a,u,y,0]] p pos) 0 F z b) R s:=by
 refine codeAny_loop rfl I (λn s G=>?_) n h;refine wpAny_noted ?_;refine Cn^lF^Cn^gh (B n s G) (λr d l=>?_) λ_ _ g=>g.elim;cases r with
 |none=>exact On l
 | some v=>
  refine Cn^gh l (λ_ e q=>?_) λ_ _ g=>g.elim;refine Cn^gh q (λ_ i C=>Cn^gh C (λok f o=>?_) λ_ _ g=>g.elim) λ_ _ g=>g.elim;cases ok with
  |false=>exact On #[rfl,o]
  |true=>
   exact Cn^Cn^gh o (λx j D=>Cn^gh D (λ_ k E=>On^On #[rfl,E]) λ_ _ g=>g.elim) λ_ _ g=>g.elim
end
def AZ(X:Cx)(a:jK)(b:r_ Str)(c:r_ (Str×Ch))(C:Ch)(s:No)(H:Hp)(ex:r_ Ch):Cx where
 prog:=X.prog
 w:=X.w
 K:=X.K
 mg:=X.mg
 base:=X.base
 A:=X.A
 N:=b
 s₀:=s
 H₀:=H
 env:=compEnvC a c C X.env
 outer:=X.stack
 stack:=X.stack
 ex:=ex
 fn:=λ_=>q_
 calm:=p_
 pn:=[]
 xe:=λ_ _=>False
def B4(a:r_^s_ Nat)(b:St):St:=a.map λo=>match o with
 |some i=>(b[i]?).getD o_
 |none=>o_
def Vb(o:s_ jP):Bool:=match o with
 |some .cell=>p_
 |some .free=>p_
 |_=>q_
def PC{o:s_ jP}(h:Vb o=p_):o=P3 .cell\/o=P3 .free:=by
 unfold Vb at h
 split at h
 .grind
 .grind
 .cases h
def isFree(o:s_ jP):Bool:=match o with
 |some .free=>p_
 |_=>q_
def Qm{o:s_ jP}(h:isFree o=p_):o=P3 .free:=by
 unfold isFree at h
 split at h
 .rfl
 .cases h
def TR(o:s_ jP):Bool:=match o with
 |some .local=>p_
 |_=>q_
def TQ{o:s_ jP}(h:TR o=p_):o=P3 .local:=by
 unfold TR at h
 split at h
 .rfl
 .cases h
def TV(k:ScopeKind):Bool:=match k with
 |.function=>p_
 |_=>q_
def TU{k:ScopeKind}(h:TV k=p_):k=.function:=by
 unfold TV at h
 split at h
 .rfl
 .cases h
def d6(b a:jK)(p:Str×jP):Bool:=match p.2 with
 |.cell=>q_
 |.free=>Vb^a.names.lookup p.1
 |.local=>TR^b.names.lookup p.1
 |_=>p_
def eS(x:s_ Str)(y:Str):Bool:=match x with
 |some z=>z==y
 |none=>q_
def ZS{x:s_ Str}{y:Str}(h:eS x y=p_):x=P3 y:=by
 unfold eS at h
 split at h
 .grind
 .cases h
def IS(b a:jK)(N:r_ Str):r_ Str->r_^s_ Nat->Bool
 |[],[]=>p_
 |x::c,P3 j::d=>isFree^b.names.lookup x&&eS (N[j]?) x&&Vb^a.names.lookup x&&IS b a N c d
 |_::c,o_::d=>IS b a N c d
 |_,_=>q_
def En(b a:jK)(N c:r_ Str)(d:r_^s_ Nat):Bool:=TV b.kind&&b.names.all^d6 b a&&IS b a N c d
theorem EK{d b:jK}{N:r_ Str}:∀{c:r_ Str}{a:r_^s_ Nat},IS d b N c a=p_->a.length=c.length
 |[],[],_=>rfl
 |x::e,P3 j::a,h=>by
  unfold IS at h;rw[gS]at h;rw[gG,gG,EK h.2]
 |x::e,o_::a,h=>by
  unfold IS at h;rw[gG,gG,EK h]
 |[],P3 _::_,h=>by cases h
 |[],o_::_,h=>by cases h
 |_::_,[],h=>by cases h
theorem LO{e a:jK}{N:r_ Str}:∀{f:r_ Str}{d:r_^s_ Nat},IS e a N f d=p_->∀{k:Nat}{x:Str}{j:Nat},f[k]?=P3 x->d[k]?=P3^P3 j->
  e.names.lookup x=P3 .free/\N[j]?=P3 x/\(a.names.lookup x=P3 .cell\/a.names.lookup x=P3 .free)
 |[],_,_,k,x,j,b,_=>by simp at b
 |_::_,[],h,_,_,_,_,_=>by unfold IS at h;cases h
 | y::g,P3 i::d,h,k,x,j,b,c=>by
  unfold IS at h;rw[gS,gS,gS]at h;cases k with
  |zero=>
   simp at b c;subst b c;exact#[Qm h.1.1.1,ZS h.1.1.2,PC h.1.2]
  |succ k=>exact LO h.2 (k:=k) (by simpa using b)^by simpa using c
 |y::g,o_::d,h,k,x,j,b,c=>by
  unfold IS at h;cases k with
  |zero=>simp at c
  |succ k=>exact LO h (k:=k) (by simpa using b)^by simpa using c
def Qi{a:r_^s_ Nat}{b:St}{k:Nat}{v:V}(h:(B4 a b)[k]?=P3^P3 v):∃j,a[k]?=P3^P3 j/\b[j]?=P3^P3 v:=by
 unfold B4 at h;rw[UF]at h;cases e:a[k]? with
 |none=>simp_all
 | some o=>
  rw[e]at h;cases o with
  |none=>cases h
  |some j=>
   cases q:b[j]? with
   |none=>simp_all
   |some w=>simp_all
theorem CJ{a:Env}:∀{b:r_ (Str×jP)}{x:Str},b.lookup x=P3 .free->
  (b.map fun(n,k)=>if(k==hV&&a.scope.kind==.function&&a.kindOf n==P3 .cell)then(n,lG)else(n,k)).lookup x=P3 .cell \/
  (b.map fun(n,k)=>if(k==hV&&a.scope.kind==.function&&a.kindOf n==P3 .cell)then(n,lG)else(n,k)).lookup x=P3 .free
 |[],_,h=>by simp at h
 | (n,k)::r,x,h=>by
  have d:=@CJ a r x;show j_ x ((if(k==hV&&a.scope.kind==.function&&a.kindOf n==P3 .cell)=p_ then(n,lG)else(n,k))::_)=_\/j_ x ((if(k==hV&&a.scope.kind==.function&&a.kindOf n==P3 .cell)=p_ then(n,lG)else(n,k))::_)=_
  by_cases e:(k==hV&&a.scope.kind==.function&&a.kindOf n==P3 .cell)=p_
  .rw[if_pos e]
   cases c:x==n with
   |true=>exact .inl^by simp only[jo,c]
   |false=>
    simp only[jo,c]at h ⊢;exact d h
  .rw[if_neg e]
   cases c:x==n with
   |true=>
    simp_all
   |false=>
    simp only[jo,c]at h ⊢;exact d h
def NM{env:Env}{a:jK}(c:∀y∈a.names,y.2≠.cell){x:Str}(h:(relabel a env).names.lookup x=P3 .cell\/(relabel a env).names.lookup x=P3 .free):(x,hV)∈a.names:=by
 have d:(x,lG)∈(relabel a _).names\/(x,hV)∈(relabel a _).names:=h.elim (λz=>.inl^PySem.mem_of_lookup z) λz=>.inr^PySem.mem_of_lookup z
 have go:∀k,(k=.cell\/k=.free)->(x,k)∈(relabel a env).names->(x,hV)∈a.names:=by
  intro k e b;unfold relabel at b
  grind
 exact d.elim (go _ (.inl rfl))^go _ (.inr rfl)
section
variable {X:Cx}{zF:r_ (Addr×Obj)}{σ:St}{H:Hp}{s:Shared}
structure CompOk (X:Cx) (sc:jK) (N':List Str) (js:List^Option Nat):Prop where
 kind:sc.kind=.function
 cell:∀y∈sc.names,y.2≠.cell
 free:∀x,(x,hV)∈sc.names->X.env.scope.names.lookup x=P3 .cell\/X.env.scope.names.lookup x=P3 .free
 names:∀y∈sc.names,y.2=.local->sc.names.lookup y.1=P3 .local
 cap:IS sc X.env.scope X.N N' js=p_
def CompOk.of{c:jK}{d:r_ Str}{f:r_^s_ Nat}(h:En c X.env.scope X.N d f=p_):CompOk X c d f:=by
 unfold En at h;rw[gS,gS,kM]at h;let#[#[g,a],i]:=h;refine#[TU g,λy b e=>?_,λx j=>?_,λy b e=>?_,i]
 .have q:=a y b
  unfold d6 at q
  simp_all
 .have q:=a _ j
  exact PC q
 .have q:=a y b
  unfold d6 at q;rw[e]at q;exact TQ q
def MS{D:jK}{E:r_ Str}{K:r_^s_ Nat}{B:r_ (Str×Ch)}{F:r_ Ch}{f:gA}{V:Nat}(I:Inv X zF σ H s)(W:X.calm=p_)(O:CompOk X D E K)
  (d:∀x c,B.lookup x=P3 c->X.env.cells.lookup x=P3 c) (k:∀x,(x,hV)∈D.names->∃c,B.lookup x=P3 c)
  (G:∀b∈F,Ft X zF H b) (Y:∀b∈F,∃o,s.heap.get? b=P3 o)
  (L:f.Ns (s.heap.objs.size+1) λ_=>o_) (J:∀b o,s.heap.get? b=P3 o->f.get? b=P3 o) (Z:∃n,f.get? s.heap.objs.size=P3 {cls:=.type "list",data:=.seq #[] n}):
  Inv (AZ X D E B (s.heap.objs.size+1) s H F) [] (B4 K σ) (AY H s.heap.objs.size^.lst []) {s with heap:=f,toks:=V}:=by
 have fr:∀a,s.heap.objs.size<=a->H a=o_:=λa ha=>I.hok.fresh ha
 have h:∀x c,B.lookup x=P3 c->c<s.heap.objs.size:=λx c e=>by
  let#[v,q]:=I.cell x c^d x c e;exact q.lt
 have ok:(AZ X D E B (s.heap.objs.size+1) s H F).Ok:=by
  refine#[I.ok.mod,O.kind,I.ok.glob,I.ok.blt,hZ _,λx y c C M=>I.ok.inj x y c (d x c C)^d y c M,λx N=>?_,λx c N=>?_,λ_=>I.ok.hd W,I.ok.frames,.inl rfl,λb t=>#[?_,λx c e=>?_],I.bs,gN I.ok.bsz I.sz,λb o e t=>?_,λb t P=>?_,I.stack,I.stkFree]
  .exact k x^NM (env:=X.env) O.cell N
  .exact absurd (show q_=p_ from N) gE
  .let#[o,e]:=Y b t
   exact gB^iO^TW e
  .exact(G b t).2.2.2.2.1 x c^d x c e
  .rcases(G b t).2.2.2.1 with z|z
   .exact I.ok.noex b o e z
   .have C:b<X.base.objs.size:=TW e
    exact absurd (gL C^gN I.ok.bsz z)^hU _
  .rcases Tk.mp^I.stkSub b P with z|z
   .exact(G b t).2.1 z
   .exact(G b t).2.2.1 z
 exists ok,rfl,I.bare,?_,#[_,L,λi x v C M h3=>?_],λx c e=>?_,?_,λx c e=>?_,λp hp=>absurd (show p∈([]:r_ (Ch×Obj))from hp)^by simp,?_
 .exact Un.laid J (Rs _)^fr _^Rs _
 .let#[j,e1,e2]:=Qi M
  let#[T,c2,A]:=LO O.cap C e1;let#[m,_,hl]:=I.loc;let#[u,r,l]:=hl j x v c2 e2^.inr A;refine#[u,r,.inr #[CJ T,?_]]
  rcases l with⟨l1,_⟩|⟨_,c,l2,l3⟩
  .have Q:X.env.scope.names.lookup x=P3 .local:=l1
   rcases A with A|A <;>(rw[Q]at A;cases A)
  .let#[R,U]:=k x^PySem.mem_of_lookup T
   have:R=c:=XV^(d x R U).symm.trans l2
   subst this;let#[S,w,g]:=id l3;exact#[R,U,S,J _ _ w,g]
 .let#[v,S,w,g]:=I.cell x c^d x c e
  exact#[v,S,J _ _ w,g]
 .show AY H s.heap.objs.size (.lst []) (s.heap.objs.size+1)=o_
  rw[AF^Nat.succ_ne_self _];exact fr _^hZ _
 .show AY H s.heap.objs.size (.lst []) c=o_
  rw[AF^gB^h x c e];exact I.freeC x c^d x c e
 .refine I.hok.laid J (Rs _) ?_
  let#[n,e]:=Z;exact#[gK _,[],n,.nil,e]
 .unfold B4
  show(K.map _).length=E.length;rw[Ev];exact EK O.cap
def Un.but{fs ex:r_ Ch}{H H1:Hp}{h a d:gA}{C:Ch}(u:Un fs ex H H1 h a)(j:h.get? C=o_)(f:∀b,b≠C->d.get? b=a.get? b):Un fs ex H H1 h d:=by
 have g:∀{b:Ch}{o:Obj},h.get? b=P3 o->b≠C:=λ{b o} e z=>by grind
 refine#[λb o e n a c=>(f b^g e).trans^u.keep b o e n a c,λb o e n a c=>?_,u.free,λb o e a=>?_,u.tups,u.frzs,u.tbls]
 .let#[i,q]:=u.slot b o e n a c
  exact#[i,(f b^g e).trans q]
 .let#[k,q]:=u.there b o e a
  simp_all
def IC{j:jK}{k:r_ Str}{l:r_ (Str×Ch)}{C:Ch}{g:r_ Ch}{c:r_ (Ch×Obj)}{m:St}{d:Hp}{f:No}{h':gA}(I:Inv X zF σ H s)(n:∀b∈g,Ft X zF H b)(p:s.heap.objs.size<=C)
  (J:Inv (AZ X j k l C s H g) c m d f) (h:∀b,b≠C->h'.get? b=f.heap.get? b):Inv X zF σ d {f with heap:=h'}:=by
 have r:d C=o_:=J.free
 refine I.call' J.os (Un.but J.base (by
  cases e:s.heap.get? C with
  |none=>rfl
  |some o=>exact absurd (TW e)^j7.mpr p) h) (λa o e=>(J.hok a o e).stay (λb u i q=>(h b (λz=>by
   grind)).trans q) (λ_ q=>q) λ_ _ q=>q) J.bare λb i=>?_
 .let#[y,t,A,v,w,x]:=n b i
  exact#[v,t,w,x]
end
def cr(X:Cx)(a:r_ gI)(t:TT):Prop:=
 ∀(d:r_ (Ch×Obj)) (s:No) (b:St) (H:Hp) (Q:Bool->Hp->Prop),Inv X d b H s->t b H Q->
  wpAny (model X.prog X.w) X.A (forIn a p_ λc r=>if r=p_ then do let ok ←isTrue c X.env^eval c X.env;pure^j6 ok else pure^j6 r) (TP X d b Q) X.xe s
def dR:TT:=λ_ H Q=>Q p_ H
def VA{X:Cx}:cr X [] dR:=λa s b H Q I h=>wpAny_tests_nil #[H,I,h]
def U_{X:Cx}{c:gI}{t:TT}(h:PT X c t):cr X [c] t:=λb s a H Q I q=>wpAny_tests_one^h _ s a H Q I q
def RX(X:Cx)(e:jK)(f:r_ Str)(z:r_^s_ Nat)(A h:gI)(j:r_ gI)(B:TI):TE:=λp H Q=>B p H λJ H1=>∀l,H1 l=o_->X.K.lookup l=o_->∀k C s H0 n,∃(g:TG) (q:TT) (r:TE) (W:Nat->Nat->St->Hp->Prop),
 PG (AZ X e f k C s H0 n) A g/\cr (AZ X e f k C s H0 n) j q/\PE (AZ X e f k C s H0 n) h r/\(∃m,W 0 m (B4 z p)^AY H1 l^.lst [])/\∀i m t a,W i m t a->
 (J.stop i a/\Q (.ref l) a)\/(J.go i a/\∀x u,J.yld i a x u->g x t u λd D=>q d D λb v=>if b=p_ then r d v λy w=>∃o,w l=P3^.lst o/\o.length<sizeLine/\∃c,c<m/\W (i+1) c d^AY w l^.lst (o++[y]) else ∃c,c<m/\W (i+1) c d v)
section
variable {X:Cx}{tg elt iter:Expr}{ifs:r_ Expr}{sc:Scope}{pos:Pos}{N':r_ Str}{js:r_^s_ Nat}{wi:TI}{g:TG}{tt:TT}{te:TE}
def Jy{zF:r_ (Ch×Obj)}{σ:St}{H:Hp}{s:No}{h:r_ (Str×Ch)}{C l it:Ch}{a:r_ Ch}{U:Nat->gA->Prop}{J:It}{s3:No}{Q:VK}{R:Result->No->Prop}{W:Nat->Nat->St->Hp->Prop}{m0:Nat}{zG:St}{H0:Hp}
  (I:Inv X zF σ H s) (hf:∀b∈a,Ft X zF H b) (a3:∀b∈a,b<s.heap.objs.size) (hC:s.heap.objs.size<=C)
  (T:Turn X.prog X.w X.K tg J a it U)
  (hg:PG (AZ X sc N' h C s H a) tg g) (ht:cr (AZ X sc N' h C s H a) ifs tt) (he:PE (AZ X sc N' h C s H a) elt te)
  (hW:∀i m k c,W i m k c->
   (J.stop i c/\Q (.ref l) c)\/(J.go i c/\∀x H2,J.yld i c x H2->g x k H2 λV H3=>tt V H3 λb z=>if b=p_ then te V z λy H5=>∃E,H5 l=P3^.lst E/\E.length<sizeLine/\∃f,f<m/\W (i+1) f V^AY H5 l^.lst (E++[y]) else ∃f,f<m/\W (i+1) f V z))
  (hR:∀k c G,Inv (AZ X sc N' h C s H a) [] k c G->Q (.ref l) c->R (.ok .next) G)
  (I3:Inv (AZ X sc N' h C s H a) [] zG H0 s3) (t3:U 0 s3.heap) (f3:∀b∈a,H0 b=o_) (w0:W 0 m0 zG H0):
  codeAny (model X.prog X.w) X.A (.compLoop (.ListComp elt [#[tg,iter,ifs,0]] sc pos) 0 (.ref it) (.ref l)^compEnvC sc h C X.env) R s3:=by
 have j:∀{c:Hp},(∀b∈a,c b=o_)->∀b∈a,Ft (AZ X sc N' h C s H a) [] c b:=λhn b t=>by
  have q:=I3.ok.exf b t;refine#[hn b t,q.1,I3.ok.exfs b t,.inl t,q.2,λp hp=>absurd (show p∈([]:r_ (Ch×Obj))from hp)^by simp]
 refine LM (λn G=>∃i k c,Inv (AZ X sc N' h C s H a) [] k c G/\U i G.heap/\(∀b∈a,c b=o_)/\W i n k c) ?_ m0 #[0,zG,H0,I3,t3,f3,w0];rintro n s4 ⟨i,L,z,I4,M,N,w4⟩
 rcases hW i n L z w4 with⟨O,qn⟩|⟨go,step⟩
 .refine Aq (T.done (AZ X sc N' h C s H a) rfl rfl rfl rfl i [] s4 L z (λ_ _=>False) I4 (j N) M O) λr s5 #[hr,I5]=>?_
  subst hr;exact hR L z s5 I5 qn
 .refine Aq (T.item (AZ X sc N' h C s H a) rfl rfl rfl rfl i [] s4 L z (λ_ _=>False) I4 (j N) M go) λr s5 #[u,hr,h5]=>?_
  subst hr;refine Aq h5 λ_ s6 #[x,H6,I6,r6,y6,B,a0]=>?_;have a1:=I6.pinned (j a0)^T.obj _ _ B;refine Aq (hg _ s6 L H6 x u _ a1 r6^step x H6 y6) λ_ s7 #[Y,H7,I7,q7]=>?_
  have again:∀{Z:St}{D:Hp}{F:No}{f:Nat},Inv (AZ X sc N' h C s H a) ([]++Hf a s6.heap) Z D F->f<n->W (i+1) f Z D->∃m,m<n/\∃i k c,Inv (AZ X sc N' h C s H a) [] k c F/\U i F.heap/\(∀b∈a,c b=o_)/\W i m k c:=λ{Z D F f} P S w9=>by
   refine#[f,S,i+1,Z,D,P.unpinned,T.keep _ _ _ B λb t o e=>(P.pin (b,o)^gH _^gH _^Dh t e).1,λb t=>?_,w9];let#[o,e,d]:=T.obj _ _ B b t;exact(P.pin (b,o)^gH _^gH _^Dh t e).2.1
  refine Aq (ht _ s7 Y H7 _ I7 q7) λok s8 #[H8,I8,q8]=>?_;cases ok with
  |false=>
   have a2:∃f,f<n/\W (i+1) f Y H8:=q8;let#[f,S,w8]:=a2;show ∃m,m<n/\_;exact again I8 S w8
  |true=>
   refine Aq (he _ s8 Y H8 _ I8 q8) λy F #[yv,D,P,ry,q9]=>?_;let#[E,hl,hz,f,S,w9]:=q9;refine Aq (Bl (X:=AZ X sc N' h C s H a) _ F Y D (.ref l) [yv] (.ref l) [y] (λv c=>v=.non/\c=AY D l^.lst (E++[yv])) P rfl (.cons ry .nil) #[l,E,yv,rfl,rfl,hl,hz,rfl,rfl]) λ_ sa #[v,Ha,Ia,_,_,eH]=>?_;subst eH;exact again Ia S w9
def VG(hc:X.calm=p_)(N':r_ Str)(js:r_^s_ Nat)(hi:PI X tg iter wi)
  (hB:En sc X.env.scope X.N N' js=p_)
  (hs:∀x,foldedSetIterable iter X.env x=pure x:=by intro _;rfl):
  PE X (.ListComp elt [#[tg,iter,ifs,0]] sc pos) (RX X sc N' js tg elt ifs wi):=by
 intro V s P H Q I h;have O:CompOk X sc N' js:=CompOk.of hB;let#[z,l,R,B]:=IQ (scope:=sc) (env:=X.env) λx hx=>I.ok.has x^O.free x hx;rw[eval_ListComp];refine wpAny_comprehension_free (use:=o_) rfl hs l O.kind O.names (Aq (hi V s P H _ I h) λv s1 h1=>Aq h1 λa0 c h2=>?_);let#[Y,G,tn,J,L,e,C,T,p,M,hq]:=h2;subst e
 have r:X.K.lookup c.heap.objs.size=o_:=by
  cases q:X.K.lookup c.heap.objs.size with
  |none=>rfl
  |some o=>exact absurd (TW^C.kIn _ _ q)^hU _
 let#[g,tt,te,W,hg,ht,he,#[m0,w0],hW]:=hq c.heap.objs.size (C.hok.fresh^Rs _) r z (c.heap.objs.size+1) c L G;refine iH^wpAny_newFunctionEnv O.cell (by intro y hy;simp at hy) (λf d a=>?_) O.kind
 dsimp only at d a ⊢
 generalize t:c.heap.push {cls:=.type "list",dict:=o_,data:=.seq ([]:r_ Db).toArray}=Hh at d a ⊢;have i:Hh.objs.size=c.heap.objs.size+1:=by rw[←t,gz]
 have D:∀b∈G,b<c.heap.objs.size:=λb j=>by
  let#[o,e,_]:=T.obj _ _ p b j;exact TW e
 have E:∀b o,c.heap.get? b=P3 o->f.get? b=P3 o:=λb o e=>a.extBut b o (by rw[i];exact gB^iO^TW e)^FM _ (t▸FM _ e);have hD:∃n,f.get? c.heap.objs.size=P3 {cls:=.type "list",data:=.seq #[] n}:=#[_,a.extBut _ _ (by rw[i];exact gB^jO _)^FM _ (t▸Sc _ rfl)]
 have I3:∀u,Inv (AZ X sc N' z (c.heap.objs.size+1) c L G) [] (B4 js P) (AY L c.heap.objs.size^.lst []) {c with heap:=f,toks:=u}:=λu=>
  MS C hc O R B M (λb j=>let #[o,e,_]:=T.obj _ _ p b j;#[o,e]) (by rw[←i];exact d) E hD
 have F:tn 0 f:=T.keep _ _ _ p λb j o e=>E b o e
 have S:∀b∈G,AY L c.heap.objs.size (.lst []) b=o_:=λb j=>by
  rw[AF^gB^D b j];exact(M b j).1
 have k:∀u,codeAny (model X.prog X.w) X.A (.compLoop (.ListComp elt [#[tg,iter,ifs,0]] sc pos) 0 (.ref Y) (.ref c.heap.objs.size)^compEnvC sc z (c.heap.objs.size+1) X.env)
   (compPost (model X.prog X.w) X.A X.xe o_ (EP X V P Q) (.ref c.heap.objs.size) (c.heap.objs.size+1)) {c with heap:=f,toks:=u}:=λu=>by
  refine Jy (W:=W) (m0:=m0) (Q:=Q) C M D (hZ _) T hg ht he hW (λzZ H' s' Z q'=>?_) (I3 u) F S w0;let#[m,hn,_]:=Z.loc;exact#[m,hn,λh' U=>#[.ref _,H',IC C M (hZ _) Z λb j=>U.2 b j,rfl,q']]
 rw[show(newEnv sc Hh.objs.size X.env.globals z X.env.qual o_ .none (P3 X.env) builtinsNs).locals=c.heap.objs.size+1 from i];show codeAny (model X.prog X.w) X.A (.compStart (.ListComp elt [#[tg,iter,ifs,0]] sc pos) 0 (.ref Y) (.ref c.heap.objs.size)^compEnvC sc z (c.heap.objs.size+1) X.env) _ _;exact codeAny_compStart_list (k _)^T.self _ 0 _ _ _ F^k _
end
structure Fly (B:gA) (l:List Env) (a C:Ch) (dx:Option Ch) (h:gA):Prop where
 stays:B.StaysIn h
 new:B.get? a=o_
 frames:h.FunFrames B l
 obj:∃vs sl tb,h.get? a=P3 #[.ref C,dx,.fields vs,sl]/\vs[2]?=P3 .none/\vs[1]?=P3 tb/\(tb=.none\/∃T oT ts,tb=.ref T/\B.get? T=o_/\T≠a/\h.get? T=P3 oT/\oT.data=.fields ts/\3<ts.size)
section
variable {M:Model}{A:Around}{E:Value->Shared->Prop}{s:Shared}{B:Heap}{env:Env}{outer l:r_ Env}{L a C:Addr}{dx:s_ Addr}{Q:Unit->Shared->Prop}
def size_of{b:Array Db}{i:Nat}{x:Db}(h:b[i]?=P3 x):i<b.size:=(kR.mp h).1
def Jt{d:Array Db}{p:Array^s_ Db}{g N:Db}{O:Bool}(r:A.frames=P3 (env::outer))(P:env.frame=P3 L)(m:s.heap.FunFrames B (env::outer))(R:B.StaysIn s.heap)(x:B.get? a=o_)
  (t:s.heap.get? a=P3 #[.ref C,dx,.fields d,p]) (h1:d[1]?=P3 N) (y:d[2]?=P3 .none)
  (h:∀u,Fly B (env::outer) a C dx u->s.heap.UpToSlots u->Q () {s with heap:=u}):
  wpAny M A (do let f ←frameOf env;let pl ←entryPlaceOf L O;let b ←n_ g f .none (rawInt L) .none pl;setField (.ref a) 1 b) Q E s:=by
 have D:=size_of h1;have W:=size_of y
 have S:a∉(env::outer).filterMap (·.frame):=λq=>by
  let#[_,o,F,c]:=m.mem q;rw[t]at F;cases F;exact c d rfl
 refine Cn^wpAny_frameOf_fun r m P λk n=>?_;refine Cn^wpAny_entryPlaceOf λpl v=>?_;unfold n_ newFields;refine Cn^iH ?_^v.sizeOk5 _ _ _ _ _;have G:k.get? a=P3 #[.ref C,dx,.fields d,p]:=(n.2.1 a S).trans t;have H:B.StaysIn k:=λb o q=>(n.2.1 b λz=>by rw[(m.mem z).1]at q;cases q).trans^R b o q;generalize i:({cls:=.type "traceback",dict:=o_,data:=.fields ([g,.ref L,.none,rawInt L,.none]++(if pl.isEmpty then gq 6 gW else pl)).toArray}:Obj)=ob;have I:(k.push ob).get? a=P3 #[.ref C,dx,.fields d,p]:=FM _ G;refine jm I rfl D ?_;have J:k.objs.size≠a:=jU^TW G;have T:=g8 (i7 (·.setIfInBounds 1^ZB k.objs.size)) I rfl
 have U:((k.push ob).update a (i7 (·.setIfInBounds 1^ZB k.objs.size))).get? k.objs.size=P3 ob:=by
  rw[eq _ _^gc J];exact Sc k^by subst i;rfl
 have w:∀b o,b≠a->k.get? b=P3 o->((k.push ob).update a (i7 (·.setIfInBounds 1^ZB k.objs.size))).get? b=P3 o:=λb o V q=>by
  rw[eq _ _^gc V];exact FM _ q
 have K:∀b o,s.heap.get? b=P3 o->(∀d,o.data≠.fields d)->b≠a:=λb o q c z=>by
  rw[z,t]at q;cases q;exact c d rfl
 refine h _ #[λb o q=>w b o (λz=>by rw[z,x]at q;cases q)^H b o q,x,m.of_keeps λb o q c=>?_,_,_,_,T,?_,?_,.inr #[k.objs.size,ob,_,rfl,H.fresh,J,U,by subst i;rfl,?_]] λb o q c=>?_
 .let#[j,e]:=n.2.2 b o q
  exact#[_,w b _ (K b o q c) e,rfl]
 .rw[Array.getElem?_setIfInBounds_ne^by cbv];exact y
 .simp[D]
 .simp only[f8,gD,gG,hG];lk
 .let#[j,e]:=n.2.2 b o q
  exact#[j,w b _ (K b o q c) e]
def Fly.mark{T:Ch}{g:Obj}{h d:Array Db}{x:Db}{f:Array^s_ Db}(F:Fly B l a C dx s.heap)(n:s.heap.get? a=P3 #[.ref C,dx,.fields d,f])(h1:d[1]?=P3^.ref T)(p:d[2]?=P3 .none)(r:B.get? T=o_)(i:T≠a)(t:s.heap.get? T=P3 g)
  (j:g.data=.fields h) (v:3<h.size):Fly B l a C dx (s.heap.update T (i7 (·.setIfInBounds 3 x)))/\s.heap.UpToSlots (s.heap.update T (i7 (·.setIfInBounds 3 x)))/\(s.heap.update T (i7 (·.setIfInBounds 3 x))).get? a=P3 #[.ref C,dx,.fields d,f]:=by
 have e:∀b,b≠T->(s.heap.update T (i7 (·.setIfInBounds 3 x))).get? b=s.heap.get? b:=λb u=>eq _ _^gc u
 have k:∀b o,s.heap.get? b=P3 o->(∀d,o.data≠.fields d)->b≠T:=λb o q c z=>by
  simp_all
 have m:=(e a^gc i).trans n;refine#[#[λb o q=>(e b λz=>by grind).trans^F.stays b o q,F.new,F.frames.of_keeps λb o q c=>#[o,(e b^k b o q c).trans q,rfl],d,f,_,m,p,h1,.inr #[T,_,_,rfl,r,i,g8 _ t^lQ^jV j _,jV j _,by simp_all]],λb o q c=>#[o.slots,(e b^k b o q c).trans q],m]
def E6(F:Fly B l a C dx s.heap)(h:∀c,Fly B l a C dx c->s.heap.UpToSlots c->Q () {s with heap:=c}):wpAny M A (setFlight (.ref a) o_) Q E s:=by
 let#[q,r,t,d,j,e,k]:=F.obj;refine Cn (iC d rfl e ?_)
 rcases k with rfl|⟨T,u,v,rfl,m,n,f,g,i⟩
 .exact On^h _ F^oA _
 .let#[o,p,_]:=F.mark d e j m n f g i
  exact jm f g i^h _ o p
def MT(c:A.frames=P3 (env::outer))(g:env.frame=P3 L)(F:Fly B (env::outer) a C dx s.heap)
  (h:∀d,Fly B (env::outer) a C dx d->s.heap.UpToSlots d->Q () {s with heap:=d}):wpAny M A (noteFrame (.ref a) env) Q E s:=by
 let#[D,G,H,i,j,f,p]:=F.obj;unfold noteFrame;simp only[g];refine Cn (iC i rfl f ?_)
 rcases p with rfl|⟨T,I,q,rfl,r,t,k,m,n⟩
 .rw[if_neg^by cbv]
  exact Jt c g F.frames F.stays F.new i f j h
 .rw[if_pos (show(ZB T !=gW)=p_ by simp)]
  obtain⟨x,u⟩:∃x,q[3]?=P3 x:=#[_,i_ n];refine Cn^iC k m u ?_
  by_cases e:(x==rawInt L)=p_
  .rw[if_pos e]
   exact On^h _ F^oA _
  .rw[if_neg e]
   let#[o,v,w]:=F.mark (x:=gW) i f j r t k m n;refine Cn^jm k m n ?_;exact Jt c g o.frames o.stays o.new w f j λd y z=>h d y^v.trans z
def Qq(d:A.frames=P3 (env::outer))(e:env.frame=P3 L)(F:Fly B (env::outer) a C dx s.heap)
  (h:∀c,Fly B (env::outer) a C dx c->s.heap.UpToSlots c->Q () {s with heap:=c}):wpAny M A (leaving env^.ref a) Q E s:=Cn^MT d e F λc f g=>E6 f λi j k=>h i j^g.trans k
def Fly.tail(F:Fly B (env::outer) a C dx s.heap):Fly B outer a C dx s.heap:=#[F.stays,F.new,F.frames.2.2,F.obj]
end
section
variable {A:Around}{E:Value->Shared->Prop}{h:Heap}{g:Array GenState}{d:Drawn}{t:Nat}{os:OsState}
variable {nm q:Str}{C N f:Addr}{bs bm:r_ Value}{hdct:Bool}{sn:r_ Str}{sub:r_ Value}{ab:Bool}{col:s_ Bool}{dd:s_ Addr}{k0 k1 k2 k3 k5:s_ Value}{newId:String}
def E7(C t:Ch):Obj:={cls:=.ref C,data:=.fields #[ .ref t,.none,.none,.none,.bool q_,.none]}
def NO{s:No}{env:Env}{x:Sem Db}{Q:Flow->No->Prop}{M:Model}(hbase:bm.contains^.type "BaseException"=p_)(hh:A.handled=o_)
  (hx:wpAny M A x (λv s₁=>∃e dx vs sl,v=.ref e/\s₁.heap.get? C=P3^excClassObj nm q C N bs bm hdct sn sub ab col dd k0 k1 k2 k3 k5 newId /\
   s₁.heap.get? e=P3 #[.ref C,dx,.fields vs,sl]/\vs[1]?=P3 .none/\E (.ref e) s₁) E s):
  wpAny M A (raiseStmt env (P3 x) o_) Q E s:=by
 have hcB:(ZB C::bm).contains^.type "BaseException"=p_:=by grind
 unfold raiseStmt;refine Cn^gh hx (λv s₁ h₁=>?_) λ_ _ x=>x;let#[e,dx,vs,sl,rfl,hC,he,h1,hE]:=h₁
 repeat (first|omega|omega|(with_reducible refine ie hC ?_;rw[hcB])|wp_step)
 rw[h1];refine On ?_;exact On^wpAny_raiseNew_none hh hE
def Qr{M:Model}{e D N':Ch}{oe:Obj}{nm' q':Str}{bs' bmD:r_ Db}{hdct':Bool}{sn':r_ Str}{sub':r_ Db}{ab':Bool}{col':s_ Bool}{dd':s_ Ch}{l0 l1 l2 l3 l5:s_ Db}{newId':String}{Q:Bool->No->Prop}
  (hC:h.get? C=P3^excClassObj nm q C N bs bm hdct sn sub ab col dd k0 k1 k2 k3 k5 newId) (hD:h.get? D=P3^excClassObj nm' q' D N' bs' bmD hdct' sn' sub' ab' col' dd' l0 l1 l2 l3 l5 newId') (hbase:bmD.contains^.type "BaseException"=p_)
  (he:h.get? e=P3 oe) (hcls:oe.cls=.ref C) (hq:Q ((ZB C::bm).contains^.ref D) #[h,g,d,t,os]):wpAny M A (excMatches (.ref e)^.ref D) Q E #[h,g,d,t,os]:=by
 have hcB:(ZB D::bmD).contains^.type "BaseException"=p_:=by grind
 have f:=tc_notTuple;generalize hb:(ZB C::bm).contains^.ref D=b at hq;unfold excMatches
 repeat (first|(with_reducible refine iZ he ?_;rw[hcls])|omega|(with_reducible refine ie hD ?_;rw[hcB])|wp_step)
 refine ie hC ?_;rw[hb];cases b <;>(wp_walk;exact hq)
end
def CG:r_ Db:=[.type "ValueError",.type "Exception",.type "BaseException",.type "object"]
structure XC (K:Frag) (nm:Str) (C U:Ch):Prop where
 obj:∃q N bs sn sub ab col dd k0 k1 k2 k3 k5,K.lookup C=P3 (excClassObj nm q C N bs (.ref U::CG) p_ sn sub ab col dd k0 k1 k2 k3 k5 "ValueError.__new__")
 up:∃q N bs sn sub ab col dd k0 k1 k2 k3 k5 hd,K.lookup U=P3 (excClassObj "ThinError" q U N bs CG hd sn sub ab col dd k0 k1 k2 k3 k5 "ValueError.__new__")
 kp:keepIn K^.ref C=p_
 ga:PySem.W.findIn K (.ref C) "__getattribute__"=P3 (P3^.builtin "BaseException.__getattribute__")
 gt:PySem.W.findIn K (.ref C) "__getattr__"=P3 o_
 sa:PySem.W.findIn K (.ref C) "__setattr__"=P3 (P3^.builtin "object.__setattr__")
 at_:nsIn K mainGlobals nm=P3 (P3^.ref C)
 atU:nsIn K mainGlobals "ThinError"=P3 (P3^.ref U)
 ca:PySem.W.findIn K (.ref C) "__class__"=P3 (P3^.builtin "object.__class__")
 nw:PySem.W.findIn K (.ref C) "word"=P3 o_
 nn:PySem.W.findIn K (.ref C) "number"=P3 o_
 nr:PySem.W.findIn K (.ref C) "row"=P3 o_
section
variable {K:Frag}{nm name:Str}{C U:Addr}
def XC.cls(c:XC K nm C U):∃a,PySem.W.clsIn K C=P3 a/\a.mro=.ref C::.ref U::CG/\a.hasDict=p_/\a.name=nm:=by
 let#[q,N,f,g,b,h,d,dd,i,j,k,l,m,e]:=c.obj;refine#[_,by unfold PySem.W.clsIn;rw[e],rfl,rfl,rfl]
end
section
variable {M:Model}{prog:Program}{w:World}{A:Around}{E:Value->Shared->Prop}{R:Result->Shared->Prop}{h:Heap}{g:Array GenState}{d:Drawn}{t:Nat}{os:OsState}
variable {K:Frag}{nm q:Str}{C U N:Addr}{bs:r_ Value}{sn:r_ Str}{sub:r_ Value}{ab:Bool}{col:s_ Bool}{dd:s_ Addr}{k0 k1 k2 k3 k5:s_ Value}{rest:r_ Value}
def V8{Q:Unit->No->Prop}(hC:h.get? C=P3^excClassObj nm q C N bs (.ref U::CG) p_ sn sub ab col dd k0 k1 k2 k3 k5 "ValueError.__new__")
  (hq:Q () #[h,g,d,t,os]):wpAny M A (checkBuiltinCall "ValueError.__new__" #[.ref C::rest,[]]) Q E #[h,g,d,t,os]:=by
 have F:=PySem.F.excBase_ValueError;have hcont:(ZB C::.ref U::CG).contains^.type "ValueError"=p_:=by simp[CG]
 have hstar:=F.noStar;simp only[checkBuiltinCall,F.newKind,F.newSplit,F.newRow]
 repeat (first|refine iZ hC ?_|(refine ie hC ?_;rw[hcont])|refine wpAny_staticBase_exc hC ?_|refine wpAny_madeBy_exc hC ?_|simp only[bne_self_eq_false,gs,if_false]|wp_step)
 exact hq
def Vk(hC:h.get? C=P3^excClassObj nm q C N bs (.ref U::CG) p_ sn sub ab col dd k0 k1 k2 k3 k5 "ValueError.__new__")
  (hq:R (.ok^.ret^.ref (h.objs.size+1)) #[(h.push {cls:=.type "tuple",data:=.seq rest.toArray}).push^E7 C h.objs.size,g,d,t,os]) (hrest:rest.length<=sizeLine):
  codeAny (model prog w) A (.builtin "ValueError.__new__" #[.ref C::rest,[]]) R #[h,g,d,t,os]:=by
 have F:=PySem.F.excBase_ValueError;have hends:=F.ends;have hcB:(ZB C::.ref U::CG).contains^.type "ValueError"=p_:=by simp[CG]
 have hcA:(ZB C::.ref U::CG).contains^.type "AttributeError"=q_:=by simp[CG]
 have hcN:(ZB C::.ref U::CG).contains^.type "NameError"=q_:=by simp[CG]
 refine codeAny_builtinAt F.entry ?_;unfold iq.«BaseException.__new__»;refine PySem.wpAt_bind ?_;show PySem.wpAt _ _ _ (stack >>=_) _ _ _;refine PySem.wpAt_bind^PySem.wpAt_stack λp below=>wpAt_of_wpAny ?_
 wp_walk
 refine wpAt_of_wpAny ?_;rw[F.owner]
 repeat (first|with_reducible refine wpAny_madeHere_exc F.canon hC ?_|with_reducible refine iZ hC ?_|(with_reducible refine ie hC ?_;first|rw[hcB]|rw[hcA]|rw[hcN])|wp_step)
 show R _ _;rw[gz];exact hq
def UK{e:Ch}{oe:Obj}{Q:Unit->No->Prop}(hC:h.get? C=P3^excClassObj nm q C N bs (.ref U::CG) p_ sn sub ab col dd k0 k1 k2 k3 k5 "ValueError.__new__")(he:h.get? e=P3 oe)(hcls:oe.cls=.ref C)(hq:Q () #[h,g,d,t,os]):
  wpAny M A (checkBuiltinCall "ValueError.__init__" #[.ref e::rest,[]]) Q E #[h,g,d,t,os]:=by
 have F:=PySem.F.excBase_ValueError;have hcB:(ZB C::.ref U::CG).contains^.type "ValueError"=p_:=by simp[CG]
 have hshort:=F.noStar;simp only[checkBuiltinCall,F.initKind,F.initSplit,F.initRow]
 repeat (first|(with_reducible refine iZ he ?_;rw[hcls])|with_reducible refine iZ hC ?_|(with_reducible refine ie hC ?_;rw[hcB])|wp_step)
 refine lH ?_
 rw[show ∀(a b:String) (n:Nat),Bind.check #[.positional,"*","ValueError",.self,[#["args",.varPos,q_]]] a b n^List.map (λx=>x.fst) ({pos:=ZB e::rest}:Args).kw=pure ()from
  λa b n=>check_star_args _ _ _ _ _ _]
 exact On hq
def Qs(X:K.In h)(c:XC K nm C U)(hi:PySem.W.findIn K (.ref C) "__init__"=P3^P3^.builtin "ValueError.__init__")(hrest:rest.length<=sizeLine)
  (hq:∀h',(∀b o,h.get? b=P3 o->h'.get? b=P3 o)->h'.get? (h.objs.size+1)=P3^E7 C (h.objs.size+2)->R (.ok^.ret^.ref (h.objs.size+1)) #[h',g,d,t,os]):
  codeAny (model prog w) A (.call (.ref C) #[rest,[]]) R #[h,g,d,t,os]:=by
 have F:=PySem.F.excBase_ValueError;let#[q,N,bs,sn,sub,ab,col,dd,k0,k1,k2,k3,k5,eC]:=c.obj;have hC:=X _ _ eC;have f1:=tc_lookup;have f2:=tc_bind^.ref C;have hT:(#[h,g,d,t,os]:No).TypeIs (.ref C) "type":=#[_,hC,rfl];refine codeAny_of_tree ?_;show wpAny _ _ (callAny (.ref C) _) _ _ _
 repeat (any_goals (first|assumption|with_reducible refine iZ hC ?_|wp_step))
 refine#[rfl,?_];refine codeAny_call_builtin_at (mL _^by decide +kernel) entry_typeCall^wpAny_check_type_call_sub hC ?_
 repeat (first|with_reducible refine iZ hC ?_|with_reducible refine wpAny_madeBy_exc hC ?_|wp_step)
 refine codeAny_call_builtin_code (mL _ F.quiet)^V8 hC ?_;refine Vk hC ?_ hrest;show wpAny _ _ _ _ _ _;have kk:∀b o,h.get? b=P3 o->((h.push {cls:=.type "tuple",data:=.seq rest.toArray}).push^E7 C h.objs.size).get? b=P3 o:=λb o e=>FM _^FM _ e;have hC₁:=kk _ _ hC;have hget:((h.push {cls:=.type "tuple",data:=.seq rest.toArray}).push^E7 C h.objs.size).get? (h.objs.size+1)=P3^E7 C h.objs.size:=by unfold E7;heap_get
 have hcC:(ZB C::ZB U::CG).contains^.ref C=p_:=by simp
 unfold isInstance;unfold E7 at *
 repeat (first|with_reducible refine iZ hget ?_|(with_reducible refine ie hC₁ ?_;rw[hcC])|wp_step)
 show wpAny _ _ (isSubtype (.ref C)^.ref C) _ _ _;refine ie hC₁ ?_;rw[hcC,if_neg^by cbv];refine Cn^gw ?_;unfold callSpecial? specialOf
 repeat (first|with_reducible refine iZ hget ?_|wp_step)
 show wpAny _ _ (typeLookup (.ref C) _) _ _ _;refine(PySem.W.looks_findIn (X.keeps kk) hi).here ?_;refine gw^Cn^mH (F.init.bind _) ?_;refine Cn^jR^jh F.init.plain F.initEntry (UK hC₁ hget rfl ?_)
 wp_walk
 refine hq _ (λb o e=>?_) ?_
 .rw[eq _ _^jU^iO^TW e]
  exact FM _^kk b o e
 .refine(g8 (i7 (·.setIfInBounds 0^ZB _)) (FM _ hget) rfl).trans ?_
  simp only[gz];rfl
end
structure CXD (P:gC) (w:gJ) (outer:List Env) (H:Hp) (s:No) (a C:Ch) (dx:Option Ch) (B:gA) (H':Hp) (s':No):Prop where
 os:s'.os=s.os
 bare:kF s'.gens
 un:Un (Js outer) [] H H' s.heap s'.heap
 hok:HOk P w H' B
 all:∀b o o',s.heap.get? b=P3 o->b∉Js outer->s'.heap.get? b=P3 o'->B.get? b=P3 o'
 fly:Fly B outer a C dx s'.heap
 new:s.heap.objs.size<=a
 free:H' a=o_
def KI(P:gC)(w:gJ):Q7:=λb H s E e f=>∃a C c B d,e=.ref a/\CXD P w b H s a C c B d f/\E (.ref C) c d
section
variable {P:Program}{w:World}{outer:r_ Env}{H H':Hp}{s s':Shared}{a C:Addr}{dx:s_ Addr}{B h':Heap}
def CXD.step(x:CXD P w outer H s a C dx B H' s')(F:Fly B outer a C dx h')(u:s'.heap.UpToSlots h'):CXD P w outer H s a C dx B H' {s' with heap:=h'}:=by
 have fr:∀b∈Js outer,∃o,s'.heap.get? b=P3 o/\∀k,o.data≠.fields k:=λb c=>(x.fly.frames.mem c).2;refine#[x.os,x.bare,#[λb o e n c d=>F.stays _ _^x.all b o o e c^x.un.keep b o e n c d,λb o e n c d=>?_,x.un.free,λb o e d=>?_,x.un.tups,x.un.frzs,x.un.tbls],x.hok,λb o j e c q=>?_,F,x.new,x.free]
 .let#[p,q]:=x.un.slot b o e n c d
  let#[j,f,h]:=fr b c;rw[q]at f;cases f;let#[i,l]:=u b _ q h
  grind
 .let#[g,q]:=x.un.there b o e d
  by_cases c:b∈Js outer
  .let#[j,f,h]:=fr b c
   let#[i,l]:=u b _ f h
   grind
  .exact#[g,F.stays _ _^x.all b o g e c q]
 .let#[g,m]:=x.un.there b o e^by simp
  have z:=x.all b o g e c m;rw[F.stays _ _ z]at q
  grind
end
section
variable {X:Cx}{zF:r_ (Addr×Obj)}{σ:St}{H H':Hp}{s s':Shared}{a C:Addr}{dx:s_ Addr}{B:Heap}
def CXD.inv(x:CXD X.prog X.w X.stack H s a C dx B H' s')(I:Inv X zF σ H s):Inv X zF σ H' s':=
 I.call' x.os x.un (x.hok.kept x.fly.stays) x.bare λb z=>absurd z^by simp
def CXD.leave(x:CXD X.prog X.w X.stack H s a C dx B H' s')(I:Inv X zF σ H s)(c:X.stack=X.env::X.outer)(f:X.ex=[]):CXD X.prog X.w X.outer X.H₀ X.s₀ a C dx B H' s':=by
 have J:=x.inv I;have d:=x.fly;rw[c]at d;refine#[J.os,J.bare,by have z:=J.base;grind,x.hok,λb o g e h q=>?_,d.tail,gN I.sz x.new,x.free];let#[i,j]:=I.base.there b o e (by grind);refine x.all b i g j (λz=>?_) q
 rcases Tk.mp^I.stkSub b z with z|z
 .exact absurd (TW e)^by rw[z];exact j7.mpr I.ok.above
 .exact h z
def Sf{P:gC}{w:gJ}{K:Frag}{j:Str->s_ Db}{d:gA}{N:r_ Str}{g:Str}{b:jK}{f:Ch}{k:Db}{A:gX}{c:r_ Env}{h:No}{i:Hp}{E:XK}:
  CH (KI P w) (C4 (KI P w) P w K j d N g b f k A c h i E) E:=by
 intro zF σ H s e s' I #[a,C,dx,B,H',l,x,q];subst l;exact Qq I.ok.frames rfl x.fly λn m u=>#[a,C,dx,B,H',rfl,(x.step m u).leave I rfl rfl,q]
end
def XO(a C:Ch)(c:s_ Ch)(h:gA):Prop:=∃b d,h.get? a=P3 #[.ref C,c,.fields b,d]/\b[2]?=P3 .none/\b[1]?=P3 .none
def XF(d:Ch)(fs:r_ (Str×V))(h:gA):Prop:=∃a,h.Ns1 d a/\(∀f,RelO (fs.lookup f)^a f)/\PySem.Within a (fs.map (·.1))/\fs.length<=1000
def XO.ok{P:gC}{w:gJ}{H:Hp}{a C:Ch}{b:s_ Ch}{h:gA}(x:XO a C b h):ObjOk P w H h a^.ext^XO a C b:=by
 refine#[x,?_,λf g #[c,d,e,r] k=>#[c,d,k _ e,r]];let#[c,d,e,_]:=x
 simp_all
def del(H:Hp)(a:Ch):Hp:=λb=>if b=a then o_ else H b
def LG{H:Hp}{a b:Ch}(h:b≠a):del H a b=H b:=if_neg h
def Fg{H:Hp}{a:Ch}:del H a a=o_:=if_pos rfl
section
variable {X:Cx}{zF:r_ (Addr×Obj)}{σ:St}{H H1:Hp}{s s1:Shared}{a C:Addr}{dx:s_ Addr}
def bn(I:Inv X zF σ H s)(y:s1.os=s.os)(f:kF s1.gens)(u:Un (Js X.stack) [] H H1 s.heap s1.heap)(hok:HOk X.prog X.w H1 s1.heap)(j:H1 a=P3^.ext^XO a C dx)(h:s.heap.objs.size<=a):
  CXD X.prog X.w X.stack H s a C dx (PySem.W.hideAll s1.heap (a::Js X.stack)) (del H1 a) s1:=by
 have J:Inv X zF σ H1 s1:=I.call' y u hok f λb z=>absurd z (by simp);have D:∀{b:Ch}{u:HO},H1 b=P3 u->(∀g,u≠.ext g)->b≠a:=λ{b u} q l z=>by rw[z,j]at q;exact l _ (XV q).symm
 have of:∀{b:Ch}{u:HO},H1 b=P3 u->(∀g,u≠.ext g)->del H1 a b=P3 u:=λq l=>(LG^D q l).trans q;have A:∀{b:Ch}{u:HO},H1 b=P3 u->b∉Js X.stack:=λ{b u} q z=>by rw[J.stkFree b z]at q;cases q
 let#[#[E,F,p,G,K],_]:=(show ObjOk X.prog X.w H1 s1.heap a _ from hok a _ j);refine#[y,f,#[u.keep,u.slot,λb o q n p=>?_,u.there,λb i q=>of (u.tups b i q) (by intro g z;cases z),λb o i q=>of (u.frzs b o i q) (by intro g z;cases z),λb L q=>?_],λb o q=>?_,λb o O q t M=>?_,#[λb o q=>PySem.W.of_hideAll _ q,PySem.W.hideAll_none _^by simp,PySem.W.funFrames_hide J.stack λx N b t=>?_,E,F,.none,p,G,K,.inl rfl],h,Fg]
 .by_cases z:b=a
  .rw[z];exact Fg
  .rw[LG z];exact u.free b o q n p
 .let#[m,e]:=u.tbls b L q
  exact#[m,of e^by intro g z;cases z]
 .have B:b≠a:=λz=>by rw[z,Fg]at q;cases q
  rw[LG B]at q;refine(hok b o q).stay (λc v d r=>PySem.W.hideAll_get _ r λz=>?_) (λc r=>of r^by intro g z;cases z) λc i r=>of r^by intro g z;cases z
  rcases Tk.mp z with z|z
  .rcases d with d|d
   .exact B^d.symm.trans z
   .rw[z,j]at d;cases d
  .rcases d with d|d
   .exact A q (d▸z)
   .exact A d z
 .refine PySem.W.hideAll_get _ M λz=>?_
  rcases Tk.mp z with z|z
  .exact absurd (TW q)^by rw[z];exact j7.mpr h
  .exact t z
 .exact T0 _^mJ.mpr #[x,N,t]
end
def XS(X:Cx)(a:r_ (Ch×Obj))(b:St)(R:XK)(e:Db)(c:No):Prop:=∃H s,Inv X a b H s/\KI X.prog X.w X.stack H s R e c
def Made(X:Cx)(d:r_ (Ch×Obj))(e:St)(C:Ch)(R:XK)(v:Db)(b:No):Prop:=∃a c H s H1,v=.ref a/\Inv X d e H s/\b.os=s.os/\kF b.gens/\Un (Js X.stack) [] H H1 s.heap b.heap/\HOk X.prog X.w H1 b.heap/\H1 a=P3^.ext^XO a C c/\s.heap.objs.size<=a/\R (.ref C) c^del H1 a
section
variable {X:Cx}{zF:r_ (Addr×Obj)}{σ:St}{s:Shared}{C U:Addr}{nm:Str}{R:XK}
def QB{e:gI}{pos:Pos}{Q:Flow->No->Prop}{i:Db->No->Prop}(c:XC X.K nm C U)(D:X.A.handled=o_)(h:wpAny (model X.prog X.w) X.A (eval e X.env) (Made X zF σ C R) i s)(E:∀e t,XS X zF σ R e t->i e t):
  wpAny (model X.prog X.w) X.A (exec (.Raise (P3 e) o_ pos) X.env) Q i s:=by
 let#[q,N,F,G,m,H,n,dd,L,M,O,P,S,T]:=c.obj
 have V:wpAny (model X.prog X.w) X.A (eval e X.env) (λv d=>∃e k l o,v=.ref e/\d.heap.get? C=P3^excClassObj nm q C N F (.ref U::CG) p_ G m H n dd L M O P S "ValueError.__new__" /\
   d.heap.get? e=P3 #[.ref C,k,.fields l,o]/\l[1]?=P3 .none/\i (.ref e) d) i s:=by
  refine Aq h λv s1 #[a,k,H0,W,H1,Y,I,y,f,u,g,B,p,r]=>?_;let#[#[l,o,Z,h2,h1],_]:=(g a _ B);have J:=I.call' y u g f λb z=>absurd z (by simp);exact#[a,k,l,o,Y,J.kIn _ _ T,Z,h1,E _ _ #[H0,W,I,a,C,k,_,_,rfl,bn I y f u g B p,r]]
 first
  |exact Cn^lF (NO rfl D (Cn^gh V (λv d j=>Cn^lF^On j) λ_ _ x=>x))
  |omega
end
section
variable {X:Cx}{zF:r_ (Addr×Obj)}{σ:St}{H:Hp}{s:Shared}{C U:Addr}{nm:Str}{R:XK}{E:Value->Shared->Prop}{us:r_ Value}
def VT(c:XC X.K nm C U)(hi:PySem.W.findIn X.K (.ref C) "__init__"=P3^P3^.builtin "ValueError.__init__")(I:Inv X zF σ H s)(i:us.length<=sizeLine)(h:R (.ref C) o_ H):wpAny (model X.prog X.w) X.A (call (.ref C) us) (Made X zF σ C R) E s:=by
 let#[a,g,l,t,m]:=s;have d:=I.hok.fresh^hZ _;refine jR^Qs (K:=X.K) (U:=U) (nm:=nm) I.kIn c hi i λn f j=>?_;have k:Inv X zF σ (AY H (a.objs.size+1) _) _:=I.laid (t':=t) f (hZ _)^XO.ok #[_,_,j,rfl,rfl];exists a.objs.size+1,o_,H,_,_,rfl,I,rfl,I.bare,Un.laid f (hZ _) d,k.hok,AH,hZ _
 have e:del (AY H (a.objs.size+1)^.ext^XO (a.objs.size+1) C o_) (a.objs.size+1)=H:=by
  funext b
  by_cases z:b=a.objs.size+1
  .rw[z,Fg,d]
  .rw[LG z,AF z]
 grind
end
abbrev Zt:=Ends->XK->St->Hp->Prop
abbrev dE:=XK->St->Hp->VK->Prop
def XE(X:Cx)(b:r_ (Ch×Obj))(c:St)(R:XK)(e:Db)(a:No):Prop:=X.xe e a\/XS X b c R e a
def cq(X:Cx)(c:iD)(t:Zt):Prop:=
 ∀(a:r_ (Ch×Obj)) (s:No) (b:St) (H:Hp) (D:Ends) (R:XK),Inv X a b H s->t D R b H->wpAny (model X.prog X.w) X.A (exec c X.env) (SP X a D) (XE X a b R) s
def Zw(X:Cx)(c:r_ iD)(t:Zt):Prop:=
 ∀(a:r_ (Ch×Obj)) (s:No) (b:St) (H:Hp) (D:Ends) (R:XK),Inv X a b H s->t D R b H->wpAny (model X.prog X.w) X.A (execs c X.env) (SP X a D) (XE X a b R) s
def e8(X:Cx)(e:gI)(t:dE):Prop:=
 ∀(b:r_ (Ch×Obj)) (s:No) (a:St) (H:Hp) (Q:VK) (R:XK),Inv X b a H s->t R a H Q->wpAny (model X.prog X.w) X.A (eval e X.env) (EP X b a Q) (XE X b a R) s
section
variable {X:Cx}{st:Stmt}{t u:Zt}{te:dE}{e:Expr}{es:r_ Expr}{ta:TA}{x nm:Str}{p pos cpos:Pos}{C U f:Addr}{k:Nat}{fd:FuncData}{ps:r_ Str}{sp:Sp}
def fF{a:Type}{t:Sem a}{Q:a->No->Prop}{b:r_ (Ch×Obj)}{c:St}{R:XK}{s:No}(h:wpAny (model X.prog X.w) X.A t Q X.xe s):wpAny (model X.prog X.w) X.A t Q (XE X b c R) s:=gh h (λ_ _ z=>z) λ_ _ z=>.inl z
def QF{R:XK}(b:CH (KI X.prog X.w) X R)(h:cq X st t):PS X st (λD=>t D R):=λg s a H D I q=>
 gh (h _ s a H D R I q) (λ_ _ z=>z) λe d z=>z.elim id fun#[H,s,J,c]=>b _ a H s e d J c
def SJ(h1:cq X st t):Zw X [st] t:=by
 intro c s a H D R I h;refine m6^gh (h1 _ s a H D R I h) (λf d q=>?_) λ_ _ z=>z;cases f with
 |next=>
  let#[e,b,J,q]:=q;exact jy #[_,b,J,q]
 |brk=>exact q
 |cont=>exact q
 |ret v=>exact q
def U1(C:Ch)(ta:TA):Zt:=λ_ R a H=>ta a H λb H1=>b.length<=sizeLine/\R (.ref C) o_ H1
def NQ(c:XC X.K nm C U)(hi:PySem.W.findIn X.K (.ref C) "__init__"=P3^P3^.builtin "ValueError.__init__")(g:X.A.handled=o_)(i:Gl X x)(j:X.mg x=P3^.ref C)(k:PA X (e::es) ta)(a:(x==("__debug__":Str))=q_:=by decide)(l:starEach (e::es) X.env=(q_,eval e X.env)::starEach es X.env:=by rfl)(b:(backTo cpos^starEach es X.env).any (·.1)=q_:=by rfl):
  cq X (.Raise (P3^.Call (.Name x p) (e::es) [] cpos) o_ pos) (U1 C ta):=by
 intro o s m H D R I h;exact QB c g (iB^Cq I i j (PySem.W.callWith_K I.ok.mod.kin c.kp (Aq (fF^k _ _ s m H _ I h) λt u #[v,H1,d,r,n,q]=>#[d.kIn,VT c hi d (by rw[gj,←r.length];exact n) q]) l b) a) λ_ _ z=>.inr z
def YG(sp:Sp)(ta:TA):dE:=λR a H Q=>ta a H λb H1=>sp b H1 Q R
def SW(F:FnOk X.prog X.w X.K X.mg X.base (KI X.prog X.w) k f fd ps sp)(l:Room k X.A)(m:Gl X x)(n:X.mg x=P3^.ref f)(o:keepIn X.K^.ref f=p_)(t:Binds X.K fd ps [])
  (v:PA X (e::es) ta) (d:(x==("__debug__":Str))=q_:=by decide) (y:starEach (e::es) X.env=(q_,eval e X.env)::starEach es X.env:=by rfl) (g:(backTo pos^starEach es X.env).any (·.1)=q_:=by rfl):
  e8 X (.Call (.Name x p) (e::es) [] pos) (YG sp ta):=by
 intro z s B H Q R I h;refine iB^Cq I m n ?_ d;refine PySem.W.callWith_K (h₀:=X.base) I.ok.mod.kin o (Aq (fF^v pos z s B H _ I h) λa i #[j,H1,b,r,q]=>#[b.kIn,?_]) y g;have D:(a++[]).length=ps.length:=by rw[gZ,←r.length];exact F.len _ _ _ _ q
 have E:Vals j (a++[]):=by grind
 refine jR^kG (F.run X.A X.stack i H1 #[a,[]] (a++[]) j Q R l b.env0 (t i a b.kIn D) E q) λr J c=>?_;cases r with
 |error e=>exact .inr #[H1,i,b,c]
 |ok G=>
  cases G with
  |ret u=>exact b.after c
  |next=>exact gy c
  |brk=>exact gy c
  |cont=>exact gy c
def YD(te:dE):Zt:=λD R a H=>te R a H λ_ H1=>D.nx a H1
def SI(b:e8 X e te)(c:swapsWith e o_ pos.line X.env=pure q_:=by rfl):cq X (.Expr e pos)^YD te:=λg s a H D R I h=>wpAny_Expr_any (Aq (b _ s a H _ R I h) λu i #[v,H1,d,_,q]=>#[a,H1,d,q]) I.quiet c
end
def Cx.hush(X:Cx)(A:gX):Cx:={X with A:=A,calm:=q_,xe:=λ_ _=>False}
section
variable {X:Cx}{A:Around}{zF:r_ (Addr×Obj)}{σ:St}{H:Hp}{s:Shared}
def Inv.hush(I:Inv X zF σ H s)(a:A.frames=P3 X.stack):Inv (X.hush A) zF σ H s:=
 #[#[I.ok.mod,I.ok.kind,I.ok.glob,I.ok.blt,I.ok.above,I.ok.inj,I.ok.has,I.ok.cab,λz=>absurd (z) gE,a,I.ok.stk,I.ok.exf,I.ok.bs,I.ok.bsz,I.ok.noex,I.ok.exfs,I.ok.funs,I.ok.frf],I.os,I.bare,I.base,I.loc,I.cell,I.free,I.freeC,I.pin,I.hok,I.len]
def Inv.unhush(I:Inv (X.hush A) zF σ H s)(ok:X.Ok):Inv X zF σ H s:=#[ok,I.os,I.bare,I.base,I.loc,I.cell,I.free,I.freeC,I.pin,I.hok,I.len]
def Inv.track{a:Ch}{o:HO}(I:Inv X zF σ H s)(n:H a=o_)(h1:X.s₀.heap.objs.size<=a)(d:a≠X.env.locals)(f:∀x c,X.env.cells.lookup x=P3 c->c≠a)(g:∀p∈X.pn++zF,p.1≠a)(new:ObjOk X.prog X.w (AY H a o) s.heap a o):
  Inv X zF σ (AY H a o) s:=by
 have of:∀{b:Ch}{u:HO},H b=P3 u->AY H a o b=P3 u:=λ{b u} q=>by rw[AF λz=>by grind];exact q
 refine I.step (g':=s.gens) (d':=s.drawn) (t':=s.toks) (h':=s.heap) (ch:=[a]) (λb k=>?_) (λb o _ _ _ e _=>e) (λb o _ _ _ e _=>#[o.slots,e]) (λb o h _ m=>?_) (λb o _ e=>#[o,e]) (λb i e=>of e) (λb o i e=>of e) (λb l e=>#[#[],by grind]) (λm j=>j) (λb u e=>?_) I.bare
 .have e:b=a:=by grind
  subst e;exact#[.inr h1,d,f,g]
 .rw[AF λz=>h^by simp[z]];exact m
 .by_cases z:b=a
  .subst z
   rw[AH]at e
   grind
  .rw[AF z]at e
   exact(I.hok b u e).stay (λ_ _ _ q=>q) (λ_ q=>of q) λ_ _ q=>of q
def Inv.gone{i:Nat}{x:Str}{v:s_ Db}{m:Str->s_ Db}{t:gA}{D:Nat}(I:Inv X zF σ H s)(E:X.N.Nodup)(hi:X.N[i]?=P3 x)
  (F:∀(i:Nat) (x:Str) (v:V),X.N[i]?=P3 x->σ[i]?=P3^P3 v->Pu X.env.scope x->∃u,RelV v u/\Look X.env s.heap m x u)
  (G:t.Ns X.env.locals λy=>if y=x then v else m y) (a:jB X.env.locals s.heap t):Inv X zF (σ.set i o_) H {s with heap:=t,toks:=D}:=by
 have f:∀{b:Ch}{o:Obj},X.s₀.heap.get? b=P3 o->b≠X.env.locals:=λ{b o} e=>gB^gL (TW e) I.ok.above;refine#[I.ok,I.os,I.bare,#[λb o e n w l=>(a.2 b^f e).trans^I.base.keep b o e n w l,λb o e n w l=>?_,I.base.free,λb o e l=>?_,I.base.tups,I.base.frzs,I.base.tbls],#[_,G,λj y J g h K=>?_],λy c e=>?_,I.free,I.freeC,λp L=>?_,λb o e=>?_,by simpa using I.len]
 .let#[M,g]:=I.base.slot b o e n w l
  exact#[M,(a.2 b^f e).trans g]
 .let#[O,g]:=I.base.there b o e l
  exact#[O,(a.2 b^f e).trans g]
 .by_cases B:j=i
  .subst B
   rw[mY]at h
   split at h
   .split at h <;>cases h
   .rename_i z;exact absurd rfl z
  .rw[lY^gc B]at h
   let#[P,Q,q]:=F j y J g h K;exists P,Q
   rcases q with⟨k,e⟩|⟨k,c,e,z⟩
   .refine .inl #[k,?_]
    have:y≠x:=λe=>B^Hv E g (e▸hi)
    simp[this,e]
   .exact .inr #[k,c,e,z.sameBut a^I.cne y c e]
 .let#[C,z]:=I.cell y c e
  exact#[C,z.sameBut a^I.cne y c e]
 .let#[e,n,f,R,d]:=I.pin p L
  exact#[(a.2 p.1 f).trans e,n,f,R,d]
 .refine(I.hok b o e).stay (λc C r q=>(a.2 c ?_).trans q) (λ_ q=>q) λ_ _ q=>q
  rintro rfl
  rcases r with rfl|r
  .rw[I.free]at e;cases e
  .rw[I.free]at r;cases r
end
def XT(C:Ch)(c:s_ Ch)(a:Ch)(u:HO):Prop:=∃b d,u=.frz #[.ref C,c,.fields b,d]^.own a/\b[2]?=P3 .none
abbrev TH:=Ends->Ch->s_ Ch->St->Hp->Prop
def PH(X:Cx)(f:r_ kT)(t:TH):Prop:=
 ∀(b:r_ (Ch×Obj)) (c:St) (D:Ends) (a C:Ch) (d:s_ Ch) (B:gA) (H0:Hp) (e:No) (H:Hp) (s:No),Inv X b c H0 e->CXD X.prog X.w X.stack H0 e a C d B H s->t D C d c H->
  wpAny (model X.prog X.w) X.A (handleBy (.ref a) X.env f) (SP X b D) X.xe s
section
variable {X:Cx}{i:Nat}{n x:Str}{np pos:Pos}{b₀:Stmt}{suite body:r_ Stmt}{rest:r_ ExceptHandler}{Dc U:Addr}{nm:Str}{th:TH}{ts:Addr->TS}{tb:Zt}
def aX(K:Frag)(Dc:Ch)(i:Nat)(ts:Ch->TS)(th:TH):TH:=λD C d e H=>∃nm U,XC K nm C U/\((C=Dc\/U=Dc)/\(∀a u,H a=o_->XT C d a u->ts a {nx:=λb c=>D.nx (b.set i o_) c,rt:=D.rt,bk:=λb c=>D.bk (b.set i o_) c,ct:=λb c=>D.ct (b.set i o_) c} (e.set i^P3^.ref a)^AY H a u)\/C≠Dc/\U≠Dc/\th D C d e H)
def aB(K:Frag)(D:Ch):Prop:=∃nm q N d c e f a g b dd h j k l m,K.lookup D=P3^excClassObj nm q D N d c e f a g b dd h j k l m "ValueError.__new__"/\c.contains^.type "BaseException"=p_
def XC.isX{K:Frag}{C:Ch}(c:XC K nm C U):aB K C:=by
 let#[q,N,a,b,d,f,g,dd,h,j,k,l,m,e]:=c.obj;exact#[nm,q,N,a,_,_,b,_,f,_,dd,h,j,k,l,m,e,by simp[CG]]
def XC.isU{K:Frag}{C:Ch}(c:XC K nm C U):aB K U:=by
 let#[q,N,a,b,d,f,g,dd,h,j,k,l,m,o,e]:=c.up;exact#[_,q,N,a,_,_,b,_,f,_,dd,h,j,k,l,m,e,by simp[CG]]
def Gi{C U D:Ch}:(ZB C::ZB U::CG).contains^.ref D=(decide (C=D)||decide (U=D)):=by
 simp only[List.contains_cons,CG,List.contains_nil]
 have d:∀(a b:Ch),(ZB a==ZB b)=decide (b=a):=λa b=>by
  grind
 have c:∀T,(ZB D==gv T)=q_:=λT=>rfl;rw[d,d,c,c,c,c];simp
def VC(hN:X.N.Nodup)(hi:X.N[i]?=P3 n)(R:X.env.scope.names.lookup n=P3 .local)(hg:Gl X x)(hm:X.mg x=P3^.ref Dc)(hD:aB X.K Dc)(a3:X.stack=X.env::X.outer)(a4:X.env.frame=P3 X.env.locals)
  (hs:∀a,PSs (X.hush^X.A.mark^P3^.ref a) (b₀::suite)^ts a) (o:PH X rest th) (hd:(x==("__debug__":Str))=q_:=by decide):
  PH X (.ExceptHandler (P3^.Name x np) (P3 n) (b₀::suite) pos::rest) (aX X.K Dc i ts th):=by
 intro t σ D a C dx B H0 s0 H s I c h;let#[nm,U,xc,h]:=h;have J:=c.inv I;have E:(X.A.mark^P3^.ref a).frames=P3 X.stack:=I.ok.frames;have J':=J.hush E;refine wpAny_handleBy_cons (codeAny_handlers_test ?_) (by intro q;cases q);refine Cq (X:=X.hush^X.A.mark^P3^.ref a) J' hg hm ?_ hd;let#[a5,q',N',a6,a7,a8,a9,a1,b0,a2,b1,l0,l1,l2,l3,l5,eD,hB]:=hD;let#[q,N,bs,sn,b2,ab,b3,dd,k0,k1,k2,k3,k5,eC]:=xc.obj;let#[vs,sl,tb,hx,h2,h1,hT]:=c.fly.obj;let#[hh,g,dr,tk,os]:=s;refine Qr (J.kIn _ _ eC) (J.kIn _ _ eD) hB hx rfl ?_;rw[Gi]
 rcases h with⟨S,h⟩|⟨n1,n2,h⟩
 .have e:(decide (C=Dc)||decide (U=Dc))=p_:=by rcases S with z|z <;>simp[z]
  rw[e];refine codeAny_handlers_suite_as ?_;refine E6 (s:=#[hh,g,dr,tk,os]) c.fly λh' f' u'=>?_;have c2:=c.step f' u';have J2:=c2.inv I;let#[F,G,b4,L,T,_]:=f'.obj
  have J3:Inv X t σ (AY H a^.frz #[.ref C,dx,.fields F,G]^.own a) #[h',g,dr,tk,os]:=by
   refine J2.track c.free (gN I.sz c.new) (jU^gL I.lt c.new) (λy c' e z=>?_) (λp hp z=>?_) #[L,_,L]
   .let#[v,q]:=I.cell y c' e
    exact absurd (gL q.lt c.new)^by rw[z];exact hU _
   .exact absurd (gL (TW (I.pin p hp).1) c.new)^by rw[z];exact hU _
  refine FN J3 hN hi (.inl R) (v:=.ref a) (u:=.ref a) rfl (λs4 J4=>?_) (.inr R);have V:=hs a t s4 _ _ _ (J4.hush E)^h a _ c.free #[F,G,rfl,T];refine gh V (λf W O=>?_) λe W z=>z.elim
  have j:∀{k:St}{b:Hp}{P:St->Hp->Prop}{Q:No->Prop},Inv (X.hush^X.A.mark^P3^.ref a) t k b W->P (k.set i o_) b->(∀l,Inv X t (k.set i o_) b l->Q l)->
    wpAny (model X.prog X.w) X.A (do bindName X.env n .none;unbindBehindTheSuite X.env n pos) (λ_ l=>Q l) X.xe W:=λ{k b P Q} d _ kq=>by
   let#[m,hn,Y]:=d.loc;refine wpAny_nameGoes_keeps (M:=model X.prog X.w) R hn (by show(X.env.scope.kind==.class||(X.env.scope.kind==.module&&X.env.locals !=X.env.globals))=q_;rw[I.ok.kind];rfl) λh6 v Z a0=>?_;exact kq _^(d.unhush I.ok).gone hN hi Y Z a0
  cases f with
  |next=>
   let#[k,b,d,q]:=O;exact j (P:=D.nx) d q λl r=>#[_,b,r,q]
  |brk=>
   let#[k,b,d,q]:=O;exact j (P:=D.bk) d q λl r=>#[_,b,r,q]
  |cont=>
   let#[k,b,d,q]:=O;exact j (P:=D.ct) d q λl r=>#[_,b,r,q]
  |ret u=>
   let#[v,k,b,d,rv,q]:=O;exact j (P:=λ_ b=>D.rt v b) d q λl r=>#[v,_,b,r,rv,q]
 .have e:(decide (C=Dc)||decide (U=Dc))=q_:=by simp[n1,n2]
  rw[e];exact o t σ D a C dx B H0 s0 H _ I c h
def YC:TH:=λ_ _ _ _ _=>False
def Ye:PH X [] YC:=λ_ _ _ _ _ _ _ _ _ _ _ _ _ h=>h.elim
def dU(tb:Zt)(th:TH):TS:=λD a H=>tb D (λC c d=>∃b,C=.ref b/\th D b c a d) a H
def YZ{b:kT}(d:X.stack=X.env::X.outer)(g:X.env.frame=P3 X.env.locals)(L:∀e s,X.xe e s->False)(p:Zw X body tb)(r:PH X (b::rest) th):PS X (.Try body (b::rest) [] [] pos)^dU tb th:=by
 intro k s l H D I h;refine wpAny_Try_except^gh (p k s l H D _ I h) (λf m q=>?_) λe m q=>?_
 .cases f with
  |next=>exact jy q
  |_=>exact q
 .rcases q with q|⟨H0,t,u,a,C,v,B,w,rfl,c,M,y,j⟩
  .grind
  .cases y
   have o:=c.fly;rw[d]at o;have fr:=I.ok.frames;rw[d]at fr;refine MT fr g o λz A E=>?_;have F:=c.step (by grind) E;refine E6 (s:={m with heap:=z}) A λN G J=>?_;have K:=F.step (by rw[d];exact G) J;exact r k l D a C v B H0 t w _ u K j
end
end L2
namespace Dp
open L2
inductive D where
 |non|bl (b:Bool)|int (i:Int)|str (x:Str)|tup (xs:List D)|lst (xs:List D)|dic (ks:List Key) (xs:List D)|fdi (ks:List Key) (xs:List D)|dit (ks:List^List Key) (xs:List D)|ob (a:Ch)
 deriving Inhabited
inductive Wc where
 |pl (d:D)|ins (C:Ch) (ks:List Str) (ds:List D)
structure Sg where
 n:Nat
 w:Ch->Option Wc
instance:HSub Sg Nat Sg:=#[λs k=>#[s.n - k,s.w]]
def Q_(o:HO):Prop:=∃u,o=.vol u
def NdT(M:Ch->Prop)(H:Hp)(a:Ch)(b:r_ V):Prop:=H a=P3^.tup b
def NdL(M:Ch->Prop)(H:Hp)(a:Ch)(b:r_ V):Prop:=¬M a/\H a=P3^.lst b
def NdD(M:Ch->Prop)(H:Hp)(a:Ch)(b:r_ Key)(c:r_ V):Prop:=¬M a/\H a=P3^.dK^b.zip c
def NdF(M:Ch->Prop)(H:Hp)(a:Ch)(b:r_ Key)(c:r_ V):Prop:=∃o,¬M a/\H a=P3^.frz o^.dK^b.zip c
def NdU(M:Ch->Prop)(H:Hp)(a:Ch)(b:r_^r_ Key)(c:r_ V):Prop:=¬M a/\H a=P3^.dT^b.zip c
mutual
def At(K:Frag)(M:Ch->Prop)(H:Hp):D->V->Prop
 |.non,v=>v=.non
 |.bl b,v=>v=.bl b
 |.int i,v=>v=.int i
 |.str x,v=>v=.str x/\x.length<=sizeLine
 |.tup ds,v=>∃a vs,v=.ref a/\NdT M H a vs/\Ats K M H ds vs
 |.lst ds,v=>∃a vs,v=.ref a/\NdL M H a vs/\Ats K M H ds vs
 |.dic ks ds,v=>∃a vs,v=.ref a/\NdD M H a ks vs/\ks.length=ds.length/\Ats K M H ds vs
 |.fdi ks ds,v=>∃a vs,v=.ref a/\NdF M H a ks vs/\ks.length=ds.length/\Ats K M H ds vs
 |.dit ks ds,v=>∃a vs,v=.ref a/\NdU M H a ks vs/\ks.length=ds.length/\Ats K M H ds vs
 |.ob a,v=>v=.ref a/\∃o,H a=P3 o
def Ats(K:Frag)(M:Ch->Prop)(H:Hp):r_ D->r_ V->Prop
 |[],vs=>vs=[]
 |d::ds,vs=>∃v r,vs=v::r/\At K M H d v/\Ats K M H ds r
end
section
variable {K:Frag}{M M':Addr->Prop}{H H':Hp}{a:Addr}{vs:r_ V}{ks:r_ Key}
def NdT.sq(h:NdT M H a vs):SqT K H a vs:=.inl^.inl h
def NdL.sq(h:NdL M H a vs):SqL K H a vs:=.inl^.inl h.2
def Pres(M:Ch->Prop)(H:Hp)(M':Ch->Prop)(H':Hp):Prop:=(∀b o,H b=P3 o->¬M b->¬Q_ o->H' b=P3 o)/\(∀b,M' b->M b\/H b=o_)/\(∀b vs,H b=P3^.tup vs->H' b=P3^.tup vs)/\∀b o,H b=P3 o->∃c,H' b=P3 c
def Pres.nd{u:HO}(p:Pres M H M' H')(n:¬M a)(h:H a=P3 u)(b:¬Q_ u:=by rintro⟨_,z⟩;cases z):¬M' a/\H' a=P3 u:=by
 refine#[λz=>?_,p.1 _ _ h n b]
 rcases p.2.1 a z with z|z
 .exact n z
 grind
def NdT.pres(p:Pres M H M' H')(h:NdT M H a vs):NdT M' H' a vs:=p.2.2.1 _ _ h
def NdL.pres(p:Pres M H M' H')(h:NdL M H a vs):NdL M' H' a vs:=p.nd h.1 h.2
def NdD.pres(p:Pres M H M' H')(h:NdD M H a ks vs):NdD M' H' a ks vs:=p.nd h.1 h.2
def NdU.pres{ks:r_^r_ Key}(p:Pres M H M' H')(h:NdU M H a ks vs):NdU M' H' a ks vs:=p.nd h.1 h.2
def NdF.pres(p:Pres M H M' H')(h:NdF M H a ks vs):NdF M' H' a ks vs:=let #[o,b,c]:=h;#[o,p.nd b c]
mutual
theorem At.pres(p:Pres M H M' H'):∀{d:D}{v:V},At K M H d v->At K M' H' d v
 |.non,v,h=>h
 |.bl b,v,h=>h
 |.int i,v,h=>h
 |.str x,v,h=>h
 |.tup ds,v,h=>by
  let#[a,vs,e,hn,hs]:=h;exact#[a,vs,e,hn.pres p,Ats.pres p hs]
 |.lst ds,v,h=>by
  let#[a,vs,e,hn,hs]:=h;exact#[a,vs,e,hn.pres p,Ats.pres p hs]
 |.dic ks ds,v,h=>by
  let#[a,vs,e,hn,hl,hs]:=h;exact#[a,vs,e,hn.pres p,hl,Ats.pres p hs]
 |.fdi ks ds,v,h=>by
  let#[a,vs,e,hn,hl,hs]:=h;exact#[a,vs,e,hn.pres p,hl,Ats.pres p hs]
 |.dit ks ds,v,h=>by
  let#[a,vs,e,hn,hl,hs]:=h;exact#[a,vs,e,hn.pres p,hl,Ats.pres p hs]
 |.ob a,v,h=>#[h.1,let #[_,e]:=h.2;p.2.2.2 _ _ e]
theorem Ats.pres(p:Pres M H M' H'):∀{ds:r_ D}{vs:r_ V},Ats K M H ds vs->Ats K M' H' ds vs
 |[],vs,h=>h
 |d::ds,vs,h=>by
  let#[v,r,e,h1,h2]:=h;exact#[v,r,e,At.pres p h1,Ats.pres p h2]
end
def Pres.trans{M1 M2 d:Ch->Prop}{H1 f g:Hp}(p:Pres M1 H1 M2 f)(q:Pres M2 f d g):Pres M1 H1 d g:=by
 refine#[λb o e n h=>?_,λb z=>?_,λb vs e=>q.2.2.1 b vs^p.2.2.1 b vs e,λb o e=>?_]
 .refine q.1 b o (p.1 b o e n h) (λz=>?_) h
  rcases p.2.1 b z with z|z
  .exact n z
  grind
 .rcases q.2.1 b z with z|z
  .exact p.2.1 b z
  .cases e:H1 b with
   |none=>grind
   |some o=>
    let#[i,c]:=p.2.2.2 b o e;rw[c]at z;cases z
 .let#[i,c]:=p.2.2.2 b o e
  exact q.2.2.2 b i c
def Pres.refl(M:Ch->Prop)(H:Hp):Pres M H M H:=#[λ_ _ e _ _=>e,λ_ z=>.inl z,λ_ _ e=>e,λ_ o e=>#[o,e]]
def Pres.less(h:∀b,M' b->M b):Pres M H M' H:=#[λ_ _ e _ _=>e,λb z=>.inl^h b z,λ_ _ e=>e,λ_ o e=>#[o,e]]
theorem Ats.length:∀{b:r_ D}{vs:r_ V},Ats K M H b vs->vs.length=b.length
 |[],vs,h=>by cases h;rfl
 |d::b,vs,h=>by
  let#[v,r,e,f,c]:=h;subst e;rw[gG,gG,Ats.length c]
theorem Ats.get:∀{b:r_ D}{vs:r_ V}{i:Nat}{d:D},Ats K M H b vs->b[i]?=P3 d->∃v,vs[i]?=P3 v/\At K M H d v
 |[],vs,i,d,h,e=>by simp at e
 |f::b,vs,0,d,h,e=>by
  let#[v,r,g,j,c]:=h
  simp_all
 |f::b,vs,i+1,d,h,e=>by
  let#[v,r,g,j,c]:=h;let#[u,k,l]:=Ats.get c^by simpa using e
  simp_all
theorem Ats.append:∀{f b:r_ D}{vs c:r_ V},Ats K M H f vs->Ats K M H b c->Ats K M H (f++b) (vs++c)
 |[],b,vs,c,h,g=>by cases h;exact g
 |d::f,b,vs,c,h,g=>by
  let#[v,r,e,i,j]:=h;subst e;exact#[v,_,rfl,i,Ats.append j g]
theorem Ats.drop:∀{b:r_ D}{vs:r_ V} (n:Nat),Ats K M H b vs->Ats K M H (b.drop n)^vs.drop n
 |b,vs,0,h=>h
 |[],vs,n+1,h=>by cases h;exact rfl
 |d::b,vs,n+1,h=>by
  let#[v,r,e,f,c]:=h;subst e;exact Ats.drop n c
theorem Ats.take:∀{b:r_ D}{vs:r_ V} (n:Nat),Ats K M H b vs->Ats K M H (b.take n)^vs.take n
 |b,vs,0,h=>rfl
 |[],vs,n+1,h=>by cases h;exact rfl
 |d::b,vs,n+1,h=>by
  let#[v,r,e,c,f]:=h;subst e;exact#[v,_,rfl,c,Ats.take n f]
def Ats.one{d:D}{v:V}(h:At K M H d v):Ats K M H [d] [v]:=#[v,[],rfl,h,rfl]
theorem Ats.eraseIdx:∀{b:r_ D}{vs:r_ V} (i:Nat),Ats K M H b vs->Ats K M H (b.eraseIdx i)^vs.eraseIdx i
 |[],vs,i,h=>by cases h;exact rfl
 |f::b,vs,0,h=>by
  let#[u,r,c,d,e]:=h
  grind
 |f::b,vs,i+1,h=>by
  let#[u,r,c,d,e]:=h;subst c;exact#[u,_,rfl,d,Ats.eraseIdx i e]
theorem Ats.reverse:∀{b:r_ D}{vs:r_ V},Ats K M H b vs->Ats K M H b.reverse vs.reverse
 |[],vs,h=>by cases h;exact rfl
 |d::b,vs,h=>by
  let#[v,r,e,c,f]:=h;subst e;rw[k_,k_];exact Ats.append (Ats.reverse f)^Ats.one c
end
inductive Kd where
 |sh|tp|fr
def Tops(K:Frag)(M:Ch->Prop)(H:Hp)(a:Ch):D->Prop
 |.lst c=>∃b,H a=P3^.lst b/\Ats K M H c b
 |.dic d c=>∃b,H a=P3^.dK^d.zip b/\d.length=c.length/\Ats K M H c b
 |.dit d c=>∃b,H a=P3^.dT^d.zip b/\d.length=c.length/\Ats K M H c b
 |_=>False
def Tops.notT{K:Frag}{M:Ch->Prop}{H:Hp}{a:Ch}{d:D}(h:Tops K M H a d){f:r_ V}:H a≠P3^.tup f:=λq=>by
 cases d with
 |lst b=>let#[c,e,_]:=h;grind
 |dic g b=>let#[c,e,_]:=h;grind
 |dit g b=>let#[c,e,_]:=h;grind
 |_=>exact h.elim
def Tops.notV{K:Frag}{M:Ch->Prop}{H:Hp}{a:Ch}{d:D}(h:Tops K M H a d){o:HO}(q:H a=P3 o):¬Q_ o:=fun#[u,z]=>by
 subst z;cases d with
 |lst b=>let#[c,e,_]:=h;rw[e]at q;cases q
 |dic f b=>let#[c,e,_]:=h;rw[e]at q;cases q
 |dit f b=>let#[c,e,_]:=h;rw[e]at q;cases q
 |_=>exact h.elim
def Tops.pres{K:Frag}{M j:Ch->Prop}{H g:Hp}{a:Ch}{d:D}(h:Tops K M H a d)(p:Pres M H j g)(e:∀o,H a=P3 o->g a=P3 o):Tops K j g a d:=by
 cases d with
 |lst k=>let#[b,c,f]:=h;exact#[b,e _ c,f.pres p]
 |dic l k=>let#[b,c,f,i]:=h;exact#[b,e _ c,f,i.pres p]
 |dit l k=>let#[b,c,f,i]:=h;exact#[b,e _ c,f,i.pres p]
 |_=>assumption
def Tops.at{K:Frag}{M:Ch->Prop}{H:Hp}{a:Ch}{d:D}(h:Tops K M H a d)(n:¬M a):At K M H d^.ref a:=by
 cases d with
 |lst g=>let#[b,c,e]:=h;exact#[a,b,rfl,#[n,c],e]
 |dic i g=>let#[b,c,e,f]:=h;exact#[a,b,rfl,#[n,c],e,f]
 |dit i g=>let#[b,c,e,f]:=h;exact#[a,b,rfl,#[n,c],e,f]
 |_=>exact(h).elim
def AtT(K:Frag)(U:Ch->Prop)(M:Ch->Prop)(H:Hp):D->V->Prop
 |.lst c,v=>∃a b,v=.ref a/\¬U a/\Rd H a^.lst b/\Ats K M H c b
 |.dic e c,v=>∃a b,v=.ref a/\¬U a/\H a=P3^.dK^e.zip b/\e.length=c.length/\Ats K M H c b
 |.dit e c,v=>∃a b,v=.ref a/\¬U a/\H a=P3^.dT^e.zip b/\e.length=c.length/\Ats K M H c b
 |d,v=>At K M H d v
def Tops.att{K:Frag}{U M:Ch->Prop}{H:Hp}{a:Ch}{d:D}(h:Tops K M H a d)(n:¬U a):AtT K U M H d^.ref a:=by
 cases d with
 |lst g=>let#[b,c,e]:=h;exact#[a,b,rfl,n,.inl c,e]
 |dic i g=>let#[b,c,e,f]:=h;exact#[a,b,rfl,n,c,e,f]
 |dit i g=>let#[b,c,e,f]:=h;exact#[a,b,rfl,n,c,e,f]
 |_=>exact(h).elim
def VR(K:Frag)(U:Ch->Prop)(M:Ch->Prop)(H c:Hp):Kd->V->D->Prop
 |.sh,v,d=>At K M c d v
 |.tp,v,d=>AtT K U M c d v
 |.fr,v,d=>∃a,v=.ref a/\H a=o_/\Tops K (λb=>M b\/b=a) c a d
def FeedOk(K:Frag)(M:Ch->Prop)(H:Hp)(f:Ch×Ch)(n:Nat):Prop:=
 ∃(at_ b:Int) (a:r_ Int),H f.1=P3^.lst [.ref f.2,.int at_,.int b]/\f.2≠f.1/\NdL M H f.2^a.map V.int/\a.length<=63/\0<=at_/\at_+n<=2 ^ 60
mutual
def flat:D->Bool
 |.tup ds=>Ay ds
 |.lst _=>q_
 |.dic _ _=>q_
 |.fdi _ _=>q_
 |.dit _ _=>q_
 |_=>p_
def Ay:r_ D->Bool
 |[]=>p_
 |d::ds=>flat d&&Ay ds
end
section
variable {K:Frag}{M M':Addr->Prop}{H H':Hp}
mutual
theorem G7(t:∀b vs,H b=P3^.tup vs->H' b=P3^.tup vs)(o:∀b o,H b=P3 o->∃o',H' b=P3 o'):∀(d:D) {v:V},flat d=p_->At K M H d v->At K M' H' d v
 |.non,_,_,h=>h
 |.bl _,_,_,h=>h
 |.int _,_,_,h=>h
 |.str _,_,_,h=>h
 |.tup ds,_,f,#[a,vs,e,n,h]=>#[a,vs,e,t _ _ n,Ar t o ds f h]
 |.lst _,_,f,_=>by cases f
 |.dic _ _,_,f,_=>by cases f
 |.fdi _ _,_,f,_=>by cases f
 |.dit _ _,_,f,_=>by cases f
 |.ob _,_,_,#[e,_,h]=>#[e,o _ _ h]
theorem Ar(t:∀b vs,H b=P3^.tup vs->H' b=P3^.tup vs)(o:∀b o,H b=P3 o->∃o',H' b=P3 o'):∀(ds:r_ D) {vs:r_ V},Ay ds=p_->Ats K M H ds vs->Ats K M' H' ds vs
 |[],_,_,h=>h
 |d::ds,_,f,#[v,r,e,h,hs]=>#[v,r,e,G7 t o d (gS _ _▸f:_/\_).1 h,Ar t o ds (gS _ _▸f:_/\_).2 hs]
end
end
def CellOk(K:Frag)(M:Ch->Prop)(H:Hp)(a:Ch):Wc->Prop
 |.pl (.lst b)=>¬M a/\∃c,H a=P3^.vol^.lst c/\Ay b=p_/\Ats K M H b c
 |.pl (.dit d b)=>¬M a/\∃c,H a=P3^.vol^.dT^d.zip c/\d.length=b.length/\Ay b=p_/\Ats K M H b c
 |.pl _=>False
 |.ins C d b=>∃e c,H a=P3^.vol^.ins C e^d.zip c/\d.length=b.length/\Ay b=p_/\Ats K M H b c
def FeedC(K:Frag)(F:s_ (Ch×Ch))(M:Ch->Prop)(H:Hp)(s:Sg):Prop:=(∀f,F=P3 f->FeedOk K M H f s.n)/\∀a c,s.w a=P3 c->CellOk K M H a c
def Ext(U:Ch->Prop)(H c:Hp):Prop:=∀b o,H b=P3 o->∃a,c b=P3 a/\(¬U b->¬Q_ o->a=o)/\∀d,o=.tup d->a=o
def Ext.keep{U:Ch->Prop}{H a:Hp}(p:Ext U H a){b:Ch}{o:HO}(e:H b=P3 o)(n:¬U b)(c:¬Q_ o:=by rintro⟨_,z⟩;cases z):a b=P3 o:=by
 let#[d,q,r,_]:=p b o e;rw[q,r n c]
def Ext.tup{U:Ch->Prop}{H a:Hp}(p:Ext U H a){b:Ch}{c:r_ V}(e:H b=P3^.tup c):a b=P3^.tup c:=by
 let#[d,q,_,r]:=p b _ e
 grind
def Ext.free{U:Ch->Prop}{H a:Hp}(p:Ext U H a){b:Ch}(e:a b=o_):H b=o_:=by
 cases q:H b with
 |none=>rfl
 |some o=>
  let#[c,z,_]:=p b o q
  grind
def Ext.refl(U:Ch->Prop)(H:Hp):Ext U H H:=λ_ o e=>#[o,e,λ_ _=>rfl,λ_ _=>rfl]
def Ext.trans{U:Ch->Prop}{H1 c d:Hp}(p:Ext U H1 c)(q:Ext U c d):Ext U H1 d:=λb o e=>by
 let#[h,i,f,g]:=p b o e;let#[j,k,l,m]:=q b h i;exact#[j,k,λn v=>(l n^by rw[f n v];exact v).trans^f n v,λa z=>(m a^(g a z).trans z).trans^g a z]
def Grow(H a:Hp):Prop:=a=H\/∃p o,H p=o_/\a=AY H p o
def Grow.all{H a:Hp}(g:Grow H a):∀b o,H b=P3 o->a b=P3 o:=by
 intro b o e
 rcases g with rfl|⟨p,u,n,rfl⟩
 .exact e
 .rw[AF^AW e n];exact e
def Grow.refl{H:Hp}:Grow H H:=.inl rfl
def Grow.ext{U:Ch->Prop}{H a:Hp}(g:Grow H a):Ext U H a:=λb o e=>#[o,g.all b o e,λ_ _=>rfl,λ_ _=>rfl]
def Grow.pres{M:Ch->Prop}{H a:Hp}(g:Grow H a):Pres M H M a:=#[λb o e _ _=>g.all b o e,λ_ z=>.inl z,λb c e=>g.all b _ e,λb o e=>#[o,g.all b o e]]
def FeedOk.pres{K:Frag}{M c:Ch->Prop}{H b:Hp}{f:Ch×Ch}{n:Nat}(h:FeedOk K M H f n)(p:Pres M H c b)(e:∀o,H f.1=P3 o->b f.1=P3 o):FeedOk K c b f n:=by
 let#[a,r,d,g,i,j,k]:=h;exact#[a,r,d,e _ g,i,j.pres p,k]
def CellOk.to{K:Frag}{M p:Ch->Prop}{H k:Hp}{a:Ch}{c:Wc}(h:CellOk K M H a c)(m:∀u,H a=P3^.vol u->¬M a->¬p a)(t:∀b f,H b=P3^.tup f->k b=P3^.tup f)(o:∀b o,H b=P3 o->∃r,k b=P3 r)(e:∀u,H a=P3^.vol u->k a=P3^.vol u):CellOk K p k a c:=by
 cases c with
 |ins C s q=>let#[v,f,i,l,g,j]:=h;exact#[v,f,e _ i,l,g,Ar t o _ g j]
 |pl d=>cases d with
  |lst q=>let#[n,f,i,g,j]:=h;exact#[m _ i n,f,e _ i,g,Ar t o _ g j]
  |dit s q=>let#[n,f,i,l,g,j]:=h;exact#[m _ i n,f,e _ i,l,g,Ar t o _ g j]
  |_=>exact h.elim
def FeedC.pres{K:Frag}{F:s_ (Ch×Ch)}{M d:Ch->Prop}{H b:Hp}{n:Sg}(h:FeedC K F M H n)(p:Pres M H d b)(e:∀f o,F=P3 f->H f.1=P3 o->b f.1=P3 o)(v:∀a u,H a=P3^.vol u->b a=P3^.vol u):FeedC K F d b n:=#[λf g=>(h.1 f g).pres p λo q=>e f o g q,λa c q=>(h.2 a c q).to (λu q n z=>(p.2.1 a z).elim n λz=>by rw[q]at z;cases z) p.2.2.1 p.2.2.2^v a]
def FeedC.grow{K:Frag}{F:s_ (Ch×Ch)}{M:Ch->Prop}{H b:Hp}{n:Sg}(h:FeedC K F M H n)(g:Grow H b):FeedC K F M b n:=h.pres g.pres (λf o _ e=>g.all _ o e) λa u e=>g.all a _ e
def FeedC.more{K:Frag}{F:s_ (Ch×Ch)}{M:Ch->Prop}{H:Hp}{n:Sg}(h:FeedC K F M H n)(a:Ch)(v:∀f,F=P3 f->f.2≠a)(w:∀u,H a≠P3^.vol u):FeedC K F (λb=>M b\/b=a) H n:=by
 refine#[λf s=>?_,λb c q=>?_]
 .let#[x,r,y,i,l,g,j]:=h.1 f s
  exact#[x,r,y,i,l,#[λz=>z.elim g.1^v f s,g.2],j]
 .have k:∀u,H b=P3^.vol u->b≠a:=λu e z=>w u (z▸e)
  have h:=h.2 b c q;cases c with
  |ins C A t=>let#[B,m,i,l,g,j]:=h;exact#[B,m,i,l,g,Ar (λ_ _ z=>z) (λ_ o z=>#[o,z]) _ g j]
  |pl d=>cases d with
   |lst t=>let#[p,m,i,g,j]:=h;exact#[λz=>z.elim p^k _ i,m,i,g,Ar (λ_ _ z=>z) (λ_ o z=>#[o,z]) _ g j]
   |dit A t=>let#[p,m,i,l,g,j]:=h;exact#[λz=>z.elim p^k _ i,m,i,l,g,Ar (λ_ _ z=>z) (λ_ o z=>#[o,z]) _ g j]
   |_=>exact h.elim
def AtX(K:Frag)(M:Ch->Prop)(H:Hp)(a:Ch)(g:Str)(b:r_ Str)(f:r_ D):Prop:=∃C U c u e,XC K g C U/\(¬M a/\H a=P3 u)/\XT C c a u/\(c=o_/\b=[]/\e=[]\/∃d,c=P3 d/\¬M d/\H d=P3^.ext^XF d^b.zip e)/\b.length=f.length/\Ats K M H f e
def AtX.pres{K:Frag}{M b:Ch->Prop}{H e:Hp}{a:Ch}{f:Str}{g:r_ Str}{i:r_ D}(h:AtX K M H a f g i)(p:Pres M H b e):AtX K b e a f g i:=by
 let#[C,U,j,u,k,c,#[n,l],x,m,o,q]:=h;refine#[C,U,j,u,k,c,p.nd n l (by let#[_,_,rfl,_]:=x;rintro⟨_,z⟩;cases z),x,?_,o,q.pres p]
 rcases m with z|⟨d,r,s,t⟩
 .exact .inl z
 .exact .inr #[d,r,p.nd s t]
inductive Slot where
 |no|sh (d:D)|br (d:D)|fd|ow (d:D)|lt (a:Ch) (d:D)|ex (a:Ch) (nm:Str) (ks:List Str) (ds:List D)
def Slot.owns:Slot->Bool
 |.ow _=>p_
 |.lt _ _=>p_
 |_=>q_
def SlotOk(K:Frag)(F:s_ (Ch×Ch))(U:Ch->Prop)(M:Ch->Prop)(H:Hp):Slot->s_ V->Prop
 |.no,_=>True
 |.sh d,o=>∃v,o=P3 v/\At K M H d v
 |.br d,o=>∃v,o=P3 v/\AtT K U M H d v
 |.fd,o=>∃f,o=P3^.ref f.1/\F=P3 f
 |.ow d,o=>∃a,o=P3^.ref a/\M a/\¬U a/\Tops K M H a d
 |.lt a d,o=>o=P3^.ref a/\M a/\¬U a/\Tops K M H a d
 |.ex a b c e,o=>o=P3^.ref a/\AtX K M H a b c e
structure Fm where
 M0:Ch->Prop
 F:Option (Ch×Ch)
 U:Ch->Prop
 V:Ch->Prop
 H0:Hp
 zF:List ((Ch->Prop)×Hp)
 kp:List (Ch×HO)
def Apart(b:r_ Slot)(c:L2.St):Prop:=∀(i j:Nat) (s t:Slot) (a:Ch),b[i]?=P3 s->s.owns=p_->b[j]?=P3 t->t.owns=p_->(c[i]?).getD o_=P3^.ref a->(c[j]?).getD o_=P3^.ref a->i=j
structure Rel (K:Frag) (C:Fm) (M:Ch->Prop) (H:Hp) (n:Sg) (ρ:List Slot) (σ:L2.St):Prop where
 len:ρ.length=σ.length
 sub:∀a,C.M0 a->M a
 dom:∀a,M a->∃o,H a=P3 o
 ext:Ext C.U C.H0 H
 fU:∀f,C.F=P3 f->C.U f.1
 uV:∀a,C.U a->C.V a
 vM:∀a,C.V a->M a
 feed:FeedC K C.F M H n
 sl:∀(i:Nat) (s:Slot),ρ[i]?=P3 s->SlotOk K C.F C.V M H s ((σ[i]?).getD o_)
 pin:∀p∈C.zF,Pres p.1 p.2 M H
 br0:∀(i:Nat) (d:D) (a:Ch),ρ[i]?=P3^.br d->(σ[i]?).getD o_=P3^.ref a->∃o,C.H0 a=P3 o
 new:∀(i:Nat) (s:Slot) (a:Ch),ρ[i]?=P3 s->s.owns=p_->(σ[i]?).getD o_=P3^.ref a->¬C.M0 a/\C.H0 a=o_
 two:Apart ρ σ
 kept:∀p∈C.kp,H p.1=P3 p.2/\(M p.1/\¬Q_ p.2)/\¬C.V p.1/\∀(i:Nat) (d:D),ρ[i]?=P3^.ow d->(σ[i]?).getD o_≠P3^.ref p.1
section
variable {K:Frag}{C:Fm}{M:Addr->Prop}{H H':Hp}{n n':Sg}{ρ:r_ Slot}{σ:L2.St}{d:D}{v:V}{κ:Kd}
def Rel.pres(R:Rel K C M H n ρ σ)(e:Ext C.U H H'):Pres M H M H':=#[λb o q a c=>e.keep q (λz=>a^R.vM b^R.uV b z) c,λ_ z=>.inl z,λb g q=>e.tup q,λb o q=>let #[f,h,_]:=e b o q;#[f,h]]
def AtT.pres{U q:Ch->Prop}{s:Ch->Prop}(h:AtT K q M H d v)(p:Pres M H s H')(e:Ext U H H')(l:∀a,U a->q a):AtT K q s H' d v:=by
 cases d with
 |lst m=>
  let#[a,g,j,c,f,k]:=h;refine#[a,g,j,c,?_,k.pres p]
  rcases f with f|⟨o,f⟩
  .exact .inl^e.keep f λz=>c^l a z
  .exact .inr #[o,e.keep f λz=>c^l a z]
 |dic t m=>
  let#[a,g,j,c,f,r,k]:=h;exact#[a,g,j,c,e.keep f λz=>c^l a z,r,k.pres p]
 |dit t m=>
  let#[a,g,j,c,f,r,k]:=h;exact#[a,g,j,c,e.keep f λz=>c^l a z,r,k.pres p]
 |non=>assumption
 |bl b=>assumption
 |int i=>assumption
 |str x=>assumption
 |tup m=>exact At.pres p h
 |fdi t m=>exact At.pres p h
 |ob a=>exact At.pres p h
def AtT.same{U r:Ch->Prop}{s:Ch->Prop}(h:AtT K U M H d v)(p:Pres M H s H')(e:∀a o,v=.ref a->H a=P3 o->H' a=P3 o)(m:∀a,v=.ref a->¬U a->¬r a):AtT K r s H' d v:=by
 cases d with
 |lst l=>
  let#[a,g,c,j,f,k]:=h;refine#[a,g,c,m a c j,?_,k.pres p]
  rcases f with f|⟨o,f⟩
  .exact .inl^e a _ c f
  .exact .inr #[o,e a _ c f]
 |dic t l=>
  let#[a,g,c,j,f,q,k]:=h;exact#[a,g,c,m a c j,e a _ c f,q,k.pres p]
 |dit t l=>
  let#[a,g,c,j,f,q,k]:=h;exact#[a,g,c,m a c j,e a _ c f,q,k.pres p]
 |non=>assumption
 |bl b=>assumption
 |int i=>assumption
 |str x=>assumption
 |tup l=>exact At.pres p h
 |fdi t l=>exact At.pres p h
 |ob a=>exact At.pres p h
def AtT.lies{U:Ch->Prop}{a:Ch}(h:AtT K U M H d^.ref a):∃o,H a=P3 o:=by
 cases d with
 |lst f=>
  let#[b,g,e,_,c,_]:=h;cases e
  rcases c with c|⟨o,c⟩
  .exact#[_,c]
  grind
 |dic j f=>
  let#[b,g,e,_,c,_]:=h
  grind
 |dit j f=>
  let#[b,g,e,_,c,_]:=h
  grind
 |non=>cases(h)
 |bl b=>cases(h)
 |int i=>cases(h)
 |str x=>cases(h).1
 |tup f=>
  let#[b,g,e,c,_]:=h;cases e;exact#[_,c]
 |fdi j f=>
  let#[b,g,e,#[o,_,c],_]:=h
  simp_all
 |ob b=>let#[e,h]:=h;cases e;exact h
def SlotOk.pres{F:s_ (Ch×Ch)}{U i j:Ch->Prop}{s:Slot}{o:s_ V}(h:SlotOk K F i M H s o)(p:Pres M H j H')(m:∀a,M a->j a)(e:Ext U H H')(k:∀a,U a->i a):SlotOk K F i j H' s o:=by
 cases s with
 |no=>trivial
 |sh d=>let#[v,b,c]:=h;exact#[v,b,c.pres p]
 |ex a l r t=>let#[b,c]:=h;exact#[b,c.pres p]
 |br d=>let#[v,b,c]:=h;exact#[v,b,c.pres p e k]
 |fd=>exact h
 |ow d=>let#[a,b,c,f,g]:=h;exact#[a,b,m a c,f,g.pres p λo q=>e.keep q (λz=>f^k a z)^g.notV q]
 |lt a d=>let#[b,c,f,g]:=h;exact#[b,m a c,f,g.pres p λo q=>e.keep q (λz=>f^k a z)^g.notV q]
def Rel.step(R:Rel K C M H n ρ σ)(e:Ext C.U H H')(f:FeedC K C.F M H' n'):Rel K C M H' n' ρ σ:=by
 have p:=R.pres e;refine#[R.len,R.sub,λa z=>?_,R.ext.trans e,R.fU,R.uV,R.vM,f,λi s q=>(R.sl i s q).pres p (λ_ z=>z) e R.uV,λq b=>(R.pin q b).trans p,R.br0,R.new,R.two,λq b=>?_]
 .let#[o,c]:=R.dom a z
  let#[k,g,_]:=e a o c
  grind
 .let#[c,g,h,j]:=R.kept q b
  exact#[e.keep c (λz=>h^R.uV _ z) g.2,g,h,j]
def Rel.udom(R:Rel K C M H n ρ σ):∀a,C.U a->∃o,H a=P3 o:=λa z=>R.dom a^R.vM a^R.uV a z
def At.tp{U:Ch->Prop}(k:∀a,U a->M a)(h:At K M H d v):AtT K U M H d v:=by
 cases d with
 |lst j=>
  let#[a,f,e,c,g]:=h;exact#[a,f,e,λz=>c.1^k a z,.inl c.2,g]
 |dic m j=>
  let#[a,f,e,c,l,g]:=h;exact#[a,f,e,λz=>c.1^k a z,c.2,l,g]
 |dit m j=>
  let#[a,f,e,c,l,g]:=h;exact#[a,f,e,λz=>c.1^k a z,c.2,l,g]
 |non=>exact h
 |bl b=>exact h
 |int i=>exact h
 |str x=>exact h
 |tup j=>exact h
 |fdi m j=>exact h
 |ob a=>exact h
def VR.back{U b:Ch->Prop}{H1:Hp}(e:Ext U H H1)(h:VR K b M H1 H' κ v d):VR K b M H H' κ v d:=by
 cases κ with
 |sh=>exact h
 |tp=>exact h
 |fr=>
  let#[a,c,f,g]:=h;exact#[a,c,e.free f,g]
def VR.shOf{U:Ch->Prop}(b:∀a,M a->∃o,H a=P3 o)(h:VR K U M H H' κ v d)(e:κ≠.tp):At K M H' d v:=by
 cases κ with
 |sh=>exact h
 |tp=>grind
 |fr=>
  let#[a,rfl,f,c]:=h;refine(c.pres (Pres.less λ_ z=>.inl z) λ_ z=>z).at λz=>?_
  grind
def VR.tpOf{U:Ch->Prop}(b:∀a,M a->∃o,H a=P3 o)(c:∀a,U a->M a)(h:VR K U M H H' κ v d):AtT K U M H' d v:=by
 cases κ with
 |sh=>exact At.tp c h
 |tp=>exact h
 |fr=>exact At.tp c^VR.shOf b h^by grind
def D7{a:Type}{l:r_ a}{i j:Nat}{x y:a}(h:(l.set i x)[j]?=P3 y):(j=i/\i<l.length/\y=x)\/(j≠i/\l[j]?=P3 y):=by
 rw[mY]at h
 by_cases e:i=j
 .simp_all
 .rw[if_neg e]at h
  exact .inr #[λz=>e z.symm,h]
def Ew{l:L2.St}{i j:Nat}{x:s_ V}(h:j≠i):((l.set i x)[j]?).getD o_=(l[j]?).getD o_:=by
 rw[mY,if_neg λz=>h z.symm]
def NL{l:L2.St}{i:Nat}{x:s_ V}(h:i<l.length):((l.set i x)[i]?).getD o_=x:=by
 simp_all
def Rel.set(R:Rel K C M H n ρ σ){i:Nat}(h:At K M H d v):Rel K C M H n (ρ.set i^.sh d)^σ.set i^P3 v:=by
 have b:∀(j:Nat) (s:Slot),(ρ.set i^.sh d)[j]?=P3 s->s.owns=p_->ρ[j]?=P3 s/\((σ.set i^P3 v)[j]?).getD o_=(σ[j]?).getD o_:=λj s q o=>by
  rcases D7 q with⟨_,_,rfl⟩|⟨f,q⟩
  .cases o
  .exact#[q,Ew f]
 refine#[by rw[ja,ja];exact R.len,R.sub,R.dom,R.ext,R.fU,R.uV,R.vM,R.feed,λj s q=>?_,R.pin,λj e a q c=>?_,λj s a q o c=>?_,λj k s t a g m c r u w=>?_,λp x=>?_]
 .rcases D7 q with⟨rfl,y,rfl⟩|⟨f,q⟩
  .rw[NL^by rw[←R.len];exact y]
   exact#[v,rfl,h]
  .rw[Ew f]
   exact R.sl j s q
 .rcases D7 q with⟨_,_,e⟩|⟨f,q⟩
  .cases e
  .rw[Ew f]at c
   exact R.br0 j e a q c
 .let#[g,e]:=b j s q o
  rw[e]at c;exact R.new j s a g o c
 .let#[z,A]:=b j s g m
  let#[B,l]:=b k t c r;rw[A]at u;rw[l]at w;exact R.two j k s t a z m B r u w
 .let#[D,E,F,G]:=R.kept p x
  refine#[D,E,F,λj e q=>?_];let#[g,l]:=b j _ q rfl;rw[l];exact G j e g
def Rel.owner(R:Rel K C M H n ρ σ){i:Nat}{s:Slot}(h:ρ[i]?=P3 s)(o:s.owns=p_):∃a e,(σ[i]?).getD o_=P3^.ref a/\M a/\¬C.V a/\Tops K M H a e/\¬C.M0 a/\C.H0 a=o_:=by
 have q:=R.sl i s h;cases s with
 |ow d=>let#[a,b,c,f,g]:=q;exact#[a,d,b,c,f,g,R.new i _ a h o b]
 |lt a d=>let#[b,c,f,g]:=q;exact#[a,d,b,c,f,g,R.new i _ a h o b]
 |_=>cases o
def Rel.setOw(R:Rel K C M H n ρ σ){i:Nat}{a:Ch}(e:Ext C.U H H')(f:FeedC K C.F M H' n')(I:H a=o_)(h:Tops K (λb=>M b\/b=a) H' a d):
  Rel K C (λb=>M b\/b=a) H' n' (ρ.set i^.ow d) (σ.set i^P3^.ref a):=by
 have L:=R.step e f
 have J:∀b,M b->b≠a:=λb z q=>by
  let#[o,w]:=R.dom b z;rw[q,I]at w;cases w
 have Y:¬C.M0 a/\C.H0 a=o_:=#[λz=>J a (R.sub a z) rfl,R.ext.free I];have S:Pres M H (λb=>M b\/b=a) H':=#[λb o q Z nv=>e.keep q (λz=>Z^R.vM b^R.uV b z) nv,λb z=>z.elim .inl λz=>.inr (by rw[z];exact I),λb N q=>e.tup q,λb o q=>let #[o',h,_]:=e b o q;#[o',h]]
 have r:∀(j:Nat) (s:Slot),(ρ.set i^.ow d)[j]?=P3 s->(j=i/\s=.ow d/\((σ.set i^P3^.ref a)[j]?).getD o_=P3^.ref a)\/(j≠i/\ρ[j]?=P3 s/\((σ.set i^P3^.ref a)[j]?).getD o_=(σ[j]?).getD o_):=λj s q=>by
  rcases D7 q with⟨rfl,hl,rfl⟩|⟨B,q⟩
  .exact .inl #[rfl,rfl,NL^by rw[←R.len];exact hl]
  .exact .inr #[B,q,Ew B]
 have E:∀(j:Nat) (s:Slot) (b:Ch),ρ[j]?=P3 s->s.owns=p_->(σ[j]?).getD o_=P3^.ref b->b≠a:=λj s b q o z=>by
  let#[c,_,l,m,_]:=R.owner q o;rw[l]at z;cases z;exact J _ m
 have hd:∃o,H' a=P3 o:=by
  cases d with
  |lst T=>let#[N,q,_]:=h;exact#[_,q]
  |dic ks T=>let#[N,q,_]:=h;exact#[_,q]
  |dit ks T=>let#[N,q,_]:=h;exact#[_,q]
  |_=>exact(show False from h).elim
 refine#[by rw[ja,ja];exact R.len,λb z=>.inl^R.sub b z,λb z=>?_,L.ext,R.fU,R.uV,λb z=>.inl^R.vM b z,f.more a (λg hg q=>?_) λu z=>h.notV z #[u,rfl],λj s q=>?_,λq hq=>(R.pin q hq).trans S,λj y b q x=>?_,λj s b q o x=>?_,λj k s t b A V x W G D=>?_,λp hp=>?_]
 .rcases z with z|z
  .exact L.dom b z
  .rw[z];exact hd
 .let#[_,_,_,_,_,O,_]:=R.feed.1 g hg
  have:=O.2
  rw[q,I]at this;cases this
 .rcases r j s q with⟨rfl,rfl,l⟩|⟨B,A,l⟩
  .rw[l]
   exact#[a,rfl,.inr rfl,λz=>J a (R.vM a z) rfl,h]
  .rw[l]
   exact(R.sl j s A).pres S (λ_ z=>.inl z) e R.uV
 .rcases r j _ q with⟨_,l,_⟩|⟨B,A,l⟩
  .cases l
  .rw[l]at x
   exact R.br0 j y b A x
 .rcases r j s q with⟨_,_,l⟩|⟨B,A,l⟩
  .rw[l]at x
   cases x;exact Y
  .rw[l]at x
   exact R.new j s b A o x
 .rcases r j s A with⟨rfl,_,l⟩|⟨B,X,l⟩
  .rw[l]at G
   cases G
   rcases r k t x with⟨rfl,_,_⟩|⟨hk,P,y⟩
   .rfl
   .rw[y]at D
    exact absurd rfl (E k t a P W D)
  .rw[l]at G
   rcases r k t x with⟨rfl,_,y⟩|⟨hk,P,y⟩
   .rw[y]at D
    cases D;exact absurd rfl (E j s a X V G)
   .rw[y]at D
    exact R.two j k s t b X V P W G D
 .let#[h1,Q,O,h4]:=L.kept p hp
  refine#[h1,#[.inl Q.1,Q.2],O,λj y q=>?_]
  rcases r j _ q with⟨_,_,l⟩|⟨B,A,l⟩
  .rw[l]
   intro z;cases z;exact J _ Q.1 rfl
  .rw[l]
   exact h4 j y A
def Rel.mut(R:Rel K C M H n ρ σ){i:Nat}{a:Ch}{e:D}{o:HO}(hi:ρ[i]?=P3^.ow d)(L:(σ[i]?).getD o_=P3^.ref a)(h:Tops K M (AY H a o) a e):
  Rel K C M (AY H a o) n (ρ.set i^.ow e) σ:=by
 let#[b,_,c,m,T,t,n0,U]:=R.owner hi rfl;rw[L]at c;cases c;have F:Pres M H M^AY H a o:=#[λb A q X _=>by rw[AF λz=>X^by rw[z];exact m];exact q,λ_ z=>.inl z,λb vs q=>by rw[AF λz=>t.notT^by rw[←z];exact q];exact q,λb A q=>(jC (b=a)).elim (λz=>#[o,by rw[z,AH]]) λz=>#[A,by rw[AF z];exact q]]
 have l:∀(j:Nat) (s:Slot),(ρ.set i^.ow e)[j]?=P3 s->(j=i/\s=.ow e)\/(j≠i/\ρ[j]?=P3 s):=λj s q=>by
  rcases D7 q with⟨rfl,hl,rfl⟩|⟨B,q⟩
  .exact .inl #[rfl,rfl]
  .exact .inr #[B,q]
 have far:∀(j:Nat) (s:Slot) (b:Ch),j≠i->ρ[j]?=P3 s->s.owns=p_->(σ[j]?).getD o_=P3^.ref b->b≠a:=λj s b B q o z w=>by
  subst w;exact B (R.two j i s _ b q o hi rfl z L)
 refine#[by rw[ja];exact R.len,R.sub,λb z=>?_,λb A q=>?_,R.fU,R.uV,R.vM,R.feed.pres F (λf A Y q=>?_) (λb u q=>by rw[AF λz=>t.notV (by rw[←z];exact q) #[u,rfl]];exact q),λj s q=>?_,λq Z=>(R.pin q Z).trans F,λj N b q g=>?_,λj s b q G g=>?_,λj k s t b x V g G O P=>?_,λp hp=>?_]
 .by_cases E:b=a
  .exact#[o,by rw[E,AH]]
  .let#[A,q]:=R.dom b z
   exact#[A,by rw[AF E];exact q]
 .let#[G,g,r]:=R.ext b A q
  have E:b≠a:=λz=>by rw[z,U]at q;cases q
  exact#[G,by rw[AF E];exact g,r]
 .have E:f.1≠a:=λz=>T^by rw[←z];exact R.uV _^R.fU f Y
  rw[AF E];exact q
 .rcases l j s q with⟨rfl,rfl⟩|⟨B,x⟩
  .rw[L]
   exact#[a,rfl,m,T,h]
  .have g:=R.sl j s x
   cases s with
   |no=>trivial
   |sh d=>let#[v,c,y]:=g;exact#[v,c,y.pres F]
   |ex a nm ks ds=>let#[c,y]:=g;exact#[c,y.pres F]
   |br d=>
    let#[v,c,y]:=g;refine#[v,c,y.same F (λb A z q=>?_) λ_ _ z=>z];subst z;let#[o3,w]:=R.br0 j d b x c;rw[AF λz=>by rw[z,U]at w;cases w];exact q
   |fd=>exact g
   |ow d=>
    let#[b,c,y,I,J]:=g;exact#[b,c,y,I,J.pres F λA w=>by rw[AF (far j _ b B x rfl c)];exact w]
   |lt b d=>
    let#[c,y,I,J]:=g;exact#[c,y,I,J.pres F λA w=>by rw[AF (far j _ b B x rfl c)];exact w]
 .rcases l j _ q with⟨_,c⟩|⟨B,x⟩
  .cases c
  .exact R.br0 j N b x g
 .rcases l j s q with⟨rfl,_⟩|⟨B,x⟩
  .exact R.new j _ b hi rfl g
  .exact R.new j s b x G g
 .rcases l j s x with⟨rfl,rfl⟩|⟨B,W⟩
  .rcases l k t g with⟨rfl,_⟩|⟨hk,Q⟩
   .rfl
   .exact R.two j k _ t b hi rfl Q G O P
  .rcases l k t g with⟨rfl,rfl⟩|⟨hk,Q⟩
   .exact R.two j k s _ b W V hi rfl O P
   .exact R.two j k s t b W V Q G O P
 .let#[y,I,J,S]:=R.kept p hp
  have E:p.1≠a:=λz=>S i d hi (by rw[L,z]);refine#[by rw[AF E];exact y,I,J,λj N q=>?_]
  rcases l j _ q with⟨rfl,_⟩|⟨B,x⟩
  .exact S j d hi
  .exact S j N x
end
abbrev DW:=Sg->r_ Slot->(D->Sg->Prop)->Prop
abbrev FJ:=Sg->r_ Slot->(Bool->Sg->Prop)->Prop
abbrev C7:=Sg->r_ Slot->(r_ D->Sg->Prop)->Prop
abbrev La:=Sg->r_ Slot->(r_ Slot->Sg->Prop)->Prop
section
variable (X:Cx)
def DE(e:gI)(g:Kd)(w:DW):Prop:=∃t,PE X e t/\∀(C:Fm) (M:Ch->Prop) (H:Hp) (n:Sg) (b:r_ Slot) (c:L2.St) (P:D->Sg->Prop) (Q:VK),Rel X.K C M H n b c->w n b P->
 (∀v a d f,Ext C.U H a->FeedC X.K C.F M a f->VR X.K C.V M H a g v d->P d f->Q v a)->t c H Q
def DT(e:gI)(w:FJ):Prop:=∃t,PT X e t/\∀(C:Fm) (M:Ch->Prop) (H:Hp) (n:Sg) (c:r_ Slot) (d:L2.St) (P:Bool->Sg->Prop) (Q:Bool->Hp->Prop),Rel X.K C M H n c d->w n c P->
 (∀b a f,Ext C.U H a->FeedC X.K C.F M a f->P b f->Q b a)->t d H Q
def DTW(e:gI)(w:FJ):Prop:=∃t,PW X e t/\∀(C:Fm) (M:Ch->Prop) (H:Hp) (n:Sg) (c:r_ Slot) (d:L2.St) (P:Bool->Sg->Prop) (Q:Bool->Hp->Prop),Rel X.K C M H n c d->w n c P->
 (∀b a f,Ext C.U H a->FeedC X.K C.F M a f->P b f->Q b a)->t d H Q
def WU(h:r_ gI)(w:C7):Prop:=∃t,PA X h t/\∀(C:Fm) (M:Ch->Prop) (H:Hp) (n:Sg) (b:r_ Slot) (c:L2.St) (P:r_ D->Sg->Prop) (Q:r_ V->Hp->Prop),Rel X.K C M H n b c->w n b P->
 (∀e a f g,Ext C.U H a->FeedC X.K C.F M a g->Paired (λv d=>AtT X.K C.V M a d v) e f->P f g->Q e a)->t c H Q
def WT(g:r_ gI)(w:C7):Prop:=∃t,PA X g t/\∀(C:Fm) (M:Ch->Prop) (H:Hp) (n:Sg) (b:r_ Slot) (c:L2.St) (P:r_ D->Sg->Prop) (Q:r_ V->Hp->Prop),Rel X.K C M H n b c->w n b P->
 (∀d a e f,Ext C.U H a->FeedC X.K C.F M a f->Ats X.K M a e d->P e f->Q d a)->t c H Q
def Ct(K:Frag)(F:s_ (Ch×Ch))(a M:Ch->Prop)(H:Hp)(v:V)(s:Slot):Prop:=SlotOk K F a M H s^P3 v/\s.owns=q_
def c7(e:gI)(w:Sg->r_ Slot->(Slot->Sg->Prop)->Prop):Prop:=∃t,PE X e t/\∀(C:Fm) (M:Ch->Prop) (H:Hp) (n:Sg) (b:r_ Slot) (c:L2.St) (P:Slot->Sg->Prop) (Q:VK),Rel X.K C M H n b c->w n b P->
 (∀v a s d,Ext C.U H a->FeedC X.K C.F M a d->Ct X.K C.F C.V M a v s->P s d->Q v a)->t c H Q
def M5(g:r_ gI)(w:La):Prop:=∃t,PA X g t/\∀(C:Fm) (M:Ch->Prop) (H:Hp) (n:Sg) (b:r_ Slot) (c:L2.St) (P:r_ Slot->Sg->Prop) (Q:r_ V->Hp->Prop),Rel X.K C M H n b c->w n b P->
 (∀d a e f,Ext C.U H a->FeedC X.K C.F M a f->Paired (Ct X.K C.F C.V M a) d e->P e f->Q d a)->t c H Q
end
def AS(i:Nat):DW:=λn a P=>match a[i]? with
 |some (.sh d)=>P d n
 |_=>False
def Bj(i:Nat):DW:=λn a P=>match a[i]? with
 |some (.sh d)=>P d n
 |some (.br d)=>P d n
 |some (.ow d)=>P d n
 |some (.lt _ d)=>P d n
 |_=>False
def wC(d:D):DW:=λn _ P=>P d n
section
variable {X:Cx}{a b c e:Expr}{κ zV zS:Kd}{wa wb wc:DW}{pos:Pos}
def getD_some{c:L2.St}{i:Nat}{v:V}(h:(c[i]?).getD o_=P3 v):c[i]?=P3^P3 v:=by
 cases q:c[i]? with
 |none=>simp_all
 |some o=>simp_all
def Vw{i:Nat}(h:PE X e^BZ i):DE X e .sh^AS i:=by
 refine#[_,h,λC M H n j k P Q R w q=>?_];unfold AS at w
 split at w
 .rename_i d c
  let#[v,f,g]:=R.sl i _ c;exact#[v,getD_some f,q v H d n (Ext.refl _ _) R.feed g w]
 grind
def UA{i:Nat}(h:PE X e^BZ i):DE X e .tp^Bj i:=by
 refine#[_,h,λC M H n l m P Q R w q=>?_];unfold Bj at w
 split at w
 .rename_i d c
  let#[v,f,g]:=R.sl i _ c;exact#[v,getD_some f,q v H d n (Ext.refl _ _) R.feed (At.tp R.vM g) w]
 .rename_i d c
  let#[v,f,g]:=R.sl i _ c;exact#[v,getD_some f,q v H d n (Ext.refl _ _) R.feed g w]
 .rename_i d c
  let#[a,f,_,j,k]:=R.sl i _ c;exact#[.ref a,getD_some f,q _ H d n (Ext.refl _ _) R.feed (k.att j) w]
 .rename_i a d c
  let#[f,_,j,k]:=R.sl i _ c;exact#[.ref a,getD_some f,q _ H d n (Ext.refl _ _) R.feed (k.att j) w]
 .exact w.elim
def dv(i:Nat){x:Str}{pos:Pos}(d:X.N[i]?=P3 x:=by rfl)(e:Pu X.env.scope x:=by first|exact gx rfl|exact iK (gx rfl)|exact iK (iK rfl))(f:(x==("__debug__":Str))=q_:=by decide)
  (c:(x==("__classdict__":Str))=q_:=by decide):DE X (.Name x pos) .sh^AS i:=Vw^De d e f c
def Ci(i:Nat){x:Str}{pos:Pos}(d:X.N[i]?=P3 x:=by rfl)(e:Pu X.env.scope x:=by first|exact gx rfl|exact iK (gx rfl)|exact iK (iK rfl))(f:(x==("__debug__":Str))=q_:=by decide)
  (c:(x==("__classdict__":Str))=q_:=by decide):DE X (.Name x pos) .tp^Bj i:=UA^De d e f c
def EJ{d:D}{v:V}(h:PE X e^tC v)(c:∀M H,At X.K M H d v):DE X e .sh^wC d:=
 #[_,h,λC M H n f g P Q R w q=>q v H d n (Ext.refl _ _) R.feed (c M H) w]
def AB{i:Int}{j pos}:DE X (.Constant (.int i) j pos) .sh^wC^.int i:=EJ Ah λ_ _=>rfl
def Fi{b:Bool}{j pos}:DE X (.Constant (.bool b) j pos) .sh^wC^.bl b:=EJ bM λ_ _=>rfl
def Bh{j pos}:DE X (.Constant .none j pos) .sh^wC .non:=EJ SY λ_ _=>rfl
def AI{x:Str}{j pos}(c:decide (x.length<=1000)=p_:=by rfl):DE X (.Constant (.str x) j pos) .sh^wC^.str x:=
 EJ NU λ_ _=>#[rfl,gN (of_decide_eq_true c)^by cbv]
def Ds{x:Str}{i:Int}{t:Tok}{pos:Pos}(c:Gl X x)(d:X.mg x=P3^.int i t)(e:(x==("__debug__":Str))=q_:=by decide):DE X (.Name x pos) .sh^wC^.int i:=
 EJ (Oq c d (v:=.int i) #[t,rfl] e) λ_ _=>rfl
def C6(K:Frag)(κ:Kd)(r:R2)(f:D->D->(D->Prop)->Prop):Prop:=∀(U:Ch->Prop) (M:Ch->Prop) (H:Hp) (d e:D) (x y:V) (P:D->Prop) (Q:VK),(∀a,M a->∃o,H a=P3 o)->(∀a,U a->M a)->
 AtT K U M H d x->AtT K U M H e y->f d e P->(∀v c z,Grow H c->VR K U M H c κ v z->P z->Q v c)->r x y H Q
def BI(f:D->D->(D->Prop)->Prop)(wa wb:DW):DW:=λn c P=>wa n c λx d=>wb d c λy e=>f x y λz=>P z e
def Du{r:R2}{f:D->D->(D->Prop)->Prop}(A:C6 X.K κ r f){s t:TE}(B:∀(C:Fm) (M:Ch->Prop) (H:Hp) (n:Sg) (h:r_ Slot) (i:L2.St) (P:D->Sg->Prop) (Q:VK),Rel X.K C M H n h i->wa n h P->
   (∀v c d j,Ext C.U H c->FeedC X.K C.F M c j->VR X.K C.V M H c zV v d->P d j->Q v c)->s i H Q)
  (E:∀(C:Fm) (M:Ch->Prop) (H:Hp) (n:Sg) (h:r_ Slot) (i:L2.St) (P:D->Sg->Prop) (Q:VK),Rel X.K C M H n h i->wb n h P->
   (∀v c d j,Ext C.U H c->FeedC X.K C.F M c j->VR X.K C.V M H c zS v d->P d j->Q v c)->t i H Q)
  (C:Fm) (M:Ch->Prop) (H:Hp) (n:Sg) (h:r_ Slot) (i:L2.St) (P:D->Sg->Prop) (Q:VK) (R:Rel X.K C M H n h i) (w:BI f wa wb n h P)
  (q:∀v c d j,Ext C.U H c->FeedC X.K C.F M c j->VR X.K C.V M H c κ v d->P d j->Q v c):C8 r s t i H Q:=by
 refine B C M H n h i _ _ R w λx H1 d G o I J L=>?_;have k:=R.step o I;refine E C M H1 G h i _ _ k L λy N e O l u S T=>?_;have m:=k.step l u;exact A _ M N d e x y _ _ m.dom m.vM ((J.tpOf R.dom R.vM).pres (k.pres l) l R.uV) (S.tpOf k.dom k.vM) T λv W z g Y p=>q v W z O ((o.trans l).trans g.ext) (u.grow g) (VR.back (o.trans l) Y) p
def Au{h:Operator}{r:R2}{f:D->D->(D->Prop)->Prop}(i:OpR X (binaryOp h) r)(j:C6 X.K κ r f)(k:DE X a zV wa)(l:DE X b zS wb):DE X (.BinOp a h b pos) κ^BI f wa wb:=by
 let#[p,c,d]:=k;let#[s,e,g]:=l;exact#[_,BS i c e,λC M H n m o P Q R w q=>Du j d g C M H n m o P Q R w q]
def cF{r:R2}{f:D->D->(D->Prop)->Prop}(h:IxR X r)(i:C6 X.K κ r f)(j:DE X a zV wa)(k:DE X b zS wb)(l:HI b:=by intro _ _;rfl):DE X (.Subscript a b pos) κ^BI f wa wb:=by
 let#[p,c,d]:=j;let#[s,e,g]:=k;exact#[_,DD h c e l,λC M H n m o P Q R w q=>Du i d g C M H n m o P Q R w q]
def LJ{c:CmpOp}{r:R2}{f:D->D->(D->Prop)->Prop}(i:OpR X (compareOp c) r)(j:C6 X.K .sh r f)(k:DE X a zV wa)(l:DE X b zS wb)(m:behindInMarks c b=q_):DE X (.Compare a [c] [b] pos) .sh^BI f wa wb:=by
 let#[s,d,e]:=k;let#[t,g,h]:=l;exact#[_,VH i d g m,λC M H n o p P Q R w q=>Du j e h C M H n o p P Q R w q]
def A9(w:DW):FJ:=λn c P=>w n c λd e=>match d with
 |.bl b=>P b e
 |_=>False
def FL{U:Ch->Prop}{K:Frag}{M:Ch->Prop}{H c:Hp}{v:V}{b:Bool}(h:VR K U M H c κ v^.bl b):v=.bl b:=by
 cases κ with
 |sh=>exact h
 |tp=>exact h
 |fr=>let#[a,_,_,t]:=h;exact(t).elim
def ZU{c:CmpOp}{r:R2}{f:D->D->(D->Prop)->Prop}(k:OpR X (compareOp c) r)(l:C6 X.K .sh r f)(m:DE X a zV wa)(o:DE X b zS wb)(s:behindInMarks c b=q_):DT X (.Compare a [c] [b] pos)^A9^BI f wa wb:=by
 let#[z,g,h]:=m;let#[A,i,j]:=o;refine#[_,EN k g i s,λC M H n t u P Q R w q=>?_];refine Du l h j C M H n t u _ _ R w λv x d y e f r p=>?_;cases d with
 |bl b=>exact#[b,FL r,q b x y e f p]
 |_=>exact p.elim
def C2(h:DE X e κ wa)(g:∀c,isTrue e X.env c=(do let v ←c;standAt e.pos;holding [v]^truthy v):=by intro _;rfl):DT X e^A9 wa:=by
 let#[t,i,j]:=h;refine#[_,YX i g,λC M H n k l P Q R w q=>?_];refine j C M H n k l _ _ R w λv m d o e f r p=>?_;cases d with
 |bl b=>exact#[b,FL r,q b m o e f p]
 |_=>exact p.elim
def M9(f g:D->D->(D->Prop)->Prop)(wa wb wc:DW):DW:=λn c P=>wa n c λx e=>wb e c λy d=>f x y λz=>match z with
 |.bl p_=>wc d c λu h=>g y u λr=>P r h
 |.bl q_=>P (.bl q_) d
 |_=>False
def Mg{r L:R2}{f g:D->D->(D->Prop)->Prop}(hA:C6 X.K .sh r f)(hB:C6 X.K .sh L g){N O E:TE}{zI:Kd}(ha:∀(C:Fm) (M:Ch->Prop) (H:Hp) (n:Sg) (i:r_ Slot) (h:L2.St) (P:D->Sg->Prop) (Q:VK),Rel X.K C M H n i h->wa n i P->
   (∀v c d j,Ext C.U H c->FeedC X.K C.F M c j->VR X.K C.V M H c zV v d->P d j->Q v c)->N h H Q)
  (hb:∀(C:Fm) (M:Ch->Prop) (H:Hp) (n:Sg) (i:r_ Slot) (h:L2.St) (P:D->Sg->Prop) (Q:VK),Rel X.K C M H n i h->wb n i P->
   (∀v c d j,Ext C.U H c->FeedC X.K C.F M c j->VR X.K C.V M H c zS v d->P d j->Q v c)->O h H Q)
  (hc:∀(C:Fm) (M:Ch->Prop) (H:Hp) (n:Sg) (i:r_ Slot) (h:L2.St) (P:D->Sg->Prop) (Q:VK),Rel X.K C M H n i h->wc n i P->
   (∀v c d j,Ext C.U H c->FeedC X.K C.F M c j->VR X.K C.V M H c zI v d->P d j->Q v c)->E h H Q)
  (C:Fm) (M:Ch->Prop) (H:Hp) (n:Sg) (i:r_ Slot) (h:L2.St) (P:D->Sg->Prop) (Q:VK) (R:Rel X.K C M H n i h) (w:M9 f g wa wb wc n i P)
  (q:∀v c d j,Ext C.U H c->FeedC X.K C.F M c j->VR X.K C.V M H c .sh v d->P d j->Q v c):NF r L N O E h H Q:=by
 refine ha C M H n i h _ _ R w λx H1 d n1 G f1 r1 w1=>?_;have o:=R.step G f1;refine hb C M H1 n1 i h _ _ o w1 λy S e T s I r2 w2=>?_;have l:=o.step s I;have ty:AtT X.K C.V M S e y:=r2.tpOf o.dom o.vM;refine hA C.V M S d e x y _ _ l.dom l.vM ((r1.tpOf R.dom R.vM).pres (o.pres s) s R.uV) ty w2 λv A z m vr p=>?_;have t:=l.step m.ext^I.grow m;cases z with
 | bl k=>
  exists k,vr;cases k with
  |false=>exact q _ A (.bl q_) T ((G.trans s).trans m.ext) (I.grow m) (show VR X.K C.V M H A .sh (.bl q_)^.bl q_ from rfl) p
  |true=>
   show E h A _;refine hc C M A T i h _ _ t p λu H4 d4 n4 B W r4 w4=>?_;have Y:=t.step B W;refine hB C.V M H4 e d4 y u _ _ Y.dom Y.vM ((ty.pres m.pres (m.ext (U:=C.U)) R.uV).pres (t.pres B) B R.uV) (r4.tpOf t.dom t.vM) w4 λv5 H5 z5 Z J p5=>?_;exact q v5 H5 z5 n4 ((((G.trans s).trans m.ext).trans B).trans Z.ext) (W.grow Z) J p5
 |_=>exact p.elim
def Mb{e d:CmpOp}{r p:R2}{f g:D->D->(D->Prop)->Prop}{s:Kd}(t:OpR X (compareOp e) r)(u:C6 X.K .sh r f)(h:OpR X (compareOp d) p)(v:C6 X.K .sh p g)(x:DE X a zV wa)(y:DE X b zS wb)(z:DE X c s wc)
  (A:lastMarks [e,d] [b,c]=q_:=by with_unfolding_all rfl):DE X (.Compare a [e,d] [b,c] B) .sh^M9 f g wa wb wc:=by
 let#[G,i,j]:=x;let#[I,k,l]:=y;let#[J,m,o]:=z;exact#[_,Sd t h i k m A,λC M H n E F P Q R w q=>Mg u v j l o C M H n E F P Q R w q]
def Tq{i h:CmpOp}{r u:R2}{f g:D->D->(D->Prop)->Prop}{x:Kd}(y:OpR X (compareOp i) r)(z:C6 X.K .sh r f)(j:OpR X (compareOp h) u)(A:C6 X.K .sh u g)(B:DE X a zV wa)(E:DE X b zS wb)(F:DE X c x wc)
  (G:lastMarks [i,h] [b,c]=q_:=by with_unfolding_all rfl):DT X (.Compare a [i,h] [b,c] I)^A9^M9 f g wa wb wc:=by
 let#[S,k,l]:=B;let#[T,m,o]:=E;let#[U,s,t]:=F;refine#[_,SH y j k m s G,λC M H n J L P Q R w q=>?_];refine Mg z A l o t C M H n J L _ _ R w λv N d O e f r p=>?_;cases d with
 |bl b=>exact#[b,r,q b N O e f p]
 |_=>exact p.elim
def Lg(u v:FJ):FJ:=λn d P=>u n d λc e=>if c=p_ then v e d P else P q_ e
def aJ(u v:FJ):FJ:=λn d P=>u n d λc e=>if c=p_ then P p_ e else v e d P
def WZ(u:FJ):FJ:=λn d P=>u n d λc e=>P (!c) e
variable {wA wB:FJ}{rest:r_ Expr}
def EX(h:DT X a wA):DTW X (.BoolOp .And [a] pos) wA:=by
 let#[t,c,d]:=h;exact#[t,Oe c,d]
def Cg(h:DT X a wA):DTW X (.BoolOp .Or [a] pos) wA:=by
 let#[t,c,d]:=h;exact#[t,YW c,d]
def E_(i:DT X a wA)(j:DTW X (.BoolOp .And (b::rest) pos) wB):DTW X (.BoolOp .And (a::b::rest) pos)^Lg wA wB:=by
 let#[t,k,l]:=i;let#[u,m,o]:=j;refine#[_,SD k m,λC M H n e f P Q R w q=>?_];refine l C M H n e f _ _ R w λc H1 g d h p=>?_;cases c with
 |false=>exact q _ H1 g d h p
 |true=>exact o C M H1 g e f P Q (R.step d h) p λb r s v x y=>q b r s (d.trans v) x y
def Dz(i:DT X a wA)(j:DTW X (.BoolOp .Or (b::rest) pos) wB):DTW X (.BoolOp .Or (a::b::rest) pos)^aJ wA wB:=by
 let#[t,k,l]:=i;let#[u,m,o]:=j;refine#[_,bJ k m,λC M H n e f P Q R w q=>?_];refine l C M H n e f _ _ R w λc H1 g d h p=>?_;cases c with
 |true=>exact q _ H1 g d h p
 |false=>exact o C M H1 g e f P Q (R.step d h) p λb r s v x y=>q b r s (d.trans v) x y
def DTW.dt(h:DTW X e wA):DT X e wA:=by
 let#[t,c,d]:=h;exact#[t,c.pt,d]
def CF(d:DT X a wA):DT X (.UnaryOp .Not a pos)^WZ wA:=by
 let#[t,e,f]:=d;exact#[_,YY e,λC M H n g h P Q R w q=>f C M H n g h _ _ R w λc H1 i j k p=>q _ H1 i j k p]
def dQ(u v:DW):DW:=λn d P=>u n d λc e=>match c with
 |.bl p_=>v e d P
 |.bl q_=>P (.bl q_) e
 |_=>False
def fX(u v:DW):DW:=λn d P=>u n d λc e=>match c with
 |.bl p_=>P (.bl p_) e
 |.bl q_=>v e d P
 |_=>False
def dL(u:DW):DW:=λn d P=>u n d λc e=>match c with
 |.bl b=>P (.bl (!b)) e
 |_=>False
def LI{op}(h:DE X a κ wa):DE X (.BoolOp op [a] pos) κ wa:=by
 assumption
def N1(j:DE X a zV wa)(l:DE X (.BoolOp .And (b::rest) pos) .sh wb):DE X (.BoolOp .And (a::b::rest) pos) .sh^dQ wa wb:=by
 let#[t,m,o]:=j;let#[u,r,s]:=l;refine#[_,Yk m r,λC M H n f g P Q R w q=>?_];refine o C M H n f g _ _ R w λc H1 d h e i x p=>?_;cases d with
 | bl k=>
  exists k,FL x;cases k with
  |false=>exact q _ H1 _ h e i (show VR _ _ M H H1 _ _^.bl _ from rfl) p
  |true=>
   exact s C M H1 h f g P Q (R.step e i) p λv y d z A B D E=>q v y d z (e.trans A) B D E
 |_=>exact p.elim
def cE(j:DE X a zV wa)(l:DE X (.BoolOp .Or (b::rest) pos) .sh wb):DE X (.BoolOp .Or (a::b::rest) pos) .sh^fX wa wb:=by
 let#[t,m,o]:=j;let#[u,r,s]:=l;refine#[_,bL m r,λC M H n f g P Q R w q=>?_];refine o C M H n f g _ _ R w λc H1 d h e i x p=>?_;cases d with
 | bl k=>
  exists k,FL x;cases k with
  |true=>exact q _ H1 _ h e i (show VR _ _ M H H1 _ _^.bl _ from rfl) p
  |false=>
   exact s C M H1 h f g P Q (R.step e i) p λv y d z A B D E=>q v y d z (e.trans A) B D E
 |_=>exact p.elim
def Zb(e:DE X a zV wa):DE X (.UnaryOp .Not a pos) .sh^dL wa:=by
 let#[t,f,g]:=e;refine#[_,Yg f,λC M H n h i P Q R w q=>?_];refine g C M H n h i _ _ R w λc H1 d j l m o p=>?_;cases d with
 |bl k=>exact#[k,FL o,q _ H1 _ j l m (show VR _ _ M H H1 _ _^.bl _ from rfl) p]
 |_=>exact p.elim
def dP(t:FJ)(u v:DW):DW:=λn d P=>t n d λc e=>if c=p_ then u e d P else v e d P
def Fh(s:DT X c wA)(x:DE X a κ wa)(y:DE X b κ wb):DE X (.IfExp c a b pos) κ^dP wA wa wb:=by
 let#[t,z,A]:=s;let#[u,B,D]:=x;let#[G,E,F]:=y;refine#[_,L8 z B E,λC M H n f g P Q R w q=>?_];refine A C M H n f g _ _ R w λc H1 o e r p=>?_;cases c with
 |true=>exact D C M H1 o f g P Q (R.step e r) p λv h d i j k l m=>q v h d i (e.trans j) k (VR.back e l) m
 |false=>exact F C M H1 o f g P Q (R.step e r) p λv h d i j k l m=>q v h d i (e.trans j) k (VR.back e l) m
def Ap:C7:=λn _ P=>P [] n
def AL(w:DW)(e:C7):C7:=λn c P=>w n c λd f=>e f c λg h=>P (d::g) h
variable {es:r_ Expr}{ws:C7}
def AT:WU X [] Ap:=#[_,Bt,λC M H n c d P Q R w q=>q [] H [] n (Ext.refl _ _) R.feed .nil w]
def AG:WT X [] Ap:=#[_,Bt,λC M H n c d P Q R w q=>q [] H [] n (Ext.refl _ _) R.feed rfl w]
def AN(j:DE X e κ wa)(k:WU X es ws)(l:starEach (e::es) X.env=(q_,eval e X.env)::starEach es X.env:=by rfl):WU X (e::es)^AL wa ws:=by
 let#[t,m,o]:=j;let#[u,r,s]:=k;refine#[_,Aw m r l,λC M H n f g P Q R w q=>?_];refine o C M H n f g _ _ R w λv H1 d x h y z p=>?_;have i:=R.step h y;exact s C M H1 x f g _ _ i p λG A I B c D E F=>q _ A _ B (h.trans c) D (.cons ((z.tpOf R.dom R.vM).pres (i.pres c) c R.uV) E) F
def AA(j:DE X e κ wa)(k:WT X es ws)(l:κ≠.tp:=by intro z;cases z)(m:starEach (e::es) X.env=(q_,eval e X.env)::starEach es X.env:=by rfl):WT X (e::es)^AL wa ws:=by
 let#[t,o,r]:=j;let#[u,s,x]:=k;refine#[_,Aw o s m,λC M H n c f P Q R w q=>?_];refine r C M H n c f _ _ R w λv H1 d y g A B p=>?_;have h:=R.step g A;exact x C M H1 y c f _ _ h p λD E F G i I J K=>q _ E (d::F) G (g.trans i) I #[v,D,rfl,(B.shOf R.dom l).pres^h.pres i,J] K
def Ee(ws:C7):DW:=λn d P=>ws n d λc e=>c.length<=sizeLine/\P (.tup c) e
def HL(ws:C7):DW:=λn d P=>ws n d λc e=>c.length<=sizeLine/\P (.lst c) e
def Dn{M:Ch->Prop}{H:Hp}{p:Ch}{o:HO}(h:H p=o_):Pres M H (λb=>M b\/b=p)^AY H p o:=#[λb u e _ _=>by rw[AF^AW e h];exact e,λb z=>z.elim .inl λz=>.inr^by grind,λb c e=>by rw[AF^AW e h];exact e,λb u e=>#[u,by rw[AF^AW e h];exact e]]
def AU{H:Hp}{p:Ch}{o:HO}(h:H p=o_):Grow H^AY H p o:=.inr #[p,o,h,rfl]
def AV{x1}(h:WT X es ws):DE X (.Tuple es x1 pos) .sh^Ee ws:=by
 let#[t,e,f]:=h;refine#[_,Yf e,λC M H n i j P Q R w q=>?_];refine f C M H n i j _ _ R w λc H1 k l m o d p=>?_;refine#[by rw[d.length];exact p.1,λa r=>?_];have g:Grow H1^AY H1 a^.tup c:=AU r;refine q _ _ (.tup k) l (m.trans g.ext) (o.grow g) #[a,c,rfl,AH,d.pres g.pres] p.2
def BC(h:WT X es ws):DE X (.List es pos) .fr^HL ws:=by
 let#[t,i,j]:=h;refine#[_,Kj i,λC M H n k l P Q R w q=>?_];refine j C M H n k l _ _ R w λd H1 m o e r f p=>?_;refine#[by rw[f.length];exact p.1,λa c=>?_];have g:Grow H1^AY H1 a^.lst d:=AU c;exact q _ _ (.lst m) o (e.trans g.ext) (r.grow g) (VR.back e #[a,rfl,c,d,AH,f.pres^Dn c]) p.2
def Bc(K:Frag)(κ:Kd)(r:r_ V->Hp->VK->Prop)(f:r_ D->(D->Prop)->Prop):Prop:=∀(U:Ch->Prop) (M:Ch->Prop) (H:Hp) (e:r_ D) (g:r_ V) (P:D->Prop) (Q:VK),(∀a,M a->∃o,H a=P3 o)->(∀a,U a->M a)->
 Paired (λv d=>AtT K U M H d v) g e->f e P->(∀v c z,Grow H c->VR K U M H c κ v z->P z->Q v c)->r g H Q
def JT(f:r_ D->(D->Prop)->Prop)(ws:C7):DW:=λn c P=>ws n c λd e=>f d λz=>P z e
def XY{r:r_ V->Hp->VK->Prop}{f:r_ D->(D->Prop)->Prop}{t:TA}(s:Bc X.K κ r f)(u:∀(C:Fm) (M:Ch->Prop) (H:Hp) (n:Sg) (e:r_ Slot) (h:L2.St) (P:r_ D->Sg->Prop) (Q:r_ V->Hp->Prop),Rel X.K C M H n e h->ws n e P->
   (∀j c k i,Ext C.U H c->FeedC X.K C.F M c i->Paired (λv d=>AtT X.K C.V M c d v) j k->P k i->Q j c)->t h H Q)
  (C:Fm) (M:Ch->Prop) (H:Hp) (n:Sg) (e:r_ Slot) (h:L2.St) (P:D->Sg->Prop) (Q:VK) (R:Rel X.K C M H n e h) (w:JT f ws n e P)
  (q:∀v c d i,Ext C.U H c->FeedC X.K C.F M c i->VR X.K C.V M H c κ v d->P d i->Q v c):af r t h H Q:=by
 refine u C M H n e h _ _ R w λj H1 k x l m y p=>?_;have o:=R.step l m;exact s _ M H1 k j _ _ o.dom o.vM y p λv A z g B E=>q v A z x (l.trans g.ext) (m.grow g) (VR.back l B) E
def Ac{x:Str}{g:String}{p:Pos}{r:r_ V->Hp->VK->Prop}{f:r_ D->(D->Prop)->Prop}(h:CallR X (.builtin g) r)(i:Bc X.K κ r f)(j:Gl X x)(k:X.mg x=o_)(l:bootBuiltins x=P3^.builtin g)(m:WU X (e::es) ws)
  (o:x ≠ "__name__":=by decide) (c:(x==("__debug__":Str))=q_:=by decide)
  (he:starEach (e::es) X.env=(q_,eval e X.env)::starEach es X.env:=by rfl) (d:(backTo pos^starEach es X.env).any (·.1)=q_:=by rfl):DE X (.Call (.Name x p) (e::es) [] pos) κ^JT f ws:=by
 let#[t,s,u]:=m;exact#[_,DF h j k l s o c he d,λC M H n v y P Q R w q=>XY i u C M H n v y P Q R w q]
def CQ{x:Str}{T:String}{p:Pos}{r:r_ V->Hp->VK->Prop}{f:r_ D->(D->Prop)->Prop}(g:CallR X (.type T) r)(h:Bc X.K κ r f)(i:Gl X x)(j:X.mg x=o_)(k:bootBuiltins x=P3^.type T)(l:WU X (e::es) ws)
  (m:x ≠ "__name__":=by decide) (c:(x==("__debug__":Str))=q_:=by decide)
  (he:starEach (e::es) X.env=(q_,eval e X.env)::starEach es X.env:=by rfl) (d:(backTo pos^starEach es X.env).any (·.1)=q_:=by rfl):DE X (.Call (.Name x p) (e::es) [] pos) κ^JT f ws:=by
 let#[t,o,s]:=l;exact#[_,F5 g i j k o m c he d,λC M H n u v P Q R w q=>XY h s C M H n u v P Q R w q]
end
end Dp
namespace L2
def e_(z:Str):It:=#[λi _=>i<z.cps.size,λi H x a=>a=H/\∃c,z.cps[i]?=P3 c/\x=.str #[#[ c]],λi _=>z.cps.size<=i]
def Lk{P:gC}{w:gJ}{K:Frag}{U:gI}(a:Ch)(z:Str)(t:Tok)(ty:String)(j:ty="str_ascii_iterator"\/ty="str_iterator")
  (W:∀N:gX,N.handled=o_->Walks P w N a [a] [a] z.cps.size (SignAt z) λi h=>h.IsStrIter a ty z t i):Turn P w K U (e_ z) [a] a (λi h=>h.IsStrIter a ty z t i) where
 mem:=by simp
 obj:=λi h f b g=>by
  have e:b=a:=by simpa using g
  subst e;let#[o,e,c,d]:=f;exact#[o,e,λv z=>by rw[d]at z;cases z]
 keep:=λi h l f k=>let #[o,V,r]:=f;#[o,k a (by simp) o V,r]
 item:=by
  intro X D F G n i O s R H E I p f J;subst D F G;let#[q,x,Y,y,B,C]:=p a (by simp);refine(W X.A^I.ok.hd n).item i s _ _ J f λv l S Z m kk=>?_;let#[c,u,L,rfl]:=Z;have I1:Inv X O R H {s with heap:=l,toks:=S}:=I.turned (λb o g e=>kk b o (by simpa using g) e) q x y B C;let#[o,e,cc,d]:=id m;exact#[_,rfl,PD (s:={s with heap:=l,toks:=S}) e cc d (by rcases j with rfl|rfl <;>decide) #[.str #[#[ c]],H,I1,#[_,rfl],#[rfl,c,L,rfl],m,λb g=>(p b g).1]]
 done:=by
  intro X D F G n i O s R H E I p f J;subst D F G;let#[q,x,Y,y,B,C]:=p a^by simp
  have T:z.cps[i]?=o_:=by
   have:z.cps.size<=i:=J
   simp[this]
  rcases j with rfl|rfl
  .exact wpAny_pyNext_ascii_end (I.ok.hd n) f T λl M=>#[rfl,I.turned (t':=s.toks) (λb o g e=>M b o g e) q x y B C]
  .exact wpAny_pyNext_wide_end (I.ok.hd n) f T λl M=>#[rfl,I.turned (t':=s.toks) (λb o g e=>M b o g e) q x y B C]
 self:=λA i s Q E f h=>by
  rcases j with rfl|rfl
  .exact wpAny_pyIter_striter_ascii f h
  .exact wpAny_pyIter_striter_wide f h
section
variable {X:Cx}{tg:Expr}
def eF(K:Frag)(c:TE):TI:=λd H R=>c d H λx H1=>
 (∃a,x=.ref a/\(∃b,SqL K H1 a b)/\R (fA K a) H1)\/(∃a,x=.ref a/\(∃b,SqT K H1 a b)/\R (Z0 K a) H1)\/∃z,x=.str z/\R (e_ z) H1
def SU{l:gI}{m:TE}(u:PE X l m):PI X tg l^eF X.K m:=by
 intro n s w H R I h;refine Aq (u n s w H _ I h) λv c #[x,H1,f,i,y]=>?_
 have d:∀b,b∈[c.heap.objs.size]->Ft X n H1 b:=λb A=>by
  have e:b=c.heap.objs.size:=by simpa using A
  subst e;exact f.fpOk (Rs _)^f.hok.fresh^Rs _
 rcases y with⟨a,e,⟨B,j⟩,q⟩|⟨a,e,⟨B,j⟩,q⟩|⟨z,e,q⟩
 .subst e
  cases i;let#[g,C,p,D]:=f.list j;refine ia p.isList ?_;exact#[c.heap.objs.size,[c.heap.objs.size],_,_,H1,rfl,f.kept (t':=c.toks) λb o e=>FM _ e,P2 a _,#[_,Sc _ rfl,rfl,rfl],d,q]
 .subst e
  cases i;let#[g,C,p,D]:=f.tuple j;refine iJ (show c.heap.IsTuple a g.toArray from p) ?_;exact#[c.heap.objs.size,[c.heap.objs.size],_,_,H1,rfl,f.kept (t':=c.toks) λb o e=>FM _ e,HP a _,#[_,Sc _ rfl,rfl,rfl],d,q]
 .subst e
  let#[t,rfl]:=i;cases r:z.cps.all (·<128)
  .refine wpAny_pyIter_wide r ?_
   exact#[c.heap.objs.size,[c.heap.objs.size],_,_,H1,rfl,f.kept (t':=c.toks) λb o e=>FM _ e,Lk _ z t "str_iterator" (.inr rfl) λE k=>Walks.strWide k _ z t,#[_,Sc _ rfl,rfl,rfl],d,q]
  .refine wpAny_pyIter_ascii r ?_
   exact#[c.heap.objs.size,[c.heap.objs.size],_,_,H1,rfl,f.kept (t':=c.toks) λb o e=>FM _ e,Lk _ z t "str_ascii_iterator" (.inl rfl) λE k=>Walks.strAscii k _ z t,#[_,Sc _ rfl,rfl,rfl],d,q]
end
section
variable {X:Cx}
def Iu(bs:r_ Bool):((gf bs.length).all λi=>(bs[i]?).getD p_)=bs.all id:=by
 induction bs with
 |nil=>rfl
 |cons b r a=>
  rw[gG,List.range_succ_eq_map,List.all_cons,List.all_map]
  congr 1
def IW(t:X.calm=p_):CallR X (.builtin "all") (λj H Q=>∃(p:Ch) (c:r_ Bool),j=[.ref p]/\SqL X.K H p^c.map V.bl/\Q (.bl^c.all id) H):=by
 intro G s J H j L Q I r h;let#[p,c,rfl,w,q]:=h;let#[u,rfl,y]:=vals1 r;cases y;let#[a,k,pl,M]:=I.list w;have d:=k.length;have f:s.heap.IsList p a.toArray:=pl.isList;have g:p<s.heap.objs.size:=by let#[_,e,_]:=id f;exact TW e
 refine call_all_walk^ia f ?_
 refine#[s.heap.objs.size,[s.heap.objs.size,p],[s.heap.objs.size],a.toArray.size,_,_,λi=>(c[i]?).getD p_,rfl,Walks.list (A:=X.A.in1) (I.ok.hd t) _ p (gB g) a.toArray,
  #[#[_,Sc _ rfl,rfl,rfl],f.push _],λi v N O P z l=>?_,λR B C=>?_]
 .have m:a[i]?=P3 v:=by simpa using z
  have D:∃b,c[i]?=P3 b:=by
   have S:i<a.length:=(Uf.mp m).1;rw[Ev]at d;exact#[c[i]'(by lk),Go^by lk]
  let#[b,n]:=D;let#[u,o,E]:=k.get (i:=i) (x:=.bl b) (by rw[UF,n];rfl);rw[m]at o;cases o;cases E;simp only[n,Option.getD_some]at l;exact iG l
 .have e:((gf a.toArray.size).all λi=>(c[i]?).getD p_)=c.all id:=by
   rw[f8,←d,Ev];exact Iu c
  rw[e];exact#[.bl _,H,I.kept (t':=B) λb x e=>C b x (λF=>by rw[Re.mp F]at e;exact hU _^TW e)^FM _ e,rfl,q]
def Mj:CallR X (.builtin "isinstance") (λa H Q=>∃x T t b,a=[x,.ty T]/\FH X.K H x t/\PySem.W.kitOne X.K t^.type T=P3 b/\Q (.bl b) H):=by
 intro f s g H a i Q I r h;let#[x,T,t,b,rfl,ty,e,q]:=h;let#[u,j,rfl,c,d]:=vals2 r;cases d;exact Ql I c ty e λk=>#[.bl b,H,I.tok _,rfl,q]
def QQ:OpR X (compareOp .LtE) (λx y H Q=>∃i j,x=.str i/\y=.str j/\Q (.bl (!(j.cps.toList<i.cps.toList))) H):=by
 intro c s d H x y v u Q I a b h;let#[i,j,rfl,rfl,q]:=h;let#[t,rfl]:=a;let#[e,rfl]:=b;exact PySem.P.le_str #[.bl _,H,I,rfl,q]
def HU{b:r_ Str}:∀{a:r_ Db},Vals (b.map V.str) a->StrsAre a b:=by
 induction b with
 |nil=>intro a r;cases r;exact .nil
 | cons n g c=>
  intro a r;cases r with
  |cons d f=>
   let#[t,e]:=d;subst e;exact .cons n t^c f
def YK:SlR X (λx f g H Q=>∃z,x=.str z/\z.length<=sizeLine/\Q (.str^Txt.slice z f g) H):=by
 intro o s p H x v w y f g A Q I r c pl m h;let#[z,rfl,d,q]:=h;let#[t,rfl]:=r;exists "str",_,F.slot_str_getitem.lookup,jg _ _ _;have b:∀a k,EP X o p Q (.str _ a) {s with toks:=k}:=λa k=>#[.str _,H,I.tok _,#[_,rfl],q];cases pl with
 |none=>
  cases m with
  |none=>exact jr (l:=o_) (u:=o_) (st:=o_) c rfl (lj #[gN (Txt.slice_le z _ _) d,λa k=>b a k])
  |int j e=>exact jr (l:=o_) (u:=P3 (j,e)) (st:=o_) c rfl (lj #[gN (Txt.slice_le z _ _) d,λa k=>b a k])
 |int i n=>
  cases m with
  |none=>exact jr (l:=P3 (i,n)) (u:=o_) (st:=o_) c rfl (lj #[gN (Txt.slice_le z _ _) d,λa k=>b a k])
  |int j e=>exact jr (l:=P3 (i,n)) (u:=P3 (j,e)) (st:=o_) c rfl (lj #[gN (Txt.slice_le z _ _) d,λa k=>b a k])
def QO(d:X.A.units<cLine):OpR X (compareOp .NotEq) (λx y H Q=>∃a b c,x=.ref a/\y=.ref b/\SqL X.K H a c/\SqL X.K H b []/\Q (.bl (!c.isEmpty)) H):=by
 intro w s z H x y v u Q I m n h;let#[a,b,c,rfl,rfl,o,p,q]:=h;cases m;cases n;let#[r,f,g,_]:=I.list o;let#[i,k,l,_]:=I.list p;cases k;cases f with
 |nil=>exact SeqAt.RcNeAt.lists (e:=λ_=>p_) g.isList l.isList rfl d (λj t B=>absurd t^by simp) _ _ _ _ #[.bl _,H,I,rfl,q]
 |cons f k=>exact SeqAt.RcNeAt.lists_lengths g.isList l.isList (by simp) d _ _ _ _ #[.bl _,H,I,rfl,q]
end
end L2
namespace Dp
open L2
def Zv(K:Frag)(F:s_ (Ch×Ch))(U b M:Ch->Prop)(H:Hp)(n:Sg)(c:r_ Slot)(d:r_ V):Prop:=
 (∀a,M a->∃o,H a=P3 o)/\(∀f,F=P3 f->U f.1)/\(∀a,U a->b a)/\(∀a,b a->M a)/\FeedC K F M H n/\Paired (Ct K F b M H) d c
abbrev W2:=r_ Slot->Sg->(D->Sg->Prop)->Prop
def P_(K:Frag)(g:Kd)(W:W2)(h:Nat):Sp:=λb H Q _=>b.length=h/\∃(F:s_ (Ch×Ch)) (U c M:Ch->Prop) (n:Sg) (e:r_ Slot) (P:D->Sg->Prop),Zv K F U c M H n e b/\W e n P /\
 ∀v a d f,Ext U H a->FeedC K F M a f->VR K c M H a g v d->P d f->Q v a
def Am(w:DW):Sg->r_ Slot->(Slot->Sg->Prop)->Prop:=λn a P=>w n a λd b=>P (.sh d) b
def Ep(w:DW):Sg->r_ Slot->(Slot->Sg->Prop)->Prop:=λn a P=>w n a λd b=>P (.br d) b
def Ck(i:Nat):Sg->r_ Slot->(Slot->Sg->Prop)->Prop:=λn a P=>match a[i]? with
 |some .fd=>P .fd n
 |_=>False
def Al:La:=λn _ P=>P [] n
def AR(w:Sg->r_ Slot->(Slot->Sg->Prop)->Prop)(b:La):La:=λn a P=>w n a λs c=>b c a λd e=>P (s::d) e
def BE(W:W2)(a:La):DW:=λn b P=>a n b λc d=>W c d P
section
variable {X:Cx}{a e:Expr}{es:r_ Expr}{κ zV:Kd}{wa:DW}{pos:Pos}{w1:Sg->r_ Slot->(Slot->Sg->Prop)->Prop}{was:La}{ws:C7}
def cG(h:DE X e κ wa)(b:κ≠.tp:=by intro z;cases z):c7 X e^Am wa:=by
 let#[t,c,g]:=h;exact#[t,c,λC M H n i j P Q R w q=>g C M H n i j _ _ R w λv k d l e f r p=>q v k (.sh d) l e f #[#[v,rfl,r.shOf R.dom b],rfl] p]
def CC(h:DE X e κ wa):c7 X e^Ep wa:=by
 let#[t,b,c]:=h;exact#[t,b,λC M H n g i P Q R w q=>c C M H n g i _ _ R w λv j d k e f r p=>q v j (.br d) k e f #[#[v,rfl,r.tpOf R.dom R.vM],rfl] p]
def Bb(i:Nat){x:Str}{pos:Pos}(d:X.N[i]?=P3 x:=by rfl)(e:Pu X.env.scope x:=by first|exact gx rfl|exact iK (gx rfl)|exact iK (iK rfl))(b:(x==("__debug__":Str))=q_:=by decide)
  (c:(x==("__classdict__":Str))=q_:=by decide):c7 X (.Name x pos)^Ck i:=by
 refine#[_,De d e b c,λC M H n j k P Q R w q=>?_];unfold Ck at w
 split at w
 .rename_i b
  let#[f,g,h]:=R.sl i _ b;exact#[_,getD_some g,q _ H .fd n (Ext.refl _ _) R.feed #[#[f,rfl,h],rfl] w]
 grind
def AJ:M5 X [] Al:=#[_,Bt,λC M H n b c P Q R w q=>q [] H [] n (Ext.refl _ _) R.feed .nil w]
def AQ(j:c7 X e w1)(k:M5 X es was)(l:starEach (e::es) X.env=(q_,eval e X.env)::starEach es X.env:=by rfl):M5 X (e::es)^AR w1 was:=by
 let#[t,m,o]:=j;let#[u,r,s]:=k;refine#[_,Aw m r l,λC M H n c f P Q R w q=>?_];refine o C M H n c f _ _ R w λv H1 d x g y h p=>?_;have i:=R.step g y;exact s C M H1 x c f _ _ i p λG A I B b D E F=>q _ A _ B (g.trans b) D (.cons #[h.1.pres (i.pres b) (λ_ z=>z) b R.uV,h.2] E) F
def V0{k:Nat}{f:Ch}{fd:gp}{ps:r_ Str}{W:W2}{x:Str}{p:Pos}(G:FnOk X.prog X.w X.K X.mg X.base Eo k f fd ps^P_ X.K κ W ps.length)(m:∀b n P,W b n P->b.length=ps.length)
  (o:Room k X.A) (r:Gl X x) (s:X.mg x=P3^.ref f) (u:keepIn X.K^.ref f=p_) (y:Binds X.K fd ps []) (z:M5 X (e::es) was)
  (g:(x==("__debug__":Str))=q_:=by decide) (B:starEach (e::es) X.env=(q_,eval e X.env)::starEach es X.env:=by rfl) (h:(backTo pos^starEach es X.env).any (·.1)=q_:=by rfl):
  DE X (.Call (.Name x p) (e::es) [] pos) κ (BE W was):=by
 let#[t,D,E]:=z;refine#[_,G3 G o r s u y .nil FS D g B h,λC M H n F I P Q R w q=>?_];refine E C M H n F I _ _ R w λV H1 b J i j l p=>?_;have c:=R.step i j;rw[gZ];exact#[(Paired.length l).trans^m _ _ _ p,_,_,_,M,J,b,P,#[c.dom,c.fU,c.uV,c.vM,j,l],p,λv L d N O S T U=>q v L d N (i.trans O) S (VR.back i T) U]
def dH(K:Frag)(κ:Kd)(T:String)(r:V->r_ V->Hp->VK->Prop)(f:D->r_ D->(D->Prop)->Prop):Prop:=∀(U:Ch->Prop) (M:Ch->Prop) (H:Hp) (d:D) (c:r_ D) (x:V) (e:r_ V) (P:D->Prop) (Q:VK),(∀a,M a->∃o,H a=P3 o)->(∀a,U a->M a)->
 AtT K U M H d x->Paired (λv d=>AtT K U M H d v) e c->f d c P->(∀v b z,Grow H b->VR K U M H b κ v z->P z->Q v b)->r x e H Q
def eA(T:String)(d:D):Prop:=match d with
 |.str _=>T="str"
 |.int _=>T="int"
 |.lst _=>T="list"
 |_=>False
def c8(T:String)(f:D->r_ D->(D->Prop)->Prop)(c:DW)(ws:C7):DW:=λn b P=>c n b λd e=>eA T d/\ws e b λg h=>f d g λz=>P z h
def TL{T:String}{K:Frag}{U:Ch->Prop}{M:Ch->Prop}{H:Hp}{d:D}{x:V}(h:eA T d)(b:AtT K U M H d x):aP K T x H:=by
 cases d with
 |str z=>let#[e,_]:=b;subst e;exact h
 |int i=>cases(b);exact h
 |lst g=>let#[a,c,e,_,f,_]:=b;subst e;exact .inl #[h,c,.inl f]
 |_=>exact(h).elim
def UH{name:Str}{h b:Pos}{T s:String}{r:V->r_ V->Hp->VK->Prop}{f:D->r_ D->(D->Prop)->Prop}(J:mi T)(k:PySem.Slot T name s)(y:typeOf^.builtin s=pure^.type "method_descriptor")(L:Um X s r)
  (N:dH X.K κ T r f) (O:DE X a zV wa) (S:WU X (e::es) ws)
  (i:attributeBase a name X.env^eval a X.env=eval a X.env:=by rfl)
  (l:((backTo b^starEach (e::es) X.env).all (λx=>!x.1)&&(backToKw b^keywordEach [] X.env).all (λx=>x.1.isSome)
   && decide ((e::es).length+([]:r_ jl).length+(if([]:r_ jl).isEmpty then 0 else 1)<30))=p_:=by rfl)
  (j:(h.endLine==b.line)=p_:=by rfl) (U:starEach (e::es) X.env=(q_,eval e X.env)::starEach es X.env:=by rfl) (c:(backTo b^starEach es X.env).any (·.1)=q_:=by rfl):
  DE X (.Call (.Attribute a name h) (e::es) [] b) κ (c8 T f wa ws):=by
 let#[t,W,Y]:=O;let#[u,Z,g2]:=S;refine#[_,W3 J k y L W Z i l j U c,λC M H n E F P Q R w q=>?_];refine Y C M H n E F _ _ R w λx H1 d n1 A f1 r1 p=>?_;have B:=R.step A f1;have G:=r1.tpOf R.dom R.vM;exists TL p.1 G;refine g2 C M H1 n1 E F _ _ B p.2 λvs H2 ds n2 m I r2 p2=>?_;have o:=B.step m I;refine N C.V M H2 d ds x vs _ _ o.dom o.vM (G.pres (B.pres m) m R.uV) r2 p2 λv H3 z g vr pz=>?_;exact q v H3 z n2 ((A.trans m).trans g.ext) (I.grow g) (VR.back (A.trans m) vr) pz
def DO(X:Cx)(e:s_ gI)(w:Sg->r_ Slot->(s_ Int->Sg->Prop)->Prop):Prop:=∃t,PO X e t/\∀(C:Fm) (M:Ch->Prop) (H:Hp) (n:Sg) (c:r_ Slot) (d:L2.St) (P:s_ Int->Sg->Prop) (Q:s_ Int->Hp->Prop),Rel X.K C M H n c d->w n c P->
 (∀o b f,Ext C.U H b->FeedC X.K C.F M b f->P o f->Q o b)->t d H Q
def Ut:Sg->r_ Slot->(s_ Int->Sg->Prop)->Prop:=λn _ P=>P o_ n
def aI(w:DW):Sg->r_ Slot->(s_ Int->Sg->Prop)->Prop:=λn b P=>w n b λd c=>match d with
 |.int i=>P (P3 i) c
 |_=>False
def G_:DO X o_ Ut:=#[_,Om,λC M H n b c P Q R w q=>q _ H n (Ext.refl _ _) R.feed w]
def Np{U:Ch->Prop}{K:Frag}{M:Ch->Prop}{H b:Hp}{v:V}{i:Int}(h:VR K U M H b κ v^.int i):v=.int i:=by
 cases κ with
 |sh=>exact h
 |tp=>exact h
 |fr=>let#[a,_,_,t]:=h;exact(t).elim
def Cs(h:DE X e κ wa):DO X (P3 e)^aI wa:=by
 let#[t,b,c]:=h;refine#[_,Ol b,λC M H n f g P Q R w q=>?_];refine c C M H n f g _ _ R w λv H1 d j k l m p=>?_;cases d with
 |int i=>exact#[i,Np m,q _ H1 j k l p]
 |_=>exact p.elim
def e7(K:Frag)(κ:Kd)(r:V->s_ Int->s_ Int->Hp->VK->Prop)(f:D->s_ Int->s_ Int->(D->Prop)->Prop):Prop:=∀(U:Ch->Prop) (M:Ch->Prop) (H:Hp) (d:D) (x:V) (lo hi:s_ Int) (P:D->Prop) (Q:VK),(∀a,M a->∃o,H a=P3 o)->(∀a,U a->M a)->
 AtT K U M H d x->f d lo hi P->(∀v b z,Grow H b->VR K U M H b κ v z->P z->Q v b)->r x lo hi H Q
def fW(f:D->s_ Int->s_ Int->(D->Prop)->Prop)(w:DW)(c e:Sg->r_ Slot->(s_ Int->Sg->Prop)->Prop):DW:=λn b P=>w n b λd g=>c g b λh i=>e i b λj k=>f d h j λz=>P z k
def Jv{i j:s_ gI}{k:Pos}{r:V->s_ Int->s_ Int->Hp->VK->Prop}{f:D->s_ Int->s_ Int->(D->Prop)->Prop}{x y:Sg->r_ Slot->(s_ Int->Sg->Prop)->Prop}(E:SlR X r)(F:e7 X.K κ r f)(G:DE X e zV wa)(I:DO X i x)(J:DO X j y):
  DE X (.Subscript e (.Slice i j o_ k) pos) κ (fW f wa x y):=by
 let#[t,L,N]:=G;let#[u,O,S]:=I;let#[u',T,U]:=J;refine#[_,L7 E L O T,λC M H n l m P Q R w q=>?_];refine N C M H n l m _ _ R w λv H1 d W o Y Z p=>?_;have s:=R.step o Y;have tv:=Z.tpOf R.dom R.vM;refine S C M H1 W l m _ _ s p λi H2 n2 c f2 k=>?_;have b:=s.step c f2;refine U C M H2 n2 l m _ _ b k λj H3 n3 h A p3=>?_;have B:=b.step h A;refine F C.V M H3 d v i j _ _ B.dom B.vM ((tv.pres (s.pres c) c R.uV).pres (b.pres h) h R.uV) p3 λv H4 z g vr pz=>?_;exact q v H4 z n3 (((o.trans c).trans h).trans g.ext) (A.grow g) (VR.back ((o.trans c).trans h) vr) pz
end
structure E2 where
 nx:Sg->List Slot->Prop
 rt:D->Sg->Prop
 bk:Sg->List Slot->Prop:=λ_ _=>False
 ct:Sg->List Slot->Prop:=λ_ _=>False
abbrev AX:=E2->Sg->r_ Slot->Prop
structure Fs (K:Frag) (C:Fm) (κ:Kd) (D2:E2) (E:Ends):Prop where
 nx:∀M H n ρ σ,Rel K C M H n ρ σ->D2.nx n ρ->E.nx σ H
 rt:∀v H d n,Ext C.U C.H0 H->FeedC K C.F C.M0 H n->VR K C.V C.M0 C.H0 H κ v d->D2.rt d n->E.rt v H
 bk:∀M H n ρ σ,Rel K C M H n ρ σ->D2.bk n ρ->E.bk σ H
 ct:∀M H n ρ σ,Rel K C M H n ρ σ->D2.ct n ρ->E.ct σ H
def DS(X:Cx)(d:Kd)(e:iD)(w:AX):Prop:=∃t,PS X e t/\∀(C:Fm) (M:Ch->Prop) (H:Hp) (n:Sg) (a:r_ Slot) (b:L2.St) (c:E2) (E:Ends),Rel X.K C M H n a b->Fs X.K C d c E->w c n a->t E b H
def Mz(X:Cx)(d:Kd)(e:r_ iD)(w:AX):Prop:=∃t,PSs X e t/\∀(C:Fm) (M:Ch->Prop) (H:Hp) (n:Sg) (a:r_ Slot) (b:L2.St) (c:E2) (E:Ends),Rel X.K C M H n a b->Fs X.K C d c E->w c n a->t E b H
def CT:AX:=λa n b=>a.nx n b
def BR(u v:AX):AX:=λa n b=>u {a with nx:=v a} n b
def Lf(w:DW):AX:=λb n a=>w n a λ_ c=>b.nx c a
def DX(w:DW):AX:=λa n b=>w n b λd c=>a.rt d c
def DY(t:FJ)(u v:AX):AX:=λb n a=>t n a λc d=>if c=p_ then u b d a else v b d a
def C9(i:Nat)(w:DW):AX:=λb n a=>w n a λd c=>b.nx c^a.set i^.sh d
section
variable {X:Cx}{κ zU:Kd}{st:Stmt}{rest:r_ Stmt}{u v:AX}{wa:DW}{wA:FJ}{e c:Expr}{pos:Pos}
def AO:Mz X κ [] CT:=#[_,Ke,λC M H n a b c E R L w=>L.nx M H n a b R w]
def AD(h1:DS X κ st u)(d:Mz X κ rest v):Mz X κ (st::rest)^BR u v:=by
 let#[t,e,f]:=h1;let#[i,g,h]:=d;exact#[_,Az e g,λC M H n a b c E R L w=>f C M H n a b {c with nx:=v c} _ R #[λM H n a b R w=>h C M H n a b c E R L w,L.rt,L.bk,L.ct] w]
def AE(h1:DS X κ st u):Mz X κ [st] u:=by
 let#[t,a,b]:=h1;exact#[t,CM a,b]
def EZ(h:DE X e zU wa)(c:swapsWith e o_ pos.line X.env=pure q_:=by rfl):DS X κ (.Expr e pos)^Lf wa:=by
 let#[t,f,g]:=h;exact#[_,Kg f c,λC M H n a b m E R L w=>g C M H n a b _ _ R w λv i d j k l o p=>L.nx M i j a b (R.step k l) p]
def Rm{K:Frag}{C:Fm}{M:Ch->Prop}{H g:Hp}{n h:Sg}{j:r_ Slot}{k:L2.St}{i:E2}{E:Ends}{d:D}{v:V}(R:Rel K C M H n j k)(L:Fs K C κ i E)(e:Ext C.U H g)(f:FeedC K C.F M g h)(r:VR K C.V M H g κ v d)(q:κ≠.tp)(p:i.rt d h):E.rt v g:=by
 have c:Pres M g _ g:=Pres.less R.sub;refine L.rt v g d h (R.ext.trans e) (f.pres c (λ_ _ _ z=>z) λ_ _ z=>z) ?_ p;cases κ with
 |sh=>exact At.pres c r
 |tp=>grind
 |fr=>
  let#[a,l,m,o]:=VR.back R.ext r;exact#[a,l,m,o.pres (Pres.less λb z=>z.imp (R.sub b) id) λ_ z=>z]
def AM(h:DE X e κ wa)(a:κ≠.tp:=by intro z;cases z):DS X κ (.Return (P3 e) pos)^DX wa:=by
 let#[t,b,c]:=h;exact#[_,D9 b,λC M H n f g l E R L w=>c C M H n f g _ _ R w λv m d o i j k p=>Rm R L i j k a p]
def Af{a b:r_ iD}(j:DT X c wA)(k:Mz X κ a u)(l:Mz X κ b v):DS X κ (.If c a b pos)^DY wA u v:=by
 let#[t,m,o]:=j;let#[z,q,r]:=k;let#[s,x,y]:=l;refine#[_,Oi m q x,λC M H n d e f E R L w=>?_];refine o C M H n d e _ _ R w λb H1 g h i p=>?_;cases b with
 |true=>exact r C M H1 g d e f E (R.step h i) L p
 |false=>exact y C M H1 g d e f E (R.step h i) L p
def ZW{i:Nat}{x:Str}{a:Pos}(b:X.N.Nodup)(hi:X.N[i]?=P3 x)(c:Loc X.env.scope x)(f:DE X e zU wa)(g:zU≠.tp:=by intro z;cases z)(h:swapsWith e (P3^.Name x a) pos.line X.env=pure q_:=by rfl)
  (j:X.fn x=p_\/X.env.scope.names.lookup x=P3 .local:=by first|exact .inl rfl|exact .inr rfl|assumption):DS X κ (.Assign [.Name x a] e pos)^C9 i wa:=by
 let#[t,k,l]:=f;exact#[_,Cw b hi c k h j,λC M H n m o A E R L w=>l C M H n m o _ _ R w λv q d r s u y p=>L.nx M q r _ _ ((R.step s u).set^y.shOf R.dom g) p]
end
section
variable {X:Cx}{κ:Kd}{e:Expr}{wa:DW}{pos:Pos}
def JS(i:Nat)(w:DW):AX:=λb n a=>w n a λd c=>b.nx c^a.set i^.ow d
def Vp{i:Nat}{x:Str}{b:Pos}(c:X.N.Nodup)(hi:X.N[i]?=P3 x)(f:Loc X.env.scope x)(g:DE X e .fr wa)(h:swapsWith e (P3^.Name x b) pos.line X.env=pure q_:=by rfl)
  (j:X.fn x=p_\/X.env.scope.names.lookup x=P3 .local:=by first|exact .inl rfl|exact .inr rfl|assumption):DS X κ (.Assign [.Name x b] e pos)^JS i wa:=by
 let#[t,k,l]:=g;refine#[_,Cw c hi f k h j,λC M H n m o B E R L w=>?_];refine l C M H n m o _ _ R w λv q d r s u y p=>?_;let#[a,rfl,z,A]:=y;exact L.nx _ q r _ _ (R.setOw s u z A) p
def WY(i:Nat):AX:=λa n b=>∃d,b[i]?=P3^.ow d/\a.rt d n
def Vq{x:Str}{p:Pos}(i:Nat)(h:PE X (.Name x p)^BZ i):DS X .fr (.Return (P3^.Name x p) pos)^WY i:=by
 refine#[_,D9 h,λC M H n g j k E R L #[d,c,f]=>?_];let#[a,e,m,l,t]:=R.sl i _ c;exact#[_,getD_some e,L.rt _ H d n R.ext (R.feed.pres (Pres.less R.sub) (λ_ _ _ z=>z) λ_ _ z=>z) #[a,rfl,(R.new i _ a c rfl e).2,t.pres (Pres.less λb z=>z.elim (R.sub b) λz=>by grind) λ_ z=>z] f]
def OH(K:Frag)(r:V->r_ V->Hp->VK->Prop)(f:D->r_ D->(D->D->Prop)->Prop):Prop:=∀(M:Ch->Prop) (H:Hp) (a:Ch) (d:D) (b:r_ D) (c:r_ V) (P:D->D->Prop) (Q:VK),M a->Tops K M H a d->Ats K M H b c->f d b P->
 (∀o e z v,Tops K M (AY H a o) a e->At K M (AY H a o) z v->P e z->Q v^AY H a o)->r (.ref a) c H Q
def aK(i:Nat)(T:String)(f:D->r_ D->(D->D->Prop)->Prop)(b:C7):AX:=λc n a=>∃d,a[i]?=P3^.ow d/\eA T d/\b n a λg h=>f d g λe _=>c.nx h^a.set i^.ow e
def B7{M:Ch->Prop}{H:Hp}{a:Ch}{o u:HO}(m:M a)(e:H a=P3 u)(t:∀c,u≠.tup c:=by intro _ z;cases z):Pres M H M^AY H a o:=#[λb d q f _=>by rw[AF λz=>f^by simp_all];exact q,λ_ z=>.inl z,λb c q=>by rw[AF λz=>by grind];exact q,λb d q=>(jC (b=a)).elim (λz=>#[o,by rw[z,AH]]) λz=>#[d,by rw[AF z];exact q]]
def Fc{x name:Str}{p c b:Pos}{T w:String}{r:V->r_ V->Hp->VK->Prop}{f:D->r_ D->(D->D->Prop)->Prop}{j:r_ gI}{I:C7}(i:Nat)(O:mi T)(q:PySem.Slot T name w)(y:typeOf^.builtin w=pure^.type "method_descriptor")
  (P:Um X w r) (Q:OH X.K r f) (h:PE X (.Name x p)^BZ i) (S:WT X (e::j) I)
  (k:attributeBase (.Name x p) name X.env^eval (.Name x p) X.env=eval (.Name x p) X.env:=by rfl)
  (s:((backTo b^starEach (e::j) X.env).all (λx=>!x.1)&&(backToKw b^keywordEach [] X.env).all (λx=>x.1.isSome)
   && decide ((e::j).length+([]:r_ jl).length+(if([]:r_ jl).isEmpty then 0 else 1)<30))=p_:=by rfl)
  (l:(c.endLine==b.line)=p_:=by rfl) (U:starEach (e::j) X.env=(q_,eval e X.env)::starEach j X.env:=by rfl) (g:(backTo b^starEach j X.env).any (·.1)=q_:=by rfl)
  (A:swapsWith (.Call (.Attribute (.Name x p) name c) (e::j) [] b) o_ pos.line X.env=pure q_:=by rfl):
  DS X κ (.Expr (.Call (.Attribute (.Name x p) name c) (e::j) [] b) pos) (aK i T f I):=by
 let#[t,W,Y]:=S;refine#[_,Kg (W3 O q y P h W k s l U g) A,λC M H n Z J D2 E R L #[d,B,hT,hw]=>?_];let#[a,F,m,nv,tt]:=R.sl i _ B;exists .ref a,getD_some F,TL hT^tt.att nv;refine Y C M H n Z J _ _ R hw λvs H1 ds n1 ee f1 r1 p=>?_;have N:=R.step ee f1;let#[a',u,m',a0,G]:=N.sl i _ B;rw[F]at u;cases u;exact Q M H1 a d ds vs _ _ m' G r1 p λo d' z v t2 hz pp=>L.nx M _ n1 _ J (N.mut B F t2) pp
def Vj(d:D)(b:r_ D)(P:D->D->Prop):Prop:=∃a y,d=.lst a/\b=[y]/\a.length<sizeLine/\P (.lst (a++[y])) .non
def Ih{K:Frag}:OH K Oc Vj:=by
 intro M H a d j k P Q m t e w q;let#[l,y,rfl,rfl,f,w]:=w;let#[g,b,c]:=t;let#[u,r,rfl,h,i]:=e;cases(i);exact#[a,g,u,rfl,rfl,b,by rw[c.length];exact f,q _ (.lst _) .non _ #[_,AH,(c.append^Ats.one h).pres^B7 m b] rfl w]
def b9(d:D)(c:r_ D)(P:D->D->Prop):Prop:=∃a b,d=.lst a/\c=[.lst b]/\a.length+b.length<=sizeLine/\P (.lst (a++b)) .non
def Xc{K:Frag}:OH K Ob b9:=by
 intro M H a d o p P Q m t g w q;let#[s,v,rfl,rfl,h,w]:=w;let#[i,c,e]:=t;let#[u,r,rfl,j,k]:=g;cases(k);let#[b,l,rfl,n,f]:=j;exact#[a,b,i,l,rfl,rfl,c,n.2,by rw[e.length,f.length];exact h,q _ (.lst _) .non _ #[_,AH,(e.append f).pres^B7 m c] rfl w]
end
def Yields(K:Frag)(M:Ch->Prop)(H:Hp)(J:It)(f:r_ D):Prop:=∀(i:Nat) (c:Ch->Prop) (b:Hp),Pres M H c b->(∀a,c a->∃o,b a=P3 o)->
 (∀d,f[i]?=P3 d->J.go i b/\∀x e,J.yld i b x e->Grow b e/\At K c e d x)/\(f.length<=i->J.stop i b)
def Pn(K:Frag)(U M:Ch->Prop)(H:Hp)(J:It)(f:r_ D):Prop:=∀(i:Nat) (c:Ch->Prop) (b:Hp),Pres M H c b->Ext U H b->(∀a,c a->∃o,b a=P3 o)->
 (∀d,f[i]?=P3 d->J.go i b/\∀x e,J.yld i b x e->Grow b e/\At K c e d x)/\(f.length<=i->J.stop i b)
def Yields.e{K:Frag}{U M:Ch->Prop}{H:Hp}{J:It}{a:r_ D}(h:Yields K M H J a):Pn K U M H J a:=λi b c p _ d=>h i b c p d
def Xk(X:Cx)(h a:gI)(w:C7):Prop:=∃c,PI X h a c/\∀(C:Fm) (M:Ch->Prop) (H:Hp) (n:Sg) (d:r_ Slot) (e:L2.St) (P:r_ D->Sg->Prop) (R:It->Hp->Prop),Rel X.K C M H n d e->w n d P->
 (∀J b f g,Ext C.U H b->FeedC X.K C.F M b g->Pn X.K C.U M b J f->P f g->R J b)->c e H R
def DI(X:Cx)(h a:gI)(w:C7):Prop:=∃c,PI X h a c/\∀(C:Fm) (M:Ch->Prop) (H:Hp) (n:Sg) (d:r_ Slot) (e:L2.St) (P:r_ D->Sg->Prop) (R:It->Hp->Prop),Rel X.K C M H n d e->w n d P->
 (∀J b f g,Ext C.U H b->FeedC X.K C.F M b g->Yields X.K M b J f->P f g->R J b)->c e H R
def signs(x:Str):r_ D:=x.cps.toList.map λc=>.str #[#[ c]]
def M8(w:DW):C7:=λn c P=>w n c λd a=>match d with
 |.lst b=>P b a
 |.tup b=>P b a
 |.str x=>P (signs x) a
 |_=>False
def Lb{K:Frag}{M:Ch->Prop}{H:Hp}{a:Ch}{b:r_ V}{f:r_ D}(h:NdL M H a b)(g:Ats K M H f b):Yields K M H (fA K a) f:=by
 intro i o j p _;have c:SqL K j a b:=(h.pres p).sq;refine#[λd k=>?_,λl=>#[b,c,by rw[g.length];exact l]];let#[v,e,m]:=(g.pres p).get k;refine#[#[b,v,c,e],λx q y=>?_];let#[n,y]:=y;subst n
 have:=e.symm.trans^y b c
 cases this;exact#[.refl,m]
def HJ{K:Frag}{M:Ch->Prop}{H:Hp}{a:Ch}{b:r_ V}{f:r_ D}(h:NdT M H a b)(g:Ats K M H f b):Yields K M H (Z0 K a) f:=by
 intro i o j p _;have c:SqT K j a b:=(h.pres p).sq;refine#[λd k=>?_,λl=>#[b,c,by rw[g.length];exact l]];let#[v,e,m]:=(g.pres p).get k;refine#[#[b,v,c,e],λx q y=>?_];let#[n,y]:=y;subst n
 have:=e.symm.trans^y b c
 cases this;exact#[.refl,m]
def yields_str{K:Frag}{M:Ch->Prop}{H:Hp}{z:Str}:Yields K M H (e_ z)^signs z:=by
 intro i h j p _;refine#[λd a=>?_,λe=>?_]
 .unfold signs at a
  rw[UF]at a
  have f:i<z.cps.size:=by
   cases q:z.cps.toList[i]? with
   |none=>simp_all
   |some c=>simpa using (Uf.mp q).1
  refine#[f,λx k y=>?_];let#[g,c,l,rfl]:=y;subst g
  have:z.cps.toList[i]?=P3 c:=by grind
  rw[this]at a;have b:D.str #[#[ c]]=d:=XV a;subst b;exact#[.refl,rfl,by rw[gn];show 1<=16777216;decide]
 .show z.cps.size<=i
  unfold signs at e
  simp_all
def DC(lo:Int)(n:Nat):r_ D:=(gf n).map fun(i:Nat)=>.int (lo+(i:Int))
def FK{K:Frag}{M:Ch->Prop}{H:Hp}{lo:Int}{m:Nat}:Yields K M H (cx lo m)^DC lo m:=by
 intro i j k p _;refine#[λd a=>?_,λf=>?_]
 .unfold DC at a
  rw[UF]at a
  have e:=by
   cases q:(gf m)[i]? with
   |none=>simp_all
   |some c=>simpa using (Uf.mp q).1
  rw[List.getElem?_range e]at a;have b:=XV a;subst b;refine#[e,λx l y=>?_];let#[g,h]:=y;subst g;exact#[.refl,h]
 .show m<=i
  unfold DC at f
  simp_all
section
variable {X:Cx}{tg e e2:Expr}{κ:Kd}{wa:DW}{ws:C7}{p pos:Pos}
def T4(h:DE X e κ wa)(m:κ≠.tp:=by intro z;cases z):DI X tg e^M8 wa:=by
 let#[t,o,r]:=h;refine#[_,SU o,λC M H n s u P y R w q=>?_];refine r C M H n s u _ _ R w λv H1 d c f g x p=>?_;have i:=x.shOf R.dom m;cases d with
 |lst j=>
  let#[a,k,e,b,l]:=i;exact .inl #[a,e,#[k,b.sq],q _ H1 j c f g (Lb b l) p]
 |tup j=>
  let#[a,k,e,b,l]:=i;exact .inr^.inl #[a,e,#[k,b.sq],q _ H1 j c f g (HJ b l) p]
 |str z=>exact .inr^.inr #[z,i.1,q _ H1 _ c f g yields_str p]
 |_=>exact p.elim
def Le(ws:C7):C7:=λn a P=>ws n a λb c=>∃j:Int,b=[.int j]/\(-(2 ^ 62)<=j/\j<2 ^ 62)/\P (DC 0 j.toNat) c
def DV(b:Gl X "range")(c:X.mg "range"=o_)(d:WU X [e] ws)(f:starEach [e] X.env=[(q_,eval e X.env)]:=by rfl):DI X tg (.Call (.Name "range" p) [e] [] pos)^Le ws:=by
 let#[t,g,h]:=d;refine#[_,QJ b c g f,λC M H n i k P v R w q=>?_];refine h C M H n i k _ _ R w λx H1 y l m o s p=>?_;let#[j,rfl,a,p]:=p;cases s with
 |cons r u=>
  cases u;exact#[j,by rw[r],a.1,a.2,q _ H1 _ l m o FK p]
def DI.c(h:DI X tg e ws):Xk X tg e ws:=by
 let#[a,b,d]:=h;exact#[a,b,λC M H n f g P i R w q=>d C M H n f g P i R w λJ j k l m o y p=>q J j k l m o y.e p]
def Be(h:DE X e κ wa):Xk X tg e^M8 wa:=by
 let#[t,A,B]:=h;refine#[_,SU A,λC M H n D E P N R w q=>?_];refine B C M H n D E _ _ R w λv H1 d j k l F p=>?_;have f:AtT X.K C.V M H1 d v:=F.tpOf R.dom R.vM;cases d with
 | lst m=>
  let#[a,b,e,s,c,g]:=f;refine .inl #[a,e,#[b,.inl c],q _ H1 m j k l (λi O G I ex _=>?_) p]
  have r:SqL X.K G a b:=by
   rcases c with c|⟨o,c⟩
   .exact .inl^.inl^ex.keep c λz=>s^R.uV a z
   .exact .inl^.inr #[o,ex.keep c λz=>s^R.uV a z]
  refine#[λd J=>?_,λL=>#[b,r,by rw[g.length];exact L]];let#[v,e,f]:=(g.pres I).get J;refine#[#[b,v,r,e],λx Q y=>?_];let#[e2,y]:=y;subst e2
  have:P3 v=P3 x:=e.symm.trans^y b r
  cases this;exact#[.refl,f]
 |tup m=>
  let#[a,b,e,u,g]:=f;exact .inr^.inl #[a,e,#[b,u.sq],q _ H1 m j k l (HJ u g).e p]
 |str z=>exact .inr^.inr #[z,f.1,q _ H1 _ j k l yields_str.e p]
 |_=>exact p.elim
end
abbrev BW:=D->r_ Slot->(r_ Slot->Prop)->Prop
def DG(X:Cx)(h:gI)(b:BW):Prop:=∃g,PG X h g/\∀(C:Fm) (M:Ch->Prop) (H:Hp) (n:Sg) (a:r_ Slot) (c:L2.St) (d:D) (v:V) (P:r_ Slot->Prop) (Q:L2.St->Hp->Prop),Rel X.K C M H n a c->At X.K M H d v->b d a P->
 (∀e f,Rel X.K C M H n e f->P e->Q f H)->g v c H Q
def Bz(i:Nat):BW:=λd a P=>P^a.set i^.sh d
def HA{X:Cx}{i:Nat}{x:Str}{pos:Pos}(a:X.N.Nodup)(hi:X.N[i]?=P3 x)(b:Loc X.env.scope x)(c:X.fn x=p_\/X.env.scope.names.lookup x=P3 .local:=by first|exact .inl rfl|exact .inr rfl|assumption):DG X (.Name x pos)^Bz i:=
 #[_,FQ a hi b c,λC M H n e f d v P Q R h w q=>q _ _ (R.set h) w]
def B_(b:BW)(a:AX)(c:E2):r_ D->Sg->r_ Slot->Prop
 |[],n,e=>c.nx n e
 |d::f,n,e=>b d e λg=>a {c with nx:=B_ b a c f,ct:=B_ b a c f,bk:=c.nx} n g
def Uu(c:C7)(b:BW)(a:AX):AX:=λe n d=>c n d λf g=>B_ b a e f g d
def Rel.unpin{K:Frag}{C:Fm}{p:(Ch->Prop)×Hp}{M:Ch->Prop}{H:Hp}{n:Sg}{a:r_ Slot}{b:L2.St}(R:Rel K {C with zF:=p::C.zF} M H n a b):Rel K C M H n a b:=
 #[R.len,R.sub,R.dom,R.ext,R.fU,R.uV,R.vM,R.feed,R.sl,λq c=>R.pin q^T0 _ c,R.br0,R.new,R.two,R.kept]
def Rel.pinned{K:Frag}{C:Fm}{M:Ch->Prop}{H:Hp}{n:Sg}{a:r_ Slot}{b:L2.St}(R:Rel K C M H n a b):Rel K {C with zF:=(M,H)::C.zF} M H n a b:=
 #[R.len,R.sub,R.dom,R.ext,R.fU,R.uV,R.vM,R.feed,R.sl,λq c=>(Tk.mp c).elim (λe=>e▸Pres.refl M H)^R.pin q,R.br0,R.new,R.two,R.kept]
section
variable {X:Cx}{κ:Kd}{tg iter:Expr}{body:r_ Stmt}{src:C7}{b:BW}{wb:AX}{pos:Pos}
def FA(S:nG (model X.prog X.w) X.A X.env X.xe)(T:X.calm=p_)(I:DI X tg iter src)(U:DG X tg b)(V:Mz X κ body wb)
  (W:∀x,foldedSetIterable iter X.env x=pure x:=by intro _;rfl):DS X κ (.For tg iter body [] pos)^Uu src b wb:=by
 let#[wi,Y,Z]:=I;let#[g,g1,g2]:=U;let#[tb,b1,b2]:=V;refine#[_,Kf S T Y g1 b1 W,λC M H n N σ h E R L w=>?_];refine Z C M H n N σ _ _ R w λJ H1 a n1 e1 f1 y w1=>?_;have R1:=R.step e1 f1;exists λi m v j=>m=a.length - i/\i<=a.length/\∃c k p,Rel X.K {C with zF:=(M,H1)::C.zF} c j k p v/\B_ b wb h (a.drop i) k p,#[a.length,by simp,gK _,M,n1,N,R1.pinned,w1];rintro i m v j ⟨rfl,I,c,k,p,l,z⟩;have O:Pres M H1 c j:=l.pin (M,H1) Op
 by_cases d:i<a.length
 .have ed:a.drop i=a[i]::a.drop (i+1):=ig d
  rw[ed]at z;let#[go,yl]:=(y i c j O l.dom).1 a[i] (Go d);refine .inr #[go,λP o=>∃M2 B D,Rel X.K {C with zF:=(M,H1)::C.zF} M2 o B D P/\B_ b wb h (a.drop (i+1)) B D,λP o #[M2,B,D,f,w2]=>#[a.length - (i+1),by lk,rfl,d,M2,B,D,f,w2],λx o hy=>?_];let#[Q,hx]:=yl x o hy;have f:=l.step Q.ext^l.feed.grow Q;refine g2 _ c o k p v a[i] x _ _ f hx z λzQ zT R3 w3=>?_;refine b2 _ c o k zQ zT {h with nx:=B_ b wb h^a.drop (i+1),ct:=B_ b wb h^a.drop (i+1),bk:=h.nx} _ R3 #[λq F r s G t u=>#[q,r,s,t,u],L.rt,λq F r s G t u=>L.nx q F r s G t.unpin u,λq F r s G t u=>#[q,r,s,t,u]] w3
 .have e:i=a.length:=by lk
  subst e;rw[m_]at z;exact .inl #[(y _ c j O l.dom).2 (Rs _),L.nx c j k p v l.unpin z]
end
def GW(b:BW)(f:FJ)(g:DW)(P:r_ D->Sg->Prop):r_ D->r_ D->Sg->r_ Slot->Prop
 |[],a,n,_=>P a n
 |d::h,a,n,j=>b d j λe=>f n e λc i=>if c=p_ then g i e λy k=>GW b f g P h (a++[y]) k e else GW b f g P h a i e
def S4:Slot->Slot
 |.ow d=>.br d
 |.lt _ d=>.br d
 |s=>s
def Qe(s:Slot):(S4 s).owns=q_:=by cases s <;>rfl
def Di{a:r_^s_ Nat}{b:r_ Slot}{i:Nat}{s:Slot}(h:(a.map λo=>match o with|some i=>S4^(b[i]?).getD .no|none=>Slot.no)[i]?=P3 s):s.owns=q_:=by
 rw[UF]at h;cases q:a[i]? with
 |none=>grind
 | some o=>
  rw[q]at h;cases o with
  |none=>
   rw[←XV h];rfl
  |some j=>
   rw[←XV h];exact Qe _
def FW(a:r_^s_ Nat)(b:r_ Slot):r_ Slot:=a.map λo=>match o with
 |some i=>S4^(b[i]?).getD .no
 |none=>.no
def GN(f:r_^s_ Nat)(a:C7)(b:BW)(g:FJ)(h:DW):DW:=λn d P=>a n d λe i=>e.length<=10000000/\GW b g h (λc j=>P (.lst c) j) e [] i^FW f d
def Xj(X:Cx)(a:r_ gI)(w:FJ):Prop:=∃t,cr X a t/\∀(C:Fm) (M:Ch->Prop) (H:Hp) (n:Sg) (d:r_ Slot) (e:L2.St) (P:Bool->Sg->Prop) (Q:Bool->Hp->Prop),Rel X.K C M H n d e->w n d P->
 (∀b c f,Ext C.U H c->FeedC X.K C.F M c f->P b f->Q b c)->t e H Q
def Uq:FJ:=λn _ P=>P p_ n
def CN{X:Cx}:Xj X [] Uq:=#[_,VA,λC M H n a b P Q R w q=>q _ H n (Ext.refl _ _) R.feed w]
def Eb{X:Cx}{c:gI}{w:FJ}(h:DT X c w):Xj X [c] w:=by
 let#[t,a,b]:=h;exact#[t,U_ a,b]
def Jn{c:r_^s_ Nat}{d:r_ Slot}{g:L2.St}{i:Nat}{s:Slot}(a:(FW c d)[i]?=P3 s):s=.no\/∃(j:Nat) (b:Slot),d[j]?=P3 b/\s=S4 b/\((B4 c g)[i]?).getD o_=(g[j]?).getD o_:=by
 unfold FW at a;unfold B4;rw[UF]at a ⊢;cases q:c[i]? with
 |none=>simp_all
 | some o=>
  rw[q]at a;cases o with
  |none=>simp_all
  | some j=>
   have e:S4 _=s:=XV a;cases f:d[j]? with
   |none=>rw[f]at e;exact .inl e.symm
   |some b=>
    rw[f]at e;exact .inr #[j,b,f,e.symm,rfl]
def MK{K:Frag}{F:s_ (Ch×Ch)}{U m M g:Ch->Prop}{H h:Hp}{n:r_^s_ Nat}{o:r_ Slot}{p:L2.St}(k:∀(i:Nat) (s:Slot),o[i]?=P3 s->SlotOk K F U M H s^(p[i]?).getD o_)
  (r:Pres M H g h) (br:∀d v,AtT K U M H d v->AtT K m g h d v):∀(i:Nat) (s:Slot),(FW n o)[i]?=P3 s->SlotOk K F m g h s^((B4 n p)[i]?).getD o_:=by
 intro i s w
 rcases Jn w with rfl|⟨j,u,q,rfl,e⟩
 .trivial
 .rw[e]
  have c:=k j u q;cases u with
  |no=>trivial
  |sh d=>let#[v,b,f]:=c;exact#[v,b,f.pres r]
  |ex a x y z=>let#[b,f]:=c;exact#[b,f.pres r]
  |br d=>let#[v,b,f]:=c;exact#[v,b,br d v f]
  |fd=>exact c
  |ow d=>let#[a,b,_,l,t]:=c;exact#[_,b,br d _^t.att l]
  |lt a d=>let#[b,_,l,t]:=c;exact#[_,b,br d _^t.att l]
def O5{K:Frag}{F:s_ (Ch×Ch)}{U M:Ch->Prop}{H:Hp}{k:r_^s_ Nat}{l:r_ Slot}{m:L2.St}(g:∀(i:Nat) (s:Slot),l[i]?=P3 s->SlotOk K F U M H s^(m[i]?).getD o_){i:Nat}{d:D}{a:Ch}
  (r:(FW k l)[i]?=P3^.br d) (n:((B4 k m)[i]?).getD o_=P3^.ref a):∃o,H a=P3 o:=by
 rcases Jn r with z|⟨j,p,q,z,e⟩
 .cases z
 .rw[e]at n
  have f:=g j p q;rw[n]at f;cases p with
  |br d=>let#[v,c,u]:=f;cases c;exact u.lies
  |ow d=>let#[b,c,_,h,t]:=f;cases c;exact(t.att h).lies
  |lt b d=>let#[c,_,h,t]:=f;cases c;exact(t.att h).lies
  |no=>cases z
  |sh d=>cases z
  |ex a w x y=>cases z
  |fd=>cases z
section
variable {X:Cx}{zU:Kd}{tg elt iter:Expr}{ifs:r_ Expr}{sc:Scope}{pos:Pos}{src:C7}{b:BW}{tt:FJ}{te:DW}
def Vz(hc:X.calm=p_)(N':r_ Str)(js:r_^s_ Nat)(hi:Xk X tg iter src)(hg:∀L C s H O,DG (AZ X sc N' L C s H O) tg b)(ht:∀L C s H O,Xj (AZ X sc N' L C s H O) ifs tt)(he:∀L C s H O,DE (AZ X sc N' L C s H O) elt zU te)
  (hB:En sc X.env.scope X.N N' js=p_) (hk:zU≠.tp:=by intro z;cases z)
  (hs:∀x,foldedSetIterable iter X.env x=pure x:=by intro _;rfl):DE X (.ListComp elt [#[tg,iter,ifs,0]] sc pos) .fr^GN js src b tt te:=by
 let#[wi,a1,a2]:=hi;refine#[_,VG hc N' js a1 hB hs,λC M H n ρ σ P Q R w q=>?_];refine a2 C M H n ρ σ _ _ R w λJ H1 r n1 A f1 y w1=>?_;let#[b2,w1]:=w1;have R1:=R.step A f1;intro l hl b4 L Ca s0 H0 O;let#[g,g1,g2]:=hg L Ca s0 H0 O;let#[tc,c1,c2]:=ht L Ca s0 H0 O;let#[tx,x1,x2]:=he L Ca s0 H0 O
 have a3:¬C.U l:=λz=>by
  let#[o,z]:=R1.udom l z;rw[hl]at z;cases z
 generalize S:(λb=>M b\/b=l)=M';have a4:M' l:=by rw[←S];exact .inr rfl
 have M'of:∀b,M b->M' b:=λb z=>by rw[←S];exact .inl z
 have a0:∀b,M' b->M b\/b=l:=λb z=>by rw[←S]at z;exact z
 have a9:∀b,C.V b\/b=l->M' b:=λb z=>z.elim (λz=>M'of b^R1.vM b z) λz=>by rw[z];exact a4
 have b3:js.length=N'.length:=EK (CompOk.of hB).cap
 exists g,tc,tx,λi m zZ G=>m=r.length - i/\i<=r.length/\∃n' zY k I,Rel X.K #[M',C.F,C.U,λb=>C.V b\/b=l,H1,[],[]] M' G n' zY zZ/\G l=P3^.lst I/\Ats X.K M' G k I/\k.length<=i/\Pres M H1 M' G /\
   GW b tt te (λk n2=>P (.lst k) n2) (r.drop i) k n' zY,g1,c1,x1,#[r.length,by simp,gK _,n1,FW js ρ,[],[],?_]
 .have D:Grow H1^AY H1 l^.lst []:=AU hl
  have T:Pres M H1 M'^AY H1 l^.lst []:=#[λb o e _ _=>D.all b o e,λb z=>(a0 b z).elim .inl λz=>.inr (by rw[z];exact hl),λb I e=>D.all b _ e,λb o e=>#[o,D.all b o e]];refine#[#[?_,λa z=>z,λa z=>?_,D.ext,R1.fU,λa z=>.inl^R1.uV a z,a9,f1.pres T (λf o _ e=>D.all f.1 o e) λa u e=>D.all a _ e,?_,λp hp=>absurd hp^by simp,λi d a q z=>O5 R1.sl q z,λi s a q o _=>absurd o (by rw[Di q];decide),λi j s t a q o _ _ _ _=>absurd o (by rw[Di q];decide),λp hp=>absurd hp^by simp],AH,rfl,gK _,T,w1]
  .unfold FW B4
   rw[Ev,Ev]
  .rcases a0 a z with z|z
   .let#[o,z]:=R1.dom a z
    exact#[o,D.all a o z]
   .subst z
    exact#[_,AH]
  .refine MK R1.sl T λd v h=>h.same T (λa o _ e=>D.all a o e) λa e n1 z=>z.elim n1 λz=>?_
   subst e;let#[o,w]:=h.lies;rw[z,hl]at w;cases w
 .rintro i m zZ G ⟨rfl,hi,n',zY,k,I,R',a6,W,a7,T,w'⟩
  by_cases Y:i<r.length
  .have ed:r.drop i=r[i]::r.drop (i+1):=ig Y
   rw[ed]at w';let#[go,yl]:=(y i M' G T R'.ext R'.dom).1 r[i] (Go Y);refine .inr #[go,λx H2 hy=>?_];let#[D,hx]:=yl x H2 hy;have b0:=R'.step D.ext^R'.feed.grow D;refine g2 _ M' H2 n' zY zZ r[i] x _ _ b0 hx w' λzQ zT R3 w3=>?_;refine c2 _ M' H2 n' zQ zT _ _ R3 w3 λc H4 n4 e4 f4 w4=>?_;have R4:=R3.step e4 f4;have p4:Pres M' G M' H4:=D.pres.trans^R3.pres e4;have l4:H4 l=P3^.lst I:=e4.keep (D.all _ _ a6) a3;cases c with
   |false=>exact#[r.length - (i+1),by lk,rfl,Y,n4,zQ,k,I,R4,l4,W.pres p4,by lk,T.trans p4,w4]
   | true=>
    refine x2 _ M' H4 n4 zQ zT _ _ R4 w4 λyv H5 d5 n5 e5 f5 r5 w5=>?_;have B:=R4.step e5 f5;have p5:Pres M' H4 M' H5:=R4.pres e5;have l5:H5 l=P3^.lst I:=e5.keep l4 a3;have b1:=r5.shOf R4.dom hk;have a5:=(W.pres p4).pres p5;have pu:Pres M' H5 M'^AY H5 l^.lst (I++[yv]):=B7 a4 l5;have b5:I.length=k.length:=W.length;refine#[I,l5,by rw[gn];lk,r.length - (i+1),by lk,rfl,Y,n5,zQ,k++[d5],I++[yv],?_,AH,(a5.append^Ats.one b1).pres pu,by rw[gD,gu];lk,(T.trans p4).trans^p5.trans pu,w5];refine#[B.len,B.sub,λa z=>?_,λb o e=>?_,B.fU,B.uV,B.vM,?_,λj s hs=>?_,λp hp=>absurd hp^by simp,B.br0,B.new,B.two,λp hp=>absurd hp^by simp]
    .by_cases ha:a=l
     .subst ha;exact#[_,AH]
     .rw[AF ha];exact B.dom a z
    .let#[o',q1,q2]:=B.ext b o e
     by_cases hb:b=l
     .subst hb
      have e':H1 b=P3 o:=e;rw[hl]at e';cases e'
     .exact#[o',by rw[AF hb];exact q1,q2]
    .refine f5.pres pu (λf o hf e=>?_) λa u e=>by rw[AF λz=>by rw[z,l5]at e;cases e];exact e
     rw[AF λz=>a3^by rw[←z];exact R1.fU f hf];exact e
    .have E:=B.sl j s hs
     cases s with
     |no=>trivial
     |sh d=>let#[v,A,Z]:=E;exact#[v,A,Z.pres pu]
     |ex a nm ks r=>let#[A,Z]:=E;exact#[A,Z.pres pu]
     | br d=>
      let#[v,A,Z]:=E;refine#[v,A,Z.same pu (λa o z e=>?_) λ_ _ z=>z];subst z;let#[o3,w]:=B.br0 j d a hs A
      have a7:a≠l:=λz=>by
       have w':H1 a=P3 o3:=w;rw[z,hl]at w';cases w'
      rw[AF a7];exact e
     |ow d=>
      let#[a,A,Z,_]:=E;exact absurd Z (B.new j _ a hs rfl A).1
     |lt a d=>
      let#[A,Z,_]:=E;exact absurd Z (B.new j _ a hs rfl A).1
     |fd=>exact E
  .have e:i=r.length:=by lk
   subst e;rw[m_]at w';refine .inl #[(y _ M' G T R'.ext R'.dom).2 (Rs _),?_];have eb:Ext C.U H1 G:=R'.ext;have a8:Pres M' G M G:=Pres.less M'of;refine q _ G (.lst k) n' (A.trans eb) (R'.feed.pres a8 (λ_ _ _ z=>z) λ_ _ z=>z) (VR.back A ?_) w';exact#[l,rfl,hl,I,a6,by rw[S];exact W]
end
def Je{K:Frag}{F:s_ (Ch×Ch)}{U k M:Ch->Prop}{H:Hp}{n:Sg}{c:r_ Slot}{f:r_ V}{N:r_ Str}(h:Zv K F U k M H n c f)(G:f.length<=N.length):
  Rel K #[M,F,U,k,H,[],[]] M H n (c++gq (N.length - c.length) .no) (L2.start N f):=by
 let#[u,A,B,C,fd,q]:=h;have D:f.length=c.length:=Paired.length q
 have go:∀{f:r_ V}{c:r_ Slot}{i:Nat}{s:Slot},Paired (Ct K F k M H) f c->c[i]?=P3 s->∃v,f[i]?=P3 v/\Ct K F k M H v s:=by
  intro f c i s q
  induction q generalizing i with
  |nil=>intro e;simp at e
  | cons r t E=>
   intro e;cases i with
   |zero=>simp at e;subst e;exact#[_,rfl,r]
   |succ i=>
    let#[v,l,m]:=E (i:=i) (by simpa using e);exact#[v,by simpa using l,m]
 have g:∀(i:Nat) (s:Slot),(c++gq (N.length - c.length) Slot.no)[i]?=P3 s->s=.no\/∃v,((L2.start N f)[i]?).getD o_=P3 v/\Ct K F k M H v s:=by
  intro i s b
  by_cases x:i<c.length
  .rw[i9 x]at b
   let#[v,l,m]:=go q b;refine .inr #[v,?_,m];unfold L2.start;rw[i9 (by rw[Ev,D];exact x),UF,l];rfl
  .rw[iX^by lk,kz]at b
   split at b
   .exact .inl (XV b).symm
   .cases b
 refine#[?_,λa z=>z,u,Ext.refl _ _,A,B,C,fd,λi s b=>?_,λp w=>absurd w^by simp,λi d a b y=>?_,λi s a b o _=>?_,λi j s t a b o _ _ _ _=>?_,λp w=>absurd w^by simp]
 .unfold L2.start
  simp only[gD,Ev,nX];lk
 .rcases g i s b with rfl|⟨v,e,h⟩
  .trivial
  .rw[e];exact h.1
 .rcases g i _ b with z|⟨v,e,h⟩
  .cases z
  .rw[e]at y
   cases y;let#[v,l,m]:=h.1;cases l;exact m.lies
 .rcases g i s b with rfl|⟨v,e,h⟩
  .cases o
  .rw[h.2]at o;cases o
 .rcases g i s b with rfl|⟨v,e,h⟩
  .cases o
  .rw[h.2]at o;cases o
def fM{P:gC}{w:gJ}{K:Frag}{r:Str->s_ Db}{e:gA}{x b:Str}{i:iD}{f:Ch}{fd:gp}{N ps:r_ Str}{k:Nat}{l:Kd}{W:W2}{u:AX}(F:Fun K x b i f fd)(S:A8 N ps^AK i)(C:ps.length<=N.length)
  (D:∀(c:Db) (A:gX) (a:r_ Env) (s:No) (H:Hp) (E:XK),Room k^A.deeper^envOfC b (AK i) s.heap.objs.size f c->Mz (C4 Eo P w K r e N b (AK i) f c A a s H E).nox l (Aa i) u)
  (Z:∀j n g,j.length=ps.length->W j n g->u {nx:=λn _=>l=.sh/\g .non n,rt:=g} n (j++gq (N.length - ps.length) .no)):
  FnOk P w K r e Eo (k+1) f fd ps (P_ K l W ps.length):=by
 refine F.ok S (λy H Q E h=>h.1) λc A a s H y Q E G h=>?_;let#[hl,I,U,J,M,n,j,g,B,hw,q]:=h;let#[t,L,O]:=D c A a s H E G;exists t,L;have el:y.length=j.length:=Paired.length B.2.2.2.2.2;have R:=Je (N:=N) B (by lk);refine O #[M,I,U,J,H,[],[]] M H n _ _ {nx:=λn _=>l=.sh/\g .non n,rt:=g} _ R #[λM1 H1 m zR zJ o p=>?_,λv H1 d m T V X p=>q v H1 d m T V X p,λ_ _ _ _ _ _ z=>z.elim,λ_ _ _ _ _ _ z=>z.elim] ?_
 .let#[Y,p]:=p
  subst Y;exact q .non H1 .non m o.ext (o.feed.pres (Pres.less o.sub) (λ_ _ _ z=>z) λ_ _ z=>z) rfl p
 grind
end Dp
namespace L2
section
variable {X:Cx}
def Inv.rdl{c:r_ (Ch×Obj)}{d:L2.St}{H:Hp}{s:No}{l:Ch}{b:r_ V}(I:Inv X c d H s)(h:Rd H l^.lst b):b.length<=sizeLine/\∃(a:r_ Db) (n:Nat),Vals b a/\b.length=a.length/\s.heap.get? l=P3 {cls:=.type "list",data:=.seq a.toArray n}:=by
 let#[z,a,n,r,e]:=h.ok I.hok;exact#[z,_,n,r,r.length,e]
def Ox:OpR X (binaryOp .Add) (λx y H Q=>∃l b d f,x=.ref l/\y=.ref b/\Rd H l^.lst d/\Rd H b^.lst f/\d.length+f.length<=sizeLine/\∀p,H p=o_->Q (.ref p)^AY H p^.lst (d++f)):=by
 intro A s B H x y v u Q I g i h;let#[l,b,d,f,rfl,rfl,j,k,C,q]:=h;cases g;cases i;let#[z,c,n,r,D,e]:=I.rdl j;let#[E,a,F,m,o,t]:=I.rdl k;refine PySem.P.add_list e t ?_ (by grind);have w:c.toArray++a.toArray=(c++a).toArray:=by simp
 rw[w];exact#[.ref _,_,I.lnew (r.append m)^by grind,rfl,q _ I.fresh]
end
end L2
namespace Dp
open L2
section
variable {K:Frag}
def AtT.int{U M:Ch->Prop}{H:Hp}{i:Int}{v:V}(h:AtT K U M H (.int i) v):v=.int i:=h
def AtT.bl{U M:Ch->Prop}{H:Hp}{i:Bool}{v:V}(h:AtT K U M H (.bl i) v):v=.bl i:=h
def AtT.str{U M:Ch->Prop}{H:Hp}{x:Str}{v:V}(h:AtT K U M H (.str x) v):v=.str x/\x.length<=sizeLine:=h
def AtT.tup{U M:Ch->Prop}{H:Hp}{b:r_ D}{v:V}(h:AtT K U M H (.tup b) v):∃a c,v=.ref a/\NdT M H a c/\Ats K M H b c:=h
def dC(g:Int->Int->(D->Prop)->Prop)(d e:D)(P:D->Prop):Prop:=match d,e with
 |.int i,.int j=>g i j P
 |_,_=>False
def LA{g:Int->Int->(D->Prop)->Prop}{d e:D}{P:D->Prop}(w:dC g d e P):∃i j,d=.int i/\e=.int j/\g i j P:=by
 unfold dC at w
 split at w
 .grind
 grind
def f2(g:Int->Int->D):D->D->(D->Prop)->Prop:=dC λi j P=>P^g i j
def eR(C:Int->Int->Prop)(g:Int->Int->D):D->D->(D->Prop)->Prop:=dC λi j P=>C i j/\P^g i j
def UW{g:Int->Int->Int}:C6 K .sh (Gr λi j=>.int^g i j) (f2 λi j=>.int^g i j):=by
 intro U M H d e x y P Q a f b c w q;let#[i,j,rfl,rfl,w]:=LA w;exact#[i,j,b,c,q _ H (.int _) .refl rfl w]
def OE{g:Int->Int->Bool}:C6 K .sh (Gr λi j=>.bl^g i j) (f2 λi j=>.bl^g i j):=by
 intro U M H d e x y P Q a f b c w q;let#[i,j,rfl,rfl,w]:=LA w;exact#[i,j,b,c,q _ H (.bl _) .refl rfl w]
def Ig{C:Int->Int->Prop}{g:Int->Int->Int}:C6 K .sh (rI C λi j=>.int^g i j) (eR C λi j=>.int^g i j):=by
 intro U M H d e x y P Q a f b c w q;let#[i,j,rfl,rfl,w]:=LA w;exact#[i,j,b,c,w.1,q _ H (.int _) .refl rfl w.2]
def bu(g:Str->Str->(D->Prop)->Prop)(d e:D)(P:D->Prop):Prop:=match d,e with
 |.str i,.str j=>g i j P
 |_,_=>False
def PK{g:Str->Str->(D->Prop)->Prop}{d e:D}{P:D->Prop}(w:bu g d e P):∃i j,d=.str i/\e=.str j/\g i j P:=by
 unfold bu at w
 split at w
 .grind
 grind
def OA{g:Str->Str->Bool}:C6 K .sh (λx y H Q=>∃i j,x=.str i/\y=.str j/\Q (.bl^g i j) H) (bu λi j P=>P^.bl^g i j):=by
 intro U M H d e x y P Q a f b c w q;let#[i,j,rfl,rfl,w]:=PK w;exact#[i,j,b.1,c.1,q _ H (.bl _) .refl rfl w]
def Q4:C6 K .sh (λx y H Q=>∃i j,x=.str i/\y=.str j/\i.length+j.length<=sizeLine/\Q (.str (i++j)) H) (bu λi j P=>i.length+j.length<=sizeLine/\P^.str (i++j)):=by
 intro U M H d e x y P Q a f b c w q;let#[i,j,rfl,rfl,w]:=PK w;exact#[i,j,b.1,c.1,w.1,q _ H (.str _) .refl #[rfl,by rw[Str.length_append i j];exact w.1] w.2]
def eM(g:r_ D->r_ D->(D->Prop)->Prop)(d e:D)(P:D->Prop):Prop:=match d,e with
 |.tup i,.tup j=>g i j P
 |_,_=>False
def dB(g:r_ D->r_ D->(D->Prop)->Prop)(d e:D)(P:D->Prop):Prop:=match d,e with
 |.lst i,.lst j=>g i j P
 |_,_=>False
def Ve{g:r_ D->r_ D->(D->Prop)->Prop}{d e:D}{P:D->Prop}(w:eM g d e P):∃i j,d=.tup i/\e=.tup j/\g i j P:=by
 unfold eM at w
 split at w
 .grind
 grind
def Vf{g:r_ D->r_ D->(D->Prop)->Prop}{d e:D}{P:D->Prop}(w:dB g d e P):∃i j,d=.lst i/\e=.lst j/\g i j P:=by
 unfold dB at w
 split at w
 .grind
 grind
def Cd{M:Ch->Prop}{H:Hp}{p:Ch}{b:r_ V}{c:r_ D}(d:∀a,M a->∃o,H a=P3 o)(e:H p=o_)(h:Ats K M H c b):At K M (AY H p^.tup b) (.tup c)^.ref p:=#[p,b,rfl,AH,h.pres (AU e).pres]
def BL{U M:Ch->Prop}{H:Hp}{p:Ch}{a:r_ V}{b:r_ D}(c:H p=o_)(h:Ats K M H b a):VR K U M H (AY H p^.lst a) .fr (.ref p)^.lst b:=
 #[p,rfl,c,a,AH,h.pres^Dn c]
def Q3:C6 K .sh (R_ K) (eM λi j P=>i≠[]/\i.length+j.length<=sizeLine/\P^.tup (i++j)):=by
 intro U M H d e x y P Q c u o r w q;let#[i,j,rfl,rfl,w]:=Ve w;let#[a,g,rfl,h,f]:=o.tup;let#[b,s,rfl,t,k]:=r.tup;have l:=f.length;have m:=k.length;refine#[a,b,g,s,rfl,rfl,h.sq,t.sq,λz=>w.1 ?_,by simp_all,λz=>?_,λz p n=>?_]
 .rw[z]at l;exact k6.mp l.symm
 .rw[z]at m
  have:j=[]:=k6.mp m.symm
  subst this;exact q _ H (.tup i) .refl #[a,g,rfl,h,f]^by grind
 .exact q _ _ (.tup (i++j)) (AU n) (Cd c n^f.append k) w.2.2
def KG:C6 K .fr (λx y H Q=>∃l b c f,x=.ref l/\y=.ref b/\Rd H l^.lst c/\Rd H b^.lst f/\c.length+f.length<=sizeLine/\∀p,H p=o_->Q (.ref p)^AY H p^.lst (c++f)) (dB λi j P=>i.length+j.length<=sizeLine/\P^.lst (i++j)):=by
 intro U M H d e x y P Q m v n o w q;let#[i,j,rfl,rfl,w]:=Vf w;let#[a,r,rfl,_,s,g]:=n;let#[b,t,rfl,_,u,h]:=o;exact#[a,b,r,t,rfl,rfl,s,u,by rw[g.length,h.length];exact w.1,λp k=>q _ _ _ (AU k) (BL k^g.append h) w.2]
def LB(a:Bool)(d e:D)(P:D->Prop):Prop:=match d,e with
 |.bl i,.bl j=>P^.bl (if a then !(i==j)else i==j)
 |.int i,.int j=>P^.bl (if a then !(i==j)else i==j)
 |.str i,.str j=>P^.bl (if a then !(i==j)else i==j)
 |_,_=>False
def PL{a:Bool}{d e:D}{P:D->Prop}(w:LB a d e P):(∃i j,d=.bl i/\e=.bl j/\P^.bl (if a then !(i==j)else i==j))\/(∃i j,d=.int i/\e=.int j/\P^.bl (if a then !(i==j)else i==j))\/∃i j,d=.str i/\e=.str j/\P^.bl (if a then !(i==j)else i==j):=by
 unfold LB at w
 split at w
 .simp_all
 .simp_all
 .simp_all
 grind
def Bi:C6 K .sh fJ^LB q_:=by
 intro U M H d e x y P Q c f a b w q
 rcases PL w with⟨i,j,rfl,rfl,w⟩|⟨i,j,rfl,rfl,w⟩|⟨i,j,rfl,rfl,w⟩
 .rw[a.bl,b.bl];exact#[rfl,q _ H _ .refl (by rw[LH];rfl) w]
 .rw[a.int,b.int];exact#[rfl,q _ H _ .refl (by rw[HD];rfl) w]
 .rw[a.str.1,b.str.1];exact#[rfl,q _ H _ .refl (by rw[HC];rfl) w]
def Q2:C6 K .sh fG^LB p_:=by
 intro U M H d e x y P Q c f a b w q
 rcases PL w with⟨i,j,rfl,rfl,w⟩|⟨i,j,rfl,rfl,w⟩|⟨i,j,rfl,rfl,w⟩
 .rw[a.bl,b.bl];exact#[rfl,q _ H _ .refl (by rw[LH];rfl) w]
 .rw[a.int,b.int];exact#[rfl,q _ H _ .refl (by rw[HD];rfl) w]
 .rw[a.str.1,b.str.1];exact#[rfl,q _ H _ .refl (by rw[HC];rfl) w]
def TN:D->Bool
 |.non=>p_
 |_=>q_
def MR{U M:Ch->Prop}{H:Hp}{d:D}{x:V}(h:AtT K U M H d x):decide (x=.non)=TN d:=by
 cases d with
 |non=>rw[h];rfl
 |bl b=>rw[h.bl];rfl
 |int i=>rw[h.int];rfl
 |str z=>rw[h.str.1];rfl
 |tup c=>let#[a,e,rfl,_]:=h.tup;rfl
 |lst c=>let#[a,e,rfl,_]:=h;rfl
 |dic f c=>let#[a,e,rfl,_]:=h;rfl
 |fdi f c=>let#[a,e,rfl,_]:=h;rfl
 |dit f c=>let#[a,e,rfl,_]:=h;rfl
 |ob a=>let#[rfl,_]:=h;rfl
def Io(d e:D)(P:D->Prop):Prop:=match d,e with
 |.lst a,.int i=>∃z,atI a i=P3 z/\P z
 |.tup a,.int i=>∃z,atI a i=P3 z/\P z
 |.str x,.int i=>∃c,atI x.cps.toList i=P3 c/\P^.str #[#[ c]]
 |_,_=>False
def Vg{d e:D}{P:D->Prop}(w:Io d e P):(∃a i z,d=.lst a/\e=.int i/\atI a i=P3 z/\P z)\/(∃a i z,d=.tup a/\e=.int i/\atI a i=P3 z/\P z)\/∃x i c,d=.str x/\e=.int i/\atI x.cps.toList i=P3 c/\P^.str #[#[ c]]:=by
 unfold Io at w
 split at w
 .simp_all
 .simp_all
 .simp_all
 grind
theorem Ats.atI{M:Ch->Prop}{H:Hp}{a:r_ D}{b:r_ V}{i:Int}{z:D}(h:Ats K M H a b)(e:atI a i=P3 z):∃v,L2.atI b i=P3 v/\At K M H z v:=by
 unfold L2.atI at e ⊢;rw[h.length];cases q:Uk _ i with
 |none=>grind
 |some j=>
  rw[q]at e;exact h.get e
def eY:C6 K .sh (fH K) Io:=by
 intro U M H d e x y P Q n r f g w q
 rcases Vg w with⟨o,i,z,rfl,rfl,h,w⟩|⟨o,i,z,rfl,rfl,h,w⟩|⟨x,i,c,rfl,rfl,p,w⟩
 .let#[a,j,rfl,_,k,l]:=f
  let#[v,m,b]:=l.atI h;exact .inl #[a,j,i,v,rfl,g,.inl k,m,q v H z .refl b w]
 .let#[a,j,rfl,k,l]:=f.tup
  let#[v,m,b]:=l.atI h;exact .inr^.inl #[a,j,i,v,rfl,g,k.sq,m,q v H z .refl b w]
 .exact .inr^.inr #[x,i,c,f.str.1,g,f.str.2,p,q _ H (.str _) .refl #[rfl,by show 1<=16777216;decide] w]
def cutD{b:Type}(a:r_ b)(lo hi:s_ Int):r_ b:=(a.drop^HT.sIx a.length 0 lo).take (HT.sIx a.length a.length hi - HT.sIx a.length 0 lo)
def Bk{R:V->D->Prop}{a:r_ V}{d:D}(h:Paired R a [d]):∃v,a=[v]/\R v d:=by
 cases h with
 |cons r t=>cases t;grind
def d7:D->s_ Nat
 |.str x=>P3 x.length
 |.tup a=>P3 a.length
 |.lst a=>P3 a.length
 |_=>o_
def Tf(a:r_ D)(P:D->Prop):Prop:=∃d n,a=[d]/\d7 d=P3 n/\P^.int (n:Int)
def cP:Bc K .sh (λe H Q=>∃x n,e=[x]/\Zz K x H n/\Q (.int n) H) Tf:=by
 intro U M H k l P Q i m j w q;let#[d,n,rfl,b,w]:=w;let#[v,rfl,c]:=Bk j;refine#[v,n,rfl,?_,q _ H (.int _) .refl rfl w];cases d with
 |str z=>cases b;rw[c.str.1];exact#[c.str.2,rfl]
 |tup e=>
  cases b;let#[a,f,rfl,g,h]:=c.tup;exact .inr #[f,g.sq,h.length.symm]
 |lst e=>
  cases b;let#[a,f,rfl,_,g,h]:=c;exact .inl #[f,.inl g,h.length.symm]
 |_=>cases b
def allB:r_ D->s_^r_ Bool
 |[]=>P3 []
 |.bl b::r=>(allB r).map (b::·)
 |_::_=>o_
theorem Pk{M:Ch->Prop}{H:Hp}:∀{d:r_ D}{a:r_ V}{c:r_ Bool},allB d=P3 c->Ats K M H d a->a=c.map V.bl
 |[],a,c,e,h=>by cases e;exact h
 |.bl b::r,a,c,e,h=>by
  let#[v,l,f,g,i]:=h;let#[j,k,rfl]:=gY.mp e;rw[f,Pk k i,g];rfl
 |.non::r,a,c,e,h=>by cases e
 |.int _::r,a,c,e,h=>by cases e
 |.str _::r,a,c,e,h=>by cases e
 |.tup _::r,a,c,e,h=>by cases e
 |.lst _::r,a,c,e,h=>by cases e
 |.dic _ _::r,a,c,e,h=>by cases e
 |.fdi _ _::r,a,c,e,h=>by cases e
 |.dit _ _::r,a,c,e,h=>by cases e
def ZQ(c:r_ D)(P:D->Prop):Prop:=∃a b,c=[.lst a]/\allB a=P3 b/\P^.bl^b.all id
def UZ:Bc K .sh (λc H Q=>∃(p:Ch) (b:r_ Bool),c=[.ref p]/\SqL K H p^b.map V.bl/\Q (.bl^b.all id) H) ZQ:=by
 intro U M H j k P Q d l f w q;let#[c,b,rfl,e,w]:=w;let#[v,rfl,g]:=Bk f;let#[a,m,rfl,_,h,i]:=g
 have:=Pk e i
 subst this;exact#[a,b,rfl,.inl h,q _ H (.bl _) .refl rfl w]
def N9:r_ D->s_^r_ Str
 |[]=>P3 []
 |.str b::r=>(N9 r).map (b::·)
 |_::_=>o_
theorem Ph{M:Ch->Prop}{H:Hp}:∀{d:r_ D}{a:r_ V}{c:r_ Str},N9 d=P3 c->Ats K M H d a->a=c.map V.str
 |[],a,c,e,h=>by cases e;exact h
 |.str b::r,a,c,e,h=>by
  let#[v,l,f,g,i]:=h;let#[j,k,rfl]:=gY.mp e;rw[f,Ph k i,g.1];rfl
 |.non::r,a,c,e,h=>by cases e
 |.int _::r,a,c,e,h=>by cases e
 |.bl _::r,a,c,e,h=>by cases e
 |.tup _::r,a,c,e,h=>by cases e
 |.lst _::r,a,c,e,h=>by cases e
 |.dic _ _::r,a,c,e,h=>by cases e
 |.fdi _ _::r,a,c,e,h=>by cases e
 |.dit _ _::r,a,c,e,h=>by cases e
def Nv(b:r_ D)(P:D->Prop):Prop:=match b with
 |[.lst a]=>P^.lst a
 |[.tup a]=>P^.lst a
 |_=>False
def WG:Bc K .fr (λi H Q=>∃p c,i=[.ref p]/\(SqL K H p c\/SqT K H p c)/\∀l,H l=o_->Q (.ref l)^AY H l^.lst c) Nv:=by
 intro U M H k m P Q j n h w q;unfold Nv at w
 split at w
 .let#[v,rfl,d]:=Bk h
  let#[a,e,rfl,_,f,g]:=d;exact#[a,e,rfl,.inl^.inl f,λl b=>q _ _ _ (AU b) (BL b g) w]
 .let#[v,rfl,d]:=Bk h
  let#[a,e,rfl,f,g]:=d.tup;exact#[a,e,rfl,.inr f.sq,λl b=>q _ _ _ (AU b) (BL b g) w]
 grind
end
def aQ:D->String
 |.non=>"NoneType"
 |.bl _=>"bool"
 |.int _=>"int"
 |.str _=>"str"
 |.tup _=>"tuple"
 |.lst _=>"list"
 |.dic _ _=>"dict"
 |.fdi _ _=>"dict"
 |.dit _ _=>"dict"
 |.ob _=>""
def bW:D->(String->Prop)->Prop
 |.ob _,_=>False
 |d,k=>k^aQ d
def K7{d:D}{k:String->Prop}(h:bW d k):(∀a,d≠.ob a)/\k^aQ d:=by
 cases d <;>first|exact h.elim|exact#[(λ_ z=>by cases z),h]
def bX(t T:String):Bool:=t==T||(t=="bool"&&T=="int")
def dO(T:String)(a:DW):DW:=λn b P=>a n b λd c=>bW d λt=>P (.bl^bX t T) c
structure Uh (K:Frag) (T:String):Prop where
 ans:∀t∈["NoneType","bool","int","str","tuple","list","dict"],PySem.W.kitOne K (.type t)^.type T=P3^bX t T
def Uv{K:Frag}{M U:Ch->Prop}{H:Hp}{d:D}{x:V}(h:AtT K U M H d x)(no:∀a,d≠.ob a):FH K H x^.type^aQ d:=by
 cases d with
 |non=>cases(h);exact .non
 |bl b=>cases h.bl;exact .bl b
 |int i=>cases h.int;exact .int i
 |str z=>cases h.str.1;exact .str z
 |tup e=>
  let#[a,f,rfl,c,j]:=h.tup;exact .tup c
 |lst e=>
  let#[a,f,rfl,_,c,j]:=h
  rcases c with c|⟨o,c⟩
  .exact .lst c
  .exact .frz c
 |dic g e=>
  let#[a,f,rfl,_,c,_]:=h;exact .dK c
 |fdi g e=>
  let#[a,f,rfl,#[o,_,c],_]:=h;exact .dF c
 |dit g e=>
  let#[a,f,rfl,_,c,_]:=h;exact .dT c
 |ob a=>exact absurd rfl (no a)
def Uw(d:D)(no:∀a,d≠.ob a):aQ d∈["NoneType","bool","int","str","tuple","list","dict"]:=by cases d <;>first|exact absurd rfl (no _)|simp[aQ]
def IM{X:Cx}{a:gI}{o:Kd}{l:DW}{T:String}{b:Str}{p c pos:Pos}(r:Uh X.K T)(s:DE X a o l)(u:Gl X "isinstance")(x:X.mg "isinstance"=o_)(e:Gl X b)(f:X.mg b=o_)(g:bootBuiltins b=P3^.type T)
  (h:b ≠ "__name__":=by decide) (i:(b==("__debug__":Str))=q_:=by decide)
  (m:starEach [a,.Name b c] X.env=(q_,eval a X.env)::starEach [.Name b c] X.env:=by rfl) (j:starEach [.Name b c] X.env=[(q_,eval (.Name b c) X.env)]:=by rfl)
  (k:(backTo pos^starEach [.Name b c] X.env).any (·.1)=q_:=by rfl):DE X (.Call (.Name "isinstance" p) [a,.Name b c] [] pos) .sh^dO T l:=by
 let#[t,y,z]:=s;have A:PE X (.Name b c)^tC^.ty T:=Ou e f g rfl h i;exact#[_,DF Mj u x (by decide +kernel) (Aw y (Aw A Bt j) m) (by cbv) (by cbv) m k,λC M H n B D P Q R w q=>z C M H n B D _ _ R w λv H1 d E F G I p=>#[v,T,_,_,rfl,Uv (I.tpOf R.dom R.vM) (K7 p).1,r.ans _^Uw d (K7 p).1,q _ H1 (.bl _) E F G rfl (K7 p).2]]
section
variable {K:Frag}{X:Cx}
def XN(d e:D)(P:D->Prop):Prop:=match d,e with
 |.int i,.int j=>P^.int (i+j)
 |.str i,.str j=>i.length+j.length<=sizeLine/\P^.str (i++j)
 |.tup i,.tup j=>i≠[]/\i.length+j.length<=sizeLine/\P^.tup (i++j)
 |.lst i,.lst j=>i.length+j.length<=sizeLine/\P^.lst (i++j)
 |_,_=>False
def bH:R2:=λx y H Q=>∃l b a c,x=.ref l/\y=.ref b/\Rd H l^.lst a/\Rd H b^.lst c/\a.length+c.length<=sizeLine/\∀p,H p=o_->Q (.ref p)^AY H p^.lst (a++c)
def bG:R2:=λx y H Q=>∃i j,x=.str i/\y=.str j/\i.length+j.length<=sizeLine/\Q (.str (i++j)) H
def Rw(g:Str->Str->Bool):R2:=λx y H Q=>∃i j,x=.str i/\y=.str j/\Q (.bl^g i j) H
def SA(K:Frag):R2:=λx y H Q=>(Gr λi j=>.int (i+j)) x y H Q\/bG x y H Q\/R_ K x y H Q\/bH x y H Q
def op_addU:OpR X (binaryOp .Add)^SA X.K:=op_add.or^(NX).or^op_catT.or^Ox
def LU:C6 X.K .sh (SA X.K) XN:=λU M H d e x y P Q a b c f w q=>by
 unfold XN at w
 split at w
 .exact .inl^UW U M H _ _ x y P Q a b c f w q
 .exact .inr^.inl^Q4 U M H _ _ x y P Q a b c f w q
 .exact .inr^.inr^.inl^Q3 U M H _ _ x y P Q a b c f w q
 .exact .inr^.inr^.inr^KG U M H _ _ x y P Q a b c f w λv h z g r p=>q v h z g (r.shOf a^by grind) p
 grind
def bw(d e:D)(P:D->Prop):Prop:=match d,e with
 |.int i,.int j=>P^.bl (decide (i<j))
 |.str i,.str j=>P^.bl (decide (i.cps.toList<j.cps.toList))
 |_,_=>False
def YQ:R2:=λx y H Q=>(Gr λi j=>.bl (decide (i<j))) x y H Q\/Rw (λi j=>decide (i.cps.toList<j.cps.toList)) x y H Q
def op_ltU:OpR X (compareOp .Lt) YQ:=op_lt.or QP
def Xa:C6 X.K .sh YQ bw:=λU M H d e x y P Q a b c f w q=>by
 unfold bw at w
 split at w
 .exact .inl^OE U M H _ _ x y P Q a b c f w q
 .exact .inr^OA U M H _ _ x y P Q a b c f w q
 grind
def bz(d e:D)(P:D->Prop):Prop:=match d,e with
 |.int i,.int j=>P^.bl (decide (i<=j))
 |.str i,.str j=>P^.bl (!(decide (j.cps.toList<i.cps.toList)))
 |_,_=>False
def a_:R2:=λx y H Q=>(Gr λi j=>.bl (decide (i<=j))) x y H Q\/Rw (λi j=>!(decide (j.cps.toList<i.cps.toList))) x y H Q
def Df:OpR X (compareOp .LtE) a_:=op_le.or QQ
def Fn:C6 X.K .sh a_ bz:=λU M H d e x y P Q a b c f w q=>by
 unfold bz at w
 split at w
 .exact .inl^OE U M H _ _ x y P Q a b c f w q
 .exact .inr^OA U M H _ _ x y P Q a b c f w q
 grind
def bD:R2:=Gr λi j=>.bl (decide (j<i))
def NW:OpR X (compareOp .Gt) bD:=W4
def UY:C6 X.K .sh bD (f2 λi j=>.bl (decide (j<i))):=OE
def bC:R2:=Rw λi j=>!(iR j i 0 j.length 1).isEmpty
def Yp:OpR X (compareOp .In) bC:=QR
def cQ:C6 X.K .sh bC (bu λi j P=>P^.bl (!(iR j i 0 j.length 1).isEmpty)):=OA
def aq:V->s_ Int->s_ Int->Hp->VK->Prop:=λx a b H Q=>∃z,x=.str z/\z.length<=sizeLine/\Q (.str^Txt.slice z a b) H
def sl_U:SlR X aq:=YK
def dM(w:DW):DW:=λn a P=>w n a λd b=>∃i,d=.int i/\P (.int (-i)) b
def T_{a:gI}{c:Kd}{b:DW}{pos:Pos}(h:DE X a c b):DE X (.UnaryOp .USub a pos) .sh^dM b:=by
 let#[t,e,f]:=h;refine#[_,bK X2 e,λC M H n g j P Q R w q=>?_];refine f C M H n g j _ _ R w λv H1 d k l m o p=>?_;let#[i,rfl,p]:=p;exact#[i,Np o,q _ H1 (.int _) k l m rfl p]
def Got(P:gC)(w:gJ)(K:Frag)(b:Str->s_ Db)(a:gA)(x:Str)(k:Nat)(ps:r_ Str)(d:Kd)(W:W2):Prop:=
 ∃f fd,FnOk P w K b a Eo k f fd ps^P_ K d W ps.length/\b x=P3^.ref f/\keepIn K^.ref f=p_/\Binds K fd ps []/\∀c n P,W c n P->c.length=ps.length
def UG{e:gI}{a:r_ gI}{k:Nat}{ps:r_ Str}{g:Kd}{W:W2}{x:Str}{p pos:Pos}{b:La}(G:Got X.prog X.w X.K X.mg X.base x k ps g W)
  (h:Room k X.A) (i:Gl X x) (j:M5 X (e::a) b)
  (c:(x==("__debug__":Str))=q_:=by decide) (l:starEach (e::a) X.env=(q_,eval e X.env)::starEach a X.env:=by rfl) (d:(backTo pos^starEach a X.env).any (·.1)=q_:=by rfl):
  DE X (.Call (.Name x p) (e::a) [] pos) g (BE W b):=by
 let#[f,fd,G,m,n,o,q]:=G;exact V0 G q h i m n o j c l d
def VY:Uh K "int":=#[λt a=>by
 simp at a
 rcases a with rfl|rfl|rfl|rfl|rfl|rfl|rfl <;>kernel_rfl]
def TD:Uh K "bool":=#[λt a=>by
 simp at a
 rcases a with rfl|rfl|rfl|rfl|rfl|rfl|rfl <;>kernel_rfl]
def O9:Uh K "str":=#[λt a=>by
 simp at a
 rcases a with rfl|rfl|rfl|rfl|rfl|rfl|rfl <;>kernel_rfl]
def kit_tuple:Uh K "tuple":=#[λt a=>by
 simp at a
 rcases a with rfl|rfl|rfl|rfl|rfl|rfl|rfl <;>kernel_rfl]
end
theorem Ic{b:Type}(p:b->Bool):∀l:r_ b,allB (l.map λc=>.bl^p c)=P3^l.map p
 |[]=>rfl
 |a::l=>by
  rw[gQ];unfold allB;rw[Ic p l];rfl
def UL{a b:Bool}{P:D->Sg->Prop}{n:Sg}{k:(D->Sg->Prop)->Prop}(c:a=p_->P (.bl b) n->k P)(h:P (.bl (a&&b)) n):(match (.bl a:D)with|.bl p_=>k P|.bl q_=>P (.bl q_) n|_=>False):=by
 cases a with
 |false=>exact h
 |true=>grind
def Lw(K:Frag):Sp:=λc H Q _=>∃a b,c=[V.ref a]/\(lC (α:=Int) b<=63/\SqL K H a^b.map V.int)/\∀d,Q (.bl p_) d
def KQ(K:Frag):Sp:=λe H Q _=>∃a b,e=[V.ref a]/\(lC (α:=Int) b<=63/\SqL K H a^b.map V.int) /\
 ∀(c f:Ch) (d:Hp),c≠f->d c=P3^.lst^b.map V.int->d f=P3^.lst [.ref c,.int 0,.int 0]->Q (.ref f) d
def cI{a:r_ Int}(h:a.length<=63):Mc (a.map V.int) o_^P3 63=a.map V.int:=by
 have e:HT.sIx (a.map V.int).length (a.map V.int).length^P3 63=a.length:=by
  rw[show(63:Int)=(63:Nat)from rfl,HT.sIx_nat,Ev,Nat.min_eq_right h]
 unfold Mc;rw[HT.sIx_none]
 grind
def bj{P:gC}{w:gJ}{K:Frag}{J:Str->s_ Db}{u:gA}{C O:iD}{B:r_ iD}{f:Ch}{fd:gp}{D:r_ Str}{k n0:Nat}{T:AX}(F:Fun K "law" "law" C f fd)
  (S:A8 ("_law_script"::"_law_feed_here"::D) ["_law_script"]^AK C) (L:Aa C=O::B) (Y:n0<=2 ^ 60)
  (h1:∀(n:Db) (A:gX) (l:r_ Env) (s:No) (H:Hp) (E:XK),Room k^A.deeper^envOfC "law" (AK C) s.heap.objs.size f n->
   PS (C4 Eo P w K J u ("_law_script"::"_law_feed_here"::D) "law" (AK C) f n A l s H E).nox O (Lr (OR (KQ K) [] E0^OQ (BZ 0) P8)^Gd 1))
  (Z:∀(n:Db) (A:gX) (l:r_ Env) (s:No) (H:Hp) (E:XK),Room k^A.deeper^envOfC "law" (AK C) s.heap.objs.size f n->
   Mz (C4 Eo P w K J u ("_law_script"::"_law_feed_here"::D) "law" (AK C) f n A l s H E).nox .sh B T)
  (hW:T {nx:=λ_ _=>False,rt:=λd _=>d=.bl p_} #[n0,λ_=>o_] (.no::.fd::gq D.length .no)):FnOk P w K J u Eo (k+1) f fd ["_law_script"]^Lw K:=by
 refine F.ok S (λvs H Q E h=>?_) λn A l s H vs Q E U h=>?_
 .let#[a,M,rfl,_]:=h
  rfl
 .let#[a,M,rfl,#[W,hS],q]:=h
  let#[t,t1,t2]:=Z n A l s H E U;refine#[P7 (Lr (OR (KQ K) [] E0^OQ (BZ 0) P8)^Gd 1) t,by rw[L];exact Az (h1 n A l s H E U) t1,?_];refine#[_,rfl,a,M,rfl,#[W,hS],λc g I G hc X=>?_]
  have y:∀(i:Nat) (x:Slot),(Slot.no::Slot.fd::gq D.length Slot.no)[i]?=P3 x->Slot.no=x\/(Slot.fd=x/\i=1):=by
   intro i x m
   match i,m with
   |0,m=>exact .inl^XV m
   |1,m=>exact .inr #[XV m,rfl]
   |i+2,m=>
    rw[k7,k7,kz]at m
    split at m
    .exact .inl^XV m
    .cases m
  have R:Rel K #[λb=>b=g,P3 (g,c),λb=>b=g,λb=>b=g,I,[],[]] (λb=>b=g) I #[n0,λ_=>o_] (.no::.fd::gq D.length .no)^(start ("_law_script"::"_law_feed_here"::D) [V.ref a]).set 1^P3^.ref g:=by
   refine#[by simp[L2.start],λ_ z=>z,λb z=>#[_,(congrArg I z).trans X],Ext.refl _ _,λb z=>by rw[←XV z],λ_ z=>z,λ_ z=>z,#[λb z=>?_,λa c z=>by cases z],λi x m=>?_,λp N=>absurd N^by simp,λi d b m _=>?_,λi x b m o _=>?_,λi j x t b m o _ _ _ _=>?_,λp N=>absurd N^by simp]
   .have e:(g,c)=b:=XV z
    subst e;exact#[0,0,M,X,G,#[G,hc],W,by cbv,by show(0:Int)+(n0:Int)<=2 ^ 60;lk]
   .rcases y i x m with e|⟨e,rfl⟩
    .rw[←e];trivial
    .rw[←e]
     exact#[(g,c),by simp[L2.start],rfl]
   .rcases y i _ m with e|⟨e,_⟩ <;>cases e
   .rcases y i x m with e|⟨e,_⟩ <;>(rw[←e]at o;cases o)
   .rcases y i x m with e|⟨e,_⟩ <;>(rw[←e]at o;cases o)
  refine t2 _ _ I #[n0,λ_=>o_] _ _ {nx:=λ_ _=>False,rt:=λd _=>d=.bl p_} _ R #[λ_ _ _ _ _ _ z=>z.elim,λv H2 d n' _ _ r p=>?_,λ_ _ _ _ _ _ z=>z.elim,λ_ _ _ _ _ _ z=>z.elim] hW;have e:d=.bl p_:=p;subst e;have e2:v=.bl p_:=r;subst e2;exact q H2
end Dp
namespace L2
section
variable {X:Cx}
theorem Bn:∀{a:r_ Db}{b:r_ Str},StrsAre a b->Vals (b.map V.str) a
 |_,_,.nil=>.nil
 |_,_,.cons x t r=>.cons #[t,rfl]^Bn r
def R6(K:Frag):r_ V->Hp->VK->Prop:=λc H Q=>∃(p:Ch) (b:r_ Str),c=[.ref p]/\SqL K H p^b.map V.str/\b.length<64/\∀(a:r_ Str) (l:Ch),a.Perm b->sortedS a=p_->H l=o_->Q (.ref l)^AY H l^.lst^a.map V.str
def IU:CallR X (.builtin "sorted")^R6 X.K:=by
 intro x s y H A B Q I r h;let#[p,C,rfl,f,g,q]:=h;let#[u,rfl,i]:=vals1 r;cases i;let#[j,c,pl,D]:=I.list f;have a:=c.length;rw[Ev]at a;refine sorted_strs pl.isList (HU c) (by lk) λk l m d n=>?_;let#[e,t]:=sortedAll_at _ _ _;have v:=d.length_eq;have w:=I.hok.fresh^hZ _;refine#[.ref _,_,I.laid (λb o z=>sortedAll_old z) (hZ _) (show ObjOk _ _ _ _ _^.lst _ from#[?_,_,e,Bn m,?_]),rfl,q _ _ d n w]
 .grind
 .exact t
def Ws:R2:=λx y H Q=>∃z k,x=.str z/\y=.int k/\MulOk z k/\Q (.str^Txt.mul z k) H
def VL:OpR X (binaryOp .Mult) Ws:=by
 intro e s f H x y v u Q I a b h;let#[z,k,rfl,rfl,c,q]:=h;let#[t,rfl]:=a;let#[d,rfl]:=b;exact SB.mul c λd k=>#[.str _,H,I.tok _,#[_,rfl],q]
end
end L2
namespace Dp
open L2
section
variable {K:Frag}
def K_(b:r_ D)(P:D->Prop):Prop:=match b with
 |[.lst a]=>P^.tup a
 |[.tup a]=>P^.tup a
 |_=>False
def UR:Bc K .sh (λj H Q=>∃p d,j=[.ref p]/\((SqL K H p d/\∀l,H l=o_->Q (.ref l)^AY H l^.tup d)\/(SqT K H p d/\Q (.ref p) H))) K_:=by
 intro U M H k m P Q e n h w q;unfold K_ at w
 split at w
 .let#[v,rfl,f]:=Bk h
  let#[a,b,rfl,_,c,g]:=f;exact#[a,b,rfl,.inl #[.inl c,λl i=>q _ _ (.tup _) (AU i) (Cd e i g) w]]
 .let#[v,rfl,f]:=Bk h
  let#[a,b,rfl,c,g]:=f.tup;exact#[a,b,rfl,.inr #[c.sq,q _ H (.tup _) .refl #[a,b,rfl,c,g] w]]
 grind
theorem Ats.strs{M:Ch->Prop}{H:Hp}:∀{a:r_ Str},(∀x∈a,x.length<=sizeLine)->Ats K M H (a.map D.str)^a.map V.str
 |[],_=>rfl
 |x::r,h=>#[_,_,rfl,#[rfl,h x Op],Ats.strs λy b=>h y^T0 _ b]
theorem Ats.strs_le{M:Ch->Prop}{H:Hp}:∀{b:r_ Str}{c:r_ V},Ats K M H (b.map D.str) c->∀x∈b,x.length<=sizeLine
 |[],_,_=>λx a=>by cases a
 |y::r,c,h=>λx a=>by
  let#[v,t,e,d,f]:=h
  rcases Tk.mp a with rfl|a
  .exact d.2
  .exact Ats.strs_le f x a
def ZM(d:r_ D)(P:D->Prop):Prop:=∃(c:r_ D) (b:r_ Str),d=[.lst c]/\N9 c=P3 b/\b.length<64/\∀a:r_ Str,a.Perm b->sortedS a=p_->P^.lst^a.map .str
theorem Pj:∀{c:r_ D}{a:r_ Str},N9 c=P3 a->c=a.map .str
 |[],a,h=>by cases h;rfl
 |.str b::r,a,h=>by
  let#[t,e,rfl]:=gY.mp h;rw[gQ,←Pj e]
 |.non::r,a,h=>by cases h
 |.int _::r,a,h=>by cases h
 |.bl _::r,a,h=>by cases h
 |.tup _::r,a,h=>by cases h
 |.lst _::r,a,h=>by cases h
 |.dic _ _::r,a,h=>by cases h
 |.fdi _ _::r,a,h=>by cases h
 |.dit _ _::r,a,h=>by cases h
 |.ob _::r,a,h=>by cases h
def Pm:Bc K .fr (R6 K) ZM:=by
 intro U M H p r P Q h s i w q;let#[t,j,rfl,e,b,w]:=w;let#[v,rfl,c]:=Bk i;let#[a,u,rfl,_,k,d]:=c
 have:=Ph e d
 subst this;have m:=Pj e;subst m;exact#[a,j,rfl,.inl k,b,λn l f o g=>q _ _ _ (AU g) (BL g^Ats.strs λx c=>d.strs_le x^f.mem_iff.mp c)^w _ f o]
def XI(d e:D)(P:D->Prop):Prop:=match d,e with
 |.int i,.int j=>CMul i j/\P^.int (i*j)
 |.str z,.int k=>MulOk z k/\(Txt.mul z k).length<=sizeLine/\P^.str^Txt.mul z k
 |_,_=>False
def Wv:R2:=λx y H Q=>(rI CMul λi j=>.int (i*j)) x y H Q\/Ws x y H Q
def Kk{X:Cx}:OpR X (binaryOp .Mult) Wv:=op_mul.or VL
def OB:C6 K .sh Wv XI:=λU M H d e x y P Q a f b c w q=>by
 unfold XI at w
 split at w
 .exact .inl^Ig U M H _ _ x y P Q a f b c w q
 .rename_i z k
  exact .inr #[z,k,b.1,c,w.1,q _ H (.str _) .refl #[rfl,w.2.1] w.2.2]
 grind
end
section
variable {X:Cx}{tg e e2:Expr}{es:r_ Expr}{ws:C7}{p pos:Pos}
def aG(ws:C7):C7:=λn a P=>ws n a λb c=>∃i j:Int,b=[.int i,.int j]/\(-(2 ^ 62)<=i/\i<2 ^ 62/\-(2 ^ 62)<=j/\j<2 ^ 62)/\P (DC i (j - i).toNat) c
def Qu(d:Gl X "range")(f:X.mg "range"=o_)(g:WU X [e,e2] ws)(h:starEach [e,e2] X.env=[(q_,eval e X.env),(q_,eval e2 X.env)]:=by rfl)(a:starEach [e2] X.env=[(q_,eval e2 X.env)]:=by rfl):DI X tg (.Call (.Name "range" p) [e,e2] [] pos)^aG ws:=by
 let#[t,k,l]:=g;refine#[_,QI d f k h a,λC M H n m o P B R w q=>?_];refine l C M H n m o _ _ R w λD H1 E s u v x p=>?_;let#[i,j,rfl,y,p]:=p;cases x with
 | cons r b=>
  cases b with
  |cons z b=>
   cases b;have A:=r;have c:=z;exact#[i,j,by rw[A,c],y,q _ H1 _ s u v FK p]
def c5(X:Cx)(i:r_ gI)(b:r_ D->r_ Slot->(r_ Slot->Prop)->Prop):Prop:=∃g,cu X i g/\∀(C:Fm) (M:Ch->Prop) (H:Hp) (n:Sg) (a:r_ Slot) (c:L2.St) (d:r_ D) (e:r_ V) (P:r_ Slot->Prop) (Q:L2.St->Hp->Prop),Rel X.K C M H n a c->Ats X.K M H d e->b d a P->
 (∀f h,Rel X.K C M H n f h->P f->Q h H)->g e c H Q
def Ml:r_ D->r_ Slot->(r_ Slot->Prop)->Prop:=λa b P=>a=[]/\P b
def Dt(b:BW)(bs:r_ D->r_ Slot->(r_ Slot->Prop)->Prop):r_ D->r_ Slot->(r_ Slot->Prop)->Prop:=λa c P=>match a with
 |d::r=>b d c λe=>bs r e P
 |[]=>False
def Fe:c5 X [] Ml:=#[_,Oo,λC M H n a b c d P Q R h w q=>by
 let#[rfl,w]:=w;exact#[h,q a b R w]]
def Ba{b:BW}{bs:r_ D->r_ Slot->(r_ Slot->Prop)->Prop}(h1:DG X e b)(c:c5 X es bs)(f:(assignEach (e::es) X.env).map (·.2)=assign e X.env::(assignEach es X.env).map (·.2):=by rfl):c5 X (e::es)^Dt b bs:=by
 let#[g,i,j]:=h1;let#[z,k,l]:=c;refine#[_,FP i k f,λC M H n m o s A P Q R h w q=>?_];cases s with
 |nil=>exact w.elim
 |cons d r=>
  let#[v,a,e,t,u]:=h;exact#[v,a,e,j C M H n m o d v _ _ R t w λB E x y=>l C M H n _ _ r a _ _ x u y q]
def Q0(k:Nat)(bs:r_ D->r_ Slot->(r_ Slot->Prop)->Prop):BW:=λd b P=>match d with
 |.tup a=>a.length=k/\bs a b P
 |_=>False
def ZZ{bs:r_ D->r_ Slot->(r_ Slot->Prop)->Prop}{k:Nat}{j:Nat}(f:X.calm=p_)(h:c5 X es bs)(i:(assignEach es X.env).length=k:=by rfl)(b:(assignEach es X.env).findIdx? (·.1)=o_:=by rfl):DG X (.Tuple es j pos)^Q0 k bs:=by
 let#[g,l,m]:=h;refine#[_,SV f l i b,λC M H n o r d v P Q R h w q=>?_];cases d with
 |tup s=>
  let#[a,c,rfl,t,e]:=h;exact#[a,c,rfl,t.sq,by rw[e.length];exact w.1,m C M H n o r s c P Q R e w.2 q]
 |_=>exact w.elim
def X1(c:DW)(b:BW):AX:=λe n a=>c n a λd f=>b d a λg=>e.nx f g
def Tx{k a:Kd}{c:DW}{b:BW}(l:DE X e a c)(m:DG X tg b)(o:a≠.tp:=by intro z;cases z)(q:swapsWithSole [tg] e pos.line X.env=pure q_:=by rfl)(r:swappedStores [tg] e X.env=pure o_:=by rfl)
  (h1:(assignEach [tg] X.env).map (·.2)=[assign tg X.env]:=by rfl):DS X k (.Assign [tg] e pos)^X1 c b:=by
 let#[t,s,u]:=l;let#[g,x,y]:=m;exact#[_,Kh s x q r h1,λC M H n f h I E R L w=>u C M H n f h _ _ R w λv i d j A B D p=>y C M i j f h d v _ _ (R.step A B) (D.shOf R.dom o) p λJ K F G=>L.nx M i j _ _ F G]
end
end Dp
namespace L2
mutual
def RV(H:Hp):je->V->Prop
 |.none,v=>v=.non
 |.bool b,v=>v=.bl b
 |.int i,v=>v=.int i
 |.str x,v=>v=.str x
 |.tuple xs,v=>∃a vs,v=.ref a/\H a=P3^.tup vs/\RVs H xs vs
 |.list xs,v=>∃a vs,v=.ref a/\Rd H a^.lst vs/\RVs H xs vs
 |.dict _,_=>False
def RVs(H:Hp):r_ je->r_ V->Prop
 |[],vs=>vs=[]
 |x::xs,vs=>∃v r,vs=v::r/\RV H x v/\RVs H xs r
end
section
variable {X:Cx}{zF:r_ (Addr×Obj)}{σ:L2.St}{H:Hp}{s:Shared}
mutual
theorem RV.reads(I:Inv X zF σ H s):∀{d:je}{v:V}{u:Db},RV H d v->RelV v u->∃as,Reads s.heap u d as
 |.none,v,u,h,r=>by
  cases(show v=.non from h);cases(show u=gW from r);exact#[_,.none]
 |.bool b,v,u,h,r=>by
  cases(show v=.bl b from h);cases(show u=jx b from r);exact#[_,.bool b]
 |.int i,v,u,h,r=>by
  cases(show v=.int i from h);let#[t,rfl]:=r;exact#[_,.int i t]
 |.str x,v,u,h,r=>by
  cases(show v=.str x from h);let#[t,rfl]:=r;exact#[_,.str x t]
 |.tuple xs,v,u,h,r=>by
  let#[a,vs,rfl,hq,hs]:=h;cases r;let#[its,rv,#[o,e,c,n,d],_]:=I.tuple (X:=X) (xs:=vs)^.inl^.inl hq;let#[as,ra]:=RVs.reads I hs rv;exact#[_,.tuple e c d ra]
 |.list xs,v,u,h,r=>by
  let#[a,vs,rfl,hq,hs]:=h;cases r;let#[its,rv,pl,_]:=I.list (X:=X) (xs:=vs)^.inl hq;let#[o,e,c,n,d]:=pl.isList;let#[as,ra]:=RVs.reads I hs rv;exact#[_,.list e c d ra]
 |.dict _,v,u,h,r=>h.elim
theorem RVs.reads(I:Inv X zF σ H s):∀{ds:r_ je}{vs:r_ V}{us:r_ Db},RVs H ds vs->Vals vs us->∃as,ReadsAll s.heap us ds as
 |[],vs,us,h,r=>by
  cases(show vs=[]from h);cases r;exact#[_,.nil]
 | d::ds,vs,us,h,r=>by
  let#[v,w,rfl,h1,h2]:=h;cases r with
  |cons r1 r2=>
   let#[as,a1]:=RV.reads I h1 r1;let#[bs,a2]:=RVs.reads I h2 r2;exact#[_,.cons a1 a2]
end
end
theorem RV.noDict{H:Hp}:∀(d:je) (v:V),RV H d v->d.hasDict=q_
 | d,v,h=>by
  have go:∀(n:Nat),(∀(d:je) (v:V),sizeOf d<=n->RV H d v->d.hasDict=q_)/\∀(c:r_ je) (e:r_ V),sizeOf c<=n->RVs H c e->mZ c=q_:=by
   intro n
   induction n with
   |zero=>
    refine#[λd v h _=>?_,λc e h _=>?_]
    .cases d <;>simp at h
    .cases c <;>simp at h
   | succ n j=>
    refine#[λd v h f=>?_,λc e h f=>?_]
    .cases d with
     |tuple g=>
      let#[a,e,_,_,k]:=f;simp only[kH]
      grind
     |list g=>
      let#[a,e,_,_,k]:=f;simp only[kH]
      grind
     |dict l=>exact(show False from f).elim
     |none=>simp only[kH]
     |bool b=>simp only[kH]
     |int i=>simp only[kH]
     |str x=>simp only[kH]
    .cases c with
     |nil=>simp only[mZ]
     |cons x g=>
      let#[v,w,_,m,o]:=f;simp only[mZ,j.1 x v (by simp at h;lk) m,j.2 g w (by simp at h;lk) o,Bool.or_false]
  exact(go^sizeOf d).1 d v (Rs _) h
section
variable {X:Cx}
def Wq:r_ V->Hp->VK->Prop:=λa H Q=>∃x d,a=[x]/\RV H d x/\d.showable=p_/\d.depth<=100/\d.shown.length<=sizeLine/\Q (.str d.shown) H
def Ec{k:Nat}(g:Room k X.A):CallR X (.builtin "repr") Wq:=by
 intro B s C H D E Q I r h;let#[x,d,rfl,c,j,F,l,q]:=h;let#[u,rfl,f]:=vals1 r;have G:=g.un;cases d with
 |none=>
  cases(show x=.non from c);cases(show u=gW from f);exact PySem.P.repr_of_none #[.str _,H,I.tok _,#[_,rfl],q]
 |bool b=>
  cases(show x=.bl b from c);cases(show u=jx b from f);refine PySem.P.repr_of_bool #[.str _,H,I.tok _,#[_,rfl],?_]
  assumption
 |int i=>
  cases(show x=.int i from c);let#[t,rfl]:=f;refine PySem.P.repr_of_int (by simpa [PyData.showable]using j) #[.str _,H,I.tok _,#[_,rfl],q]
 |str z=>
  cases(show x=.str z from c);let#[t,rfl]:=f;exact PySem.P.repr_of_str #[.str _,H,I.tok _,#[_,rfl],q] l
 |tuple p=>
  let#[v,m]:=RV.reads I c f;let#[a,w,rfl,_]:=id c;cases f;refine repr_of_reads' m j (PyData.noDict_hsm^RV.noDict _ _ c) g.gd (by lk) (λ_ _ e=>e) (λy u n o=>#[.str _,H,I.kept (t':=n) o,#[_,rfl],q]) l
 |list p=>
  let#[v,m]:=RV.reads I c f;let#[a,w,rfl,_]:=id c;cases f;refine repr_of_reads' m j (PyData.noDict_hsm^RV.noDict _ _ c) g.gd (by lk) (λ_ _ e=>e) (λy u n o=>#[.str _,H,I.kept (t':=n) o,#[_,rfl],q]) l
 |dict _=>exact(show False from c).elim
def bE:R2:=λx y H Q=>∃d e,RV H d x/\RV H e y/\d.canLay0=p_/\e.canLay0=p_/\d.depth<=100/\Q (.bl^ir d e) H
def Ys{k:Nat}(a:Room k X.A):OpR X (compareOp .Eq) bE:=by
 intro n s o H x y v u Q I b c h;let#[d,e,f,g,i,j,p,q]:=h;let#[r,l]:=RV.reads I f b;let#[t,m]:=RV.reads I g c;have w:=a.un;have z:min _ e.depth<=d.depth:=Nat.min_le_left _ _;exact PySem.SeqAt.compareEq_reads l m i j (by lk) #[.bl _,H,I,rfl,q]
def YT(b:Bool):R2:=λx y H Q=>∃d a,RV H d x/\(RV H (.list a) y\/RV H (.tuple a) y)/\d.canLay0=p_/\iy a=p_/\d.depth<=100/\Q (.bl (if b then !(a.any λy=>ir y d)else a.any λy=>ir y d)) H
def Kl{k:Nat}(i:Room k X.A):OpR X (compareOp .In)^YT q_:=by
 intro o s p H x y v u Q I j c h;let#[d,l,m,a,e,f,r,q]:=h;let#[t,g]:=RV.reads I m j;have w:=i.un;have z:min (iQ l) _<=d.depth:=kN _ _
 rcases a with a|a
 .let#[n,b]:=RV.reads I a c
  exact PySem.SeqAt.in_list_reads b g f e (by lk) #[.bl _,H,I,rfl,q]
 .let#[n,b]:=RV.reads I a c
  exact PySem.SeqAt.in_tuple_reads b g f e (by lk) #[.bl _,H,I,rfl,q]
def B3{k:Nat}(i:Room k X.A):OpR X (compareOp .NotIn)^YT p_:=by
 intro o s p H x y v u Q I j c h;let#[d,l,m,a,e,f,r,q]:=h;let#[t,g]:=RV.reads I m j;have w:=i.un;have z:min (iQ l) _<=d.depth:=kN _ _
 rcases a with a|a
 .let#[n,b]:=RV.reads I a c
  exact PySem.SeqAt.notIn_list_reads b g f e (by lk) #[.bl _,H,I,rfl,q]
 .let#[n,b]:=RV.reads I a c
  exact PySem.SeqAt.notIn_tuple_reads b g f e (by lk) #[.bl _,H,I,rfl,q]
end
end L2
namespace Dp
open L2
mutual
def toPy:D->je
 |.non=>.none
 |.bl b=>.bool b
 |.int i=>.int i
 |.str x=>.str x
 |.tup ds=>.tuple^BO ds
 |.lst ds=>.list^BO ds
 |.dic _ _=>.dict []
 |.fdi _ _=>.dict []
 |.dit _ _=>.dict []
 |.ob _=>.dict []
def BO:r_ D->r_ je
 |[]=>[]
 |d::ds=>toPy d::BO ds
end
mutual
def Ek:D->Bool
 |.tup ds=>Cz ds
 |.lst ds=>Cz ds
 |.dic _ _=>q_
 |.fdi _ _=>q_
 |.dit _ _=>q_
 |.ob _=>q_
 |_=>p_
def Cz:r_ D->Bool
 |[]=>p_
 |d::ds=>Ek d&&Cz ds
end
def B0(a:r_ D):BO a=a.map toPy:=by
 induction a with
 |nil=>rfl
 |cons d r b=>rw[BO,b,gQ]
section
variable {K:Frag}{M:Addr->Prop}{H:Hp}
mutual
theorem At.rv:∀{d:D}{v:V},At K M H d v->Ek d=p_->RV H (toPy d) v
 |.non,v,h,_=>h
 |.bl b,v,h,_=>h
 |.int i,v,h,_=>h
 |.str x,v,h,_=>h.1
 |.tup ds,v,h,n=>by
  let#[a,vs,e,hn,hs]:=h;exact#[a,vs,e,hn,Ats.rv hs n]
 |.lst ds,v,h,n=>by
  let#[a,vs,e,hn,hs]:=h;exact#[a,vs,e,.inl hn.2,Ats.rv hs n]
 |.dic ks ds,v,h,n=>by cases n
 |.fdi ks ds,v,h,n=>by cases n
 |.dit ks ds,v,h,n=>by cases n
 |.ob _,v,h,n=>by cases n
theorem Ats.rv:∀{ds:r_ D}{vs:r_ V},Ats K M H ds vs->Cz ds=p_->RVs H (BO ds) vs
 |[],vs,h,_=>h
 |d::ds,vs,h,n=>by
  let#[v,r,e,h1,h2]:=h;have n':(Ek d&&Cz ds)=p_:=n;rw[gS]at n';exact#[v,r,e,At.rv h1 n'.1,Ats.rv h2 n'.2]
end
def AtT.rv{U:Ch->Prop}{d:D}{v:V}(h:AtT K U M H d v)(n:Ek d=p_):RV H (toPy d) v:=by
 cases d with
 |lst c=>
  let#[a,g,e,_,j,k]:=h;exact#[a,g,e,j,Ats.rv k n]
 |dic f c=>cases n
 |fdi f c=>cases n
 |dit f c=>cases n
 |ob a=>cases n
 |non=>exact h
 |bl b=>exact h
 |int i=>exact h
 |str x=>exact h.1
 |tup c=>exact At.rv h n
def Lx(d:D):Prop:=Ek d=p_/\(toPy d).showable=p_/\(toPy d).depth<=100/\(toPy d).shown.length<=sizeLine
def Rc(d:D):Str:=(toPy d).shown
def FZ(a:r_ D)(P:D->Prop):Prop:=∃d,a=[d]/\Lx d/\P^.str^Rc d
def LS:Bc K .sh Wq FZ:=by
 intro U M H f g P Q b h c w q;let#[d,rfl,a,w]:=w;let#[v,rfl,e]:=Bk c;exact#[v,_,rfl,e.rv a.1,a.2.1,a.2.2.1,a.2.2.2,q _ H (.str _) .refl #[rfl,a.2.2.2] w]
def Bv(d:D):Prop:=Ek d=p_/\(toPy d).canLay0=p_/\(toPy d).depth<=100
def Dy(d e:D):Bool:=ir (toPy d)^toPy e
def eQ(d e:D)(P:D->Prop):Prop:=Bv d/\Bv e/\P^.bl^Dy d e
def cS:C6 K .sh bE eQ:=λU M H d e x y P Q a f b c w q=>
 #[_,_,b.rv w.1.1,c.rv w.2.1.1,w.1.2.1,w.2.1.2.1,w.1.2.2,q _ H (.bl _) .refl rfl w.2.2]
def KS:D->s_^r_ D
 |.lst a=>P3 a
 |.tup a=>P3 a
 |_=>o_
def ZP(a:Bool)(d e:D)(P:D->Prop):Prop:=Bv d/\Bv e/\∃b,KS e=P3 b/\P^.bl (if a then !(b.any λy=>Dy y d)else b.any λy=>Dy y d)
def EL{c:Bool}:C6 K .sh (YT c)^ZP c:=λU M H d e x y P Q k m i j w q=>by
 let#[b,f,g,h,w]:=w;have a:∀g:r_ D,(g.map _).any (λy=>ir y _)=g.any λy=>Dy y d:=λg=>by rw[List.any_map];rfl
 cases e with
 |lst l=>
  cases h;exists _,_,i.rv b.1,.inl^j.rv f.1,b.2.1,by simpa [toPy,PyData.canLay0]using f.2.1,b.2.2;rw[B0,a];exact q _ H (.bl _) .refl rfl w
 |tup l=>
  cases h;exists _,_,i.rv b.1,.inr^j.rv f.1,b.2.1,by simpa [toPy,PyData.canLay0]using f.2.1,b.2.2;rw[B0,a];exact q _ H (.bl _) .refl rfl w
 |_=>cases h
def eO(d e:D)(P:D->Prop):Prop:=Bv d/\Bv e/\P^.bl (!Dy d e)
end
end Dp
namespace L2
def aw:R2:=λx y H Q=>∃d e,RV H d x/\RV H e y/\d.canLay0=p_/\e.canLay0=p_/\d.depth<=100/\Q (.bl (!PyData.eqv d e)) H
def Ym{X:Cx}{k:Nat}(a:Room k X.A):OpR X (compareOp .NotEq) aw:=by
 intro n s o H x y v u Q I b c h;let#[d,e,f,g,i,j,p,q]:=h;let#[r,l]:=RV.reads I f b;let#[t,m]:=RV.reads I g c;have w:=a.un;have z:min _ e.depth<=d.depth:=Nat.min_le_left _ _;exact PySem.SeqAt.compareNe_reads l m i j (by lk) #[.bl _,H,I,rfl,q]
end L2
namespace Dp
open L2
def cM{K:Frag}:C6 K .sh aw eO:=λU M H d e x y P Q a f b c w q=>
 #[_,_,b.rv w.1.1,c.rv w.2.1.1,w.1.2.1,w.2.1.2.1,w.1.2.2,q _ H (.bl _) .refl rfl w.2.2]
end Dp
namespace L2
def kOf:Key->V
 |.inl i=>.int i
 |.inr x=>.str x
def Z8:Key->Key->Bool
 |.inl i,.inl j=>decide (i<j)
 |.inr x,.inr y=>decide (x.cps.toList<y.cps.toList)
 |_,_=>q_
def GP:Key->Key->Bool
 |.inl _,.inl _=>p_
 |.inr _,.inr _=>p_
 |_,_=>q_
def CD:r_ Key->r_ Key->Bool
 |[],[]=>q_
 |[],_::_=>p_
 |_::_,[]=>q_
 |x::a,y::b=>if x=y then CD a b else Z8 x y
def A_:r_ Key->r_ Key->Bool
 |x::a,y::b=>GP x y&&A_ a b
 |_,_=>p_
def MV{A:gX}{s:No}{x y:Key}{u v:Db}(a:RelV (kOf x) u)(b:RelV (kOf y) v):∃e,SeqAt.EqAt A s u v e/\(e=p_↔x=y):=by
 cases x with
 |inl i=>
  cases y with
  |inl j=>exact#[_,LC a b rfl rfl,by simp[kOf,cB]]
  |inr z=>exact#[_,LC a b rfl rfl,by simp[kOf,cB]]
 |inr z=>
  cases y with
  |inl j=>exact#[_,LC a b rfl rfl,by simp[kOf,cB]]
  |inr c=>exact#[_,LC a b rfl rfl,by simp[kOf,cB]]
def Rq(A:gX)(s:No){x y:Key}{u v:Db}(b:RelV (kOf x) u)(c:RelV (kOf y) v)(d:GP x y=p_)(a:gC)(w:gJ)(E:Db->No->Prop)(Q:Db->No->Prop)(h:Q (.bool^Z8 x y) s):
  wpAny (model a w) A (richCompare .Lt u v) Q E s:=by
 cases x with
 | inl i=>
  cases y with
  |inl j=>
   let#[t,rfl]:=b;let#[e,rfl]:=c;exact nO h
  |inr z=>cases d
 | inr z=>
  cases y with
  |inl j=>cases d
  |inr f=>
   let#[t,rfl]:=b;let#[e,rfl]:=c;exact PySem.P.lt_str h
section
open PySem.SeqAt
open PySem.AutoSeq1 (wpAny_loadPart')
open PySem.MeetsSeq PySem.MeetsSeq2 PySem.MeetsSeq3
def Eg(l b:Ch)(items items2:Array Db)(n n2:Nat)(dd dd2:s_ Ch)(sl sl2:Array^s_ Db)(ns ms:r_ Key)(hi:Vals (ns.map kOf) items.toList)(hj:Vals (ms.map kOf) items2.toList)(hsame:A_ ns ms=p_):
  Meets (iq.«tuple.__lt__» #[[.ref l,.ref b],[]])
   (λ_ R s=>s.heap.get? l=P3 {cls:=.type "tuple",dict:=dd,data:=.seq items n,slots:=sl}/\s.heap.get? b=P3 {cls:=.type "tuple",dict:=dd2,data:=.seq items2 n2,slots:=sl2} /\
    R (.ok^.ret^.bool^CD ns ms) s):=
 .of_wp λprog w A R s h=>by
  let#[hp,g,d,tk,os]:=s;let#[hl,hb,h]:=h
  have f2:=nA;have z1:items.size=ns.length:=by have:=hi.length;rw[Ev]at this;rw[this];simp
  have z2:items2.size=ms.length:=by have:=hj.length;rw[Ev]at this;rw[this];simp
  wp_walk using h9 hl,h9 hb,wpAny_forIn_list _ (λrest b s'=>b.1=o_/\s'=#[hp,g,d,tk,os]/\∃(vs ws:r_ Db) (ns' ms':r_ Key),rest=vs.zip ws /\
   Vals (ns'.map kOf) vs/\Vals (ms'.map kOf) ws/\A_ ns' ms'=p_/\ns'.length+items2.size=ms'.length+items.size/\R (.ok^.ret^.bool^CD ns' ms') #[hp,g,d,tk,os]) _
  case turn=>
   rintro⟨y,x⟩ rest b s' ⟨hb',rfl,vs,ws,ns',ms',hz,hvi,hwi,hsm,hlen,hR⟩;cases ns' with
   |nil=>cases hvi;rw[md]at hz;cases hz
   | cons a ns'=>
    cases ms' with
    |nil=>cases hwi;rw[mM]at hz;cases hz
    | cons c ms'=>
     rw[gQ]at hvi hwi;cases hvi with
     | cons ra hvi'=>
      cases hwi with
      | cons rc hwi'=>
       rw[ik]at hz;injection hz with hyx hrest
       injection hyx with hy hx
       subst hy hx;have hR':R (.ok^.ret^.bool (if a=c then CD ns' ms' else Z8 a c)) #[hp,g,d,tk,os]:=hR;have hsm':(GP a c&&A_ ns' ms')=p_:=hsm;rw[gS]at hsm';simp only[gG]at hlen;let#[e,he,hiff]:=MV (A:=A.in1) (s:=#[hp,g,d,tk,os]) ra rc;refine Cn^he prog w _ _ ?_;cases e with
       |true=>
        rw[if_pos (hiff.mp rfl)]at hR'
        wp_walk
        exact#[rfl,rfl,_,_,_,_,hrest,hvi',hwi',hsm'.2,by lk,hR']
       |false=>
        rw[if_neg λq=>absurd (hiff.mpr q) gE]at hR';have hri:=Rq A.in1 #[hp,g,d,tk,os] ra rc hsm'.1 prog w
        wp_walk using hri
        exact#[_,rfl,by simpa using hR']
  case fin=>
   rintro⟨b1,b2⟩ s' ⟨hb',rfl,vs,ws,ns',ms',hz,hvi,hwi,hsm,hlen,hR⟩;simp only at hb';subst hb'
   have hv:CD ns' ms'=decide (items.size<items2.size):=by
    cases ns' with
    | nil=>
     cases ms' with
     |nil=>
      simp only[hG]at hlen;exact(decide_eq_false^by lk).symm
     |cons c u=>
      simp only[hG,gG]at hlen;exact(decide_eq_true^by lk).symm
    | cons a t=>
     cases ms' with
     |nil=>
      simp only[hG,gG]at hlen;exact(decide_eq_false^by lk).symm
     |cons c u=>
      rw[gQ]at hvi hwi;cases hvi;cases hwi;rw[ik]at hz;cases hz
   rw[hv]at hR
   wp_walk
   exact#[_,rfl,by simpa [lW]using hR]
  case h=>
   exact#[rfl,rfl,items.toList,items2.toList,ns,ms,rfl,hi,hj,hsame,by lk,h]
end
section
variable {X:Cx}
def ay(K:Frag):R2:=λx y H Q=>∃a b c d,x=.ref a/\y=.ref b/\SqT K H a^c.map kOf/\SqT K H b^d.map kOf/\A_ c d=p_/\Q (.bl^CD c d) H
def Yo(m:X.A.units<cLine):OpR X (compareOp .Lt)^ay X.K:=by
 intro S s T H x y v u Q I o p h;let#[a,b,r,t,rfl,rfl,w,z,d,q]:=h;cases o;cases p;let#[B,C,D,_]:=I.tuple w;let#[i,E,G,_]:=I.tuple z;let#[#[J,dd,j,L],k,M,n,N]:=id D;let#[#[l,O,e,P],c,f,R,g]:=id G;subst M N f g
 exact lE (op:=.Lt) #[_,k,rfl] #[_,c,rfl] PySem.F.slot_tuple_lt PySem.F.entry_tuple_lt (PySem.F.args_tuple_lt_2 _ _) (Eg a b _ _ n R dd _ L _ r t C E d)
  #[k,c,#[(λx=>nomatch x),#[.bl _,H,I,rfl,q]]] m
end
def ItAt(b:Bool)(h:gA)(a l:Ch)(k:Nat):Prop:=match b with
 |true=>h.IsListIter a l k
 |false=>h.IsTupleIter a l k
def SqAt(b:Bool)(h:gA)(l:Ch)(a:Array Db):Prop:=match b with
 |true=>h.IsList l a
 |false=>h.IsTuple l a
section
variable {κ:Bool}{h h':Heap}{it l b:Addr}{k:Nat}{items:Array Value}
def ItAt.mv(x:ItAt κ h it l k)(e:∀o,h.get? it=P3 o->h'.get? it=P3 o):ItAt κ h' it l k:=by
 cases κ with
 |true=>let#[o,a,r]:=x;exact#[o,e o a,r]
 |false=>let#[o,a,r]:=x;exact#[o,e o a,r]
def SqAt.mv(x:SqAt κ h l items)(e:∀o,h.get? l=P3 o->h'.get? l=P3 o):SqAt κ h' l items:=by
 cases κ with
 |true=>let#[o,a,r]:=x;exact#[o,e o a,r]
 |false=>let#[o,a,r]:=x;exact#[o,e o a,r]
def ItAt.eb(x:ItAt κ h it l k)(a:nP b h h')(n:it≠b):ItAt κ h' it l k:=x.mv λo e=>a it o n e
def SqAt.eb(x:SqAt κ h l items)(a:nP b h h')(n:l≠b):SqAt κ h' l items:=x.mv λo e=>a l o n e
def ItAt.lies(x:ItAt κ h it l k):∃o,h.get? it=P3 o/\∀v,o.data≠.cell v:=by
 cases κ with
 |true=>let#[o,a,_,d]:=x;simp_all
 |false=>let#[o,a,_,d]:=x;simp_all
def SqAt.lies(x:SqAt κ h l items):∃o,h.get? l=P3 o:=by
 cases κ with
 |true=>let#[o,a,_]:=x;grind
 |false=>let#[o,a,_]:=x;grind
end
section
variable {prog:Program}{w:World}{A:Around}{E:Value->Shared->Prop}{s:Shared}
def Ea{f:Bool}{c l:Ch}{i:Nat}{a:Array Db}{x:Db}{Q:Db->No->Prop}(d:ItAt f s.heap c l i)(n:SqAt f s.heap l a)(p:a[i]?=P3 x)
  (q:∀h,ItAt f h c l (i+1)->jB c s.heap h->Q x {s with heap:=h}):wpAny (model prog w) A (iM^.ref c) Q E s:=by
 cases f with
 |true=>exact wpAny_nextOf_list_item d n p q
 |false=>
  have b:s.heap.IsTupleIter c l i:=d;have j:s.heap.IsTuple l a:=n;let#[o,g,t,e]:=id b;let#[u,k,_,v,m]:=j
  unfold iM;refine Cn^h_ (name:=g_ "__next__") b.typeIs jb^iV jb b.typeIs mN ?_^mC _;show wpAny (model prog w) _ (field (.ref c) 0 >>=_) _ _ s;refine Cn (iC g e (x:=.ref l) rfl ?_)
  show wpAny (model prog w) _ (if(ZB l==gW)=p_ then _ else _) _ _ s;rw[if_neg (show ¬((ZB l==gW)=p_)from gE)]
  show wpAny (model prog w) _ (field (.ref c) 1 >>=_) _ _ s;refine Cn (iC g e (x:=.int i 0) rfl ?_)
  show wpAny (model prog w) _ (seqItems?^.ref l >>=_) _ _ s;refine Cn^iY k m ?_;simp only[jF,p]
  refine Cn^jm g e (by simp)^On #[x,rfl,On^q _ (show Heap.IsTupleIter _ c l (i+1)from ?_) (jN ..)];exact#[_,g8 _ g^lQ^jV e _,(Obj.cls_mapFields ..).trans t,by(rw[jV e];simp[rawInt])]
def Fd{g:Bool}{f l:Ch}{i:Nat}{b:Array Db}{Q:Db->No->Prop}(r:A.handled=o_)(d:ItAt g s.heap f l i)(t:SqAt g s.heap l b)(u:b[i]?=o_)
  (v:∀h e,nP f s.heap h->(∃o,h.get? e=P3 o/\o.cls=.type "StopIteration")->E (.ref e) {s with heap:=h}):wpAny (model prog w) A (iM^.ref f) Q E s:=by
 cases g with
 |true=>exact wpAny_nextOf_list_end r d t u v
 |false=>
  have c:=d;have j:s.heap.IsTuple l b:=t;let#[o,k,z,n]:=id c;let#[B,p,_,C,q]:=j
  refine Cn^h_ c.typeIs jb^iV jb c.typeIs mN ?_^mC _;show wpAny (model prog w) _ (field (.ref f) 0 >>=_) _ _ s;refine Cn (iC k n (x:=.ref l) rfl ?_)
  refine Cn (iC k n (x:=.int i 0) rfl ?_);refine Cn^iY p q ?_;simp only[jF,u]
  refine Cn^kr^Cn^jm k n (by simp) ?_;refine Cn ?_;refine Cn (m:=firstArgMember _ _)^mH (a:=gW) (by first|rfl|omega) ?_;refine iH ?_^by size_fits
  simp only[raiseNew];refine Cn^wpAny_handled ?_;first|grind|rw[r]
  refine Cn^On^wpAny_throw ?_;exact v _ _ (((jN ..).extBut.push _).push _) #[_,Sc _ rfl,rfl]
structure Z9 (z TI TO i1 i2 l1 l2:Ch):Prop where
 TIz:TI≠z
 TOz:TO≠z
 i1z:i1≠z
 i2z:i2≠z
 TOi1:TO≠i1
 TOi2:TO≠i2
 i12:i1≠i2
 l1z:l1≠z
 l1TO:l1≠TO
 l1i1:l1≠i1
 l1i2:l1≠i2
 l2z:l2≠z
 l2TO:l2≠TO
 l2i1:l2≠i1
 l2i2:l2≠i2
def RA{S T:Bool}{z TI TO p q J K:Ch}{k:Nat}{xs ys:Array Db}{x y a b:Db}{Q:Db->No->Prop}(D:Z9 z TI TO p q J K)
  (L:kC s.heap z TI TO .none) (W:im s.heap TI (.ref p)^.ref q) (X:im s.heap TO a b) (h1:ItAt S s.heap p J k) (h2:ItAt T s.heap q K k) (Y:SqAt S s.heap J xs) (Z:SqAt T s.heap K ys) (hx:xs[k]?=P3 x) (hy:ys[k]?=P3 y)
  (hQ:∀r,kC r z TI TO^rawInt s.heap.objs.size->im r TO x y->ItAt S r p J (k+1)->ItAt T r q K (k+1)->im r s.heap.objs.size x y->r.objs.size=s.heap.objs.size+1->(∀c o,c≠z->c≠TO->c≠p->c≠q->s.heap.get? c=P3 o->r.get? c=P3 o)->Q (.ref s.heap.objs.size) {s with heap:=r}):
  wpAny (model prog w) A (iq.«zip.__next__» #[[.ref z],[]]) (λa0 s'=>∃v,a0=.done^.ret v/\Q v s') E s:=by
 show wpAny (model prog w) A (field (.ref z) 2 >>=_) _ _ _;refine Cn (iC L rfl (x:=.bool q_) rfl ?_)
 show wpAny (model prog w) A (field (.ref z) 3 >>=_) _ _ _;refine Cn (iC L rfl (x:=.ref TI) rfl ?_);refine Cn (iY W rfl ?_)
 show wpAny (model prog w) A (iu^.ref z >>=_) _ _ _;refine Cn ?_;unfold iu
 refine Cn (iC L rfl (x:=.none) rfl (On ?_));simp only[if_true];refine Cn^kr ?_;refine Cn (iC L rfl (x:=.ref TO) rfl ?_)
 refine Cn^jW L (by simp) λha C d=>?_;replace C:kC ha z TI TO .ellipsis:=C;refine Cn ?_;simp only[List.zipIdx_cons,List.zipIdx_nil,li,nY]
 refine Cn^Cn^lH ?_;show wpAny (model prog w) _ (iM^.ref p >>=_) _ _ _
 refine Cn^Ea (h1.eb d.extBut D.i1z) (Y.eb d.extBut D.l1z) hx λhb a1 h=>On ?_;have t:im hb TO a b:=h.extBut _ _ D.TOi1^d.extBut _ _ D.TOz X;refine Cn (iY t rfl ?_);refine Cn (lr t λhc j i=>?_)
 replace j:im hc TO x b:=j;refine Cn^jS^On ?_;refine Cn^Cn^lH ?_;show wpAny (model prog w) _ (iM^.ref q >>=_) _ _ _
 refine Cn^Ea (((h2.eb d.extBut D.i2z).eb h.extBut D.i12.symm).eb i.extBut D.TOi2.symm) (((Z.eb d.extBut D.l2z).eb h.extBut D.l2i1).eb i.extBut D.l2TO) hy λhd a2 l=>On ?_;have u:im hd TO x b:=l.extBut _ _ D.TOi2 j;refine Cn (iY u rfl ?_);refine Cn (lr u λf g m=>?_)
 replace g:im f TO x y:=g;refine Cn^jS^On^On ?_;refine Cn (iY g rfl ?_);refine Cn^wpAny_newTuple ?_
 have M:f.objs.size=s.heap.objs.size:=by rw[m.1,l.1,i.1,h.1,d.1]
 have N:kC f z TI TO .ellipsis:=m.extBut _ _ D.TOz.symm^l.extBut _ _ D.i2z.symm^i.extBut _ _ D.TOz.symm^h.extBut _ _ D.i1z.symm C;have a3:∀c o,c≠z->c≠TO->c≠p->c≠q->s.heap.get? c=P3 o->f.get? c=P3 o:=λc o F U c3 c4 e=>m.extBut _ _ U^l.extBut _ _ c4^i.extBut _ _ U^h.extBut _ _ c3^d.extBut _ _ F e;have a4:ItAt S f p J (k+1):=((a1.eb i.extBut D.TOi1.symm).eb l.extBut D.i12).eb m.extBut D.TOi1.symm;have a5:ItAt T f q K (k+1):=a2.eb m.extBut D.TOi2.symm;have B:z<f.objs.size:=TW N;show wpAny (model prog w) _ (kn (.ref z)^.ref f.objs.size >>=_) _ _ _;refine Cn ?_;unfold kn
 have a6:kC (f.push {cls:=.type "tuple",data:=.seq #[ x,y]}) z TI TO .ellipsis:=FM _ N;refine Cn^jW a6 (by simp) λhg G H=>?_;replace G:kC hg z TI TO^rawInt f.objs.size:=G;refine jW G (by simp) λO n I=>?_;replace n:kC O z TI TO^rawInt f.objs.size:=n;have V:∀c o,c≠z->f.get? c=P3 o->O.get? c=P3 o:=λc o F e=>I.extBut _ _ F^H.extBut _ _ F^FM _ e;have P:im O f.objs.size x y:=I.extBut _ _ (jU B)^H.extBut _ _ (jU B) (Sc _ rfl);have R:O.objs.size=f.objs.size+1:=by rw[I.1,H.1,gz]
 rw[M]at n P R;refine On #[_,rfl,?_];show Q (.ref f.objs.size) _;rw[M]
 exact hQ O n (V _ _ D.TOz g) (a4.mv λo e=>V _ o D.i1z e) (a5.mv λo e=>V _ o D.i2z e) P R λc o F U c3 c4 e=>V c o F^a3 c o F U c3 c4 e
def Up{U V:Bool}{z TI TO p q G H:Ch}{k:Nat}{I J:Array Db}{a b:Db}{Q:Fin->No->Prop}(W:A.handled=o_)(D:Z9 z TI TO p q G H)
  (r:kC s.heap z TI TO .none) (K:im s.heap TI (.ref p)^.ref q) (L:im s.heap TO a b) (h1:ItAt U s.heap p G k) (h2:ItAt V s.heap q H k) (t:SqAt U s.heap G I) (M:SqAt V s.heap H J) (u:I[k]?=o_\/J[k]?=o_)
  (X:∀N e,(∀c o,c≠z->c≠TO->c≠p->c≠q->s.heap.get? c=P3 o->N.get? c=P3 o)->(∃o,N.get? e=P3 o/\o.cls=.type "StopIteration")->E (.ref e) {s with heap:=N}):
  wpAny (model prog w) A (iq.«zip.__next__» #[[.ref z],[]]) Q E s:=by
 show wpAny (model prog w) A (field (.ref z) 2 >>=_) _ _ _;refine Cn (iC r rfl (x:=.bool q_) rfl ?_)
 show wpAny (model prog w) A (field (.ref z) 3 >>=_) _ _ _;refine Cn (iC r rfl (x:=.ref TI) rfl ?_);refine Cn (iY K rfl ?_)
 show wpAny (model prog w) A (iu^.ref z >>=_) _ _ _;refine Cn ?_;unfold iu
 refine Cn (iC r rfl (x:=.none) rfl (On ?_));simp only[if_true];refine Cn^kr ?_;refine Cn (iC r rfl (x:=.ref TO) rfl ?_)
 refine Cn^jW r (by simp) λha l d=>?_;replace l:kC ha z TI TO .ellipsis:=l;refine Cn ?_;simp only[List.zipIdx_cons,List.zipIdx_nil,li,nY]
 refine Cn^Cn^lH ?_;show wpAny (model prog w) _ (iM^.ref p >>=_) _ _ _
 cases O:I[k]? with
 |none=>
  refine Cn^Fd W (h1.eb d.extBut D.i1z) (t.eb d.extBut D.l1z) O λP e f R=>?_;let#[S,g,j]:=R;have v:kC P z TI TO .ellipsis:=f _ _ D.i1z.symm l;have n:e≠z:=λx=>by subst x;rw[v]at g;cases g;simp at j
  exact jW v (by simp) λY _ i=>X Y e (λc o y _ T _ x=>i.extBut _ _ y^f _ _ T^d.extBut _ _ y x) #[S,i.extBut _ _ n g,j]
 | some x=>
  have hy:J[k]?=o_:=by
   rcases u with h|h
   .rw[O]at h;cases h
   .exact h
  refine Cn^Ea (h1.eb d.extBut D.i1z) (t.eb d.extBut D.l1z) O λP a0 f=>On ?_;have m:im P TO a b:=f.extBut _ _ D.TOi1^d.extBut _ _ D.TOz L;refine Cn (iY m rfl ?_);refine Cn^lr m λY Z i=>?_
  refine Cn^jS^On ?_;refine Cn^Cn^lH ?_;show wpAny (model prog w) _ (iM^.ref q >>=_) _ _ _
  refine Cn^Fd W (((h2.eb d.extBut D.i2z).eb f.extBut D.i12.symm).eb i.extBut D.TOi2.symm) (((M.eb d.extBut D.l2z).eb f.extBut D.l2i1).eb i.extBut D.l2TO) hy λhd e B R=>?_;let#[S,g,j]:=R;have C:kC hd z TI TO .ellipsis:=B _ _ D.i2z.symm^i.extBut _ _ D.TOz.symm^f.extBut _ _ D.i1z.symm l;have n:e≠z:=λx=>by subst x;rw[C]at g;cases g;simp at j
  exact jW C (by simp) λhf _ F=>X hf e (λc o y c2 T c4 x=>F.extBut _ _ y^B _ _ c4^i.extBut _ _ c2^f.extBut _ _ T^d.extBut _ _ y x) #[S,F.extBut _ _ n g,j]
end
def ZE(a:Bool):String:=match a with
 |true=>"list_iterator"
 |false=>"tuple_iterator"
def Gb(a:Bool)(l:Ch):Obj:={cls:=.type^ZE a,data:=.fields #[ .ref l,.int 0 0]}
abbrev zA(a:Bool)(h:gA)(b:Ch):gA:=h.push^Gb a b
abbrev zB(a b:Bool)(h:gA)(c d:Ch):gA:=(zA a h c).push^Gb b d
abbrev zC(a c:Bool)(h:gA)(b d:Ch):gA:=(zB a c h b d).push {cls:=.type "tuple",data:=.seq #[ .ref h.objs.size,.ref (zA a h b).objs.size]}
abbrev zD(a b:Bool)(h:gA)(c d:Ch):gA:=(zC a b h c d).push {cls:=.type "tuple",data:=.seq #[ .none,.none]}
abbrev zE(a b:Bool)(h:gA)(c d:Ch):gA:=(zD a b h c d).push {cls:=.type "zip",data:=.fields #[ .none,.bool q_,.bool q_,.ref (zB a b h c d).objs.size,.ref (zC a b h c d).objs.size]}
def VS(zX zW:Bool)(l1 l2:Ch)(xs ys:Array Db):Meets (iq.«zip.__new__» #[[.type "zip",.ref l1,.ref l2],[]])
  (λ_ R s=>SqAt zX s.heap l1 xs/\SqAt zW s.heap l2 ys/\R (.ok^.ret^.ref (zD zX zW s.heap l1 l2).objs.size) {s with heap:=zE zX zW s.heap l1 l2}):=
 .of_wp λprog w A R s h=>by
  let#[hp,g,d,tk,os]:=s;let#[hl1,hl2,h]:=h
  have hsub:=sub_zip;have hL2:SqAt zW (zA zX hp l1) l2 ys:=hl2.mv λo e=>FM _ e;cases zX with
  | true=>
   have g1:nQ (kA #[hp,g,d,tk,os]) l1 xs:=hl1;cases zW with
   |true=>
    have g2:nQ (kA #[hp.push {cls:=.type "list_iterator",data:=.fields #[ .ref l1,.int 0 0]},g,d,tk,os]) l2 ys:=hL2
    wp_walk using ia g1,ia g2
    exact#[_,rfl,h]
   |false=>
    have g2:nB (kA #[hp.push {cls:=.type "list_iterator",data:=.fields #[ .ref l1,.int 0 0]},g,d,tk,os]) l2 ys:=hL2
    wp_walk using ia g1,iJ g2
    exact#[_,rfl,h]
  | false=>
   have g1:nB (kA #[hp,g,d,tk,os]) l1 xs:=hl1;cases zW with
   |true=>
    have g2:nQ (kA #[hp.push {cls:=.type "tuple_iterator",data:=.fields #[ .ref l1,.int 0 0]},g,d,tk,os]) l2 ys:=hL2
    wp_walk using iJ g1,ia g2
    exact#[_,rfl,h]
   |false=>
    have g2:nB (kA #[hp.push {cls:=.type "tuple_iterator",data:=.fields #[ .ref l1,.int 0 0]},g,d,tk,os]) l2 ys:=hL2
    wp_walk using iJ g1,iJ g2
    exact#[_,rfl,h]
def IA(a:Bool)(h:gA)(l:Ch):ItAt a (h.push^Gb a l) h.objs.size l 0:=by
 cases a with
 |true=>exact#[_,Sc _ rfl,rfl,rfl]
 |false=>exact#[_,Sc _ rfl,rfl,rfl]
section
variable {prog:Program}{w:World}{A:Around}{E:Value->Shared->Prop}{s:Shared}
def LP{b f:Bool}{a d:Ch}{t u:Array Db}{Q:Db->No->Prop}(i:SqAt b s.heap a t)(j:SqAt f s.heap d u)
  (h:∀g,kC g (s.heap.objs.size+4) (s.heap.objs.size+2) (s.heap.objs.size+3) .none->im g (s.heap.objs.size+2) (.ref s.heap.objs.size)^.ref (s.heap.objs.size+1)->im g (s.heap.objs.size+3) .none .none->
   ItAt b g s.heap.objs.size a 0->ItAt f g (s.heap.objs.size+1) d 0->(∀c o,s.heap.get? c=P3 o->g.get? c=P3 o)->Q (.ref (s.heap.objs.size+4)) {s with heap:=g}):
  wpAny (model prog w) A (call (.type "zip") [.ref a,.ref d]) Q E s:=by
 refine callType_new F.called_zip (by cbv) (F.typeCall_zip_2 _ _) (F.newCall_zip_2 _ _) (λk=>F.args_object_init_3 k _ _) F.entry_zip_new (VS b f a d t u) #[i,j,?_];have l:(zA b s.heap a).objs.size=s.heap.objs.size+1:=gz ..;have m:(zB b f s.heap a d).objs.size=s.heap.objs.size+2:=by rw[gz,l]
 have n:(zC b f s.heap a d).objs.size=s.heap.objs.size+3:=by rw[gz,m]
 have p:(zD b f s.heap a d).objs.size=s.heap.objs.size+4:=by rw[gz,n]
 have q:(zE b f s.heap a d).get? (zD b f s.heap a d).objs.size=P3 _:=Sc _ rfl;have v:(zE b f s.heap a d).get? (zC b f s.heap a d).objs.size=P3 _:=FM _ (Sc _ rfl);have x:(zE b f s.heap a d).get? (zB b f s.heap a d).objs.size=P3 _:=FM _^FM _ (Sc _ rfl);have y:ItAt f (zE b f s.heap a d) (zA b s.heap a).objs.size d 0:=(IA f (zA b s.heap a) d).mv λo e=>FM _^FM _^FM _ e;have z:ItAt b (zE b f s.heap a d) s.heap.objs.size a 0:=(IA b s.heap a).mv λo e=>FM _^FM _^FM _^FM _ e;rw[p]at q;rw[n]at v;rw[m]at x;rw[l]at y;have r:=h (zE b f s.heap a d) (by rw[kC,q,m,n]) (by rw[im,x,l]) v z y λc o e=>FM _^FM _^FM _^FM _^FM _ e;exists#[_,by rw[p];exact q,rfl];rw[p];exact r
def JF{i j:Bool}{z TI TO e f g h:Ch}{k:Nat}{q r:Array Db}{x y a b:Db}{Q:s_ Db->No->Prop}(D:Z9 z TI TO e f g h)
  (t:kC s.heap z TI TO .none) (l:im s.heap TI (.ref e)^.ref f) (m:im s.heap TO a b) (h1:ItAt i s.heap e g k) (v:ItAt j s.heap f h k) (n:SqAt i s.heap g q) (p:SqAt j s.heap h r) (B:q[k]?=P3 x) (C:r[k]?=P3 y)
  (G:∀d,kC d z TI TO^rawInt s.heap.objs.size->im d TO x y->ItAt i d e g (k+1)->ItAt j d f h (k+1)->im d s.heap.objs.size x y->d.objs.size=s.heap.objs.size+1->(∀c o,c≠z->c≠TO->c≠e->c≠f->s.heap.get? c=P3 o->d.get? c=P3 o)->Q (P3^.ref s.heap.objs.size) {s with heap:=d}):
  wpAny (model prog w) A (pyNext^.ref z) Q E s:=by
 have u:s.TypeIs (.ref z) "zip":=#[_,t,rfl];unfold pyNext
 exact Cn (jv (h_ (name:=g_ "__next__") u lw (iV lw u F.entry_zip_next
  (RA D t l m h1 v n p B C λd H I J K L M N=>On^G d H I J K L M N) (F.args_zip_next_1 _))))
def K2{r t:Bool}{z TI TO g h i j:Ch}{k:Nat}{u v:Array Db}{a b:Db}{Q:s_ Db->No->Prop}(B:A.handled=o_)(D:Z9 z TI TO g h i j)
  (x:kC s.heap z TI TO .none) (l:im s.heap TI (.ref g)^.ref h) (m:im s.heap TO a b) (h1:ItAt r s.heap g i k) (C:ItAt t s.heap h j k) (n:SqAt r s.heap i u) (p:SqAt t s.heap j v) (f:u[k]?=o_\/v[k]?=o_)
  (G:∀q,(∀c o,c≠z->c≠TO->c≠g->c≠h->s.heap.get? c=P3 o->q.get? c=P3 o)->Q o_ {s with heap:=q}):wpAny (model prog w) A (pyNext^.ref z) Q E s:=by
 have y:s.TypeIs (.ref z) "zip":=#[_,x,rfl];unfold pyNext;refine Cn^jv^h_ (name:=g_ "__next__") y lw^iV lw y F.entry_zip_next (Up B D x l m h1 C n p f λq e H I=>?_)^F.args_zip_next_1 _;let#[o,J,K]:=I;exact Cn^lJ (T:="StopIteration") (b:=p_) #[o,J,K] isSubtype_stop^On^G _ H
end
section
variable {X:Cx}{zF:r_ (Addr×Obj)}{σ:L2.St}{H:Hp}{s:Shared}{h':Heap}
def Inv.turnedL{t':Nat}{ch:r_ Ch}(I:Inv X zF σ H s)(d:∀b∈ch,Ft X zF H b)(k:∀b o,b∉ch->s.heap.get? b=P3 o->h'.get? b=P3 o):Inv X zF σ H {s with heap:=h',toks:=t'}:=by
 have f:∀b u,H b=P3 u->b∉ch:=λb u e z=>by rw[(d b z).1]at e;cases e
 refine I.step (λb g=>?_) (λb o _ _ a e _=>k b o a e) (λb o _ _ a e _=>#[_,k b o a e]) (λ_ _ _ _ n=>n) (λb o a e=>#[o,k b o a e]) (λ_ _ e=>e) (λ_ _ _ e=>e) (λb y e=>#[#[],by rw[e];simp]) (λm h=>?_) (λb u e=>(I.hok b u e).stay (λc v a q=>k c v (a.elim (λz=>by grind) λz=>f c _ z) q) (λ_ q=>q) λ_ _ q=>q) I.bare
 .let#[A,i,B,j,l,p]:=d b g
  exact#[j,i,l,p]
 .let#[o,t,w,x,r]:=h
  exact#[o,t,w,k _ o (λz=>(d _ z).2.1 rfl) x,r]
def Inv.turnLaid{t':Nat}{ch:r_ Ch}{a:Ch}{o:HO}(I:Inv X zF σ H s)(h:∀b∈ch,Ft X zF H b)(k:∀b o,b∉ch->s.heap.get? b=P3 o->h'.get? b=P3 o)(j:s.heap.objs.size<=a)(new:ObjOk X.prog X.w (AY H a o) h' a o):
  Inv X zF σ (AY H a o) {s with heap:=h',toks:=t'}:=by
 have i:∀b u,H b=P3 u->b∉ch:=λb u e z=>by rw[(h b z).1]at e;cases e
 have l:H a=o_:=I.hok.fresh j;have f:∀b u,H b=P3 u->AY H a o b=P3 u:=λb u e=>by rw[AF^AW e l];exact e
 refine I.step (g':=s.gens) (d':=s.drawn) (ch:=ch) (λb g=>?_) (λb o _ _ d e _=>k b o d e) (λb o _ _ d e _=>#[o.slots,k b o d e]) (λb u _ e n=>?_) (λb o d e=>#[o,k b o d e]) (λb p e=>f _ _ e) (λb o u e=>f _ _ e) (λb F e=>#[#[],by rw[f _ _ e];simp]) (λm t=>?_) (λb u e=>?_) I.bare
 .let#[G,x,J,y,A,B]:=h b g
  exact#[y,x,A,B]
 .rw[AF^gB^gL (TW e) j];exact n
 .let#[o,C,D,E,r]:=t
  exact#[o,C,D,k _ o (λz=>(h _ z).2.1 rfl) E,r]
 .by_cases g:b=a
  .subst g;rw[AH]at e;cases e;exact new
  .rw[AF g]at e
   exact(I.hok b u e).stay (λc v d q=>k c v (d.elim (λz=>by grind) λz=>i c _ z) q) (λc q=>f _ _ q) λc p q=>f _ _ q
end
def SqK(c:Bool)(K:Frag)(H:Hp)(a:Ch)(b:r_ V):Prop:=match c with
 |true=>SqL K H a b
 |false=>SqT K H a b
def SqK.at{c:Bool}{X:Cx}{e:r_ (Ch×Obj)}{f:L2.St}{H:Hp}{s:No}{a:Ch}{d:r_ V}(I:Inv X e f H s)(h:SqK c X.K H a d):∃b:r_ Db,Vals d b/\SqAt c s.heap a b.toArray:=by
 cases c with
 |true=>let#[b,r,pl,_]:=I.list h;exact#[_,r,pl.isList]
 |false=>let#[b,r,p,_]:=I.tuple h;exact#[_,r,p]
def Z_ (K:Frag) (e f:Bool) (a b:Ch) (c d:r_ V):It:=
  #[λi H=>SqK e K H a c ∧ SqK f K H b d ∧ i < c.length ∧ i < d.length,λi H x g=>∃ T p q,x=.ref T ∧ H T=o_ ∧ g=AY H T^.tup [p,q] ∧ c[i]?=P3 p ∧ d[i]?=P3 q,
   λi H=>SqK e K H a c ∧ SqK f K H b d ∧ (c.length ≤ i ∨ d.length ≤ i)]
structure cV (zX zW:Bool) (z TI TO i1 i2 a b:Ch) (k:Nat) (h:gA):Prop where
 z:kC h z TI TO .none
 ti:im h TI (.ref i1) (.ref i2)
 to:∃a b,im h TO a b
 i1:ItAt zX h i1 a k
 i2:ItAt zW h i2 b k
def RP{P:gC}{w:gJ}{K:Frag}{es:r_ gI}{j:Nat}{pos:Pos}(Z zW:Bool)(z TI TO g l a b:Ch)(xs ys:r_ V)(D:Z9 z TI TO g l a b)(B:TI∉[z,TO,g,l]):
  Turn P w K (.Tuple es j pos) (Z_ K Z zW a b xs ys) [z,TI,TO,g,l] z (cV Z zW z TI TO g l a b) where
 mem:=by simp
 obj:=λi h d c f=>by
  simp only[Tk,gO,or_false]at f
  rcases f with rfl|rfl|rfl|rfl|rfl
  .exact#[_,d.z,λv q=>by cases q]
  .exact#[_,d.ti,λv q=>by cases q]
  .let#[a,b,e]:=d.to
   exact#[_,e,λv q=>by cases q]
  .exact d.i1.lies
  .exact d.i2.lies
 keep:=λi h h' d k=>by
  let#[p,q,e]:=d.to;exact#[k z (by simp) _ d.z,k TI (by simp) _ d.ti,#[p,q,k TO (by simp) _ e],d.i1.mv λo e=>k g (by simp) o e,d.i2.mv λo e=>k l (by simp) o e]
 item:=by
  intro X C F G f i zF s σ H E I r d J;subst C F G;let#[L,M,m,hj]:=J;let#[us,N,O]:=L.at I;let#[ws,R,S]:=M.at I;let#[u,hu,ru]:=N.get^Go m;let#[v,hv,rv]:=R.get^Go hj;let#[p,q,e]:=d.to;refine JF D d.z d.ti e d.i1 d.i2 O S (x:=u) (y:=v) (by simpa using hu) (by simpa using hv) λh' a1 a2 a3 a4 a5 a6 a7=>#[_,rfl,?_];refine wpAny_letOwnedTupleGo_zip a1 λT b1 n=>?_;have hT:H s.heap.objs.size=o_:=I.hok.fresh^Rs _
  have t:∀c o,c∉[z,TO,g,l]->s.heap.get? c=P3 o->T.get? c=P3 o:=λc o f e=>by
   simp only[Tk,gO,or_false,not_or]at f;exact n.extBut _ _ f.1^a7 c o f.1 f.2.1 f.2.2.1 f.2.2.2 e
  have I2:Inv X zF σ (AY H s.heap.objs.size^.tup [xs[i],ys[i]]) {s with heap:=T}:=by
   refine I.turnLaid (t':=s.toks) (ch:=[z,TO,g,l]) (λc f=>r c ?_) t (Rs _) ?_
   .simp only[Tk,gO,or_false]at f ⊢
    rcases f with rfl|rfl|rfl|rfl <;>simp
   .have nT:s.heap.objs.size≠z:=jU^TW d.z
    exact#[by show 2<=sizeLine;decide,[u,v],.cons ru^.cons rv .nil,#[_,n.extBut _ _ nT a5,rfl,_,rfl,rfl,rfl]]
  have U:im T TI (.ref g)^.ref l:=t _ _ B d.ti;refine#[.ref s.heap.objs.size,_,I2,rfl,#[_,_,_,rfl,hT,rfl,Go m,Go hj],#[b1,U,#[_,_,n.extBut _ _ D.TOz a2],a3.eb n.extBut D.i1z,a4.eb n.extBut D.i2z],λc f=>?_];have W:H c=o_:=(r c f).1
  have Y:c≠s.heap.objs.size:=λz=>by
   obtain⟨o,ho,_⟩:∃o,s.heap.get? c=P3 o/\True:=by
    simp only[Tk,gO,or_false]at f
    rcases f with rfl|rfl|rfl|rfl|rfl
    .exact#[_,d.z,trivial]
    .exact#[_,d.ti,trivial]
    .exact#[_,e,trivial]
    .let#[o,q,_]:=d.i1.lies;exact#[o,q,trivial]
    .let#[o,q,_]:=d.i2.lies;exact#[o,q,trivial]
   rw[z]at ho;exact hU _^TW ho
  rw[AF Y];exact W
 done:=by
  intro X C F G f i zF s σ H E I r d J;subst C F G;let#[L,M,m]:=J;let#[us,N,O]:=L.at I;let#[ws,R,S]:=M.at I;let#[p,q,e]:=d.to;have l1:=N.length;have l2:=R.length;refine K2 (I.ok.hd f) D d.z d.ti e d.i1 d.i2 O S (m.imp (λm=>by simp;lk) λm=>by simp;lk) λh' t=>#[rfl,?_];refine I.turnedL (t':=s.toks) (ch:=[z,TO,g,l]) (λc f=>r c ?_) λc o f e=>?_
  .simp only[Tk,gO,or_false]at f ⊢
   rcases f with rfl|rfl|rfl|rfl <;>simp
  .simp only[Tk,gO,or_false,not_or]at f
   exact t c o f.1 f.2.1 f.2.2.1 f.2.2.2 e
 self:=λA i s Q E d h=>wpAny_pyIter_zip d.z h
section
variable {X:Cx}
def Xo(n a b:Nat)(h1:a<n)(c:b<n):Z9 (n+4) (n+2) (n+3) n (n+1) a b:=by
 constructor <;>(grind)
def Xn(n:Nat):(n+2)∉[n+4,n+3,n,n+1]:=by
 grind
def Xp(n c:Nat)(h:c∈[n+4,n+2,n+3,n,n+1]):n<=c:=by
 grind
def eB(K:Frag)(g:TA):TI:=λh H R=>g h H λi H1=>∃c d a b e f,i=[.ref a,.ref b]/\SqK c K H1 a e/\SqK d K H1 b f/\R (Z_ K c d a b e f) H1
def Yd{m f:gI}{G:r_ gI}{j:Nat}{g:Pos}{y:TA}{p pos:Pos}(J:Gl X "zip")(L:X.mg "zip"=o_)(M:PA X [m,f] y)(N:starEach [m,f] X.env=[(q_,eval m X.env),(q_,eval f X.env)]:=by rfl)(i:starEach [f] X.env=[(q_,eval f X.env)]:=by rfl):
  PI X (.Tuple G j g) (.Call (.Name "zip" p) [m,f] [] pos) (eB X.K y):=by
 intro O s P H R I h;refine Call_ (C1 I J L boot_zip^iF (Aq (M pos O s P H _ I h) λQ d #[vs,H1,k,S,n]=>?_) (by rw[N,i])^by rw[i];rfl);let#[z,A,a,b,B,C,e,T,U,q]:=n;subst e;let#[u,v,rfl,V,W]:=vals2 S;cases V;cases W;let#[Q,Y,n]:=T.at k;let#[ws,Z,E]:=U.at k;have la:a<d.heap.objs.size:=by let#[o,e]:=n.lies;exact TW e
 have lb:b<d.heap.objs.size:=by let#[o,e]:=E.lies;exact TW e
 refine LP n E λh' F r t w x hk=>?_;refine wpAny_pyIter_zip F ?_;have D:=Xo d.heap.objs.size a b la lb;refine#[d.heap.objs.size+4,[d.heap.objs.size+4,d.heap.objs.size+2,d.heap.objs.size+3,d.heap.objs.size,d.heap.objs.size+1],_,Z_ X.K z A a b B C,H1,rfl,k.kept (t':=d.toks) hk,RP z A _ _ _ _ _ a b B C D^Xn d.heap.objs.size,#[F,r,#[_,_,t],w,x],λc hc=>?_,q];have l:d.heap.objs.size<=c:=Xp d.heap.objs.size c hc;exact k.fpOk l^k.hok.fresh l
end
end L2
namespace Dp
open L2
def Gn(a b:r_ D):r_ D:=i6 (λd e=>.tup [d,e]) a b
section
variable {K:Frag}
def Rg{U g M:Ch->Prop}{H:Hp}{d:D}{v:V}{l:r_ D}(h:AtT K g M H d v)(e:KS d=P3 l)(m:∀a,U a->g a)(s:∀a,g a->M a):∃p a c,v=.ref a/\Ats K M H l c/\∀i f,Pres M H i f->Ext U H f->SqK p K f a c:=by
 cases d with
 |lst q=>
  cases e;let#[a,c,j,n,b,k]:=h;refine#[p_,a,c,j,k,λi f _ ex=>?_]
  rcases b with b|⟨o,b⟩
  .exact .inl^.inl^ex.keep b λz=>n^m a z
  .exact .inl^.inr #[o,ex.keep b λz=>n^m a z]
 |tup q=>
  cases e;let#[a,c,j,b,k]:=h;exact#[q_,a,c,j,k,λi f r _=>(b.pres r).sq]
 |_=>cases e
def Rh{M:Ch->Prop}{H:Hp}{d:D}{v:V}{l:r_ D}(h:At K M H d v)(e:KS d=P3 l):∃m a b,v=.ref a/\Ats K M H l b/\∀f c,Pres M H f c->SqK m K c a b:=by
 cases d with
 |lst n=>
  cases e;let#[a,b,g,i,j]:=h;exact#[p_,a,b,g,j,λf c k=>(i.pres k).sq]
 |tup n=>
  cases e;let#[a,b,g,i,j]:=h;exact#[q_,a,b,g,j,λf c k=>(i.pres k).sq]
 |_=>cases e
def M6{M:Ch->Prop}{H:Hp}{l m:Bool}{a b:Ch}{f g:r_ V}{h j:r_ D}(v:Ats K M H h f)(w:Ats K M H j g){i:Nat}{s:Ch->Prop}{c:Hp}(z:Pres M H s c)(h1:SqK l K c a f)(A:SqK m K c b g)(t:∀a,s a->∃o,c a=P3 o):
  (∀d,(Gn h j)[i]?=P3 d->(Z_ K l m a b f g).go i c/\∀x n,(Z_ K l m a b f g).yld i c x n->Grow c n/\At K s n d x)/\((Gn h j).length<=i->(Z_ K l m a b f g).stop i c):=by
 have P:=v.length;have Q:=w.length;refine#[λd e=>?_,λF=>#[h1,A,?_]]
 .unfold Gn at e
  rw[nZ]at e;cases k:h[i]? with
  |none=>rw[k]at e;simp at e
  | some G=>
   cases r:j[i]? with
   |none=>rw[k,r]at e;simp at e
   |some I=>
    rw[k,r]at e;have u:D.tup [G,I]=d:=XV e;have R:i<h.length:=(Uf.mp k).1;have S:i<j.length:=(Uf.mp r).1;refine#[#[h1,A,by lk,by lk],λx n y=>?_];let#[T,p,q,rfl,B,rfl,J,L]:=y;let#[U,C,N]:=(v.pres z).get k;let#[W,E,O]:=(w.pres z).get r;rw[J]at C;rw[L]at E;cases C;cases E;subst u;exact#[AU B,Cd t B #[p,[q],rfl,N,q,[],rfl,O,rfl]]
 .unfold Gn at F
  grind
end
section
variable {X:Cx}{e1 e2:Expr}{es:r_ Expr}{j:Nat}{tpos p pos:Pos}{ws:C7}
def dI(ws:C7):C7:=λn c P=>ws n c λf g=>∃d e a b,f=[d,e]/\KS d=P3 a/\KS e=P3 b/\P (Gn a b) g
def ZX(u:Gl X "zip")(x:X.mg "zip"=o_)(y:WT X [e1,e2] ws)(z:starEach [e1,e2] X.env=[(q_,eval e1 X.env),(q_,eval e2 X.env)]:=by rfl)(c:starEach [e2] X.env=[(q_,eval e2 X.env)]:=by rfl):
  DI X (.Tuple es j tpos) (.Call (.Name "zip" p) [e1,e2] [] pos) (dI ws):=by
 let#[t,A,B]:=y;refine#[_,Yd u x A z c,λC M H n D E P W R w q=>?_];refine B C M H n D E _ _ R w λY H1 Z F G I f p=>?_;let#[d,e,xs,ys,rfl,J,K,p]:=p;let#[v,r,rfl,f,v',L,rfl,N,O]:=f;cases(show L=[]from O);let#[Q,a,S,rfl,T,l]:=Rh f J;let#[U,b,g,rfl,V,m]:=Rh N K;exact#[Q,U,a,b,S,g,rfl,l M H1^Pres.refl _ _,m M H1^Pres.refl _ _,q _ H1 _ F G I (λi o s h k=>M6 T V h (l o s h) (m o s h) k) p]
def d9:D->s_ Key
 |.int i=>P3^.inl i
 |.str x=>P3^.inr x
 |_=>o_
def Ga:r_ D->s_^r_ Key
 |[]=>P3 []
 |d::a=>match d9 d,Ga a with
  |some k,P3 b=>P3 (k::b)
  |_,_=>o_
theorem DN{K:Frag}{M:Ch->Prop}{H:Hp}:∀{c:r_ D}{a:r_ V}{b:r_ Key},Ga c=P3 b->Ats K M H c a->a=b.map kOf
 |[],a,b,e,h=>by cases e;exact h
 | d::c,a,b,e,h=>by
  let#[v,r,e1,l,m]:=h;unfold Ga at e
  split at e
  .rename_i k n f g
   cases e;rw[e1,DN g m]
   congr 1
   cases d with
   |int i=>cases f;exact l
   |str x=>cases f;exact l.1
   |_=>cases f
  .cases e
def Te(d e:D)(P:D->Prop):Prop:=match d,e with
 |.int i,.int j=>P^.bl (decide (i<j))
 |.str i,.str j=>P^.bl (decide (i.cps.toList<j.cps.toList))
 |.tup c,.tup f=>∃a b,Ga c=P3 a/\Ga f=P3 b/\A_ a b=p_/\P^.bl^CD a b
 |_,_=>False
def az(K:Frag):R2:=λx y H Q=>YQ x y H Q\/ay K x y H Q
def D_{k:Nat}(a:Room k X.A):OpR X (compareOp .Lt)^az X.K:=op_ltU.or^Yo a.units0
def Gj:C6 X.K .sh (az X.K) Te:=λU M H d e x y P Q c h f g w q=>by
 unfold Te at w
 split at w
 .exact .inl^Xa U M H _ _ x y P Q c h f g w q
 .exact .inl^Xa U M H _ _ x y P Q c h f g w q
 .let#[i,k,l,m,n,w]:=w
  let#[a,u,rfl,o,r]:=f.tup;let#[b,v,rfl,s,t]:=g.tup;have e1:=DN l r;have e2:=DN m t;subst e1 e2;exact .inr #[a,b,i,k,rfl,rfl,o.sq,s.sq,n,q _ H (.bl _) .refl rfl w]
 grind
end
end Dp
namespace L2
section
variable {prog:Program}{w:World}{A:Around}{E:Value->Shared->Prop}{s:Shared}
def Ll{t d:Ch}{a:Array Db}{i j:Db}{lo hi:s_ Int}{Q:Db->No->Prop}(b:IsTup s.heap t a)(k:s.heap.IsSliceOf d i j .none)(pl:lg i lo)(n:lg j hi)
  (l:HT.sIx a.size 0 lo=0/\HT.sIx a.size a.size hi=a.size) (h:Q (.ref t) s):wpAny (model prog w) A (getItem (.ref t)^.ref d) Q E s:=by
 let#[o,e,f,p]:=id k;have g:s.TypeIs (.ref d) "slice":=#[o,e,f];unfold getItem
 (try with_reducible refine gw ?_);(first|refine Cn^On ?_|skip)
 refine Cn^wpAny_sequenceKey b.typeIs (by cbv)^Cn^h_ (name:=g_ "__getitem__") b.typeIs iA^iV iA b.typeIs entry_tuple_getitem ?_^args_tuple_getitem _ _;show wpAny (model prog w) _ (mT^.ref t >>=_) _ _ s;refine Cn^tupleItemsOf_ b^Cn^ki g ?_;rw[if_pos^by cbv]
 refine Cn^HT.sliceApplied_gen k pl n ?_;have c:(((HT.sIx a.size 0 lo:Nat):Int)==0&&(1:Int)==1&&(HT.sIx a.size a.size hi - HT.sIx a.size 0 lo)==a.size)=p_:=by rw[l.1,l.2];simp
 show wpAny (model prog w) _ (if(((HT.sIx a.size 0 lo:Nat):Int)==0&&(1:Int)==1&&(HT.sIx a.size a.size hi - HT.sIx a.size 0 lo)==a.size)=p_ then _ else _) _ _ s;rw[if_pos c];refine Cn (m:=mU _) ?_;unfold mU;refine Cn^ki b.typeIs^On ?_;show wpAny (model prog w) _ (if((gv "tuple"==gv "tuple")=p_)then _ else _) _ _ s;rw[if_pos^by cbv]
 first
  |grind
  |exact Cn^kr^On #[_,rfl,On h]
  |grind
end
section
variable {X:Cx}
def Wo(K:Frag):V->s_ Int->s_ Int->Hp->VK->Prop:=λx c d H Q=>∃a b,x=.ref a/\SqT K H a b/\(HT.sIx b.length 0 c=0/\HT.sIx b.length b.length d=b.length)/\Q (.ref a) H
def U4:SlR X^Wo X.K:=by
 intro j s k H x v l m n o p Q I d e pl f h;let#[a,t,rfl,g,u,q]:=h;cases d;let#[i,r,b,w]:=I.tuple g;have c:=r.length.symm;exact#[_,_,iA.lookup,b.typeIs,Ll b e pl f (by grind) #[.ref a,H,I,rfl,q]]
end
section
variable {X:Cx}
def R9(K:Frag):R2:=λx y H Q=>∃a b c,x=.ref a/\y=.ref b/\SqT K H a []/\SqT K H b c/\Q (.ref b) H
def Sm:OpR X (binaryOp .Add)^R9 X.K:=by
 intro L s M H x y v u Q I l m h;let#[a,b,N,rfl,rfl,o,p,q]:=h;cases l;cases m;let#[r,t,w,_]:=I.tuple o;let#[g,O,z,_]:=I.tuple p;cases t;let#[#[A,dd,i,B],j,C,n,D]:=id w;let#[#[k,E,d,G],c,e,J,f]:=id z;subst C D e f;exact concat_meets #[_,j,rfl] #[_,c,rfl] m7 seq_tuple_add PySem.F.slot_tuple_add PySem.F.entry_tuple_add (PySem.F.args_tuple_add_2 _ _) (tuple_addW0 a b _ _ n J dd _ B _^by simp) #[j,c,#[.ref b,H,I,rfl,q]]
def bI(b:Bool):Int:=if b=p_ then 1 else 0
def c_(g:Int->Int->Int):R2:=λx y H Q=>∃k j,x=.bl k/\y=.int j/\Q (.int^g (bI k) j) H
def fI(g:Int->Int->Int):R2:=λx y H Q=>∃i k,x=.int i/\y=.bl k/\Q (.int^g i^bI k) H
def op_add_bi:OpR X (binaryOp .Add) (c_ λi j=>i+j):=by
 intro c s d H x y v u Q I a b h;let#[k,j,rfl,rfl,q]:=h;cases a;let#[t,rfl]:=b;exact PySem.IntBool.add_bool_int #[.int _,H,I.tok _,#[_,rfl],q]
def op_sub_bi:OpR X (binaryOp .Sub) (c_ λi j=>i - j):=by
 intro c s d H x y v u Q I a b h;let#[k,j,rfl,rfl,q]:=h;cases a;let#[t,rfl]:=b;exact PySem.IntBool.sub_bool_int #[.int _,H,I.tok _,#[_,rfl],q]
def QN:OpR X (binaryOp .Sub) (fI λi j=>i - j):=by
 intro c s d H x y v u Q I a b h;let#[i,k,rfl,rfl,q]:=h;let#[t,rfl]:=a;cases b;exact PySem.IntBool.sub_int_bool #[.int _,H,I.tok _,#[_,rfl],q]
def Wn:r_ V->Hp->VK->Prop:=λa H Q=>(∃i,a=[.int i]/\i.natAbs.log2<1920/\Q (.str^toString i) H)\/∃b,a=[.bl b]/\Q (.str (if b then "True" else "False")) H
def J0:CallR X (.type "str") Wn:=by
 intro f s a H c d Q I r h
 rcases h with h|⟨b,rfl,q⟩
 .exact LQ _ s a H c d Q I r h
 .let#[u,rfl,e]:=vals1 r
  cases e;exact PySem.P.str_of_bool #[.str _,H,I.tok _,#[_,rfl],q]
end
end L2
namespace Dp
open L2
section
variable {K:Frag}{X:Cx}
def Ce(d e:D)(P:D->Prop):Prop:=match d,e with
 |.int i,.int j=>P^.int (i+j)
 |.bl k,.int j=>P^.int (bI k+j)
 |.str i,.str j=>i.length+j.length<=sizeLine/\P^.str (i++j)
 |.tup i,.tup j=>i.length+j.length<=sizeLine/\P^.tup (i++j)
 |.lst i,.lst j=>i.length+j.length<=sizeLine/\P^.lst (i++j)
 |_,_=>False
def W1(K:Frag):R2:=λx y H Q=>SA K x y H Q\/(c_ λi j=>i+j) x y H Q\/R9 K x y H Q
def Ae:OpR X (binaryOp .Add)^W1 X.K:=op_addU.or^op_add_bi.or Sm
def Av:C6 X.K .sh (W1 X.K) Ce:=λU M H d e x y P Q c h f g w q=>by
 unfold Ce at w
 split at w
 .exact .inl^LU U M H (.int _) (.int _) x y P Q c h f g w q
 .rename_i k j
  exact .inr^.inl #[k,j,f,g,q _ H (.int _) .refl rfl w]
 .exact .inl^LU U M H _ (.str _) x y P Q c h f g w q
 .rename_i i j
  cases i with
  |nil=>
   let#[a,r,rfl,n,o]:=f.tup;let#[b,l,rfl,m,p]:=g.tup;cases(o);exact .inr^.inr #[a,b,l,rfl,rfl,n.sq,m.sq,q _ H (.tup j) .refl #[b,l,rfl,m,p]^by grind]
  |cons s i=>exact .inl^LU U M H _ (.tup j) x y P Q c h f g #[(by grind),w] q
 .exact .inl^LU U M H (.lst _) (.lst _) x y P Q c h f g w q
 grind
def XG(d e:D)(P:D->Prop):Prop:=match d,e with
 |.int i,.int j=>P^.int (i - j)
 |.bl k,.int j=>P^.int (bI k - j)
 |.int i,.bl k=>P^.int (i - bI k)
 |_,_=>False
def Wm:R2:=λx y H Q=>(Gr λi j=>.int (i - j)) x y H Q\/(c_ λi j=>i - j) x y H Q\/(fI λi j=>i - j) x y H Q
def VJ:OpR X (binaryOp .Sub) Wm:=op_sub.or^op_sub_bi.or QN
def Zj:C6 K .sh Wm XG:=λU M H d e x y P Q a f b c w q=>by
 unfold XG at w
 split at w
 .exact .inl^UW U M H _ _ x y P Q a f b c w q
 .rename_i k j
  exact .inr^.inl #[k,j,b,c,q _ H (.int _) .refl rfl w]
 .rename_i i k
  exact .inr^.inr #[i,k,b,c,q _ H (.int _) .refl rfl w]
 grind
def Td(a:r_ D)(P:D->Prop):Prop:=match a with
 |[.int i]=>i.natAbs.log2<1920/\(g_^toString i).length<=sizeLine/\P^.str^toString i
 |[.bl b]=>P^.str (if b then "True" else "False")
 |_=>False
def US:Bc K .sh Wn Td:=by
 intro U M H e f P Q d g c w q;unfold Td at w
 split at w
 .rename_i i
  let#[v,rfl,a]:=Bk c;rw[a.int];exact .inl #[i,rfl,w.1,q _ H (.str _) .refl #[rfl,w.2.1] w.2.2]
 .rename_i b
  let#[v,rfl,a]:=Bk c;rw[a.bl];refine .inr #[b,rfl,q _ H (.str _) .refl #[rfl,?_] w];cases b <;>(decide)
 grind
def bq(d:D)(lo hi:s_ Int)(P:D->Prop):Prop:=match d with
 |.str z=>P^.str^Txt.slice z lo hi
 |.lst a=>P^.lst^cutD a lo hi
 |.tup a=>P^.tup^cutD a lo hi
 |_=>False
def av(K:Frag):V->s_ Int->s_ Int->Hp->VK->Prop:=λx a b H Q=>aq x a b H Q\/YO K x a b H Q\/ar K x a b H Q\/Wo K x a b H Q
def Rb:SlR X^av X.K:=sl_U.or^sl_list.or^sl_tup.or U4
def LK{M:Ch->Prop}{H:Hp}{a:r_ D}{b:r_ V}(lo hi:s_ Int)(h:Ats K M H a b):Ats K M H (cutD a lo hi)^Mc b lo hi:=by
 unfold cutD Mc;rw[h.length];exact(h.drop _).take _
def Mr:e7 K .sh (av K) bq:=by
 intro U M H d x c f P Q h n i w q;unfold bq at w
 split at w
 .rename_i z
  exact .inl #[z,i.str.1,i.str.2,q _ H (.str^Txt.slice z c f) .refl #[rfl,gN (Txt.slice_le z c f) i.str.2] w]
 .rename_i l
  let#[a,b,rfl,_,j,g]:=i;exact .inr^.inl #[a,b,rfl,.inl j,λp k=>q _ _ (.lst _) (AU k) ((BL (U:=U) k^LK c f g).shOf h^by grind) w]
 .rename_i l
  let#[a,b,rfl,j,g]:=i.tup
  by_cases m:HT.sIx b.length 0 c=0/\HT.sIx b.length b.length f=b.length
  .refine .inr^.inr^.inr #[a,b,rfl,j.sq,m,?_]
   have e:cutD l c f=l:=by
    unfold cutD;rw[←g.length,m.1,m.2,List.drop_zero,Nat.sub_zero,g.length,lL]
   rw[e]at w;exact q _ H (.tup l) .refl #[a,b,rfl,j,g] w
  .exact .inr^.inr^.inl #[a,b,rfl,j.sq,m,λp k=>q _ _ (.tup _) (AU k) (Cd h k^LK c f g) w]
 grind
def cA:D->D->(D->Prop)->Prop:=dB λi j P=>i.length+j.length<=sizeLine/\P^.lst (i++j)
end
end Dp
namespace Nt
open L2 Dp
def Fq:W2:=λa n P=>∃m:Int,a=[.fd,.sh^.int m]/\1<=m/\m<1073741824/\1<=n.n/\∀r:Int,0<=r->r<m->P (.int r) (n - 1)
end Nt
namespace L2
def Yv{K:Frag}:PySem.W.specialIn K (.builtin "object.__class__") "__get__"=P3^P3^.builtin "getset_descriptor.__get__":=by kernel_rfl
def Sq{K:Frag}:PySem.W.takesIn K^.builtin "object.__class__"=P3 p_:=by kernel_rfl
section
variable {K:Frag}{nm n1 n2:Str}{C U D U':Addr}
def XC.mro(c:XC K nm C U)(v:Db):PySem.W.mroIn K C v=P3^(ZB C::ZB U::CG).contains v:=by
 let#[d,a,b,_]:=c.cls;unfold PySem.W.mroIn;rw[a,Option.bind_some,b];rfl
def XC.name(c:XC K n1 C U)(d:XC K n2 C U'):n1=n2:=by
 let#[f,g,_,_,h]:=c.cls;let#[a,b,_,_,e]:=d.cls
 grind
def XC.nameU(c:XC K n1 C U)(d:XC K n2 U U'):n2="ThinError":=by
 let#[q,N,i,j,b,k,f,dd,l,m,n,o,p,r,e]:=c.up;let#[g,a,_,_,h]:=d.cls;unfold PySem.W.clsIn at a;rw[e]at a
 grind
def XC.ty(c:XC K nm C U):(PySem.W.clsIn K C).isSome=p_/\PySem.W.typeIn K^.ref C=P3^.type "type":=by
 let#[q,N,d,f,a,g,b,dd,h,i,j,k,l,e]:=c.obj;refine#[by unfold PySem.W.clsIn;rw[e];rfl,?_];unfold PySem.W.typeIn
 simp_all
def XC.kit(c:XC K n1 C U)(d:XC K n2 D U')(h:n2 ≠ "ThinError"):PySem.W.kitOne K (.ref C)^.ref D=P3 (decide (n1=n2)):=by
 unfold PySem.W.kitOne
 by_cases e:C=D
 .subst e
  rw[c.name d];simp
 .have a:n1≠n2:=λz=>by
   subst z;have q:=c.at_.symm.trans d.at_
   grind
  have b:U≠D:=λz=>by subst z;exact h^c.nameU d
  rw[if_neg^by simp[e]];show(if((PySem.W.clsIn K D).isSome&&PySem.W.typeIn K _==P3 _)=p_ then PySem.W.subIn K _ _ else o_)=_;rw[if_pos^by rw[d.ty.1,d.ty.2];rfl];show PySem.W.mroIn K C^.ref D=_;rw[c.mro,Gi]
  grind
def XC.kitV(c:XC K n1 C U):PySem.W.kitOne K (.ref C)^.type "ValueError"=P3 p_:=by
 show PySem.W.mroIn K C _=_;rw[c.mro];simp[CG]
end
section
variable {prog:Program}{w:World}{A:Around}{E:Value->Shared->Prop}{s:Shared}{K:Frag}{nm name:Str}{x C U:Addr}{ox:Obj}{od:s_ Obj}{tk:Tok}{fill expr:Bool}
def aE{Q:Db->No->Prop}(X:K.In s.heap)(c:XC K nm C U)(I:PySem.W.InstAt s.heap x ox C od)
  (h:wpAny (model prog w) A.in1 (iq.«object.__getattribute__» #[[.ref x,.str name tk],[]]) (λa d=>match a with|.done (.ret v)=>wpAny (model prog w) A (handedOut v) Q E d|_=>False) (λ_ _=>False) s):
  wpAny (model prog w) A (getAttrBy (.ref x) (.str name tk) fill expr) Q E s:=by
 have e:=PySem.F.excAttr_ValueError;have f:(jw "BaseException.__getattribute__"==jw "object.__getattribute__")=q_:=by decide +kernel
 have i:(onTheHeap^ZB C&&jw "BaseException.__getattribute__"==jw "object.__getattribute__")=q_:=by rw[f];rfl
 have g:(expr&&onTheHeap^jw "BaseException.__getattribute__")=q_:=by cases expr <;>rfl
 have b:PySem.W.Looks (model prog w) s.heap (isInstance (.ref x)^.type "BaseException") p_:=by
  refine I.type.andThen^PySem.W.looks_mroIn X ?_;rw[c.mro];simp[CG]
 refine gw^Cn^I.type.here^Cn^(PySem.W.looks_findIn X c.ga).here ?_;show wpAny _ _ (if(onTheHeap^ZB C&&jw _==jw _)=p_ then _ else getAttrByItsOwn _ _ _ _ _ _) _ _ _;refine Cn^(PySem.W.looks_findIn X c.gt).here^Cn^jv^gw ?_;unfold callGetattribute boundAndCalled;rw[g,e.ga.bind^.ref x];refine Cn^On^jR^jh e.ga.plain PySem.F.entry_bexc_ga^@PySem.W.check_slot (model prog w) _ _ s _ "BaseException" "__getattribute__" (.ref x) [.str name tk] [] _ (by decide +kernel) (by decide +kernel) b (PySem.F.args_bexc_ga _ _)^gh h (λa d z=>?_) λ_ _ z=>z.elim
 rcases a with(_|_|_|_)|_ <;>first|exact z|exact z.elim
def RB{g a v:Db}{Q:s_ Db->No->Prop}(X:K.In s.heap)(c:XC K nm C U)(I:PySem.W.InstAt s.heap x ox C od)(b:PySem.W.findObj K C od name=P3^.bind g a)(d:PySem.W.handedIn v=p_)
  (h:∀{A:gX}{R:Db->No->Prop},R v {s with toks:=s.toks+1}->wpAny (model prog w) A (call g [a,.ref x,.ref C]) R (λ_ _=>False) {s with toks:=s.toks+1}) (q:Q (P3 v) {s with toks:=s.toks+1}):
  wpAny (model prog w) A (getAttr? (.ref x) name) Q E s:=by
 refine Cn^wpAny_mkText^Cn^jv^aE X c I ?_;unfold iq.«object.__getattribute__»;refine Cn^On^Cn^On^Cn^PySem.W.Looks.here I.type^Cn^PySem.W.Looks.here (PySem.W.looks_find X I b) ?_;refine Cn^gw^h^On ?_;show wpAny _ _ _ _ _ _;rw[PySem.W.handedOut_of d];exact On^On q
end
section
variable {K:Frag}{nm:Str}{C U:Addr}
def XC.kitX{a:Ch}(c:XC K nm C U):PySem.W.KitX K (.ref a) (.ref C) (λh=>∃i b,PySem.W.InstAt h a i C b) where
 ty:=λ_ _ _ #[_,_,I]=>I.type
 it:=λ_ _ X _=>by
  let#[q,N,l,m,d,o,f,dd,p,t,u,v,x,e]:=c.obj;intro H L M O k q;exact Cn (wpAny_loadPart (k _ _^X _ _ e)^On q)
 ne:=λh tp y B n P X g=>by
  let#[q,N,l,m,d,o,f,dd,p,t,u,v,x,e]:=c.obj;refine iI.mpr λz=>?_;have D:C=tp:=Value.ref.inj^beq_iff_eq.mp z;subst D;have R:=congrArg Obj.data^XV^(X _ _ e).symm.trans g
  grind
 ca:=λ{j w A E Q s} X J k=>by
  let#[i,b,I]:=J
  have F:PySem.W.findObj K C b "__class__"=P3^.bind (.builtin "getset_descriptor.__get__")^.builtin "object.__class__":=by
   let#[S,G,_]:=c.cls;unfold PySem.W.findObj;rw[G,c.ca];simp[Yv,Sq]
  exact RB X c I F rfl (λr=>jR^PySem.W.class_get X I (c.mro _) r) k
end
section
variable {X:Cx}{zF:r_ (Addr×Obj)}{σ:St}{H:Hp}{s:Shared}{a C d:Addr}{dx:s_ Addr}{u:HO}
def XT.inst(e:XT C dx a u)(I:Inv X zF σ H s)(f:H a=P3 u)(g:∀d,dx=P3 d->∃o,s.heap.get? d=P3 o):∃h b,PySem.W.InstAt s.heap a h C b:=by
 let#[j,k,rfl,l]:=e;let#[c,_]:=(I.hok a _ f);cases dx with
 |none=>exact#[_,o_,c,rfl,rfl,trivial]
 |some d=>
  let#[o,i]:=g d rfl;exact#[_,P3 o,c,rfl,rfl,i]
end
section
variable {X:Cx}{e:Expr}
def Mi:CallR X (.builtin "isinstance") (λg H Q=>∃a C U f u i y c b,g=[.ref a,y]/\H a=P3 u/\XT C f a u/\(∀d,f=P3 d->∃j,H d=P3^.ext^XF d j)/\XC X.K i C U/\(y=.ty c/\PySem.W.kitOne X.K (.ref C)^.type c=P3 b\/∃D,y=.ref D/\PySem.W.kitOne X.K (.ref C)^.ref D=P3 b)/\Q (.bl b) H):=by
 intro E s F H g G Q I r h;let#[a,C,U,f,u,i,y,c,b,rfl,n,p,t,k,v,q]:=h;let#[x,l,rfl,z,m]:=vals2 r;cases(show x=ZB a from z)
 have J:=p.inst I n λd e=>by
  let#[j,A]:=t d e;let#[#[L,#[o,_,_,M,_],_],_]:=(show ObjOk X.prog X.w H s.heap d _ from I.hok d _ A)
  grind
 rcases v with⟨rfl,e⟩|⟨D,rfl,e⟩
 .cases(show l=gv c from m)
  exact PySem.W.kia_one k.kitX I.kIn J e (by grind) λB=>#[.bl b,H,I.tok _,rfl,q]
 .cases(show l=ZB D from m)
  exact PySem.W.kia_one k.kitX I.kIn J e (by grind) λB=>#[.bl b,H,I.tok _,rfl,q]
end
end L2
namespace Dp
open L2
def fO(M:Ch->Prop)(H:Hp)(a:s_ Ch)(b:r_ Str)(c:r_ V):Prop:=a=o_/\b=[]/\c=[]\/∃d,a=P3 d/\¬M d/\H d=P3^.ext^XF d^b.zip c
abbrev PX:=Str->r_ Str->r_ D->Sg->Prop
abbrev WX:=r_ Slot->Sg->(D->Sg->Prop)->PX->Prop
def LiftX(K:Frag)(F:s_ (Ch×Ch))(U M:Ch->Prop)(H:Hp)(h:PX)(E:XK):Prop:=∀d C i b c e f a g,Ext U H a->FeedC K F M a g->XC K d C i->fO M a f b e->b.length=c.length->Ats K M a c e->h d b c g->E (.ref C) f a
def Z7(K:Frag)(h:Kd)(W:WX)(i:Nat):Sp:=λb H Q E=>b.length=i/\∃(F:s_ (Ch×Ch)) (U c M:Ch->Prop) (n:Sg) (e:r_ Slot) (P:D->Sg->Prop) (f:PX),Zv K F U c M H n e b/\W e n P f /\
 (∀v a d g,Ext U H a->FeedC K F M a g->VR K c M H a h v d->P d g->Q v a)/\LiftX K F U M H f E
section
variable {K:Frag}{C:Fm}{M:Addr->Prop}{H:Hp}{n:Sg}{ρ:r_ Slot}{σ:L2.St}
def Rel.setS(R:Rel K C M H n ρ σ){i:Nat}{s:Slot}{o:s_ V}(x:s.owns=q_)(y:∀d,s≠.br d)(h:SlotOk K C.F C.V M H s o):Rel K C M H n (ρ.set i s)^σ.set i o:=by
 have b:∀(j:Nat) (t:Slot),(ρ.set i s)[j]?=P3 t->t.owns=p_->ρ[j]?=P3 t/\((σ.set i o)[j]?).getD o_=(σ[j]?).getD o_:=λj t q w=>by
  rcases D7 q with⟨_,_,rfl⟩|⟨f,q⟩
  .rw[x]at w;cases w
  .exact#[q,Ew f]
 refine#[by rw[ja,ja];exact R.len,R.sub,R.dom,R.ext,R.fU,R.uV,R.vM,R.feed,λj s q=>?_,R.pin,λj e a q c=>?_,λj s a q o c=>?_,λj k s t a g m c r u v=>?_,λp z=>?_]
 .rcases D7 q with⟨rfl,A,rfl⟩|⟨f,q⟩
  .rw[NL^by rw[←R.len];exact A]
   exact h
  .rw[Ew f]
   exact R.sl j s q
 .rcases D7 q with⟨_,_,e⟩|⟨f,q⟩
  .exact absurd e.symm^y _
  .rw[Ew f]at c
   exact R.br0 j e a q c
 .let#[g,e]:=b j s q o
  rw[e]at c;exact R.new j s a g o c
 .let#[B,D]:=b j s g m
  let#[E,l]:=b k t c r;rw[D]at u;rw[l]at v;exact R.two j k s t a B m E r u v
 .let#[G,I,J,L]:=R.kept p z
  refine#[G,I,J,λj e q=>?_];let#[g,l]:=b j _ q rfl;rw[l];exact L j e g
end
def Z5(d:Fm->Prop)(X:Cx)(e:Kd)(f:iD)(w:AX):Prop:=∃t,PS X f t/\∀(C:Fm) (M:Ch->Prop) (H:Hp) (n:Sg) (a:r_ Slot) (b:L2.St) (c:E2) (E:Ends),d C->Rel X.K C M H n a b->Fs X.K C e c E->w c n a->t E b H
def JP(d:Fm->Prop)(X:Cx)(e:Kd)(f:r_ iD)(w:AX):Prop:=∃t,PSs X f t/\∀(C:Fm) (M:Ch->Prop) (H:Hp) (n:Sg) (a:r_ Slot) (b:L2.St) (c:E2) (E:Ends),d C->Rel X.K C M H n a b->Fs X.K C e c E->w c n a->t E b H
section
variable {Φ:Fm->Prop}{X:Cx}{κ:Kd}{st:Stmt}{rest:r_ Stmt}{u v:AX}{wA:FJ}{c:Expr}{pos p:Pos}
def BD(h:Mz X κ rest u):JP Φ X κ rest u:=let #[t,a,b]:=h;#[t,a,λC M H n c d e E _=>b C M H n c d e E]
def Ao(h1:Z5 Φ X κ st u)(e:JP Φ X κ rest v):JP Φ X κ (st::rest)^BR u v:=by
 let#[t,f,g]:=h1;let#[j,h,i]:=e;exact#[_,Az f h,λC M H n a b c E d R L w=>g C M H n a b {c with nx:=v c} _ d R #[λM H n a b R w=>i C M H n a b c E d R L w,L.rt,L.bk,L.ct] w]
def BG(h1:Z5 Φ X κ st u):JP Φ X κ [st] u:=by
 let#[t,a,b]:=h1;exact#[t,CM a,b]
def C3{a b:r_ iD}(k:DT X c wA)(l:JP Φ X κ a u)(m:JP Φ X κ b v):Z5 Φ X κ (.If c a b pos)^DY wA u v:=by
 let#[t,o,q]:=k;let#[A,r,s]:=l;let#[x,y,z]:=m;refine#[_,Oi o r y,λC M H n d e f E g R L w=>?_];refine q C M H n d e _ _ R w λb H1 h i j p=>?_;cases b with
 |true=>exact s C M H1 h d e f E g (R.step i j) L p
 |false=>exact z C M H1 h d e f E g (R.step i j) L p
end
abbrev aC:=E2->PX->Sg->r_ Slot->Prop
def fT(X:Cx)(e:Kd)(f:iD)(w:aC):Prop:=∃t,cq X f t/\∀(C:Fm) (M:Ch->Prop) (H:Hp) (n:Sg) (a:r_ Slot) (b:L2.St) (c:E2) (E:Ends) (R:XK) (d:PX),Rel X.K C M H n a b->Fs X.K C e c E->LiftX X.K C.F C.U M H d R->w c d n a->t E R b H
def c0(X:Cx)(e:Kd)(f:r_ iD)(w:aC):Prop:=∃t,Zw X f t/\∀(C:Fm) (M:Ch->Prop) (H:Hp) (n:Sg) (a:r_ Slot) (b:L2.St) (c:E2) (E:Ends) (R:XK) (d:PX),Rel X.K C M H n a b->Fs X.K C e c E->LiftX X.K C.F C.U M H d R->w c d n a->t E R b H
def LiftX.step{K:Frag}{F:s_ (Ch×Ch)}{U M:Ch->Prop}{H H1:Hp}{a:PX}{E:XK}(h:LiftX K F U M H a E)(e:Ext U H H1):LiftX K F U M H1 a E:=λb C c d f g i j k l=>h b C c d f g i j k^e.trans l
section
variable {X:Cx}{κ:Kd}{st:Stmt}{u v:aC}{c e:Expr}{es:r_ Expr}{pos p:Pos}{nm:Str}{ks:r_ Str}{k:Nat}{was:C7}
def Tr(h1:fT X κ st u):c0 X κ [st] u:=by
 let#[t,a,b]:=h1;exact#[t,SJ a,b]
def fV(X:Cx)(e:gI)(κ:Kd)(w:Sg->r_ Slot->(D->Sg->Prop)->PX->Prop):Prop:=∃t,e8 X e t/\∀(C:Fm) (M:Ch->Prop) (H:Hp) (n:Sg) (b:r_ Slot) (c:L2.St) (P:D->Sg->Prop) (Q:VK) (R:XK) (f:PX),Rel X.K C M H n b c->LiftX X.K C.F C.U M H f R->w n b P f->
 (∀v a d g,Ext C.U H a->FeedC X.K C.F M a g->VR X.K C.V M H a κ v d->P d g->Q v a)->t R c H Q
def WS(P:gC)(w:gJ)(K:Frag)(b:Str->s_ Db)(a:gA)(x:Str)(k:Nat)(ps:r_ Str)(κ:Kd)(W:WX):Prop:=
 ∃f fd,FnOk P w K b a (KI P w) k f fd ps^Z7 K κ W ps.length/\b x=P3^.ref f/\keepIn K^.ref f=p_/\Binds K fd ps []/\∀c n P d,W c n P d->c.length=ps.length
def X0(W:WX)(was:La):Sg->r_ Slot->(D->Sg->Prop)->PX->Prop:=λn a P b=>was n a λc d=>W c d P b
def T5{ps:r_ Str}{h:Kd}{W:WX}{x:Str}{was:La}(G:WS X.prog X.w X.K X.mg X.base x k ps h W)(m:Room k X.A)(o:Gl X x)(s:M5 X (e::es) was)
  (c:(x==("__debug__":Str))=q_:=by decide) (u:starEach (e::es) X.env=(q_,eval e X.env)::starEach es X.env:=by rfl) (g:(backTo pos^starEach es X.env).any (·.1)=q_:=by rfl):
  fV X (.Call (.Name x p) (e::es) [] pos) h (X0 W was):=by
 let#[f,fd,G,y,z,B,D]:=G;let#[t,E,F]:=s;refine#[_,SW G m o y z B E c u g,λC M H n I J P Q R L r l w q=>?_];refine F C M H n I J _ _ r w λvs H1 N O a i j p=>?_;have b:=r.step a i;exact#[(Paired.length j).trans^D _ _ _ _ p,_,_,_,M,O,N,P,L,#[b.dom,b.fU,b.uV,b.vM,i,j],p,λv S d T U V Y Z=>q v S d T (a.trans U) V (VR.back a Y) Z,l.step a]
def Xx(w:Sg->r_ Slot->(D->Sg->Prop)->PX->Prop):aC:=λb c n a=>w n a (λ_ d=>b.nx d a) c
def Ts{f:Kd}{a:Sg->r_ Slot->(D->Sg->Prop)->PX->Prop}(h:fV X e f a)(g:swapsWith e o_ pos.line X.env=pure q_:=by rfl):fT X κ (.Expr e pos)^Xx a:=by
 let#[t,i,j]:=h;exact#[_,SI i g,λC M H n b c u E R k r L l w=>j C M H n b c _ _ R k r l w λv m d o q s x p=>L.nx M m o b c (r.step q s) p]
abbrev Z4:=E2->Str->r_ Str->r_ D->Sg->r_ Slot->Prop
def DH(X:Cx)(κ:Kd)(h:r_ kT)(w:Z4):Prop:=∃t,PH X h t/\∀(C:Fm) (M:Ch->Prop) (H:Hp) (n:Sg) (b:r_ Slot) (c:L2.St) (d:E2) (E:Ends) (nm:Str) (e i:Ch) (ks:r_ Str) (a:r_ D) (f:r_ V) (g:s_ Ch),
 Rel X.K C M H n b c->Fs X.K C κ d E->XC X.K nm e i->fO M H g ks f->ks.length=a.length->Ats X.K M H a f->w d nm ks a n b->t E e g c H
def dJ(c:aC)(d:Z4):AX:=λa n b=>c a (λnm ks e f=>d a nm ks e f b) n b
def ZV{a:r_ iD}{b:kT}{c:r_ kT}{h:aC}{i:Z4}(d:X.stack=X.env::X.outer)(g:X.env.frame=P3 X.env.locals)(o:∀e s,X.xe e s->False)(q:c0 X κ a h)(u:DH X κ (b::c) i):
  DS X κ (.Try a (b::c) [] [] pos) (dJ h i):=by
 let#[t,x,y]:=q;let#[O,z,A]:=u;exact#[_,YZ d g o x z,λC M H n j k l E r L w=>y C M H n j k l E _ _ r L (λnm m B ks D F G I J e f K xd N c p=>#[m,rfl,A C M I J j k l E nm m B ks D F G (r.step e f) L K xd N c p]) w]
def Xu:Z4:=λ_ _ _ _ _ _=>False
def ZY:DH X κ [] Xu:=#[_,Ye,λ_ _ _ _ _ _ _ _ _ _ _ _ _ _ _ _ _ _ _ _ _ w=>w.elim]
def Wa(e:Str)(i:Nat)(h:Ch->AX)(j:Z4):Z4:=λb nm ks f n g=>if nm=e\/e="ThinError" then ∀a,h a {nx:=λc d=>b.nx c^d.set i .no,rt:=b.rt,bk:=λc d=>b.bk c^d.set i .no,ct:=λc d=>b.ct c^d.set i .no} n^g.set i^.ex a nm ks f else j b nm ks f n g
def Vs{i:Nat}{f y:Str}{h:iD}{b:r_ iD}{x:r_ kT}{J:Ch}{P:Ch->AX}{Z:Z4}{np:Pos}(hN:X.N.Nodup)(hi:X.N[i]?=P3 y)(hl:X.env.scope.names.lookup y=P3 .local)(hg:Gl X f)(hm:X.mg f=P3^.ref J)(hK:nsIn X.K mainGlobals f=P3^P3^.ref J)
  (Q:f="ThinError"/\aB X.K J\/f ≠ "ThinError"/\∃U,XC X.K f J U) (R:X.stack=X.env::X.outer) (S:X.env.frame=P3 X.env.locals)
  (T:∀a,Mz (X.hush^X.A.mark^P3^.ref a) κ (h::b)^P a) (hr:DH X κ x Z) (hd:(f==("__debug__":Str))=q_:=by decide):
  DH X κ (.ExceptHandler (P3^.Name f np) (P3 y) (h::b) pos::x) (Wa f i P Z):=by
 let#[th,b1,b2]:=hr;have V:∀a,∃t,PSs (X.hush^X.A.mark^P3^.ref a) (h::b) t/\∀(C:Fm) (M:Ch->Prop) (H:Hp) (n:Sg) (B:r_ Slot) (O:L2.St) (k:E2) (E:Ends),Rel X.K C M H n B O->Fs X.K C κ k E->P a k n B->t E O H:=T;refine#[_,VC (ts:=λa=>(V a).choose) hN hi hl hg hm (Q.elim (λz=>z.2) fun#[_,U,c]=>c.isX) R S (λa=>(V a).choose_spec.1) b1 hd,λC M H n B O k E nm Cc W ks ds vs dx r L m xd D x w=>#[nm,W,m,?_]];unfold Wa at w
 by_cases e:nm=f\/f="ThinError"
 .rw [if_pos e]at w
  refine .inl #[?_,λa u fa xt=>?_]
  .rcases Q with⟨z,_⟩|⟨z,U,c⟩
   .subst z
    have q:=m.atU.symm.trans hK;cases q;exact .inr rfl
   .rcases e with e|e
    .subst e
     have q:=m.at_.symm.trans hK;cases q;exact .inl rfl
    .exact absurd e z
  .have g:Grow H^AY H a u:=AU fa
   have r1:=r.step (g.ext)^r.feed.grow g;have na:¬M a:=λz=>by let#[o,q]:=r.dom a z;rw[fa]at q;cases q
   have nd:∀{d:Ch}{o:HO},H d=P3 o->AY H a u d=P3 o:=λ{d o} q=>g.all d o q;refine(V a).choose_spec.2 C M (AY H a u) n (B.set i^.ex a nm ks ds) _ {nx:=λj l=>k.nx j^l.set i .no,rt:=k.rt,bk:=λj l=>k.bk j^l.set i .no,ct:=λj l=>k.ct j^l.set i .no} _ (r1.setS rfl (λ_ z=>by cases z) #[rfl,Cc,W,dx,u,vs,m,#[na,AH],xt,?_,D,x.pres g.pres]) #[λF G j l zZ I q=>?_,L.rt,λF G j l zZ I q=>?_,λF G j l zZ I q=>?_]^w a
   .rcases xd with z|⟨d,Y,n1,h1⟩
    .exact .inl z
    .exact .inr #[d,Y,n1,nd h1]
   .exact L.nx F G j _ _ (I.setS (s:=.no) rfl (λ_ z=>by cases z) trivial) q
   .exact L.bk F G j _ _ (I.setS (s:=.no) rfl (λ_ z=>by cases z) trivial) q
   .exact L.ct F G j _ _ (I.setS (s:=.no) rfl (λ_ z=>by cases z) trivial) q
 .rw[if_neg e]at w
  have Y:nm≠f:=λz=>e^.inl z;have e2:f ≠ "ThinError":=λz=>e^.inr z
  rcases Q with⟨z,_⟩|⟨_,U,c⟩
  .exact absurd z e2
  .refine .inr #[λz=>?_,λz=>?_,b2 C M H n B O k E nm Cc W ks ds vs dx r L m xd D x w]
   .subst z
    exact Y^m.name c
   .subst z
    exact e2^m.nameU c
end
end Dp
namespace K69
open L2 Dp Nt
def top(i:Nat):iD:=PySem.Challenge.pw_thinnet_k69_deeds_refused.main.body.getD i^.Pass #[0,0,0,0]
def DQ(j:Nat)(s:iD):iD:=match s with
 |.ClassDef _ _ _ b _ _ _ _ _ _ _=>b.getD j^.Pass #[0,0,0,0]
 |_=>.Pass #[0,0,0,0]
abbrev Ey:iD:=top 19
abbrev An:iD:=DQ 0^top 44
abbrev D8:iD:=top 47
abbrev Cp:iD:=top 48
abbrev HZ:iD:=top 61
structure Txt (K:Frag) (mg:Str->Option Db):Prop where
 Gam:mg "ValueError"=o_
 Gap:mg "all"=o_
 Gat:mg "bool"=o_
 Gao:mg "enumerate"=o_
 Gaq:mg "int"=o_
 Gaa:mg "isinstance"=o_
 Gab:mg "len"=o_
 Gan:mg "list"=o_
 Gar:mg "max"=o_
 Gak:mg "min"=o_
 Gah:mg "range"=o_
 Gaj:mg "repr"=o_
 Gas:mg "reversed"=o_
 Gag:mg "sorted"=o_
 Gal:mg "str"=o_
 Gae:mg "tuple"=o_
 Gau:mg "zip"=o_
 Gai:∃t,mg "MOST_SIGNS"=P3 (.int 8 t)
 Gac:∃t,mg "MOST_NUMBER"=P3 (.int 1000000 t)
 Gad:∃t,mg "MOST_PLACES"=P3 (.int 24 t)
 Gaf:∃t,mg "MOST_TIES"=P3 (.int 60 t)
 x_NoLine:∃C U,XC K "NoLine" C U/\mg "NoLine"=P3 (.ref C)
 x_NoPaper:∃C U,XC K "NoPaper" C U/\mg "NoPaper"=P3 (.ref C)
 x_TooMany:∃C U,XC K "TooMany" C U/\mg "TooMany"=P3 (.ref C)
 x_Twice:∃C U,XC K "Twice" C U/\mg "Twice"=P3 (.ref C)
 x_NoPlace:∃C U,XC K "NoPlace" C U/\mg "NoPlace"=P3 (.ref C)
 x_NoTie:∃C U,XC K "NoTie" C U/\mg "NoTie"=P3 (.ref C)
 x_NoRow:∃C U,XC K "NoRow" C U/\mg "NoRow"=P3 (.ref C)
 x_ThinError:∃U,aB K U/\mg "ThinError"=P3^.ref U/\nsIn K mainGlobals "ThinError"=P3^P3^.ref U
section
variable {P:Program}{w:World}{K:Frag}{mg:Str->s_ Value}{base:Heap}
def oF:A8 ["_law_feed_here","_law_many","_law_digit","_law_at","_law_cell","_law_first"] ["_law_feed_here","_law_many"]^AK Cp:=#[rfl,rfl,rfl,by decide +kernel,rfl,by decide +kernel,by decide +kernel]
def VN{f:Ch}{fd:gp}(F:Fun K "_law_next" "_law_next" Cp f fd)(ml:mg "len"=o_):FnOk P w K mg base Eo 1 f fd ["_law_feed_here","_law_many"]^P_ K .sh Fq 2:=by
 refine F.ok oF (λvs H Q E h=>h.1) λa1 A a2 s H vs Q E hr h=>?_;let#[hl,F0,U,V',M,n,ss,Pd,ra,#[m,rfl,a8,Y,hn,hP],q]:=h;let#[a9,fU,uV,vM,Z,pa]:=ra;cases pa with
 |cons r1 pa=>
 cases pa with
 |cons r2 pa=>
 cases pa;let#[#[d,c],e0,hF]:=r1.1;cases e0;let#[v2,e2,h2]:=r2.1;cases e2;cases(show _=V.int m from h2);let#[a,r,v,D,O,hc,a3,a4,b0]:=Z.1 (d,c) hF
 have R:∀(a' r' z:Int) (B:Hp),(∀b o,H b=P3 o->b≠d->B b=P3 o)->B d=P3^.lst [.ref c,.int a',.int r']->0<=a'->a'<=a+1->0<=z->z<m->Q (.int z) B:=by
  intro a' r' z B C S h0 h1 a5 a6;refine q (.int z) B (.int z) (n - 1) (λb o e=>?_) #[λg hg=>?_,λb k hk=>(Z.2 b k hk).to (λ_ _ z=>z) (λb vs e=>C b _ e λz=>by rw[z,D]at e;cases e) (λb o e=>if z:b=d then#[_,z▸S]else#[o,C b o e z]) λu e=>C b _ e λz=>by rw[z,D]at e;cases e] rfl (hP z a5 a6)
  .by_cases y:b=d
   .subst y
    exact#[_,S,λnu _=>absurd (fU (b,c) hF) nu,λvs z=>by rw[z,D]at e;cases e]
   .exact#[o,C b o e y,λ_ _=>rfl,λ_ _=>rfl]
  .have:g=(d,c):=XV^hg.symm.trans hF
   subst this;exact#[a',r',v,S,O,#[hc.1,C c _ hc.2 O],a3,h0,by have e:(n - 1:Sg).n=n.n - 1:=rfl;lk]
 have hu:(A.deeper^envOfC "_law_next" (AK Cp) s.heap.objs.size f a1).units<cLine:=hr.units0;have l:∀{B:Hp}{xs:r_ V},B d=P3^.lst xs->SqL K B d xs:=λh=>SqL.of h;have W:∀z:Int,0<=z % m/\z % m<m:=λz=>#[Int.emod_nonneg _^by lk,Int.emod_lt_of_pos _^by lk]
 exists _,Az (Oi (EN W4 (DD ix_list (pv 0) Ah λ_ _=>rfl) Ah^E3 _)
   (Az (Cw (i:=2) oF.nd rfl (gx rfl) (BS Cy (DD ix_list (pv 0) Ah λ_ _=>rfl)^pv 1))
   (Az (Kh (BS Km (DD ix_list (pv 0) Ah λ_ _=>rfl)^pv 1)^NT (pv 0) Ah set_list)
   (CM^D9^pv 2))) Ke)
  (Az (Cw (i:=3) oF.nd rfl (gx rfl) (DD ix_list (pv 0) Ah λ_ _=>rfl))
  (Az (Kh (BS op_add (pv 3) Ah)^NT (pv 0) Ah set_list)
  (Az (Cw (i:=4) oF.nd rfl (gx rfl) (L8 (EN (QO hu) (DD ix_list (pv 0) Ah λ_ _=>rfl) (Kj Bt)^E3 _)
   (DD ix_list (DD ix_list (pv 0) Ah λ_ _=>rfl) (BS Cy (pv 3) (DF IV rfl ml PySem.boot_len (Aw (DD ix_list (pv 0) Ah λ_ _=>rfl) Bt))) λ_ _=>rfl) Ah))
  (Az (Oi (PW.pt^SD (EN bQ (pv 4) (BS Sk Ah Ah)^E3 _)^Oe^EN op_lt (pv 3) (DF IV rfl ml PySem.boot_len (Aw (DD ix_list (pv 0) Ah λ_ _=>rfl) Bt))^E3 _)
   (Az (Kh (BS Km (pv 4)^pv 1)^NT (pv 0) Ah set_list)
   (CM^D9^BS Cy (pv 4)^pv 1)) Ke)
  (Az (Cw (i:=5) oF.nd rfl (gx rfl) (BS Cy (BS op_mul (BS op_add (BS op_add (BS op_add (BS Cy (pv 4) Ah)^BS op_mul (BS op_mul Ah^pv 3)^pv 3)^BS op_mul Ah^pv 3) Ah) Ah) Ah))
  (CM^D9^BS Cy (BS Km (BS Cy (BS op_mul (BS op_add (pv 5)^BS op_mul Ah^pv 3) Ah) Ah) Ah)^pv 1))))))
 exists _,rfl,d,_,2,_,rfl,rfl,l D,rfl,_,_,rfl,rfl,_,rfl;refine Dl (λc1=>?_) λc1=>?_
 .exists _,rfl,d,_,2,_,rfl,rfl,l D,rfl,_,rfl,_,_,rfl,rfl,(by show(0:Int)<m;lk)
  exists _,rfl,d,_,2,_,rfl,rfl,l D,rfl,_,rfl,_,_,rfl,rfl,#[(by show(0:Int)<m;lk),Y],_,rfl,d,_,2,2,rfl,rfl,D,rfl;exists _,rfl;exact R a _ _ _ (λb o e y=>by rw[AF y];exact e) AH a4 (by lk) (W _).1 (W _).2
 ·-- at=feed[1];feed[1]=at+1
  exists _,rfl,d,_,1,_,rfl,rfl,l D,rfl;exists _,rfl,_,_,rfl,rfl,_,rfl,d,_,1,1,rfl,rfl,D,rfl;generalize a0:AY H d^.lst^[V.ref c,V.int a,V.int r].set 1^V.int (a+1)=H1;have f1:H1 d=P3^.lst [.ref c,.int (a+1),.int r]:=by rw[←a0];exact AH
  have k1:∀b o,H b=P3 o->b≠d->H1 b=P3 o:=λb o e y=>by rw[←a0,AF y];exact e
  have G:H1 c=P3^.lst^v.map V.int:=k1 c _ hc.2 O
  have J:∀(z:Int) (X:Hp),(∀b o,H1 b=P3 o->X b=P3 o)->
    (P7 (aW (ah (OP^C8 (Gr λi j=>V.bl (decide (j<=i))) (BZ 4)^C8 (rI Z6 λi j=>V.int (i ^ j.toNat)) (tC^V.int 10)^tC^V.int 18)^OP^C8 (Gr λi j=>V.bl (decide (i<j))) (BZ 3)^af (λxs H Q=>∃x n,xs=[x]/\Zz K x H n/\Q (V.int n) H)^OQ (C8 (YS K) (BZ 0)^tC^V.int 0) P8) (P7 (Lr (C8 (rI WV λi j=>V.int (i / j)) (BZ 4)^BZ 1)^bg (BZ 0) (tC^V.int 2) Wp)^Uz^C8 (rI (λ_ j=>0<j) λi j=>V.int (i % j)) (BZ 4)^BZ 1) Wh)^P7 (Lr (C8 (rI (λ_ j=>0<j) λi j=>V.int (i % j)) (C8 (rI CMul λi j=>V.int (i*j)) (C8 (Gr λi j=>V.int (i+j)) (C8 (Gr λi j=>V.int (i+j)) (C8 (Gr λi j=>V.int (i+j)) (C8 (rI (λ_ j=>0<j) λi j=>V.int (i % j)) (BZ 4)^tC^V.int 1000003)^C8 (rI CMul λi j=>V.int (i*j)) (C8 (rI CMul λi j=>V.int (i*j)) (tC^V.int 41)^BZ 3)^BZ 3)^C8 (rI CMul λi j=>V.int (i*j)) (tC^V.int 17)^BZ 3)^tC^V.int 3)^tC^V.int 51749)^tC^V.int 999917)^Gd 5)^Uz^C8 (rI (λ_ j=>0<j) λi j=>V.int (i % j)) (C8 (rI WV λi j=>V.int (i / j)) (C8 (rI (λ_ j=>0<j) λi j=>V.int (i % j)) (C8 (rI CMul λi j=>V.int (i*j)) (C8 (Gr λi j=>V.int (i+j)) (BZ 5)^C8 (rI CMul λi j=>V.int (i*j)) (tC^V.int 8111)^BZ 3)^tC^V.int 39373)^tC^V.int 2097143)^tC^V.int 3)^BZ 1)
     {nx:=λ_ B=>Q .non B,rt:=Q} [P3^.ref d,P3^.int m,o_,P3^.int a,P3^.int z,o_] X:=by
   intro z X k2;have f2:=k2 _ _ f1;have c2:=k2 _ _ G
   have t:∀H3:Hp,H3=X->(P7 (Lr (C8 (rI (λ_ j=>0<j) λi j=>V.int (i % j)) (C8 (rI CMul λi j=>V.int (i*j)) (C8 (Gr λi j=>V.int (i+j)) (C8 (Gr λi j=>V.int (i+j)) (C8 (Gr λi j=>V.int (i+j)) (C8 (rI (λ_ j=>0<j) λi j=>V.int (i % j)) (BZ 4)^tC^V.int 1000003)^C8 (rI CMul λi j=>V.int (i*j)) (C8 (rI CMul λi j=>V.int (i*j)) (tC^V.int 41)^BZ 3)^BZ 3)^C8 (rI CMul λi j=>V.int (i*j)) (tC^V.int 17)^BZ 3)^tC^V.int 3)^tC^V.int 51749)^tC^V.int 999917)^Gd 5)^Uz^C8 (rI (λ_ j=>0<j) λi j=>V.int (i % j)) (C8 (rI WV λi j=>V.int (i / j)) (C8 (rI (λ_ j=>0<j) λi j=>V.int (i % j)) (C8 (rI CMul λi j=>V.int (i*j)) (C8 (Gr λi j=>V.int (i+j)) (BZ 5)^C8 (rI CMul λi j=>V.int (i*j)) (tC^V.int 8111)^BZ 3)^tC^V.int 39373)^tC^V.int 2097143)^tC^V.int 3)^BZ 1)
     {nx:=λ_ B=>Q .non B,rt:=Q} [P3^.ref d,P3^.int m,o_,P3^.int a,P3^.int z,o_] H3:=by
    intro H3 e3;subst e3;have y:CMul (41*a) a:=.inr #[by lk,by lk];exists _,rfl,_,_,rfl,rfl,(by show(0:Int)<1000003;decide),_,rfl,_,_,rfl,rfl,.inl #[by cbv,by cbv],_,rfl,_,_,rfl,rfl,y,_,_,rfl,rfl,_,rfl,_,_,rfl,rfl,.inl #[by cbv,by cbv],_,_,rfl,rfl,_,_,rfl,rfl,_,_,rfl,rfl,.inr #[by cbv,by cbv],_,_,rfl,rfl,(by show(0:Int)<999917;decide);exists _,rfl,_,rfl,_,_,rfl,rfl,.inl #[by cbv,by cbv],_,_,rfl,rfl,_,_,rfl,rfl,.inr #[by cbv,by cbv],_,_,rfl,rfl,(by show(0:Int)<2097143;decide),_,_,rfl,rfl,#[by cbv,by cbv],_,rfl,_,_,rfl,rfl,(by show(0:Int)<m;lk);exact R (a+1) r _ _ (λb o e y=>k2 b o^k1 b o e y) f2 (by lk) (by lk) (W _).1 (W _).2
   exists _,rfl,_,_,rfl,rfl,#[by cbv,by cbv,by cbv],_,_,rfl,rfl,_,rfl;refine Dl (λc3=>?_) λc3=>?_
   .exists _,rfl,_,rfl,d,_,0,_,rfl,rfl,l f2,rfl,_,_,rfl,.inl #[_,SqL.of c2,rfl],_,_,rfl,rfl,_,rfl
    refine Dl (λc4=>?_) λc4=>t X rfl;exists _,rfl,_,rfl,_,_,rfl,rfl,#[(by show(0:Int)<m;lk),Y],_,rfl,d,_,2,2,rfl,rfl,f2,rfl;exists _,rfl,_,rfl,_,_,rfl,rfl,(by show(0:Int)<m;lk);exact R (a+1) _ _ _ (λb o e y=>by rw[AF y];exact k2 b o^k1 b o e y) AH (by lk) (by lk) (W _).1 (W _).2
   .refine Dl (λc4=>absurd c4^by simp) λ_=>t X rfl
  refine#[_,rfl,d,_,0,_,rfl,rfl,l f1,rfl,(by show 0<=sizeLine;decide),λp hp=>?_];have T:∀b o,H1 b=P3 o->AY H1 p (.lst []) b=P3 o:=λb o e=>by rw[AF^AW e hp];exact e
  exists c,p,_,rfl,rfl,SqL.of^T _ _ G,SqL.of AH,_,rfl;cases v with
  |nil=>exact BB^J 0 _ T
  | cons L I=>
   refine BX ?_;have a7:(((L::I).map V.int).length:Int)=(I.length:Int)+1:=by simp
   have N:(0:Int)<(((L::I).map V.int).length:Int):=by lk
   obtain⟨z,hz⟩:∃z,atI ((L::I).map V.int) (a % (((L::I).map V.int).length:Int))=P3^.int z:=by
    have h1:=Int.emod_nonneg a (show(((L::I).map V.int).length:Int)≠0 by lk);have h2:=Int.emod_lt_of_pos a N;generalize a % (((L::I).map V.int).length:Int)=j at h1 h2;obtain⟨k,rfl⟩:∃k:Nat,j=(k:Int):=#[j.toNat,by lk];have hk:k<(L::I).length:=by rw[Ev]at h2;lk
    refine#[(L::I)[k],AC ?_];rw[UF,Go hk];rfl
   exists _,rfl,d,_,0,_,rfl,rfl,l^T _ _ f1,rfl,_,rfl,_,rfl,d,_,0,_,rfl,rfl,l^T _ _ f1,rfl,_,_,rfl,.inl #[_,SqL.of^T _ _ G,rfl],_,_,rfl,rfl,N,c,_,_,_,rfl,rfl,SqL.of^T _ _ G,hz;exact J z _ T
end
end K69
namespace Nt
open L2 Dp
def cs(x:Str):r_ Nat:=x.cps.toList
def Zd{x y:Str}(h:cs x=cs y):x=y:=by
 let#[a]:=x;unfold cs at h
 simp_all
def Bm(x:Str):Prop:=1<=x.length/\x.length<=8/\∀c∈cs x,97<=c/\c<=122
def rising(a:r_ Str):Prop:=a.Pairwise λx y=>cs x<cs y
def S2(a b:r_ Nat):ltCps a b=decide (a<b):=ltCps_eq a b
theorem GU:∀(l:r_ Str) (p:Str),risingS p l=p_->(p::l).Pairwise λa b=>¬cs b<cs a
 |[],p,_=>nF _ _
 |x::r,p,h=>by
  have c:(!ltCps _ _&&risingS x r)=p_:=h;rw[gS,lA,S2,decide_eq_false_iff_not]at c;have e:=GU r x c.2;refine g0.mpr #[λy d=>?_,e]
  rcases Tk.mp d with rfl|d
  .exact c.1
  .exact List.le_trans c.1^(g0.mp e).1 y d
def Cu{l:r_ Str}(h:sortedS l=p_)(nd:l.Nodup):rising l:=by
 have c:l.Pairwise λa b=>¬cs b<cs a:=by
  cases l with
  |nil=>simp_all
  |cons x r=>exact GU r x h
 exact(c.and nd).imp λ{a b} #[d,e]=>kd λf=>e^Zd^List.le_antisymm d f
def DB(lo:Int)(n:Nat):(DC lo n).length=n:=by unfold DC;grind
def Hb{lo:Int}{n:Nat}{d:D}(h:d∈DC lo n):∃k:Nat,k<n/\d=.int (lo+k):=by
 let#[k,a,rfl]:=TM.mp h;exact#[k,io.mp a,rfl]
end Nt
namespace Dp
open L2
section
variable {X:Cx}
def Jw{k:Nat}{ps:r_ Str}{a:Kd}{W:W2}{x:Str}{p pos:Pos}(G:Got X.prog X.w X.K X.mg X.base x k ps a W)
  (c:Room k X.A) (e:Gl X x) (b:(x==("__debug__":Str))=q_:=by decide):DE X (.Call (.Name x p) [] [] pos) a^BE W Al:=by
 let#[f,fd,G,g,h,i,j]:=G;refine#[_,Se G c e g h i .nil FS b,λC M H n u y P Q R w q=>?_];show P_ X.K a W ps.length ([]++[]) H Q E0;rw[gZ];refine#[j _ _ _ w,C.F,C.U,C.V,M,n,[],P,#[R.dom,R.fU,R.uV,R.vM,R.feed,.nil],w,λv l d m o r s t=>?_];exact q v l d m o r s t
end
end Dp
namespace L2
section
variable {X:Cx}{tg elt iter:Expr}{ifs:r_ Expr}{sc:Scope}{pos spos pos':Pos}{N':r_ Str}{js:r_^s_ Nat}{wi:TI}{i:Nat}{x:Str}
def Oh(hc:X.calm=p_)(N':r_ Str)(js:r_^s_ Nat)(hi:PI X tg iter wi)
  (hB:En sc X.env.scope X.N N' js=p_) (hN:X.N.Nodup) (a0:X.N[i]?=P3 x) (hx:Loc X.env.scope x)
  (a1:swapsWith (.ListComp elt [#[tg,iter,ifs,0]] sc pos) (P3^.Name x pos') spos.line X.env=pure p_)
  (hs:∀x,foldedSetIterable iter X.env x=pure x:=by intro _;rfl)
  (hf:X.fn x=p_\/X.env.scope.names.lookup x=P3 .local:=by first|exact .inl rfl|exact .inr rfl|assumption):
  PS X (.Assign [.Name x pos'] (.ListComp elt [#[tg,iter,ifs,0]] sc pos) spos) (Lr (RX X sc N' js tg elt ifs wi)^Gd i):=by
 intro P s σ H D I h;have O:CompOk X sc N' js:=CompOk.of hB;let#[R,t,a2,S]:=IQ (scope:=sc) (env:=X.env) λx hx=>I.ok.has x^O.free x hx;rw[exec_Assign_Name_used _ _ _ _ a1];refine Cn^lF^Cn ?_;show wpAny _ _ (do let _ ←comprehension (.ListComp elt [#[tg,iter,ifs,0]] sc pos) sc X.env _ (newList []) q_ (eval iter X.env)^P3^assign (.Name x pos') X.env) _ _ s
 refine Cn (gh (wpAny_comprehension_free (Q:=λ_ p=>SP X P D .next p) (use:=P3^assign (.Name x pos') X.env) rfl hs t O.kind O.names (Aq (hi P s σ H _ I h) λv s1 h1=>Aq h1 λa5 c h2=>?_))
  (λ_ p hq=>On^On hq) λ_ _ e=>e)
 let#[it,fp,tn,J,G,e,L,T,u,f2,hq]:=h2;subst e
 have B:X.K.lookup c.heap.objs.size=o_:=by
  cases q:X.K.lookup c.heap.objs.size with
  |none=>rfl
  |some o=>exact absurd (TW^L.kIn _ _ q)^hU _
 let#[g,tt,te,W,hg,ht,he,#[m0,w0],hW]:=hq c.heap.objs.size (L.hok.fresh^Rs _) B R (c.heap.objs.size+1) c G fp;refine iH^wpAny_newFunctionEnv O.cell (by intro y hy;simp at hy) (λj f d=>?_) O.kind
 dsimp only at f d ⊢
 generalize C:c.heap.push {cls:=.type "list",dict:=o_,data:=.seq ([]:r_ Db).toArray}=Hh at f d ⊢;have k:Hh.objs.size=c.heap.objs.size+1:=by rw[←C,gz]
 have U:∀b∈fp,b<c.heap.objs.size:=λb l=>by
  let#[o,e,_]:=T.obj _ _ u b l;exact TW e
 have V:∀b o,c.heap.get? b=P3 o->j.get? b=P3 o:=λb o e=>d.extBut b o (by rw[k];exact gB^iO^TW e)^FM _ (C▸FM _ e);have hD:∃n,j.get? c.heap.objs.size=P3 {cls:=.type "list",data:=.seq #[] n}:=#[_,d.extBut _ _ (by rw[k];exact gB^jO _)^FM _ (C▸Sc _ rfl)]
 have I3:∀M,Inv (AZ X sc N' R (c.heap.objs.size+1) c G fp) [] (B4 js σ) (AY G c.heap.objs.size^.lst []) {c with heap:=j,toks:=M}:=λM=>
  MS L hc O a2 S f2 (λb l=>let #[o,e,_]:=T.obj _ _ u b l;#[o,e]) (by rw[←k];exact f) V hD
 have Y:tn 0 j:=T.keep _ _ _ u λb l o e=>V b o e
 have a3:∀b∈fp,AY G c.heap.objs.size (.lst []) b=o_:=λb l=>by
  rw[AF^gB^U b l];exact(f2 b l).1
 have r:∀M,codeAny (model X.prog X.w) X.A (.compLoop (.ListComp elt [#[tg,iter,ifs,0]] sc pos) 0 (.ref it) (.ref c.heap.objs.size)^compEnvC sc R (c.heap.objs.size+1) X.env)
   (compPost (model X.prog X.w) X.A X.xe (P3^assign (.Name x pos') X.env) (λ_ p=>SP X P D .next p) (.ref c.heap.objs.size) (c.heap.objs.size+1)) {c with heap:=j,toks:=M}:=λM=>by
  refine Jy (W:=W) (m0:=m0) (Q:=λv H1=>Gd i v σ H1 λzM G=>D.nx zM G) L f2 U (hZ _) T hg ht he hW (λzZ H' p J' q'=>?_) (I3 M) Y a3 w0;let#[m,hn,_]:=J'.loc;have Z:H' (c.heap.objs.size+1)=o_:=J'.free;have I4:Inv X P σ H' p:=IC (h':=p.heap) L f2 (hZ _) J' λb _=>rfl;let#[g1,g2,g3,g4,g5,g6]:=L.fpOk (b:=c.heap.objs.size+1) (hZ _) Z;show wpAny (model X.prog X.w) X.A (assign (.Name x pos') X.env^.ref c.heap.objs.size) (λ_ E=>∃m,E.heap.Ns (c.heap.objs.size+1) m/\∀h',jB (c.heap.objs.size+1) E.heap h'->SP X P D .next {E with heap:=h'}) X.xe p;refine wpAny_assign_Name (Ja (v:=.ref c.heap.objs.size) I4 hN a0 hx rfl (λs5 I5 #[a,F,ha]=>?_) hf)
  have na:c.heap.objs.size+1≠a:=by
   rcases ha with rfl|ha
   .exact g2
   .exact λz=>g5 _ _ ha z.symm
  refine#[m,hn.sameBut F na,λh' a4=>?_];exact#[_,H',I5.turned (t':=s5.toks) (it:=c.heap.objs.size+1) (λb o l e=>a4.extBut b o l e) Z g2 g4 g5 g6,q']
 rw[show(newEnv sc Hh.objs.size X.env.globals R X.env.qual o_ .none (P3 X.env) builtinsNs).locals=c.heap.objs.size+1 from k];show codeAny (model X.prog X.w) X.A (.compStart (.ListComp elt [#[tg,iter,ifs,0]] sc pos) 0 (.ref it) (.ref c.heap.objs.size)^compEnvC sc R (c.heap.objs.size+1) X.env) _ _;exact codeAny_compStart_list (r _)^T.self _ 0 _ _ _ Y^r _
end
end L2
namespace Dp
open L2
section
variable {X:Cx}{zU:Kd}{tg elt iter:Expr}{ifs:r_ Expr}{sc:Scope}{pos:Pos}{src:C7}{b:BW}{tt:FJ}{te:DW}
def Md(hc:X.calm=p_)(N':r_ Str)(js:r_^s_ Nat)(hi:Xk X tg iter src)(hg:∀O C s H S,DG (AZ X sc N' O C s H S) tg b)(ht:∀O C s H S,Xj (AZ X sc N' O C s H S) ifs tt)(he:∀O C s H S,DE (AZ X sc N' O C s H S) elt zU te)
  (hB:En sc X.env.scope X.N N' js=p_) (hk:zU≠.tp:=by intro z;cases z)
  (hs:∀x,foldedSetIterable iter X.env x=pure x:=by intro _;rfl):∃wi,PI X tg iter wi/\∀(C:Fm) (M:Ch->Prop) (H:Hp) (n:Sg) (ρ:r_ Slot) (σ:L2.St) (P:D->Sg->Prop) (Q:VK),Rel X.K C M H n ρ σ->GN js src b tt te n ρ P->
   (∀v r d T,Ext C.U H r->FeedC X.K C.F M r T->VR X.K C.V M H r .fr v d->P d T->Q v r)->RX X sc N' js tg elt ifs wi σ H Q:=by
 let#[wi,a1,a2]:=hi;refine#[wi,a1,λC M H n ρ σ P Q R w q=>?_];refine a2 C M H n ρ σ _ _ R w λJ H1 A n1 B f1 y w1=>?_;let#[b3,w1]:=w1;have R1:=R.step B f1;intro l hl b5 O Ca s0 H0 S;let#[g,g1,g2]:=hg O Ca s0 H0 S;let#[tc,c1,c2]:=ht O Ca s0 H0 S;let#[tx,x1,x2]:=he O Ca s0 H0 S
 have a4:¬C.U l:=λz=>by
  let#[o,z]:=R1.udom l z;rw[hl]at z;cases z
 generalize W:(λb=>M b\/b=l)=M';have a6:M' l:=by rw[←W];exact .inr rfl
 have M'of:∀b,M b->M' b:=λb z=>by rw[←W];exact .inl z
 have a3:∀b,M' b->M b\/b=l:=λb z=>by rw[←W]at z;exact z
 have b0:∀b,C.V b\/b=l->M' b:=λb z=>z.elim (λz=>M'of b^R1.vM b z) λz=>by rw[z];exact a6
 have b4:js.length=N'.length:=EK (CompOk.of hB).cap
 exists g,tc,tx,λi m zZ r=>m=A.length - i/\i<=A.length/\∃T zY k L,Rel X.K #[M',C.F,C.U,λb=>C.V b\/b=l,H1,[],[]] M' r T zY zZ/\r l=P3^.lst L/\Ats X.K M' r k L/\k.length<=i/\Pres M H1 M' r /\
   GW b tt te (λk n2=>P (.lst k) n2) (A.drop i) k T zY,g1,c1,x1,#[A.length,by simp,gK _,n1,FW js ρ,[],[],?_]
 .have G:Grow H1^AY H1 l^.lst []:=AU hl
  have Y:Pres M H1 M'^AY H1 l^.lst []:=#[λb o e _ _=>G.all b o e,λb z=>(a3 b z).elim .inl λz=>.inr (by rw[z];exact hl),λb L e=>G.all b _ e,λb o e=>#[o,G.all b o e]];refine#[#[?_,λa z=>z,λa z=>?_,G.ext,R1.fU,λa z=>.inl^R1.uV a z,b0,f1.pres Y (λf o _ e=>G.all f.1 o e) λa u e=>G.all a _ e,?_,λp hp=>absurd hp^by simp,λi d a q z=>O5 R1.sl q z,λi s a q o _=>absurd o (by rw[Di q];decide),λi j s t a q o _ _ _ _=>absurd o (by rw[Di q];decide),λp hp=>absurd hp^by simp],AH,rfl,gK _,Y,w1]
  .unfold FW B4
   rw[Ev,Ev]
  .rcases a3 a z with z|z
   .let#[o,z]:=R1.dom a z
    exact#[o,G.all a o z]
   .subst z
    exact#[_,AH]
  .refine MK R1.sl Y λd v h=>h.same Y (λa o _ e=>G.all a o e) λa e n1 z=>z.elim n1 λz=>?_
   subst e;let#[o,w]:=h.lies;rw[z,hl]at w;cases w
 .rintro i m zZ r ⟨rfl,hi,T,zY,k,L,R',a7,Z,a8,Y,w'⟩
  by_cases a0:i<A.length
  .have ed:A.drop i=A[i]::A.drop (i+1):=ig a0
   rw[ed]at w';let#[go,yl]:=(y i M' r Y R'.ext R'.dom).1 A[i] (Go a0);refine .inr #[go,λx H2 hy=>?_];let#[G,hx]:=yl x H2 hy;have b1:=R'.step G.ext^R'.feed.grow G;refine g2 _ M' H2 T zY zZ A[i] x _ _ b1 hx w' λzQ zT R3 w3=>?_;refine c2 _ M' H2 T zQ zT _ _ R3 w3 λc H4 n4 e4 f4 w4=>?_;have R4:=R3.step e4 f4;have p4:Pres M' r M' H4:=G.pres.trans^R3.pres e4;have l4:H4 l=P3^.lst L:=e4.keep (G.all _ _ a7) a4;cases c with
   |false=>exact#[A.length - (i+1),by lk,rfl,a0,n4,zQ,k,L,R4,l4,Z.pres p4,by lk,Y.trans p4,w4]
   | true=>
    refine x2 _ M' H4 n4 zQ zT _ _ R4 w4 λyv H5 d5 n5 e5 f5 r5 w5=>?_;have E:=R4.step e5 f5;have p5:Pres M' H4 M' H5:=R4.pres e5;have l5:H5 l=P3^.lst L:=e5.keep l4 a4;have b2:=r5.shOf R4.dom hk;have a5:=(Z.pres p4).pres p5;have pu:Pres M' H5 M'^AY H5 l^.lst (L++[yv]):=B7 a6 l5;have b6:L.length=k.length:=Z.length;refine#[L,l5,by rw[gn];lk,A.length - (i+1),by lk,rfl,a0,n5,zQ,k++[d5],L++[yv],?_,AH,(a5.append^Ats.one b2).pres pu,by rw[gD,gu];lk,(Y.trans p4).trans^p5.trans pu,w5];refine#[E.len,E.sub,λa z=>?_,λb o e=>?_,E.fU,E.uV,E.vM,?_,λj s hs=>?_,λp hp=>absurd hp^by simp,E.br0,E.new,E.two,λp hp=>absurd hp^by simp]
    .by_cases ha:a=l
     .subst ha;exact#[_,AH]
     .rw[AF ha];exact E.dom a z
    .let#[o',q1,q2]:=E.ext b o e
     by_cases hb:b=l
     .subst hb
      have e':H1 b=P3 o:=e;rw[hl]at e';cases e'
     .exact#[o',by rw[AF hb];exact q1,q2]
    .refine f5.pres pu (λf o hf e=>?_) λa u e=>by rw[AF λz=>by rw[z,l5]at e;cases e];exact e
     rw[AF λz=>a4^by rw[←z];exact R1.fU f hf];exact e
    .have I:=E.sl j s hs
     cases s with
     |no=>trivial
     |sh d=>let#[v,B,h2]:=I;exact#[v,B,h2.pres pu]
     |ex a nm ks A=>let#[B,h2]:=I;exact#[B,h2.pres pu]
     | br d=>
      let#[v,B,h2]:=I;refine#[v,B,h2.same pu (λa o z e=>?_) λ_ _ z=>z];subst z;let#[o3,w]:=E.br0 j d a hs B
      have a8:a≠l:=λz=>by
       have w':H1 a=P3 o3:=w;rw[z,hl]at w';cases w'
      rw[AF a8];exact e
     |ow d=>
      let#[a,B,h2,_]:=I;exact absurd h2 (E.new j _ a hs rfl B).1
     |lt a d=>
      let#[B,h2,_]:=I;exact absurd h2 (E.new j _ a hs rfl B).1
     |fd=>exact I
  .have e:i=A.length:=by lk
   subst e;rw[m_]at w';refine .inl #[(y _ M' r Y R'.ext R'.dom).2 (Rs _),?_];have eb:Ext C.U H1 r:=R'.ext;have a9:Pres M' r M r:=Pres.less M'of;refine q _ r (.lst k) T (B.trans eb) (R'.feed.pres a9 (λ_ _ _ z=>z) λ_ _ z=>z) (VR.back B ?_) w';exact#[l,rfl,hl,L,a7,by rw[W];exact Z]
def PQ{q:Kd}{i:Nat}{x:Str}{a c:Pos}(r:X.N.Nodup)(j:X.N[i]?=P3 x)(t:Loc X.env.scope x)(l:X.calm=p_)(e:r_ Str)(h:r_^s_ Nat)(hi:Xk X tg iter src)(u:∀f C s H g,DG (AZ X sc e f C s H g) tg b)(y:∀f C s H g,Xj (AZ X sc e f C s H g) ifs tt)(A:∀f C s H g,DE (AZ X sc e f C s H g) elt zU te)
  (m:En sc X.env.scope X.N e h=p_) (k:swapsWith (.ListComp elt [#[tg,iter,ifs,0]] sc pos) (P3^.Name x a) c.line X.env=pure p_:=by rfl) (B:zU≠.tp:=by intro z;cases z)
  (o:∀x,foldedSetIterable iter X.env x=pure x:=by intro _;rfl)
  (D:X.fn x=p_\/X.env.scope.names.lookup x=P3 .local:=by first|exact .inl rfl|exact .inr rfl|assumption):DS X q (.Assign [.Name x a] (.ListComp elt [#[tg,iter,ifs,0]] sc pos) c)^C9 i^GN h src b tt te:=by
 let#[T,F,G]:=Md l e h hi u y A m B o;exact#[_,Oh l e h F m r j t k o D,λC M H n I J U E R L w=>G C M H n I J _ _ R w λv K d O P Q S p=>L.nx M K O _ _ ((R.step P Q).set^S.shOf R.dom^by grind) p]
end
section
variable {X:Cx}{zU:Kd}{tg elt iter:Expr}{ifs:r_ Expr}{sc:Scope}{pos:Pos}{src:C7}{b:BW}{tt:FJ}{te:DW}
def Tu{r:Kd}{i:Nat}{x:Str}{c e:Pos}(t:X.N.Nodup)(k:X.N[i]?=P3 x)(u:Loc X.env.scope x)(m:X.calm=p_)(f:r_ Str)(j:r_^s_ Nat)(hi:Xk X tg iter src)(y:∀g C s H h,DG (AZ X sc f g C s H h) tg b)(A:∀g C s H h,Xj (AZ X sc f g C s H h) ifs tt)(B:∀g C s H h,DE (AZ X sc f g C s H h) elt zU te)
  (o:En sc X.env.scope X.N f j=p_) (l:swapsWith (.ListComp elt [#[tg,iter,ifs,0]] sc pos) (P3^.Name x c) e.line X.env=pure p_:=by rfl) (D:zU≠.tp:=by intro z;cases z)
  (q:∀x,foldedSetIterable iter X.env x=pure x:=by intro _;rfl)
  (F:X.fn x=p_\/X.env.scope.names.lookup x=P3 .local:=by first|exact .inl rfl|exact .inr rfl|assumption):DS X r (.Assign [.Name x c] (.ListComp elt [#[tg,iter,ifs,0]] sc pos) e)^JS i^GN j src b tt te:=by
 let#[W,G,I]:=Md m f j hi y A B o D q;refine#[_,Oh m f j G o t k u l q F,λC M H n J K Y E R L w=>?_];refine I C M H n J K _ _ R w λv O d P Q S T p=>?_;let#[a,rfl,U,V]:=T;exact L.nx _ O P _ _ (R.setOw Q S U V) p
end
abbrev Fu(K:Frag)(x:Str)(a:iD)(f:Ch)(fd:gp):Prop:=Fun K x x a f fd
def fq{P:gC}{w:gJ}{K:Frag}{i:Str->s_ Db}{a:gA}{x:Str}{c:iD}{f:Ch}{fd:gp}{N ps:r_ Str}{k:Nat}{e:Kd}{W:W2}{j:AX}(F:Fu K x c f fd)(S:A8 N ps^AK c)
  (l:∀{d:Db}{A:gX}{b:r_ Env}{s:No}{H:Hp}{E:XK},Room k^A.deeper^envOfC x (AK c) s.heap.objs.size f d->Mz (C4 Eo P w K i a N x (AK c) f d A b s H E).nox e (Aa c) j)
  (m:∀{ss n Pd},W ss n Pd->j {nx:=λn _=>e=.sh/\Pd .non n,rt:=Pd} n (ss++gq (N.length - ps.length) .no)) (g:ps.length<=N.length:=by decide):
  FnOk P w K i a Eo (k+1) f fd ps (P_ K e W ps.length):=fM F S g (λ_ _ _ _ _ _ h=>l h) λ_ _ _ _ h=>m h
section
variable {X:Cx}
def cg{m:Nat}(g:Room m X.A){e:gI}{a:r_ gI}{k:Nat}{ps:r_ Str}{f:Kd}{W:W2}{x:Str}{p pos:Pos}{b:La}(G:Got X.prog X.w X.K X.mg X.base x k ps f W)(h:M5 X (e::a) b)(i:k<=m:=by decide)(j:Gl X x:=by rfl)
  (c:(x==("__debug__":Str))=q_:=by decide) (l:starEach (e::a) X.env=(q_,eval e X.env)::starEach a X.env:=by rfl) (d:(backTo pos^starEach a X.env).any (·.1)=q_:=by rfl):DE X (.Call (.Name x p) (e::a) [] pos) f^BE W b:=UG G (g.mono i) j h c l d
variable {tg iter elt:Expr}{ifs:r_ Expr}{sc:Scope}{pos:Pos}{b:BW}{tt:FJ}{te:DW}{zU:Kd}{src:C7}
def fu(a:r_ Str)(c:r_^s_ Nat)(hi:Xk X tg iter src)(d:∀{cl C s H fp},DG (AZ X sc a cl C s H fp) tg b)(e:∀{cl C s H fp},Xj (AZ X sc a cl C s H fp) ifs tt)(f:∀{cl C s H fp},DE (AZ X sc a cl C s H fp) elt zU te)
  (g:En sc X.env.scope X.N a c=p_) (h:X.calm=p_:=by rfl) (i:zU≠.tp:=by intro z;cases z) (j:∀x,foldedSetIterable iter X.env x=pure x:=by intro _;rfl):DE X (.ListComp elt [#[tg,iter,ifs,0]] sc pos) .fr^GN c src b tt te:=Vz h a c hi (λ_ _ _ _ _=>d) (λ_ _ _ _ _=>e) (λ_ _ _ _ _=>f) g i j
end
section
variable {X:Cx}{x:Str}{pos pos':Pos}{e a b tg iter elt:Expr}{es ifs:r_ Expr}{κ zV zS zU:Kd}{wa wb te:DW}{was:La}{sc:Scope}{bb:BW}{tt:FJ}{src:C7}
def Dq(i:Nat)(c:X.N.Nodup)(d:DE X e zU wa)(hi:X.N[i]?=P3 x:=by rfl)(f:Loc X.env.scope x:=by first|exact .inl rfl|exact .inr rfl)(g:zU≠.tp:=by intro z;cases z)(h:swapsWith e (P3^.Name x pos') pos.line X.env=pure q_:=by rfl)
  (j:X.fn x=p_\/X.env.scope.names.lookup x=P3 .local:=by first|exact .inl rfl|exact .inr rfl|assumption):DS X κ (.Assign [.Name x pos'] e pos)^C9 i wa:=ZW c hi f d g h j
def Ul(i:Nat)(c:X.N.Nodup)(d:DE X e .fr wa)(hi:X.N[i]?=P3 x:=by rfl)(f:Loc X.env.scope x:=by first|exact .inl rfl|exact .inr rfl)(g:swapsWith e (P3^.Name x pos') pos.line X.env=pure q_:=by rfl)
  (h:X.fn x=p_\/X.env.scope.names.lookup x=P3 .local:=by first|exact .inl rfl|exact .inr rfl|assumption):DS X κ (.Assign [.Name x pos'] e pos)^JS i wa:=Vp c hi f d g h
def GH(i:Nat)(c:X.N.Nodup)(hi:X.N[i]?=P3 x:=by rfl)(d:Loc X.env.scope x:=by first|exact .inl rfl|exact .inr rfl)(e:X.fn x=p_\/X.env.scope.names.lookup x=P3 .local:=by first|exact .inl rfl|exact .inr rfl|assumption):DG X (.Name x pos)^Bz i:=HA c hi d e
def cD{bs:r_ D->r_ Slot->(r_ Slot->Prop)->Prop}{j:Nat}(h:c5 X es bs)(d:X.calm=p_:=by rfl)(e:(assignEach es X.env).length=es.length:=by rfl)(c:(assignEach es X.env).findIdx? (·.1)=o_:=by rfl):DG X (.Tuple es j pos)^Q0 es.length bs:=ZZ d h e c
def By(h:DE X e κ wa)(c:M5 X es was)(d:κ≠.tp:=by intro z;cases z)(f:starEach (e::es) X.env=(q_,eval e X.env)::starEach es X.env:=by rfl):M5 X (e::es)^AR (Am wa) was:=AQ (cG h d) c f
def CO(i:Nat)(d:M5 X es was)(e:X.N[i]?=P3 x:=by rfl)(f:Pu X.env.scope x:=by first|exact gx rfl|exact iK (gx rfl)|exact iK (iK rfl))(g:(x==("__debug__":Str))=q_:=by decide)(c:(x==("__classdict__":Str))=q_:=by decide)
  (h:starEach (.Name x pos::es) X.env=(q_,eval (.Name x pos) X.env)::starEach es X.env:=by rfl):M5 X (.Name x pos::es)^AR (Am^AS i) was:=By (dv i e f g c) d (by intro z;cases z) h
def As(c:DE X a zV wa)(d:DE X b zS wb)(e:HI b:=by intro _ _;rfl):DE X (.Subscript a b pos) .sh^BI Io wa wb:=cF ZD eY c d e
def Q9(c:r_ Str)(d:r_^s_ Nat)(hi:Xk X tg iter src)(e:∀{cl C s H fp},c.Nodup->DG (AZ X sc c cl C s H fp) tg bb)(f:∀{cl C s H fp},Xj (AZ X sc c cl C s H fp) ifs tt)(g:∀{cl C s H fp},DE (AZ X sc c cl C s H fp) elt zU te)
  (h:En sc X.env.scope X.N c d=p_:=by kernel_rfl) (i:c.Nodup:=by decide +kernel) (j:X.calm=p_:=by rfl) (k:zU≠.tp:=by intro z;cases z) (l:∀x,foldedSetIterable iter X.env x=pure x:=by intro _;rfl):DE X (.ListComp elt [#[tg,iter,ifs,0]] sc pos) .fr^GN d src bb tt te:=fu c d hi (e i) f g h j k l
def BQ{c:CmpOp}{r:R2}{f:D->D->(D->Prop)->Prop}(d:OpR X (compareOp c) r)(e:C6 X.K .sh r f)(g:DE X a zV wa)(h:DE X b zS wb)(i:behindInMarks c b=q_:=by first|exact E3 _|with_unfolding_all rfl):DT X (.Compare a [c] [b] j)^A9^BI f wa wb:=ZU d e g h i
def JI(c:X.mg "len"=o_)(d:DE X e κ wa)(f:Gl X "len":=by rfl)(he:starEach [e] X.env=[(q_,eval e X.env)]:=by rfl):DE X (.Call (.Name "len" pos') [e] [] pos) .sh^JT Tf^AL wa Ap:=Ac IV cP f c PySem.boot_len (AN d AT he) (he:=he)
def Vo(c:X.mg "tuple"=o_)(d:DE X e κ wa)(f:Gl X "tuple":=by rfl)(he:starEach [e] X.env=[(q_,eval e X.env)]:=by rfl):DE X (.Call (.Name "tuple" pos') [e] [] pos) .sh^JT K_^AL wa Ap:=CQ JL UR f c boot_tuple (AN d AT he) (he:=he)
def QH:=PySem.F.plainAttrs_list
def YJ:=PySem.F.slot_list_append
def X7:=PySem.F.type_list_append
end
def fL{P:gC}{w:gJ}{K:Frag}{i:Str->s_ Db}{a:gA}{x q:Str}{c:iD}{f:Ch}{fd:gp}{N ps:r_ Str}{k:Nat}{e:Kd}{W:W2}{j:AX}(F:Fun K x q c f fd)(S:A8 N ps^AK c)
  (l:∀{d:Db}{A:gX}{b:r_ Env}{s:No}{H:Hp}{E:XK},Room k^A.deeper^envOfC q (AK c) s.heap.objs.size f d->Mz (C4 Eo P w K i a N q (AK c) f d A b s H E).nox e (Aa c) j)
  (m:∀{ss n Pd},W ss n Pd->j {nx:=λn _=>e=.sh/\Pd .non n,rt:=Pd} n (ss++gq (N.length - ps.length) .no)) (g:ps.length<=N.length:=by decide):
  FnOk P w K i a Eo (k+1) f fd ps (P_ K e W ps.length):=fM F S g (λ_ _ _ _ _ _ h=>l h) λ_ _ _ _ h=>m h
def TZ{P:gC}{w:gJ}{K:Frag}{j:Str->s_ Db}{e:gA}{x:Str}{k:Nat}{ps:r_ Str}{m:Kd}{W o:W2}(h:∀i n P,o i n P->W i n P)(G:Got P w K j e x k ps m W):Got P w K j e x k ps m o:=by
 let#[f,fd,F,a,b,c,d]:=G;refine#[f,fd,?_,a,b,c,λi n P g=>d i n P^h i n P g];exact F.imp λv H Q E #[l,p,U,r,M,n,i,s,t,u,q]=>#[l,p,U,r,M,n,i,s,t,h _ _ _ u,q]
end Dp
namespace Nt
open L2 Dp
theorem Ji{c i:Type}{f:c->i}:∀{l:r_ c},l.Nodup->(∀a∈l,∀b∈l,f a=f b->a=b)->(l.map f).Nodup
 |[],_,_=>h8
 |a::l,h,d=>by
  rw[gP]at h;rw[gQ,gP];refine#[λj=>?_,Ji h.2 λx k y m=>d x (T0 _ k) y^T0 _ m];let#[b,g,e]:=TM.mp j;exact h.1 (d a Op b (T0 _ g) e.symm▸g)
def IZ(a:r_ Str):N9^a.map .str=P3 a:=by
 induction a with
 |nil=>rfl
 |cons y r b=>
  rw[gQ];unfold N9
  grind
structure Ak where
 a:Str
 b:Str
 len:Int
structure Net where
 ps:List Str
 ts:List Ak
def Ai(t:Ak):D:=.tup [.str t.a,.str t.b,.int t.len]
def Bx(N:Net):D:=.tup [.tup^N.ps.map .str,.tup^N.ts.map Ai]
def BF(s t:Ak):Prop:=cs s.a<cs t.a\/(s.a=t.a/\cs s.b<cs t.b)
structure Net.Ok (N:Net):Prop where
 names:∀x∈N.ps,Bm x
 rise:rising N.ps
 tin:∀t∈N.ts,t.a∈N.ps/\t.b∈N.ps/\cs t.a<cs t.b/\1<=t.len/\t.len<=1000000
 trise:N.ts.Pairwise BF
structure Ix where
 i:Nat
 j:Nat
 len:Int
abbrev EE(a:D->Sg->Prop):E2:={nx:=λn _=>Kd.sh=.sh/\a .non n,rt:=a}
theorem BN{b:BW}{k:DW}{P:r_ D->Sg->Prop}(g:D->D)(I:r_ Slot->Prop):∀(e a:r_ D) (n:Sg) (c:r_ Slot),
  (∀d∈e,∀(c:r_ Slot) (n:Sg) (l:D->Sg->r_ Slot->Prop),I c->(∀i,I i->l (g d) n i)->b d c λm=>k n m λy p=>l y p m)->I c->P (a++e.map g) n->GW b Uq k P e a n c
 |[],a,n,c,_,_,h=>by rw[List.map_nil,gZ]at h;exact h
 |d::e,a,n,c,o,j,h=>o d Op c n _ j λi f=>
  BN g I e _ n _ (λd q=>o d^T0 _ q) f (by simp_all)
section
def eU{b:Type}(a:r_ b):Dp.cutD a (P3 1) o_=a.drop 1:=by
 unfold Dp.cutD;rw[HT.sIx_none,show 1=((1:Nat):Int)from rfl,HT.sIx_nat]
 by_cases h:1<=a.length
 .rw[Nat.min_eq_left h]
  exact jT^by simp_all
 grind
end
def strsOf(a:r_ D):r_ Str:=(N9 a).getD []
def Zh{a:Type}(p:a->Bool)(l:r_ a):(l.map p).all id=l.all p:=by simp_all
def Lu{x:Str}(h:∀c∈cs x,c<1114112):PyData.strOk x=p_:=by
 unfold PyData.strOk;rw[←Array.all_toList,kM];intro c a;exact decide_eq_true^h c a
def BK{x:Str}(h:Bm x):Bv^.str x:=#[rfl,Lu λc a=>by have:=h.2.2 c a;lk,gK _]
def MM{ps:r_ Str}(h:∀p∈ps,Bm p):Cz^ps.map .str=p_/\iy^BO^ps.map .str=p_/\iQ^BO^ps.map .str=0:=by
 induction ps with
 |nil=>exact#[rfl,rfl,rfl]
 | cons p r a=>
  let#[d,b,e]:=a λq c=>h q^T0 _ c;exists by assumption,?_
  .rw[gQ,BO,iy,b,Bool.and_true]
   exact(BK^h p Op).2.1
  assumption
def DM{ps:r_ Str}(h:∀p∈ps,Bm p):Bv^.tup^ps.map .str:=by
 let#[a,b,c]:=MM h;exists a,b;show iQ _+1<=100
 simp_all
def HS(ps:r_ Str):strsOf^ps.map .str=ps:=by unfold strsOf;rw[IZ];rfl
mutual
def Gv(B:Nat):D->Prop
 |.int i=>i.natAbs<=B
 |.str x=>∀c∈cs x,c<1114112
 |.tup ds=>II B ds
 |.lst ds=>II B ds
 |.dic _ _=>False
 |.fdi _ _=>False
 |.dit _ _=>False
 |.ob _=>False
 |_=>True
def II(B:Nat):r_ D->Prop
 |[]=>True
 |d::ds=>Gv B d/\II B ds
end
mutual
def OT:D->Nat
 |.int _=>200
 |.str x=>x.length
 |.tup ds=>NH ds
 |.lst ds=>NH ds
 |_=>0
def NH:r_ D->Nat
 |[]=>0
 |d::ds=>OT d+1+NH ds
end
mutual
def PU:D->Nat
 |.tup ds=>LZ ds+1
 |.lst ds=>LZ ds+1
 |_=>0
def LZ:r_ D->Nat
 |[]=>0
 |d::ds=>max (PU d)^LZ ds
end
theorem fines_iff{B:Nat}:∀{b:r_ D},II B b↔∀d∈b,Gv B d
 |[]=>#[(λ_ d h=>by cases h),λ_=>trivial]
 | d::b=>by
  have c:=@fines_iff B b;constructor
  .rintro⟨f,g⟩ e a
   rcases Tk.mp a with rfl|a
   .exact f
   .exact c.mp g e a
  .exact λh=>#[h d Op,c.mpr λe a=>h e^T0 _ a]
theorem dps_le{k:Nat}:∀{a:r_ D},LZ a<=k↔∀d∈a,PU d<=k
 |[]=>#[(λ_ d h=>by cases h),λ_=>gK _]
 | d::a=>by
  have c:=@dps_le k a;show max (PU d)^LZ a<=k↔_;rw[Nat.max_le,c];constructor
  .rintro⟨f,g⟩ e b
   rcases Tk.mp b with rfl|b
   .exact f
   .exact g e b
  .exact λh=>#[h d Op,λe b=>h e^T0 _ b]
theorem OS:∀(a:r_ D),a.length<=NH a
 |[]=>gK _
 |d::a=>by
  have:=OS a
  show a.length+1<=OT d+1+NH a;lk
mutual
theorem K9{B:Nat}(hB:B<10 ^ 45):∀{d:D},Gv B d->Ek d=p_/\(toPy d).showable=p_/\(toPy d).canLay0=p_/\(toPy d).depth=PU d/\(toPy d).leavesShort 60=p_/\(toPy d).weight<=OT d
 |.non,_=>#[rfl,rfl,rfl,rfl,rfl,Rs _]
 |.bl b,_=>#[rfl,rfl,rfl,rfl,rfl,Rs _]
 | .int i,h=>by
  have h':i.natAbs<=B:=h;have hlt:i.natAbs<10 ^ 45:=j4 h' hB;have h2:i.natAbs<2 ^ 150:=Nat.lt_trans hlt^by cbv
  have hl:i.natAbs.log2<150:=by
   by_cases h0:i.natAbs=0
   .rw[h0];decide
   .exact(Nat.log2_lt h0).mpr h2
  refine#[rfl,?_,rfl,rfl,?_,?_]
  .show decide (i.natAbs.log2<1920)=p_
   exact decide_eq_true^by lk
  .show decide ((PyData.shown^.int i).length<=60)=p_
   refine decide_eq_true ?_
   have:=int_text_length_le10 (a:=i) (k:=45) (by cbv) hlt
   show(g_^toString i).length<=60;rw[PySem.ofString_length];lk
  .show(if i==0 then 0 else i.natAbs.log2+1)<=200
   split <;>lk
 |.str x,h=>by
  have h':∀c∈cs x,c<1114112:=h;refine#[rfl,rfl,Lu h',rfl,?_,Rs _];show(x.cps.toList.all λc=>decide (c<16 ^ 8))=p_;rw[kM];intro c hc;exact decide_eq_true^Nat.lt_trans (h' c hc)^by cbv
 |.tup ds,h=>by
  let#[h1,h2,h3,h4,h5,h6]:=IH hB (ds:=ds) h;refine#[h1,h2,h3,?_,h5,h6];show iQ^BO ds+1=LZ ds+1;rw[h4]
 |.lst ds,h=>by
  let#[h1,h2,h3,h4,h5,h6]:=IH hB (ds:=ds) h;refine#[h1,h2,h3,?_,h5,h6];show iQ^BO ds+1=LZ ds+1;rw[h4]
 |.dic ks ds,h=>(show False from h).elim
 |.fdi ks ds,h=>(show False from h).elim
 |.dit ks ds,h=>(show False from h).elim
 |.ob _,h=>(show False from h).elim
theorem IH{B:Nat}(hB:B<10 ^ 45):∀{ds:r_ D},II B ds->Cz ds=p_/\PyData.showableAll^BO ds=p_/\iy^BO ds=p_/\iQ^BO ds=LZ ds/\ng 60^BO ds=p_/\PyData.weightAll^BO ds<=NH ds
 |[],_=>#[rfl,rfl,rfl,rfl,rfl,Rs _]
 | d::ds,h=>by
  let#[h1,h2,h3,h4,h5,h6]:=K9 hB (d:=d) h.1;let#[g1,g2,g3,g4,g5,g6]:=IH hB (ds:=ds) h.2;refine#[?_,?_,?_,?_,?_,?_]
  .show(Ek d&&Cz ds)=p_
   rw[h1,g1];rfl
  .show((toPy d).showable&&PyData.showableAll^BO ds)=p_
   rw[h2,g2];rfl
  .show((toPy d).canLay0&&iy^BO ds)=p_
   rw[h3,g3];rfl
  .show max (toPy d).depth^iQ^BO ds=max (PU d)^LZ ds
   rw[h4,g4]
  .show((toPy d).leavesShort 60&&ng 60^BO ds)=p_
   rw[h5,g5];rfl
  .show(toPy d).weight+1+PyData.weightAll^BO ds<=OT d+1+NH ds
   omega
end
def Rf{B:Nat}{d:D}(a:B<10 ^ 45)(h:Gv B d)(b:PU d<=100)(i:OT d<=270000):Lx d:=by
 let#[c,e,j,f,g,k]:=K9 a h;exists c,e,by rw[f];exact b
 have:=PyData.shown_le 60 (by cbv) (toPy d) g
 rw[PySem.sizeLine_eq]
 have:62*(toPy d).weight<=62*270000:=Nat.mul_le_mul_left _^by lk
 omega
def OW{B:Nat}{d:D}(a:B<10 ^ 45)(h:Gv B d)(b:PU d<=100)(c:OT d<=200000):Lx d:=Rf a h b^by lk
def F8{B:Nat}{d:D}(a:B<10 ^ 45)(h:Gv B d)(b:PU d<=100):Bv d:=by
 let#[c,g,e,f,i,j]:=K9 a h;exact#[c,e,by rw[f];exact b]
def item(d:D):Prop:=Gv 1000001 d/\OT d<=450/\PU d<=1
theorem NG{k:Nat}:∀{a:r_ D},(∀d∈a,OT d+1<=k)->NH a<=k*a.length
 |[],_=>gK _
 |d::a,h=>by
  have c:=NG λe b=>h e^T0 _ b;show OT d+1+NH a<=k*(a.length+1)
  grind
def FY{B:Nat}{a:r_ D}(h:∀d∈a,Gv B d):Gv B^.tup a:=fines_iff.mpr h
def item_str{x:Str}(h1:x.length<=8)(a:∀c∈cs x,c<1114112):item^.str x:=#[a,by show x.length<=450;lk,gK _]
def DP{x:Str}(h:Bm x):item^.str x:=item_str h.2.1 λc a=>by have:=h.2.2 c a;lk
def TK{a b:Str}{l:Int}(e:item^.str a)(f:item^.str b)(h:a.length<=8)(i:b.length<=8)(g:l.natAbs<=1000001):item^.tup [.str a,.str b,.int l]:=by
 exists FY λd c=>?_,?_
 .simp at c
  rcases c with rfl|rfl|rfl
  .exact e.1
  .exact f.1
  .exact g
 .show a.length+1+(b.length+1+(200+1+0))<=450
  omega
 .show max 0^max 0^max 0 0+1<=1
  decide
def H_{N:Net}(ok:N.Ok):∀d∈N.ts.map Ai,item d:=λd c=>by
 let#[t,e,rfl]:=TM.mp c;let#[f,g,_,h,i]:=ok.tin t e;have a:=ok.names _ f;have b:=ok.names _ g;exact TK (DP a) (DP b) a.2.1 b.2.1^by lk
def Va{N:Net}(ok:N.Ok):∀d∈N.ps.map D.str,item d:=λd a=>by
 let#[x,b,rfl]:=TM.mp a;exact DP^ok.names x b
def X4{b c:r_ D}(e:∀d∈b,item d)(f:∀d∈c,item d)(g:b.length<=26)(h:c.length<=80):Gv 1000001^.tup [.tup b,.tup c]/\OT^.tup [.tup b,.tup c]<=48000/\PU^.tup [.tup b,.tup c]<=3:=by
 have i:=NG λd a=>m9 (e d a).2.1;have j:=NG λd a=>m9 (f d a).2.1;have k:=dps_le.mpr λd a=>(e d a).2.2;have l:=dps_le.mpr λd a=>(f d a).2.2;exists FY λd a=>?_,?_
 .simp at a
  rcases a with rfl|rfl
  .exact FY λd a=>(e d a).1
  .exact FY λd a=>(f d a).1
 .show NH b+1+(NH c+1+0)<=48000
  omega
 .show max (LZ b+1)^max (LZ c+1) 0+1<=3
  omega
def A5(x:Str):¬cs x<cs x:=jn _
def z2:2<=sizeLine:=by cbv
def z3:3<=sizeLine:=by cbv
def z0:0<=sizeLine:=gK _
def ft:Z6 10 6:=#[by cbv,by cbv,by cbv]
end Nt
namespace L2
def YV:R2:=λy x H Q=>∃a o,x=.ref a/\DGet H a y o/\Q (.bl o.isSome) H
def W0:R2:=λy x H Q=>∃a o,x=.ref a/\DGet H a y o/\Q (.bl (!o.isSome)) H
def R8:R2:=λx y H Q=>∃a v,x=.ref a/\DGet H a y^P3 v/\Q v H
def Sl{X:Cx}{k:Nat}(b:Room k X.A):OpR X (compareOp .In) YV:=by
 intro f s h H y x i u Q I c d #[a,j,ex,g,q];subst ex;obtain rfl:u=ZB a:=d;exact eT (ID b) I g c λl e=>#[.bl _,H,e,rfl,q]
def EO{X:Cx}{k:Nat}(b:Room k X.A):OpR X (compareOp .NotIn) W0:=by
 intro f s h H y x i u Q I c d #[a,j,ex,g,q];subst ex;obtain rfl:u=ZB a:=d;exact V3 (ID b) I g c λl e=>#[.bl _,H,e,rfl,q]
end L2
namespace Dp
open L2
def BP:r_ Key->r_ D->Key->s_ D
 |a::b,d::c,k=>if a=k then P3 d else BP b c k
 |_,_,_=>o_
section
variable {K:Frag}{X:Cx}
theorem Gz{M:Ch->Prop}{H:Hp}{k:Key}:∀{ks:r_ Key}{b:r_ D}{a:r_ V},Ats K M H b a->
  match BP ks b k with
  |some z=>∃v,B8 (ks.zip a) k=P3 v/\At K M H z v
  |none=>B8 (ks.zip a) k=o_
 |[],b,a,h=>by exact rfl
 |c::ks,[],a,h=>by cases h;exact rfl
 | c::ks,d::b,a,h=>by
  let#[v,r,rfl,f,g]:=h;have i:=Gz (k:=k) (ks:=ks) g;unfold BP
  by_cases e:c=k
  .rw[if_pos e]
   refine#[v,?_,f];show B8 ((c,v)::ks.zip r) k=P3 v;rw[C_ e]
  .have:B8 ((c,v)::ks.zip r) k=B8 _ k:=DA e
   simp_all
def keyOf:D->s_ Key
 |.int i=>P3^.inl i
 |.str x=>P3^.inr x
 |_=>o_
def EC{U M:Ch->Prop}{H:Hp}{d:D}{v:V}{k:Key}(e:keyOf d=P3 k)(h:AtT K U M H d v):v=kV k:=by
 cases d with
 |int i=>cases e;exact h
 |str x=>cases e;exact h.str.1
 |_=>cases e
def T2:D->s_ (r_ Key×r_ D)
 |.dic a b=>P3 (a,b)
 |.fdi a b=>P3 (a,b)
 |_=>o_
def Ny{U M:Ch->Prop}{H:Hp}{d:D}{x:V}{g:r_ Key}{i:r_ D}(e:T2 d=P3 (g,i))(h:AtT K U M H d x):∃a b,x=.ref a/\Rd H a^.dK^g.zip b/\Ats K M H i b:=by
 cases d with
 |dic j k=>cases e;let#[a,b,rfl,_,c,_,f]:=h;exact#[a,b,rfl,.inl c,f]
 |fdi j k=>cases e;let#[a,b,rfl,#[o,_,c],_,f]:=h;exact#[a,b,rfl,.inr #[o,c],f]
 |_=>cases e
def LF{H:Hp}{a:Ch}{b:r_ (Key×V)}{k:Key}(e:Rd H a^.dK b):DGet H a (kV k)^B8 b k:=.inl #[_,k,e,rfl,rfl]
def Vi(a:Bool)(e d:D)(P:D->Prop):Prop:=∃b c k,T2 d=P3 (b,c)/\keyOf e=P3 k/\P^.bl (if a then !(BP b c k).isSome else(BP b c k).isSome)
def DU(d e:D)(P:D->Prop):Prop:=∃a b k z,T2 d=P3 (a,b)/\keyOf e=P3 k/\BP a b k=P3 z/\P z
def cT:C6 K .sh YV^Vi q_:=λU M H e d y x P Q b o f g w q=>by
 let#[ks,i,k,j,l,w]:=w;let#[a,p,rfl,m,n]:=Ny j g;refine#[a,_,rfl,by rw[EC l f];exact LF m,q _ H (.bl _) .refl rfl ?_];have h:=Gz (k:=k) (ks:=ks) n;cases c:BP ks i k with
 |none=>simp_all
 |some z=>rw[c]at h w;let#[v,r,_]:=h;simp_all
def Fo:C6 K .sh W0^Vi p_:=λU M H e d y x P Q b o f g w q=>by
 let#[ks,i,k,j,l,w]:=w;let#[a,p,rfl,m,n]:=Ny j g;refine#[a,_,rfl,by rw[EC l f];exact LF m,q _ H (.bl _) .refl rfl ?_];have h:=Gz (k:=k) (ks:=ks) n;cases c:BP ks i k with
 |none=>simp_all
 |some z=>rw[c]at h w;let#[v,r,_]:=h;simp_all
def Zl:C6 K .sh R8 DU:=λU M H d e x y P Q b p c f w q=>by
 let#[ks,r,k,z,g,i,j,w]:=w;let#[a,s,rfl,l,m]:=Ny g c;have h:=Gz (k:=k) (ks:=ks) m;rw[j]at h;let#[v,n,o]:=h;exact#[a,v,rfl,by rw[EC i f,←n];exact LF l,q v H z .refl o w]
variable {a b:Expr}{zV zS:Kd}{wa wb:DW}{pos:Pos}
def Aj{k:Nat}(g:Room k X.A)(h:DE X a zV wa)(i:DE X b zS wb)(j:WR b:=by intro _ _;rfl):DE X (.Subscript a b pos) .sh^BI DU wa wb:=by
 let#[o,c,d]:=h;let#[p,e,f]:=i;exact#[_,G2 (ID g) c e j,λC M H n l m P Q R w q=>Du Zl d f C M H n l m P Q R w q]
end
def Wd(i:Nat)(w:DW):AX:=λe n c=>∃a:Int,c[i]?=P3^.sh^.int a/\w n c λd f=>∃b:Int,d=.int b/\e.nx f^c.set i^.sh^.int (a+b)
def Vr{X:Cx}{h j:Kd}{e:gI}{g:DW}{pos:Pos}{i:Nat}{x:Str}{c:Pos}(k:X.N.Nodup)(hi:X.N[i]?=P3 x)(l:Loc X.env.scope x)(m:DE X e j g)
  (o:X.fn x=p_\/X.env.scope.names.lookup x=P3 .local:=by first|exact .inl rfl|exact .inr rfl|assumption):DS X h (.AugAssign (.Name x c) .Add e pos)^Wd i g:=by
 let#[t,q,r]:=m;refine#[_,Yb k hi l q ZG o,λC M H n s u G E R L w=>?_];let#[a,y,w]:=w;let#[v,f,z]:=R.sl i _ y;cases(z);refine#[_,getD_some f,r C M H n s u _ _ R w λv A d B f D F p=>?_];let#[b,rfl,p]:=p;exact#[a,b,rfl,Np F,L.nx M A B _ _ ((R.step f D).set (d:=.int _) rfl) p]
end Dp
namespace So
open PySem.W
section
variable {O:KeyOrd}{key:Nat->O.α}{N:Nat}{cmp:Nat->Nat->(Bool->Shared->Prop)->Shared->Prop}{s:Shared}{p p0:Array Nat}
def KN(O:KeyOrd)(key:Nat->O.α)(p:Array Nat)(i:Nat):O.α:=key^p.getD i 0
def Srt(O:KeyOrd)(key:Nat->O.α)(p:Array Nat)(k:Nat):Prop:=∀i j,i<=j->j<k->O.kle (KN O key p i)^KN O key p j
def cv(O:KeyOrd)(key:Nat->O.α)(p:Array Nat)(k:Nat):Prop:=∀i j,i<=j->j<k->O.kle (KN O key p j)^KN O key p i
def Xm(O:KeyOrd)(key:Nat->O.α)(N:Nat)(cmp:Nat->Nat->(Bool->No->Prop)->No->Prop)(s:No):Prop:=∀(i j:Nat) (C:Bool->No->Prop),i<N->j<N->C (O.blt (key i)^key j) s->cmp i j C s
def Bd(N:Nat)(p:Array Nat):Prop:=0<N/\∀x∈p,x<N
def Vd(p:Array Nat)(i:Nat):p.getD i 0=(p[i]?).getD 0:=by
 simp
def Bd.get(h:Bd N p)(i:Nat):p.getD i 0<N:=by
 rw[Vd];cases e:p[i]? with
 |none=>exact h.1
 |some x=>exact h.2 x^Array.mem_of_getElem? e
def Bd.perm{a:Array Nat}(h:Bd N p)(b:a.Perm p):Bd N a:=#[h.1,λx c=>h.2 x^b.mem_iff.mp c]
def EM{p q:Array Nat}{i j:Nat}(h:p[i]?=q[j]?):KN O key p i=KN O key q j:=by
 unfold KN
 simp_all
def KH{a d:Nat}(f:a<p.size)(g:d<=a)(k:Nat):
  KN O key (bubble p a d) k=if k=a - d then KN O key p a else if a - d<k/\k<=a then KN O key p (k - 1)else KN O key p k:=by
 have e:=getElem?_bubble f d g k
 by_cases b:k=a - d
 .rw[if_pos b]at e ⊢;exact EM e
 .rw[if_neg b]at e ⊢
  by_cases c:a - d<k/\k<=a
  .rw[if_pos c]at e ⊢;exact EM e
  .rw[if_neg c]at e ⊢;exact EM e
def GL{i j:Nat}(b:j<=p.size)(k:Nat):KN O key (kas_rev p i j) k=if i<=k/\k<j then KN O key p (i+j - 1 - k)else KN O key p k:=by
 have e:=getElem?_mirror_all (i:=i) b k
 by_cases a:i<=k/\k<j
 .rw[if_pos a]at e ⊢;exact EM e
 .rw[if_neg a]at e ⊢;exact EM e
def BM{i j:Nat}(a:j<=p.size)(b:∀k,i<=k->k<j->KN O key p k=KN O key p (j - 1))(k:Nat):KN O key (kas_rev p i j) k=KN O key p k:=by
 rw[GL a]
 grind
def Bq(p:Array Nat)(i j:Nat):(kas_rev p i j).Perm p:=mirror_perm _ _ _ _
def yes{c:Type}{a b:KasT c}{Q:c->No->Prop}(h:a.kasWp cmp Q s):(if p_=p_ then a else b).kasWp cmp Q s:=by grind
def no{c:Type}{b a:KasT c}{Q:c->No->Prop}(h:a.kasWp cmp Q s):(if q_=p_ then b else a).kasWp cmp Q s:=by grind
theorem N8(q:Xm O key N cmp s)(d:Bd N p){nrem:Nat}{G:Nat->No->Prop}:∀(f n:Nat),1<=n->n+f=nrem->Srt O key p n->
  (∀m,n<=m->m<=nrem->Srt O key p m->(m=nrem\/O.klt (KN O key p m)^KN O key p (m - 1))->G m s)->(kas_asc p f n).kasWp cmp G s
 |0,n,_,e,b,h=>h n (Rs _) (by lk) b^.inl^by lk
 | f+1,n,w,e,b,h=>by
  show cmp (p.getD n 0) (p.getD (n - 1) 0) (λc r=>(if c=p_ then KasT.ret n else kas_asc p f (n+1)).kasWp cmp G r) s;refine q _ _ _ (d.get n) (d.get _) ?_;cases a:O.blt (key^p.getD n 0)^key^p.getD (n - 1) 0 with
  |true=>exact yes^h n (Rs _) (by lk) b^.inr a
  | false=>
   refine no^N8 q d f (n+1) (by lk) (by lk) (λi j g x=>?_) λm y t u v=>h m (by lk) t u v
   by_cases k:j<n
   .exact b i j g k
   .have l:j=n:=by lk
    subst l
    by_cases o:i=j
    .subst o;exact ii _
    .exact lM (b i (j - 1) (by lk)^by lk) a
theorem HB(D:Xm O key N cmp s){l:Nat}{G:Array Nat×Nat×Nat->No->Prop}:∀(f:Nat) (p:Array Nat) (n q:Nat),p.Perm p0->Bd N p->l<=p.size->1<=n->n+f=l->cv O key p n->q+1<=n->
  (∀i,n - (q+1)<=i->i<n->KN O key p i=KN O key p (n - 1))->
  (∀g m v,g.Perm p0->Bd N g->g.size=p.size->n<=m->m<=l->cv O key g m->v+1<=m->(∀i,m - (v+1)<=i->i<m->KN O key g i=KN O key g (m - 1))->G (g,m,v) s)->(kas_desc f p n q).kasWp cmp G s
 |0,p,n,q,C,u,Q,Y,e,x,R,E,h=>h p n q C u rfl (Rs _) (by lk) x R E
 | f+1,p,n,q,C,u,Q,Y,e,x,R,E,h=>by
  show cmp (p.getD n 0) (p.getD (n - 1) 0) (λc S=>(if c=p_ then(if q > 0 then kas_desc f (kas_rev p (n - (q+1)) n) (n+1) 0 else kas_desc f p (n+1) 0)
   else .ask (p.getD (n - 1) 0) (p.getD n 0) λd=>if d=p_ then .ret (p,n,q)else kas_desc f p (n+1) (q+1)).kasWp cmp G S) s
  refine D _ _ _ (u.get n) (u.get _) ?_;cases o:O.blt (key^p.getD n 0)^key^p.getD (n - 1) 0 with
  | true=>
   have Z:O.klt (KN O key p n)^KN O key p (n - 1):=o
   have r:∀T:Array Nat,(∀k,KN O key T k=KN O key p k)->cv O key T (n+1):=by
    intro T W i j y hj;rw[W,W]
    by_cases z:j<n
    .exact x i j y z
    .have A:j=n:=by lk
     subst A
     by_cases B:i=j
     .subst B;exact ii _
     .exact lM (lB Z)^x i (j - 1) (by lk)^by lk
   refine yes ?_;have U:n<=p.size:=by lk
   by_cases F:q > 0
   .rw[if_pos F]
    refine HB D f _ (n+1) 0 ((Bq _ _ _).trans C) (u.perm^Bq _ _ _) (by rw[kas_rev_size];exact Q) (by lk) (by lk) (r _^BM U E) (by lk) (λi a b=>by congr 1;lk) λg m v H I J X K L M P=>h g m v H I (J.trans^kas_rev_size _ _) (by lk) K L M P
   .rw[if_neg F]
    exact HB D f _ (n+1) 0 C u Q (by lk) (by lk) (r _ λ_=>rfl) (by lk) (λi a b=>by congr 1;lk) λg m v H I J X K L M P=>h g m v H I J (by lk) K L M P
  | false=>
   refine no ?_;show cmp (p.getD (n - 1) 0) (p.getD n 0) (λd S=>(if d=p_ then KasT.ret (p,n,q)else kas_desc f p (n+1) (q+1)).kasWp cmp G S) s;refine D _ _ _ (u.get _) (u.get n) ?_;cases t:O.blt (key^p.getD (n - 1) 0)^key^p.getD n 0 with
   |true=>exact yes (h p n q C u rfl (Rs _) (by lk) x R E)
   | false=>
    have w:KN O key p n=KN O key p (n - 1):=oB (O:=O) t o;refine no^HB D f p (n+1) (q+1) C u Q (by lk) (by lk) (λi j y hj=>?_) (by lk) (λi a b=>?_) λg m v H I J X K L M P=>h g m v H I J (by lk) K L M P
    .by_cases z:j<n
     .exact x i j y z
     .have A:j=n:=by lk
      subst A
      by_cases B:i=j
      .subst B;exact ii _
      .rw[w];exact x i (j - 1) (by lk)^by lk
    .rw[show n+1 - 1=n by lk]
     by_cases V:i=n
     .subst V;rfl
     .rw[w];exact E i (by lk)^by lk
def Lq(e:Xm O key N cmp s){n a:Nat}{G:Nat×Array Nat->No->Prop}(f:p.Perm p0)(d:Bd N p)(q:a<=p.size)(h1:1<=n)(r:n<=a)(g:cv O key p n)
  (h:∀m b,b.Perm p0->Bd N b->b.size=p.size->1<=m->m<=a->Srt O key b m->G (m,b) s):(kas_tail3 n a p).kasWp cmp G s:=by
 unfold kas_tail3;rw[KasT.kasWp_bind];have c:n<=p.size:=by lk
 refine N8 e (d.perm^Bq _ _ _) _ n h1 (by lk) (λi j k t=>?_) λm u l o _=>h m _ ((Bq _ _ _).trans f) (d.perm^Bq _ _ _) (kas_rev_size _ _) (by lk) l o;rw[GL c,GL c,if_pos^by lk,if_pos^by lk];exact g _ _ (by lk)^by lk
def Gg(k:Xm O key N cmp s){n c:Nat}{G:Nat×Array Nat->No->Prop}(E:p.Perm p0)(F:Bd N p)(H:c<=p.size)(K:n+1<=c)(I:cv O key p (n+1))
  (h:∀m d,d.Perm p0->Bd N d->d.size=p.size->1<=m->m<=c->Srt O key d m->G (m,d) s):(kas_descPart n c p).kasWp cmp G s:=by
 unfold kas_descPart;rw[KasT.kasWp_bind];refine HB (p0:=p0) k (c - (n+1)) p (n+1) 0 E F H (by lk) (by lk) I (by lk) (λi a b=>by grind) λd m l y z A L B C M D=>?_;have f:m<=d.size:=by lk
 show(if l > 0 then kas_tail3 m c^kas_rev d (m - (l+1)) m else kas_tail3 m c d).kasWp cmp G s
 by_cases g:l > 0
 .rw[if_pos g]
  refine Lq k ((Bq _ _ _).trans y) (z.perm^Bq _ _ _) (by rw[kas_rev_size];lk) (by lk) B (λi j o J=>?_) λq e r t u v w x=>h q e r t (u.trans^(kas_rev_size _ _).trans A) v w x;rw[BM f D,BM f D];exact C i j o J
 .rw[if_neg g]
  exact Lq k y z (by lk) (by lk) B C λq e r t u v w x=>h q e r t (u.trans A) v w x
def UJ(y:Xm O key N cmp s){nrem:Nat}{G:Nat×Array Nat->No->Prop}(z:p.Perm p0)(e:Bd N p)(H:nrem<=p.size)(h1:1<=nrem)
  (h:∀m o,o.Perm p0->Bd N o->o.size=p.size->1<=m->m<=nrem->Srt O key o m->G (m,o) s):(kas_count nrem p).kasWp cmp G s:=by
 unfold kas_count;rw[KasT.kasWp_bind];refine N8 (nrem:=nrem) y e (nrem - 1) 1 (Rs _) (by lk) (λi j q I=>by have:i=j:=(by lk);subst this;exact ii _) λn r t b A=>?_
 by_cases f:n=nrem
 .rw[if_pos^by simpa using f]
  exact h n p z e rfl r t b
 .rw [if_neg^by simpa using f]
  have u:O.klt (KN O key p n)^KN O key p (n - 1):=A.resolve_left f
  by_cases v:n > 1
  .rw[if_pos v]
   show cmp (p.getD 0 0) (p.getD (n - 1) 0) (λc J=>(if c=p_ then KasT.ret (n,p)else kas_descPart n nrem^kas_rev p 0 n).kasWp cmp G J) s;refine y _ _ _ (e.get _) (e.get _) ?_;cases g:O.blt (key^p.getD 0 0)^key^p.getD (n - 1) 0 with
   |true=>exact yes (h n p z e rfl r t b)
   | false=>
    have d:O.kle (KN O key p (n - 1))^KN O key p 0:=g;have w:n<=p.size:=by lk
    have a:∀k,0<=k->k<n->KN O key p k=KN O key p (n - 1):=by
     intro k _ K;have L:=b 0 k (by lk) K;have M:=b k (n - 1) (by lk) (by lk);exact oB M^lM d L
    refine no^Gg y ((Bq _ _ _).trans z) (e.perm^Bq _ _ _) (by rw[kas_rev_size];exact H) (by lk) (λi j q I=>?_) λP B Q R S T U V=>h P B Q R (S.trans^kas_rev_size _ _) T U V;rw[BM w a,BM w a]
    by_cases C:j<n
    .rw[a i (by lk)^by lk,a j (by lk) C];exact ii _
    .have D:j=n:=by lk
     subst D
     by_cases l:i=j
     .subst l;exact ii _
     .rw[a i (by lk)^by lk];exact lB u
  .rw[if_neg v]
   have x:n=1:=by lk
   subst x;refine Gg y z e H (by lk) (λi j q I=>?_) h
   by_cases l:i=j
   .subst l;exact ii _
   .have E:i=0:=by lk
    have F:j=1:=by lk
    subst E;subst F
    exact lB u
theorem He(m:Xm O key N cmp s)(g:Bd N p){k:Nat}(j:Srt O key p k){G:Nat->No->Prop}
  (h:∀l,l<=k->(∀i,i<l->O.kle (KN O key p i)^KN O key p k)->(∀i,l<=i->i<k->O.klt (KN O key p k)^KN O key p i)->G l s):∀(f l r:Nat),l<=r->r<=k->r - l<=f->
  (∀i,i<l->O.kle (KN O key p i)^KN O key p k)->(∀i,r<=i->i<k->O.klt (KN O key p k)^KN O key p i)->(kas_place p k f l r).kasWp cmp G s
 |0,l,r,n,d,t,b,c=>by
  have:l=r:=by lk
  subst this;exact h l d b c
 | f+1,l,r,n,d,t,b,c=>by
  unfold kas_place
  by_cases e:l≥r
  .rw[if_pos e]
   have:l=r:=by lk
   subst this;exact h l d b c
  .rw[if_neg e]
   refine m _ _ _ (g.get _) (g.get _) ?_;cases a:O.blt (key^p.getD k 0)^key^p.getD ((l+r) / 2) 0 with
   |true=>
    have o:O.klt (KN O key p k)^KN O key p ((l+r) / 2):=a;exact yes^He m g j h f l ((l+r) / 2) (by lk) (by lk) (by lk) b λi q u=>KeyOrd.klt_of_klt_of_kle o^j _ _ q u
   |false=>
    have o:O.kle (KN O key p ((l+r) / 2))^KN O key p k:=a;exact no^He m g j h f ((l+r) / 2+1) r (by lk) (by lk) (by lk) (λi q=>lM (j i ((l+r) / 2) (by lk)^by lk) o) c
theorem Du(y:Xm O key N cmp s){n:Nat}{G:Array Nat->No->Prop}(h:∀r,r.Perm p0->Srt O key r n->G r s):∀(f:Nat) (p:Array Nat) (k:Nat),p.Perm p0->Bd N p->n<=p.size->k+f=n->Srt O key p k->(kas_bin f p k).kasWp cmp G s
 |0,p,k,t,u,z,e,d=>h p t^by rw[←e];exact d
 | f+1,p,k,t,u,z,e,d=>by
  rw[show kas_bin (f+1) p k=(kas_place p k k 0 k).bind λl=>kas_bin f (bubble p k (k - l)) (k+1)from rfl,KasT.kasWp_bind];refine He y u d (λl A v w=>?_) k 0 k (gK _) (Rs _) (by lk) (λi B=>by lk) λi a b=>by lk
  have g:k<p.size:=by lk
  refine Du y h f _ (k+1) ((bubble_perm _ _ _).trans t) (u.perm^bubble_perm _ _ _) (by rw[bubble_size];exact z) (by lk) λi j x C=>?_;rw[KH g^by lk,KH g^by lk,show k - (k - l)=l by lk]
  by_cases m:i=l
  .rw[if_pos m]
   by_cases c:j=l
   .rw[if_pos c];exact ii _
   .rw[if_neg c,if_pos^by lk]
    exact lB^w (j - 1) (by lk)^by lk
  .rw [if_neg m]
   by_cases o:l<i/\i<=k
   .rw[if_pos o,if_neg^by lk,if_pos^by lk]
    exact d (i - 1) (j - 1) (by lk)^by lk
   .rw[if_neg o]
    by_cases c:j=l
    .rw[if_pos c];exact v i^by lk
    .rw[if_neg c]
     by_cases q:l<j/\j<=k
     .rw[if_pos q]
      exact d i (j - 1) (by lk)^by lk
     .rw[if_neg q]
      exact d i j x^by lk
def sort_ok{n:Nat}(h1:1<=n)(b:Xm O key n cmp s){G:Array Nat->No->Prop}(h:∀p,p.Perm^gU^gf n->Srt O key p n->G p s):(kas_sort n).kasWp cmp G s:=by
 unfold kas_sort;rw[KasT.kasWp_bind];have e:Bd n^gU^gf n:=#[h1,λx j=>by grind];have f:(gU^gf n).size=n:=by simp
 refine UJ b (nI _) e (by lk) h1 λm c d g k l o i=>?_
 by_cases a:m<n
 .rw[if_pos a,show max m 1=m by lk]
  exact Du b h _ c m d g (by lk) (by lk) i
 .rw[if_neg a]
  exact h c d^by grind
end
end So
namespace L2
open PySem.W
def Yz:Key->Key->Bool
 |.inl i,.inl j=>decide (i<j)
 |.inr x,.inr y=>decide (x.cps.toList<y.cps.toList)
 |.inl _,.inr _=>p_
 |.inr _,.inl _=>q_
def BJ:r_ Key->r_ Key->Bool
 |[],[]=>q_
 |[],_::_=>p_
 |_::_,[]=>q_
 |x::a,y::b=>if x=y then BJ a b else Yz x y
theorem Nk:∀x:Key,Yz x x=q_
 |.inl i=>decide_eq_false^Int.lt_irrefl i
 |.inr x=>decide_eq_false^jn _
theorem Qc:∀x y z:Key,Yz x y=p_->Yz y z=p_->Yz x z=p_
 |.inl i,.inl j,.inl k,a,b=>decide_eq_true^Int.lt_trans (of_decide_eq_true a)^of_decide_eq_true b
 |.inr i,.inr j,.inr k,a,b=>decide_eq_true^kU (of_decide_eq_true a)^of_decide_eq_true b
 |.inl i,.inl j,.inr k,_,_=>rfl
 |.inl i,.inr j,.inr k,_,_=>rfl
 |.inl i,.inr j,.inl k,_,h=>by cases h
 |.inr i,.inl j,_,h,_=>by cases h
 |.inr i,.inr j,.inl k,_,h=>by cases h
theorem Jm:∀x y:Key,Yz x y=q_->Yz y x=q_->x=y
 |.inl i,.inl j,c,d=>congrArg _^by have a:=of_decide_eq_false c;have b:=of_decide_eq_false d;lk
 |.inr x,.inr y,c,d=>by
  have e:=List.le_antisymm (of_decide_eq_false d)^of_decide_eq_false c;let#[u]:=x
  simp_all
 |.inl i,.inr j,h,_=>by cases h
 |.inr i,.inl j,_,h=>by cases h
theorem CB:∀x:r_ Key,BJ x x=q_
 |[]=>rfl
 |x::a=>by unfold BJ;rw[if_pos rfl];exact CB a
theorem CZ:∀x y z:r_ Key,BJ x y=p_->BJ y z=p_->BJ x z=p_
 |[],[],_,h,_=>by cases h
 |[],_::_,[],_,h=>by cases h
 |[],_::_,_::_,_,_=>rfl
 |_::_,[],_,h,_=>by cases h
 |_::_,_::_,[],_,h=>by cases h
 | x::f,y::g,z::i,a,b=>by
  unfold BJ at a b ⊢
  by_cases d:x=y
  .subst d
   rw[if_pos rfl]at a
   by_cases c:x=z
   .subst c
    rw[if_pos rfl]at b ⊢;exact CZ f g i a b
   grind
  .rw[if_neg d]at a
   by_cases c:y=z
   .grind
   .rw[if_neg c]at b
    have e:=Qc x y z a b
    by_cases j:x=z
    .subst j
     rw[Nk]at e;cases e
    grind
theorem Cb:∀x y:r_ Key,BJ x y=q_->BJ y x=q_->x=y
 |[],[],_,_=>rfl
 |[],_::_,h,_=>by cases h
 |_::_,[],_,h=>by cases h
 | x::c,y::d,a,b=>by
  unfold BJ at a b
  by_cases e:x=y
  .subst e
   rw[if_pos rfl]at a b;rw[Cb c d a b]
  .rw[if_neg e]at a
   rw[if_neg λz=>e z.symm]at b;exact absurd (Jm x y a b) e
def QM:KeyOrd:=#[r_ Key,BJ,CB,CZ,λa b c h=>by
 cases e:BJ a b with
 |true=>exact .inl rfl
 |false=>
  cases d:BJ b a with
  |true=>exact .inr^CZ b a c d h
  |false=>rw[←Cb a b e d];exact .inr h,Cb]
theorem K4:∀x y:r_ Key,A_ x y=p_->CD x y=BJ x y
 |[],[],_=>rfl
 |[],_::_,_=>rfl
 |_::_,[],_=>rfl
 | x::b,y::c,h=>by
  have a:(GP x y&&A_ b c)=p_:=h;rw[gS]at a;unfold CD BJ
  by_cases e:x=y
  .rw[if_pos e,if_pos e];exact K4 b c a.2
  .rw[if_neg e,if_neg e]
   cases x with
   |inl i=>cases y with
    |inl j=>rfl
    |inr z=>cases a.1
   |inr i=>cases y with
    |inl j=>cases a.1
    |inr z=>rfl
section
variable {prog:Program}{w:World}{A:Around}{E:Value->Shared->Prop}{s:Shared}
theorem S8{b:Bool}{Q:Bool->No->Prop}{h j:Nat}:∀(a c:r_ Key) (k l:r_ Db) (i:Nat),Vals (a.map kOf) k->Vals (c.map kOf) l->A_ a c=p_->a.length+j=c.length+h->Q (CD a c) s->
  KatLex prog w A b (decide (h<j)) Q (k.zip l) i s
 |[],[],k,l,i,o,p,_,g,q=>by
  cases o;cases p;refine kat_nil ?_;rw[show decide (h<j)=q_ from decide_eq_false^by simp only[hG]at g;lk];exact q
 |[],m::c,k,l,i,o,p,_,g,q=>by
  cases o;rw[md];refine kat_nil ?_;rw[show decide (h<j)=p_ from decide_eq_true^by simp only[hG,gG]at g;lk];exact q
 |n::a,[],k,l,i,o,p,_,g,q=>by
  cases p;rw[mM];refine kat_nil ?_;rw[show decide (h<j)=q_ from decide_eq_false^by simp only[hG,gG]at g;lk];exact q
 | n::a,m::c,k,l,i,o,p,F,g,q=>by
  have d:(GP n m&&A_ a c)=p_:=F;rw[gS]at d;have f:Q (if n=m then CD a c else Z8 n m) s:=q;cases o with
  | @cons _ u _ r t G=>
   cases p with
   | @cons _ v _ B C H=>
    rw[ik];have D:n=m->KatLex prog w A b (decide (h<j)) Q (r.zip B) (i+1) s:=λe=>S8 a c r B (i+1) G H d.2 (by simp only[gG]at g;lk) (by rw[if_pos e]at f;exact f);cases n with
    | inl x=>
     cases m with
     |inr y=>cases d.1
     | inl y=>
      let#[I,rfl]:=t;let#[J,rfl]:=C;refine kat_cons^wpAny_eqBool_int ?_
      by_cases e:x=y
      .rw[show(x==y)=p_ by simpa using e]
       exact kat_yes^D^by rw[e]
      .rw[show(x==y)=q_ by simpa using e]
       refine kat_no ?_;rw[if_neg λz=>e^Sum.inl.inj z]at f;cases K:(b&&i==0)with
       |true=>exact oneLt_int f
       |false=>exact kat_one _ _^nO (show PySem.W.BoolBack Q (.bool (decide (x<y))) s from f)
    | inr x=>
     cases m with
     |inl y=>cases d.1
     | inr y=>
      let#[I,rfl]:=t;let#[J,rfl]:=C;refine kat_cons^wpAny_eqBool_str ?_
      by_cases e:x=y
      .rw[show decide (x=y)=p_ by simpa using e]
       exact kat_yes^D^by rw[e]
      .rw[show decide (x=y)=q_ by simpa using e]
       refine kat_no ?_;rw[if_neg λz=>e^jA z]at f;cases K:(b&&i==0)with
       |true=>exact oneLt_str f
       |false=>exact kat_one _ _^PySem.P.lt_str (show PySem.W.BoolBack Q (.bool (decide (x.cps.toList<y.cps.toList))) s from f)
structure Pw (h:gA) (ks:List Db) (keys:List^List Key):Prop where
 at_:∀(i:Nat) (ns:List Key),keys[i]?=P3 ns->∃a o its n,ks[i]?=P3^.ref a/\h.get? a=P3 o/\o.cls=.type "tuple"/\o.data=.seq its n/\Vals (ns.map kOf) its.toList
 len:ks.length=keys.length
 same:∀x∈keys,∀y∈keys,A_ x y=p_
 ne:∀x∈keys,x≠[]
def c9:Key->String
 |.inl _=>"int"
 |.inr _=>"str"
theorem firsts{h:gA}:∀(g:r_ Db) (b:r_^r_ Key) (T:String),g.length=b.length->(∀(i:Nat) (u:r_ Key),b[i]?=P3 u->∃a o c n,g[i]?=P3^.ref a/\h.get? a=P3 o/\o.cls=.type "tuple"/\o.data=.seq c n/\Vals (u.map kOf) c.toList)->
  (∀x∈b,∃k r,x=k::r/\c9 k=T)->∃j:r_ Db,KatTups h g j/\j.length=b.length/\∀v∈j,typeOf v=pure^.type T
 |[],[],T,_,_,_=>#[[],trivial,rfl,λv l=>by cases l]
 |[],_::_,T,m,_,_=>by cases m
 |_::_,[],T,m,_,_=>by cases m
 | k::g,x::b,T,m,z,B=>by
  let#[j,F,G,H]:=firsts g b T (by simpa using m) (λi u e=>by
   let#[a,o,c,n,p,r]:=z (i+1) u (by simpa using e);exact#[a,o,c,n,by simpa using p,r]) λy I=>B y^T0 _ I
  let#[a,o,c,n,p,J,K,L,q]:=z 0 x rfl;have p:k=.ref a:=by simpa using p
  subst p;let#[k,r,rfl,C]:=B x Op;rw[gQ]at q;cases d:c.toList with
  |nil=>rw[d]at q;cases q
  | cons f M=>
   rw[d]at q;cases q with
   | cons D N=>
    refine#[f::j,KatTups.cons J K L (by rw[←kI,d];rfl) F,by rw[gG,gG,G],λv l=>?_]
    rcases Tk.mp l with rfl|l
    .cases k with
     |inl i=>let#[t,rfl]:=D;subst C;rfl
     |inr i=>let#[t,rfl]:=D;subst C;rfl
    .exact H v l
def JY{c:r_ Db}{keys:r_^r_ Key}(K:Pw s.heap c keys)(h2:2<=c.length){G:Array Nat->No->Prop}(h:∀p,p.Perm^gU^gf c.length->So.Srt QM (λi=>keys.getD i []) p c.length->G p s):
  wpAny (model prog w) A (keyKind' c.toArray) (λN P=>(kas_sort c.length).kasWp (kas_ask prog w A N c) G P) (λ_ _=>False) s:=by
 obtain⟨f,I,Q⟩:∃f I,keys=f::I:=by
  cases e:keys with
  |nil=>have:=K.len;rw[e]at this;simp only[hG]at this;lk
  |cons x r=>exact#[x,r,rfl]
 have J:f∈keys:=by rw[Q];exact Op
 obtain⟨m,R,S⟩:∃k r,f=k::r:=by
  cases e:f with
  |nil=>exact absurd e^K.ne f J
  |cons k r=>exact#[k,r,rfl]
 have y:∀x∈keys,∃k r,x=k::r/\c9 k=c9 m:=λx L=>by
  cases e:x with
  |nil=>exact absurd e^K.ne x L
  | cons k r=>
   exists k,r,rfl;have b:=K.same x L f J;rw[e,S]at b;have b:(GP k m&&A_ r R)=p_:=b;rw[gS]at b;cases k with
   |inl i=>cases m with
    |inl j=>rfl
    |inr j=>cases b.1
   |inr i=>cases m with
    |inl j=>cases b.1
    |inr j=>rfl
 let#[fs,z,B,T]:=firsts c keys (c9 m) K.len K.at_ y;refine kat_kind z (by rw[B,←K.len];lk) (λv U=>by rw[T v U];exact Looks.now) (by simp) ?_;refine So.sort_ok (O:=QM) (key:=λi=>keys.getD i []) (by lk) (λi j C V W X=>?_) h;have g:i<keys.length:=by rw[←K.len];exact V
 have l:j<keys.length:=by rw[←K.len];exact W
 let#[a,o,q,n,Y,Z,e3,e4,M]:=K.at_ i keys[i] (Go g);let#[a',o',d,n',D,F,a0,H,t]:=K.at_ j keys[j] (Go l);unfold kas_ask;rw[show c.getD i gW=.ref a by rw[gF,Y];rfl,show c.getD j gW=.ref a' by rw[gF,D];rfl];have b:=K.same _ (iE g) _^iE l;refine kat_lt Z e4 F H (S8 keys[i] keys[j] _ _ 0 M t b ?_ ?_)
 .have l1:=M.length
  have l2:=t.length;have l3:(keys[i].map kOf).length=keys[i].length:=Ev ..;have l4:(keys[j].map kOf).length=keys[j].length:=Ev ..;have l5:q.toList.length=q.size:=gl;have l6:d.toList.length=d.size:=gl;lk
 .rw[K4 _ _ b]
  have z:keys.getD i []=keys[i]:=by rw[gF,Go g];rfl
  have B:keys.getD j []=keys[j]:=by rw[gF,Go l];rfl
  have u:C (BJ (keys.getD i [])^keys.getD j []) s:=X;rw[z,B]at u;exact u
def CL{v:Db}{kw:r_ (Str×Db)}{Q:Db->No->Prop}(d:argsOk "sorted" #[[v],kw])(e:∀x,argsOk "list.sort" #[[.ref x],kw])
  (j:wpAny (model prog w) A.in1 (collect v) (λf a=>f.length<=sizeLine/\wpAny (model prog w) A.in1.in1 (iq.«list.sort» #[[.ref a.heap.objs.size],kw]) (λb g=>b=.done^.ret .none/\Q (.ref a.heap.objs.size) g) E {a with heap:=a.heap.push^seqObj "list" f.toArray 0}) E s):
  wpAny (model prog w) A (call (.builtin "sorted") [v] kw) Q E s:=call_function_entry_kw kind_sorted plain_sorted entry_sorted d^Cn^On^Cn^gh j (λf a h=>Cn^mV (Cn^gw^wpAny_call_entry_kw PyProof.Rows.slot_list_sort #[_,Sc _ rfl,rfl] PyProof.Rows.entry_list_sort (gh h.2 (λb g i=>#[_,i.1,On #[_,rfl,i.2]]) λ_ _ x=>x)^e _) h.1) λ_ _ x=>x
def Co(h:gA)(D:Ch)(a:r_ Db):gA:=((h.update D^g9 λ_=>(#[]:Array Db)).push^seqObj "tuple" a.toArray 0).push^seqObj "list" #[] 0
def F2{h:gA}{D:Ch}{a:r_ Db}{b:Ch}{o:Obj}(c:b≠D)(e:h.get? b=P3 o):(Co h D a).get? b=P3 o:=
 FM _ (FM _^(eq _ _^gc c).trans e)
def HV{h:gA}{D:Ch}{c:r_ Db}{n:Nat}(d:h.get? D=P3^seqObj "list" c.toArray n):∃a,(Co h D c).get? D=P3^seqObj "list" #[] a/\(h.update D^g9 λ_=>(#[]:Array Db)).get? D=P3^seqObj "list" #[] a:=by
 obtain⟨a,b⟩:∃a,(h.update D _).get? D=P3^seqObj _ _ a:=#[_,j8 d _];exact#[a,FM _^FM _ b,b]
def MH{D:Ch}{a:r_ Db}{n:Nat}{P:PySem.Fin->No->Prop}{G:Array Nat->Prop}(r:s.heap.get? D=P3^seqObj "list" a.toArray n)(t:a.length<64)
  (u:2<=a.length->wpAny (model prog w) A (keyKind' a.toArray) (λJ k=>(kas_sort a.length).kasWp (kas_ask prog w A J a) (λp v=>v={s with heap:=Co s.heap D a}/\G p) k) (λ_ _=>False) {s with heap:=Co s.heap D a})
  (h1:a.length<2->G^gU^gf a.length) (l:∀(p:Array Nat) (y:gA) (c:Nat),p.size=a.length->G p->(∀b o,b≠D->s.heap.get? b=P3 o->y.get? b=P3 o)->y.get? D=P3^seqObj "list" (gU^p.toList.map λi=>a.getD i gW) c->P (.done^.ret .none) {s with heap:=y}):
  wpAny (model prog w) A (iq.«list.sort» #[[.ref D],[]]) P E s:=by
 let#[U,d,z]:=HV r
 have m:∀(p:Array Nat),p.size=a.length->G p->P (.done^.ret .none) {s with heap:=(Co s.heap D a).update D^g9 λ_=>gU^p.toList.map λi=>a.getD i gW}:=λp q B=>by
  obtain⟨C,F⟩:∃C,((Co s.heap D a).update D^g9 λ_=>gU^p.toList.map λi=>a.getD i gW).get? D=P3^seqObj "list" (gU^p.toList.map λi=>a.getD i gW) C:=#[_,j8 d λ_=>gU^p.toList.map λi=>a.getD i gW];exact l p _ C q B (λb o K e=>(eq _ _^gc K).trans^F2 K e) F
 rw[list_sort_plain];refine Cn (lz r rfl ?_);refine Cn (jc r rfl ?_ (by rw[f8,gn];lk) (gK _));refine Cn (mI z rfl ?_);refine Cn (wpAny_newTuple ?_^by show a.length<=_;rw[gn];lk);refine Cn^mV ?_^gK _;refine gw ?_;show wpAny (model prog w) A _ P E {s with heap:=Co s.heap D a}
 dsimp only
 by_cases H:a.length<2
 .have f:a.toArray.size<2:=by rw[f8];exact H
  rw[if_pos f,if_pos f];refine Cn^On ?_;rw[StateT.run_pure];refine Cn^On ?_
  dsimp only
  refine Cn (mI d rfl ?_);have h:(gU^gf a.length).size=a.length:=by simp
  have g:(arrOf^SortSt.mk' general' (a.toArray.zip a.toArray) #[] 7 o_).map (·.2)=gU ((gU^gf a.length).toList.map λi=>a.getD i gW):=by
   refine kat_snds rfl ?_;have e:=kas_range^a.toArray.zip a.toArray;rw[show(a.toArray.zip a.toArray).size=a.length by simp]at e;exact e.symm
  rw[g];refine Cn (jc d rfl ?_ (gK _) (by rw[f8,Ev,gl,h,gn];lk));simp only[bne_self_eq_false,gs,if_false];exact On^m _ h^h1 H
 .have f:¬a.toArray.size<2:=by rw[f8];exact H
  rw[if_neg f,if_neg f];refine Cn^gh (u^by lk) (λJ V u=>?_) λ_ _ x=>x.elim
  refine Cn (gh (kat_run (Q:=λj k=>∃p:Array Nat,p.size=a.length/\arrOf j=p.map^kas_item^a.toArray.zip a.toArray/\failedOf j=o_/\k={s with heap:=Co s.heap D a}/\G p)
   rfl (by lk) t (λM j k N O R S=>#[M,N,O,R,S]) u) ?_ λ_ _ e=>e)
  rintro⟨⟨⟩,j⟩ k ⟨p,q,I,T,rfl,B⟩
  dsimp only
  have g:=kat_snds rfl I;have h:(gU^p.toList.map λi=>a.getD i gW).size=a.length:=by rw[f8,Ev,gl,q]
  rw[g];refine Cn (mI d rfl ?_);refine Cn (jc d rfl ?_ (gK _) (gN (lZ h)^by rw[gn];lk));rw[T];simp only[bne_self_eq_false,gs,if_false];exact On^m p q B
def Qd{D:Ch}{f:Db}{a:r_ Db}{n:Nat}{P:PySem.Fin->No->Prop}(U:s.heap.get? D=P3^seqObj "list" a.toArray n)(Y:a.length<64)(J:r_ Db->No->Prop)(h:Ch)(M:h=s.heap.objs.size+1)
  (h0:∀r,(Co s.heap D a).get? D=P3^seqObj "list" #[] r->J [] {s with heap:=Co s.heap D a})
  (z:∀(d:r_ Db) (g:No) (e:Nat) (v:Db),J d g->g.heap.get? h=P3^seqObj "list" d.toArray e->a[d.length]?=P3 v->wpAny (model prog w) A (call f [v]) (λk l=>l.heap.get? h=P3^seqObj "list" d.toArray e/\J (d++[k]) {l with heap:=l.heap.update h (g9 (·.push k))}) (λ_ _=>False) g)
  (N:∀(r:Nat),(Co s.heap D a).get? D=P3^seqObj "list" #[] r->∀(d:r_ Db) (g:No),J d g->d.length=a.length->g.heap.get? D=P3^seqObj "list" #[] r/\∃G:Array Nat->Prop,
   (2<=a.length->wpAny (model prog w) A (keyKind' d.toArray) (λκ O=>(kas_sort a.length).kasWp (kas_ask prog w A κ d) (λp l=>l=g/\G p) O) (λ_ _=>False) g)/\(a.length<2->G^gU^gf a.length) /\
   ∀(p:Array Nat) (V:gA) (c:Nat),p.size=a.length->G p->(∀b o,b≠D->b≠h->g.heap.get? b=P3 o->V.get? b=P3 o)->V.get? D=P3^seqObj "list" (gU^p.toList.map λi=>a.getD i gW) c->(∃o,V.get? h=P3 o)->P (.done^.ret .none) {g with heap:=V}):
  wpAny (model prog w) A (ksk_tree D f q_) P E s:=by
 let#[r,R,Z]:=HV U;have u:((s.heap.update D^g9 λ_=>(#[]:Array Db)).push^seqObj "tuple" a.toArray 0).objs.size=h:=by rw[size_push',Heap.size_update,M]
 have hD:D<s.heap.objs.size:=TW U;have S:D≠h:=by rw[M];exact gB^iO hD
 have a0:(Co s.heap D a).get? h=P3^seqObj "list" #[] 0:=by rw[←u];exact Sc _ rfl
 unfold ksk_tree;refine Cn (lz U rfl ?_);refine Cn (jc U rfl ?_ (by rw[f8,gn];lk) (gK _));refine Cn (mI Z rfl ?_);refine Cn (wpAny_newTuple ?_^by show a.length<=_;rw[gn];lk);refine Cn^mV ?_^gK _;refine gw ?_;show wpAny (model prog w) A (ksk_rest D f q_ a.toArray r^.ref ((s.heap.update D^g9 λ_=>(#[]:Array Db)).push^seqObj "tuple" a.toArray 0).objs.size) P E {s with heap:=Co s.heap D a};rw[u];unfold ksk_rest;refine Cn^kr ?_
 first
  |rw[List.forIn_toArray]
  |(rw[←Array.forIn_toList];simp only[List.toList_toArray])
  |rw[←Array.forIn_toList]
 refine Cn^ksk_fold (I:=λi g=>∃d e,lC d=i/\J d g/\g.heap.get? h=P3^seqObj "list" d.toArray e) a 0 _ #[[],0,rfl,h0 r R,a0] (λj x g hx hI=>?_) λg hI=>?_
 .let#[d,e,t,hJ,C]:=hI
  have hj:j<a.length:=(Uf.mp hx).1;have t:d.length=j:=by lk
  refine Cn^jv^gh (z d g e x hJ C^by rw[t];exact hx) (λk l F=>?_) λ_ _ hF=>hF.elim;have ea:(gU d).push k=gU (d++[k]):=by simp
  obtain⟨H,K⟩:∃H,(l.heap.update h (g9 (·.push k))).get? h=P3^seqObj "list" (gU (d++[k])) H:=#[_,by rw[←ea];exact j8 F.1 (·.push k)]
  try dsimp only
  refine Cn (jc F.1 rfl ?_ (by rw[f8,gn];lk) (gN (lZ (Array.size_push ..))^by rw[f8,gn];lk));exact On #[rfl,d++[k],H,by rw[gD,gu];lk,F.2,K]
 .let#[d,e,t,hJ,C]:=hI
  have t:d.length=a.length:=by lk
  let#[a5,G,g2,g1,g3]:=N r R d g hJ t
  try dsimp only
  refine Cn (lz C rfl ?_)
  have y:∀(W:SortSt) (p:Array Nat),p.size=a.length->G p->(arrOf W).map (·.2)=gU (p.toList.map λi=>a.getD i gW)->failedOf W=o_->wpAny (model prog w) A (ksk_tail D q_ r (.ref h) W) P E g:=λW p X hg T hf=>by
   have a6:(gU^p.toList.map λi=>a.getD i gW).size=a.length:=by rw[f8,Ev,gl,X]
   obtain⟨ck,a7⟩:∃ck,(g.heap.update h^g9 λ_=>(#[]:Array Db)).get? h=P3^seqObj "list" #[] ck:=#[_,j8 C λ_=>#[]];have L:(g.heap.update h^g9 λ_=>(#[]:Array Db)).get? D=P3^seqObj "list" #[] r:=(eq _ _^gc S).trans a5;obtain⟨H,K⟩:∃H,((g.heap.update h^g9 λ_=>(#[]:Array Db)).update D^g9 λ_=>gU^p.toList.map λi=>a.getD i gW).get? D=P3^seqObj "list" (gU^p.toList.map λi=>a.getD i gW) H:=#[_,j8 L λ_=>gU^p.toList.map λi=>a.getD i gW];unfold ksk_tail
   try dsimp only
   rw[T];refine Cn (jc C rfl ?_ (by rw[f8,gn];lk) (gK _));refine Cn^jS ?_;refine Cn (mI L rfl ?_);refine Cn (jc L rfl ?_ (gK _) (gN (lZ a6)^by rw[gn];lk));rw[hf];simp only[bne_self_eq_false,gs,if_false];refine On^g3 p _ H X hg (λb o a8 a9 e=>(eq _ _^gc a8).trans^(eq _ _^gc a9).trans e) K #[_,(eq _ _ S).trans a7]
  unfold ksk_end
  try dsimp only
  simp only[gs,if_false]
  by_cases h2:a.length<2
  .have m:a.toArray.size<2:=by rw[f8];exact h2
   rw[if_pos m,if_pos m];refine Cn^On ?_;rw[StateT.run_pure];refine Cn^On ?_
   try dsimp only
   refine y _ (gU^gf a.length) (by simp) (g1 h2) (kat_snds t ?_) rfl;have er:=kas_range^d.toArray.zip a.toArray;rw[show(d.toArray.zip a.toArray).size=a.length by simp[t]]at er;exact er.symm
  .have m:¬a.toArray.size<2:=by rw[f8];exact h2
   rw[if_neg m,if_neg m];refine Cn^gh (g2^by lk) (λκ s0 C=>?_) λ_ _ x=>x.elim
   refine Cn (gh (kat_run (Q:=λq O=>∃p:Array Nat,p.size=a.length/\arrOf q=p.map^kas_item^d.toArray.zip a.toArray/\failedOf q=o_/\O=g/\G p)
    t (by lk) Y (λp' q O a1 a2 a3 a4=>#[p',a1,a2,a3,a4]) C) ?_ λ_ _ e=>e)
   rintro⟨⟨⟩,q⟩ O ⟨p,X,b0,hf,rfl,hg⟩
   try dsimp only
   exact y q p X hg (kat_snds t b0) hf
end
section
variable {X:Cx}{zF:r_ (Addr×Obj)}{σ:L2.St}{H:Hp}{s:Shared}{h':Heap}
structure Q5 (X:Cx) (zF:List (Ch×Obj)) (D:Ch):Prop where
 new:X.s₀.heap.objs.size<=D
 loc:D≠X.env.locals
 cell:∀x c,X.env.cells.lookup x=P3 c->c≠D
 pin:∀p∈X.pn++zF,p.1≠D
 fs:D∉X.fs
def Inv.mine(I:Inv X zF σ H s){D:Ch}(h:s.heap.objs.size<=D):Q5 X zF D:=by
 refine#[gN I.sz h,λz=>?_,λx c e z=>?_,λp a z=>?_,I.nofs h]
 .have:=I.lt
  rw[←z]at this;exact absurd this^j7.mpr h
 .let#[v,o,b,_]:=I.cell x c e
  have:=TW b
  rw[z]at this;exact absurd this^j7.mpr h
 .let#[e,_]:=I.pin p a
  have:=TW e
  rw[z]at this;exact absurd this^j7.mpr h
structure KeysAt (K:Frag) (H:Hp) (vs:List V) (keys:List^List Key):Prop where
 len:vs.length=keys.length
 at_:∀(i:Nat) (ns:List Key),keys[i]?=P3 ns->∃a,vs[i]?=P3^.ref a/\SqT K H a (ns.map kOf)
 same:∀x∈keys,∀y∈keys,A_ x y=p_
 ne:∀x∈keys,x≠[]
def Gk(a:r_^r_ Key)(b:r_ Nat):Prop:=b.Perm^gf a.length/\∀i j,i<=j->j<a.length->BJ (a.getD (b.getD j 0) [])^a.getD (b.getD i 0) []=q_
def KeysAt.tups{d:r_ V}{f:r_ Db}{c:r_^r_ Key}(I:Inv X zF σ H s)(r:Vals d f)(k:KeysAt X.K H d c){h':gA}(g:∀b o,s.heap.get? b=P3 o->h'.get? b=P3 o):Pw h' f c:=by
 refine#[λi h e=>?_,r.length.symm.trans k.len,k.same,k.ne];let#[a,j,l]:=k.at_ i h e;let#[u,m,p]:=r.get j;cases p;let#[q,x,#[o,t,v,n,w],_]:=I.tuple l;exact#[a,o,_,n,m,g a o t,v,w,by grind]
theorem Fy:∀{a:r_ V}{b:r_ Db},Vals a b->∀i:Nat,RelV (a.getD i .non)^b.getD i gW
 |_,_,.nil,i=>by simp[RelV]
 |_,_,.cons r t,0=>by simpa using r
 |_,_,.cons r t,i+1=>by simpa using Fy t i
theorem HM{f:Nat->V}{g:Nat->Db}(h:∀i,RelV (f i)^g i):∀a:r_ Nat,Vals (a.map f)^a.map g
 |[]=>.nil
 |i::a=>.cons (h i)^HM h a
def getD_list(p:Array Nat)(i:Nat):p.getD i 0=p.toList.getD i 0:=by simp
def Sj{a:r_^r_ Key}{n:Nat}{p:Array Nat}(c:a.length=n)(h1:p.Perm^gU^gf n)(d:So.Srt QM (λi=>a.getD i []) p n):Gk a p.toList:=by
 subst c;refine#[Array.perm_iff_toList_perm.mp h1,λi j b e=>?_];have h:=d i j b e;unfold So.KN at h;rw[getD_list,getD_list]at h;exact h
def Jc{z:gX}{A:Db->No->Prop}{d:r_ V}{f:r_ Db}{keys:r_^r_ Key}{Q:VK}(I:Inv X zF σ H s)(r:Vals d f)(B:d.length<64)(k:KeysAt X.K H d keys)
  (q:∀(v:r_ Nat) (l:Ch),Gk keys v->H l=o_->Q (.ref l)^AY H l^.lst^v.map λi=>d.getD i .non):
  wpAny (model X.prog X.w) z (iq.«list.sort» #[[.ref s.heap.objs.size],[]]) (λm C=>m=.done^.ret .none/\EP X zF σ Q (.ref s.heap.objs.size) C) A {s with heap:=s.heap.push^seqObj "list" f.toArray 0}:=by
 have x:=r.length;have t:keys.length=f.length:=k.len.symm.trans x;refine MH (G:=λp=>p.Perm _/\So.Srt QM (λi=>keys.getD i []) p f.length) (n:=0) (Sc _ rfl) (by lk) (λD=>?_) (λL=>#[nI _,λi j E M=>?_]) λp h' c N y g F=>#[rfl,?_]
 .refine JY (keys:=keys) (k.tups I r λb o e=>?_) D λp a b=>#[rfl,a,b]
  exact F2 (gB^TW e)^FM _ e
 .have:i=j:=by lk
  subst this;exact ii _
 .have J:H s.heap.objs.size=o_:=I.fresh
  have u:(p.toList.map λi=>d.getD i .non).length=f.length:=by grind
  refine#[.ref s.heap.objs.size,AY H s.heap.objs.size^.lst _,I.laid (t':=s.toks) (λb o e=>g b o (gB^TW e)^FM _ e) (Rs _) #[by rw[u,←x,gn];lk,_,c,HM (Fy r) p.toList,F],rfl,q _ _ (Sj t y.1 y.2) J]
def Me{c:gC}{w:gJ}{A:gX}{E:Db->No->Prop}{s:No}{l:Ch}{b:r_ Db}{Q:r_ Db->No->Prop}(e:IsTup s.heap l b.toArray)
  (h:Q b {s with heap:=(s.heap.push^seqObj "list" #[] 0).update s.heap.objs.size (g9 (·++b.toArray))}) (g:b.length<=sizeLine):
  wpAny (model c w) A (collect^.ref l) Q E s:=by
 let#[o,i,j,n,k]:=id e;unfold collect;refine Cn^wpAny_runValue^ij entry_proto_collect' ?_;show wpAny _ _ (do again (.builtin "list.__iadd__" #[[←newList [],.ref l],[]])) _ _ s;refine Cn^mV^On #[mL _ (by decide +kernel),ij entry_list_iadd' ?_];show wpAny _ _ (jX (.ref s.heap.objs.size) (.ref l)^.ref s.heap.objs.size) _ _ {s with heap:=s.heap.push^seqObj "list" #[] 0};unfold jX;have d:(s.heap.push^seqObj "list" #[] 0).get? l=P3 o:=FM _ i;refine Cn^ki (T:="tuple") #[o,d,j] ?_;have m:(gv "tuple"==gv "tuple")=p_:=by rfl
 rw[if_pos^by rw[m];simp];refine Cn^lz d k ?_;refine Cn (lz (xs:=#[]) (n:=0) (Sc _ rfl) rfl ?_);rw[if_neg^by simp];refine Cn (jc (xs:=#[]) (n:=0) (Sc _ rfl) rfl ?_ (gK _) (by show(#[]++b.toArray).size<=sizeLine+1;simp only[Array.size_append,f8,hG];lk));refine On ?_
 show wpAny (model c w) A (do
   let o ←load s.heap.objs.size
   match o.data with
   |.seq xs _=>pure xs.toList
   |_=>unsupported "internal:collect") Q E {s with heap:=(s.heap.push^seqObj "list" #[] 0).update s.heap.objs.size (g9 (·++b.toArray))}
 refine Cn^wpAny_load (j8 (Sc _ rfl) _) ?_;show wpAny _ _ (pure ((#[]:Array Db)++b.toArray).toList) Q E _;rw[show((#[]:Array Db)++b.toArray).toList=b by simp];exact On h
def Mf{h:gA}{g:Array Db->Array Db}{b:Ch}{o:Obj}(e:h.get? b=P3 o):((h.push^seqObj "list" #[] 0).update h.objs.size^g9 g).get? b=P3 o:=
 (eq _ _^gc^gB^TW e).trans (FM _ e)
def IP{κ:Bool}{i:gX}{j:Db->No->Prop}{p:Ch}{c:r_ V}{Q:r_ Db->No->Prop}(I:Inv X zF σ H s)(h:SqK κ X.K H p c)(q:∀f g,Vals c f->c.length<=sizeLine->Inv X zF σ H g->Q f g):
  wpAny (model X.prog X.w) i (collect^.ref p) Q j s:=by
 cases κ with
 |true=>
  let#[d,r,pl,a]:=I.list h;exact collect_list pl.isList (q _ _ r a^I.kept λb o e=>Mf e)^by rw[←r.length];exact a
 |false=>
  let#[d,r,pl,a]:=I.tuple h;exact Me pl (q _ _ r a^I.kept λb o e=>Mf e)^by rw[←r.length];exact a
def R0(K:Frag):r_ V->Hp->VK->Prop:=λd H Q=>∃(e:Bool) (p:Ch) (b:r_ V) (a:r_^r_ Key),d=[.ref p]/\SqK e K H p b/\b.length<64/\KeysAt K H b a /\
 ∀(c:r_ Nat) (l:Ch),Gk a c->H l=o_->Q (.ref l)^AY H l^.lst^c.map λi=>b.getD i .non
def N6:CallR X (.builtin "sorted")^R0 X.K:=by
 intro zF s σ H k d Q I r h;let#[l,p,m,b,rfl,e,a,f,q]:=h;let#[u,rfl,g]:=vals1 r;cases g;exact CL (args_sorted1 _) (λx=>args_list_sort _)^IP I e λd n c i j=>#[by rw[←c.length];exact i,Jc j c a f q]
end
def E5(H:Hp)(L:r_ Ch)(f:Ch->Obj):Hp:=λb=>if b∈L then(H b).map^HO.frz^f b else H b
def DR{H:Hp}{L:r_ Ch}{f:Ch->Obj}{b:Ch}(h:b∉L):E5 H L f b=H b:=by unfold E5;rw[if_neg h]
def PF{H:Hp}{L:r_ Ch}{f:Ch->Obj}{b:Ch}{o:HO}(h:b∈L)(e:H b=P3 o):E5 H L f b=P3^.frz (f b) o:=by unfold E5;grind
section
variable {X:Cx}{zF:r_ (Addr×Obj)}{σ:L2.St}{H:Hp}{s:Shared}
def Inv.frz{L:r_ Ch}(I:Inv X zF σ H s)(k:∀b∈L,∃d,H b=P3^.dK d):∃f,Inv X zF σ (E5 H L f) s:=by
 have a:∀(f:Ch->Obj) b o,H b=P3 o->(∀d,o≠.dK d)->E5 H L f b=P3 o:=λf b o e n=>by
  rw[DR λv=>by grind];exact e
 exists λb=>(s.heap.get? b).getD {cls:=.none,data:=.fields #[]};refine I.step (g':=s.gens) (d':=s.drawn) (t':=s.toks) (h':=s.heap) (ch:=[]) (λ_ z=>nomatch z) (λ_ _ _ _ _ e _=>e) (λb o _ _ _ e _=>#[o.slots,e]) (λb o _ e n=>?_) (λb o _ e=>#[o,e]) (λb l e=>a _ b _ e λ_ z=>by cases z) (λb o u e=>a _ b _ e λ_ z=>by cases z) (λb x e=>#[#[],by grind]) (λ_ h=>h) (λb u e=>?_) I.bare
 .unfold E5
  simp_all
 .by_cases g:b∈L
  .let#[d,i]:=k b g
   rw[PF g i]at e;cases e;let#[z,y,m,r,ob,p,t,j,c]:=(show ObjOk X.prog X.w H s.heap b^.dK d from I.hok b _ i);exact#[by rw[j];rfl,z,y,m,r,ob,p,t,j,c]
  .rw[DR g]at e
   exact(I.hok b u e).stay (λ_ _ _ q=>q) (λc q=>a _ c _ q λ_ z=>by cases z) λc l q=>a _ c _ q λ_ z=>by cases z
def dZ(t:TE):TE:=λσ H Q=>t σ H λv H1=>∃L:r_ Ch,(∀b∈L,∃a,H1 b=P3^.dK a)/\∀f:Ch->Obj,Q v^E5 H1 L f
def Yh{e:gI}{t:TE}(h:PE X e t):PE X e^dZ t:=by
 intro zF s σ H Q I a;refine Aq (h _ s σ H _ I a) λu g #[v,H1,b,r,L,c,q]=>?_;let#[f,d]:=b.frz c;exact#[v,_,d,r,q f]
end
end L2
namespace Nt
open L2 Dp
def DJ(c:r_ Ak)(p:Str):r_ (Str×Int):=c.flatMap λt=>(if t.a=p then [(t.b,t.len)]else [])++(if t.b=p then [(t.a,t.len)]else [])
def Uj(a:r_ Ak)(p:Str):D:=.fdi ((DJ a p).map λx=>.inr x.1)^(DJ a p).map λx=>.int x.2
def D6(N:Net):D:=.dic (N.ps.map .inr)^N.ps.map^Uj N.ts
def Ub:W2:=λa n P=>∃N:Net,a=[.sh^Bx N]/\N.Ok/\N.ps.length<=1000/\N.ts.length<=1000/\P (D6 N) n
def kv(x:Str×Int):Key×V:=(.inr x.1,.int x.2)
structure Stp (H:Hp) (d:Ch) (as:List (Str×Ch)) (tb:Str->List (Key×V)) (H':Hp):Prop where
 old:∀b o,H b=P3 o->H' b=P3 o
 new:H d=o_
 top:H' d=P3 (.dK^as.map λx=>(.inr x.1,.ref x.2))
 inn:∀x∈as,H x.2=o_/\x.2≠d/\H' x.2=P3 (.dK^tb x.1)
 ads:(as.map (·.2)).Nodup
 nms:(as.map (·.1)).Nodup
def Gy{b:r_ (Str×Ch)}(c:(b.map (·.1)).Nodup){p:Str}{a:Ch}(h:(p,a)∈b):B8 (b.map λx=>((.inr x.1:Key),V.ref x.2))^.inr p=P3^.ref a:=by
 induction b with
 |nil=>cases h
 | cons x r d=>
  rw[gQ,gP]at c
  rcases Tk.mp h with e|h
  .rw[←e]
   exact C_ rfl
  .exact(DA λe=>c.1^by rw[jA e];exact TM.mpr #[_,h,rfl]).trans^d c.2 h
def NP{a:r_ (Str×Ch)}{p:Str}{v:V}(h:p∉a.map (·.1)):putK (a.map λx=>((.inr x.1:Key),V.ref x.2)) (.inr p) v=(a.map λx=>((.inr x.1:Key),V.ref x.2))++[(.inr p,v)]:=by
 unfold putK
 simp_all
def Og{a:r_ (Str×Int)}{p:Str}{l:Int}(h:p∉a.map (·.1)):putK (a.map kv) (.inr p)^.int l=(a++[(p,l)]).map kv:=by
 unfold putK;rw[if_neg,gR]
 .rfl
 .rw[jQ]
  rintro⟨y,b,e⟩;let#[x,c,rfl]:=TM.mp b;exact h^TM.mpr #[x,c,jA^of_decide_eq_true e]
def Stp.more{H m:Hp}{d q:Ch}{l:r_ (Str×Ch)}{n:Str->r_ (Key×V)}{p:Str}(s:Stp H d l n m)(i:m q=o_)(v:p∉l.map (·.1))(A:n p=[]):
  Stp H d (l++[(p,q)]) n (AY (AY m q^.dK []) d^.dK^putK (l.map λx=>((.inr x.1:Key),V.ref x.2)) (.inr p)^.ref q):=by
 have w:q≠d:=λe=>by rw[e,s.top]at i;cases i
 have k:H q=o_:=by
  cases c:H q with
  |none=>rfl
  |some o=>rw[s.old q o c]at i;cases i
 exists λb o e=>?_,s.new,?_,λx f=>?_,?_
 .have B:b≠d:=λz=>by rw[z,s.new]at e;cases e
  have r:b≠q:=λz=>by rw[z,k]at e;cases e
  rw[AF B,AF r];exact s.old b o e
 .rw[AH,NP v,gR];rfl
 .rcases gM.mp f with f|f
  .let#[y,t,j]:=s.inn x f
   have r:x.2≠q:=λz=>by rw[z,i]at j;cases j
   exact#[y,t,by rw[AF t,AF r];exact j]
  .rw[Re.mp f]
   exact#[k,w,by rw[AF w,AH,A]]
 .rw[gR,ic]
  refine#[s.ads,gP.mpr #[(λh=>by cases h),h8],λa u b g e=>?_];let#[x,f,rfl]:=TM.mp u;have g:b=q:=Re.mp g;let#[y,t,j]:=s.inn x f;rw[e,g,i]at j;cases j
 .rw[gR,ic]
  refine#[s.nms,gP.mpr #[(λh=>by cases h),h8],λa u b g e=>?_];have g:b=p:=Re.mp g;exact v^by rw[←g,←e];exact u
def QW{c:r_ (Str×Ch)}(d:(c.map (·.1)).Nodup){p:Str}{a b:Ch}(h1:(p,a)∈c)(e:(p,b)∈c):a=b:=by
 have:=(Gy d h1).symm.trans^Gy d e
 grind
def QV{b:r_ (Str×Ch)}(c:(b.map (·.2)).Nodup){p q:Str}{a:Ch}(h1:(p,a)∈b)(e:(q,a)∈b):p=q:=by
 induction b with
 |nil=>cases h1
 | cons x r h=>
  rw[gQ,gP]at c
  rcases Tk.mp h1 with i|f
  .rcases Tk.mp e with g|d
   .grind
   .exact absurd (TM.mpr #[_,d,by rw[←i]]) c.1
  .rcases Tk.mp e with g|d
   .exact absurd (TM.mpr #[_,f,by rw[←g]]) c.1
   .exact h c.2 f d
def Stp.put{H g:Hp}{d a:Ch}{c:r_ (Str×Ch)}{h tb2:Str->r_ (Key×V)}{p:Str}{kvs:r_ (Key×V)}(s:Stp H d c h g)(f:(p,a)∈c)(h1:tb2 p=kvs)(i:∀q,q≠p->tb2 q=h q):
  Stp H d c tb2 (AY g a^.dK kvs):=by
 let#[t,j,u]:=s.inn _ f;refine#[λb o e=>?_,s.new,?_,λx k=>?_,s.ads,s.nms]
 .have l:b≠a:=λz=>by grind
  rw[AF l];exact s.old b o e
 .rw[AF^gc j]
  exact s.top
 .let#[m,n,r]:=s.inn x k
  exists m,n
  by_cases e:x.2=a
  .have:=QV s.ads (show(x.1,a)∈c by grind) f
   rw[e,AH,this,h1]
  .have:x.1≠p:=λz=>e^QW s.nms (show(p,x.2)∈c by grind) f
   rw[AF e,i _ this];exact r
def MD(c:r_ Ak)(t:Ak)(p:Str):DJ (c++[t]) p=DJ c p++((if t.a=p then [(t.b,t.len)]else [])++(if t.b=p then [(t.a,t.len)]else [])):=by
 unfold DJ
 simp_all
def K3{d:r_ Ak}{p q:Str}(h:q∈(DJ d p).map (·.1)):∃t∈d,(t.a=p/\t.b=q)\/(t.b=p/\t.a=q):=by
 let#[x,c,rfl]:=TM.mp h;let#[t,e,c]:=jp.mp c;exists t,e
 rcases gM.mp c with c|c
 .simp_all
 simp_all
def O1(c:r_ Ak)(p:Str):(DJ c p).length<=2*c.length:=by
 induction c with
 |nil=>exact gK _
 |cons t r d=>
  unfold DJ at d ⊢;rw[jG,gD,gD];have e:(if t.a=p then [(t.b,t.len)]else []).length<=1:=by grind
  grind
def Tj{d:r_ Ak}{t:Ak}(i:(d++[t]).Pairwise BF)(f:∀s∈d++[t],cs s.a<cs s.b):t.b∉(DJ d t.a).map (·.1)/\t.a∉(DJ d t.b).map (·.1):=by
 rw[kO]at i
 have g:∀s∈d,¬((s.a=t.a/\s.b=t.b)\/(s.b=t.a/\s.a=t.b)):=λs c e=>by
  have j:=i.2.2 s c t (Re.mpr rfl);have m:=f s^iS _ c;have n:=f t^gH _ (Re.mpr rfl)
  rcases e with⟨k,l⟩|⟨k,l⟩
  .unfold BF at j
   grind
  grind
 refine#[λh=>?_,λh=>?_]
 .let#[s,c,e]:=K3 h
  exact g s c e
 .let#[s,c,e]:=K3 h
  exact g s c^e.elim (λz=>.inr #[z.2,z.1]) λz=>.inl #[z.2,z.1]
def KZ{c:r_ Str}(h:rising c):c.Nodup:=h.imp λ{a b} d e=>by grind
def Nd{a:r_ Str}(h:a.Nodup){i:Nat}(hi:i<a.length):a[i]∉a.take i:=by
 have e:a=a.take i++a[i]::a.drop (i+1):=by
  simp_all
 intro b;rw[e,ic]at h;exact h.2.2 _ b _ Op rfl
def Stp.at_{K:Frag}{M:Ch->Prop}{H q:Hp}{d:Ch}{c:r_ (Str×Ch)}{N:Net}(t:∀a,M a->∃o,H a=P3 o)(s:Stp H d c (λp=>(DJ N.ts p).map kv) q)(u:c.map (·.1)=N.ps)(f:Ch->Obj):At K M (E5 q (c.map (·.2)) f) (D6 N)^.ref d:=by
 have v:∀b,H b=o_->¬M b:=λb e m=>by let#[o,h]:=t b m;rw[h]at e;cases e
 have i:∀c:r_ (Str×Ch),(c.map λx=>((.inr x.1:Key),V.ref x.2))=((c.map (·.1)).map (.inr:Str->Key)).zip (c.map λx=>V.ref x.2):=λc=>by
  grind
 refine#[d,c.map λx=>.ref x.2,rfl,#[v d s.new,by rw[DR (λw=>by let#[x,j,e]:=TM.mp w;exact(s.inn x j).2.1 e),s.top,i,u]],by rw[Ev,Ev],?_];rw[←u]
 have go:∀k:r_ (Str×Ch),(∀x∈k,x∈c)->Ats K M (E5 q (c.map (·.2)) f) ((k.map (·.1)).map^Uj N.ts) (k.map λx=>V.ref x.2):=λk=>by
  induction k with
  |nil=>intro _;rfl
  | cons x r l=>
   intro j;refine#[.ref x.2,r.map λx=>V.ref x.2,rfl,?_,l λy z=>j y^T0 _ z];let#[A,C,B]:=s.inn x^j x Op
   have n:∀g:r_ (Str×Int),g.map kv=(g.map λx=>(.inr x.1:Key)).zip (g.map λx=>V.int x.2):=λg=>by
    induction g with
    |nil=>rfl
    |cons x r l=>rw[gQ,l];rfl
   refine#[x.2,(DJ N.ts x.1).map λx=>V.int x.2,rfl,#[f x.2,v _ A,by rw[PF (TM.mpr #[x,j x Op,rfl]) B,n]],by rw[Ev,Ev],?_];generalize DJ N.ts x.1=g
   induction g with
   |nil=>rfl
   |cons x r l=>exact#[.int x.2,_,rfl,rfl,l]
 exact go c λ_ h=>h
end Nt
namespace L2
open PySem.W
section
variable {X:Cx}{zF:r_ (Addr×Obj)}{σ:L2.St}{H:Hp}{s:Shared}{h':Heap}
def Inv.adopt2{D e:Ch}{o:HO}(I:Inv X zF σ H s)(m:Q5 X zF D)(h:H D=o_)(i:Q5 X zF e)(j:H e=o_)(l:D≠e)(k:∀b u,b≠D->b≠e->s.heap.get? b=P3 u->h'.get? b=P3 u)(new:ObjOk X.prog X.w (AY H D o) h' D o):Inv X zF σ (AY H D o) {s with heap:=h'}:=by
 have a:∀b,b∉[D,e]->b≠D/\b≠e:=λb d=>#[λz=>d (by rw[z];exact Op),λz=>d^by rw[z];exact T0 _ (Re.mpr rfl)]
 refine I.step (g':=s.gens) (d':=s.drawn) (t':=s.toks) (ch:=[D,e]) (λb g=>?_) (λb u _ _ d q _=>k b u (a b d).1 (a b d).2 q) (λb u _ _ d q _=>#[u.slots,k b u (a b d).1 (a b d).2 q]) (λb u d q n=>?_)
  (λb u d q=>#[u,k b u (a b d).1 (a b d).2 q]) (λb p q=>?_) (λb u v q=>?_) (λb B q=>#[#[],?_]) (λC t=>?_) (λb u q=>?_) I.bare
 .rcases Tk.mp g with rfl|g
  .exact#[.inr m.new,m.loc,m.cell,m.pin]
  .rw[Re.mp g]
   exact#[.inr i.new,i.loc,i.cell,i.pin]
 .rw[AF (a b d).1];exact n
 .rw[AF^AW q h];exact q
 .rw[AF^AW q h];exact q
 .rw[AF^AW q h,q];simp
 .let#[u,x,y,A,r]:=t
  exact#[u,x,y,k _ u (gc m.loc) (gc i.loc) A,r]
 .by_cases g:b=D
  .subst g;rw[AH]at q;cases q;exact new
  .rw[AF g]at q
   refine(I.hok b u q).stay (λc v d f=>k c v ?_ ?_ f) (λc f=>by rw[AF^AW f h];exact f) λc p f=>by rw[AF^AW f h];exact f
   .grind
   grind
def YB(K:Frag)(sp:Sp)(f:TE):TE:=λσ H Q=>f σ H λx H1=>∃(g:Bool) (l:Ch) (d:r_ V) (a:r_^r_ Key) (J:r_ V->Hp->Prop),x=.ref l/\SqK g K H1 l d/\d.length<64/\J [] H1 /\
 (∀b c v,J b c->d[b.length]?=P3 v->sp [v] c (λk h=>J (b++[k]) h) E0) /\
 ∀b c,J b c->b.length=d.length->KeysAt K c b a/\∀(e:r_ Nat) (l:Ch),Gk a e->c l=o_->Q (.ref l)^AY c l^.lst^e.map λi=>d.getD i .non
def SX{k:Nat}{f:Ch}{fd:gp}{pn fn:Str}{sp:Sp}{te:TE}{e:gI}{p fp kp pos:Pos}(F:FnOk X.prog X.w X.K X.mg X.base Eo k f fd [pn] sp)(hr:Room (k+2) X.A)(hg:Gl X "sorted")(hm:X.mg "sorted"=o_)
  (a9:Gl X fn) (b0:X.mg fn=P3^.ref f) (hb:Binds X.K fd [pn] []) (he:PE X e te) (hs:starEach [e] X.env=[(q_,eval e X.env)]:=by rfl) (b1:(fn==("__debug__":Str))=q_:=by decide):
  PE X (.Call (.Name "sorted" p) [e] [#[P3 "key",.Name fn fp,kp]] pos) (YB X.K sp te):=by
 intro zF s σ H Q I h;refine iB^C1 I hg hm kW ?_
 refine callWith_kw (Aq (Aw he Bt hs pos zF s σ H (λC H1=>∃x,C=[x]/\∃(κ:Bool) (l:Ch) (C:r_ V) (keys:r_^r_ Key) (J:r_ V->Hp->Prop),x=.ref l/\SqK κ X.K H1 l C/\C.length<64/\J [] H1 /\
   (∀B T v,J B T->C[B.length]?=P3 v->sp [v] T (λk H3=>J (B++[k]) H3) E0) /\
   ∀B T,J B T->B.length=C.length->KeysAt X.K T B keys/\∀(ix:r_ Nat) (l:Ch),Gk keys ix->T l=o_->Q (.ref l)^AY T l^.lst^ix.map λi=>C.getD i .non) I ?first) λt s1 #[xs,H1,I1,r1,q1]=>kws_cons^Cq I1 a9 b0 (kws_nil ?_) b1) (by rw[hs];rfl)^by rw[hs];rfl
 case first=>
  show te σ H _;refine cast (congrArg (te σ H) ?_) h
  funext x H1
  refine propext #[λz=>#[x,rfl,z],fun#[y,e,z]=>?_];cases e;exact z
 let#[x,rfl,κ,l,C,keys,J,rfl,hq,b2,j0,U,a0]:=q1;let#[u,rfl,ru]:=vals1 r1;cases ru;show wpAny (model X.prog X.w) X.A (call (.builtin "sorted") [.ref l] [(g_ "key",.ref f)]) _ _ s1;refine CL (ksk_s1 _ _) (λx=>ksk_l1 _ _)^IP I1 hq λt R r2 hz I2=>#[by rw[←r2.length];exact hz,?_];rw[ksk_t1];have hl:=r2.length;generalize W:R.heap.objs.size=D;have a1:(R.heap.push^seqObj "list" t.toArray 0).objs.size=D+1:=by rw[size_push',W]
 have a2:(R.heap.push^seqObj "list" t.toArray 0).get? D=P3^seqObj "list" t.toArray 0:=by rw[←W];exact Sc _ rfl
 have mD:Q5 X zF D:=I2.mine (by rw[W];exact Rs _);have mK:Q5 X zF (D+2):=I2.mine (by rw[W];exact Nat.le_add_right _ _);have nD:H1 D=o_:=I2.hok.fresh (by rw[W];exact Rs _);have nK:H1 (D+2)=o_:=I2.hok.fresh (by rw[W];exact Nat.le_add_right _ _);have a3:D≠D+2:=gB^iO^jO D;have S:∀b,Q5 X zF b->b∉Js X.stack:=λb m z=>(Tk.mp^I2.stkSub b z).elim m.loc m.fs
 refine Qd (s:={R with heap:=R.heap.push^seqObj "list" t.toArray 0}) (n:=0) a2 (by rw[←hl];exact b2)
  (λB N=>∃O E,Vals O B/\J O E/\Inv X zF σ E N/\E D=o_/\E (D+2)=o_/\N.heap.get? D=(Co (R.heap.push^seqObj "list" t.toArray 0) D t).get? D) (D+2) (by show D+2=(R.heap.push _).objs.size+1;rw[a1]) (λe1 a4=>?_) (λB N e v Y hk hv=>?_) λe1 a4 B N Y L=>?_
 .refine#[[],H1,.nil,j0,?_,nD,nK,rfl]
  exact I2.kept (t':=R.toks) λb o q=>F2 (by rw[←W];exact gB^TW q)^FM _ q
 .let#[O,E,Z,Y,I',n1,n2,P]:=Y
  have hi:B.length<t.length:=(Uf.mp hv).1;have a5:C[O.length]?=P3 (C[O.length]'(by rw[Z.length];lk)):=Go _;let#[u',e2,ru]:=r2.get a5;rw[Z.length,hv]at e2;cases e2;have b3:=U O E _ Y a5;have E1:Env0 X.prog X.w X.K X.mg X.base X.A.in1.in1 X.stack N E:=I'.env0.in1.in1;refine jR^kG (F.run X.A.in1.in1 X.stack N E #[[v],[]] [v] _ _ E0 (hr.in1).in1 E1 (by simpa using hb N [v] I'.kIn rfl) (.cons ru .nil) b3) λr g M=>?_;cases r with
  |error e=>exact gy M
  | ok fl=>
   cases fl with
   |next=>exact gy M
   |brk=>exact gy M
   |cont=>exact gy M
   | ret u=>
    let#[w',H3,os,a6,un,b4,b5,q3]:=id M
    obtain⟨oD,eD⟩:∃o,N.heap.get? D=P3 o:=by
     let#[c,hc,_]:=HV a2;exact#[_,P.trans hc]
    have kD:g.heap.get? D=P3 oD:=un.keep D oD eD n1 (S D mD) (by simp);have kK:g.heap.get? (D+2)=P3^seqObj "list" B.toArray e:=un.keep _ _ hk n2 (S _ mK) (by simp);have f1:H3 D=o_:=un.free D oD eD n1 (by simp);have f2:H3 (D+2)=o_:=un.free _ _ hk n2 (by simp);have I3:Inv X zF σ H3 g:=I'.call' os un b4 a6 (λb z=>absurd z^by simp);exists kK,O++[w'],H3,Z.append^.cons b5 .nil,q3,?_,f1,f2
    .exact I3.turned (t':=g.toks) (λb o hb q=>(eq _ _^gc hb).trans q) f2 mK.loc (.inr mK.new) mK.cell mK.pin
    .show(g.heap.update (D+2) _).get? D=_
     rw[eq _ _^gc a3,kD,←eD,P]
 .let#[O,E,Z,Y,I',n1,n2,P]:=Y
  let#[a7,q]:=a0 O E Y (by rw[Z.length,L,hl]);have b6:keys.length=t.length:=by rw[←a7.len,Z.length,L]
  refine#[P.trans a4,λp=>p.Perm^gU^gf t.length/\So.Srt QM (λi=>keys.getD i []) p t.length,λh2=>?_,λh1=>#[nI _,λi j b9 hj=>?_],λp h' c hp hg a8 b7 _=>#[rfl,?_]]
  .have ts:=JY (prog:=X.prog) (w:=X.w) (A:=X.A.in1.in1) (keys:=keys) (a7.tups I' Z λb o e=>e) (by lk) (G:=λp g=>g=N/\p.Perm^gU^gf t.length/\So.Srt QM (λi=>keys.getD i []) p t.length) λp a b=>#[rfl,by rw[←L];exact a,by rw[←L];exact b]
   rw[L]at ts;exact ts
  .have:i=j:=by lk
   subst this;exact ii _
  .have b8:(p.toList.map λi=>C.getD i .non).length=t.length:=by rw[Ev,gl,hp]
   refine#[.ref D,AY E D^.lst^p.toList.map λi=>C.getD i .non,I'.adopt2 mD n1 mK n2 a3 a8 #[by rw[b8,←hl,gn];lk,_,c,HM (Fy r2) p.toList,b7],rfl,q _ _ (Sj b6 hg.1 hg.2) n1]
theorem Hj{e f:Type}{F:e->f->Prop}:∀{c:r_ e}{d:r_ f}{j:Nat}{a:e}{b:f},Paired F c d->c[j]?=P3 a->d[j]?=P3 b->F a b
 |_,_,_,_,_,.nil,h,_=>by simp at h
 |_,_,0,_,_,.cons r t,g,i=>by
  grind
 |_,_,j+1,_,_,.cons r t,g,i=>Hj (j:=j) t (by simp_all)^by simp_all
theorem Fx:∀b:r_ Ch,Vals (b.map V.ref)^b.map ZB
 |[]=>.nil
 |a::b=>.cons rfl (Fx b)
end
end L2
namespace Dp
open L2
def B5:D->s_^r_ Key
 |.tup a=>Ga a
 |_=>o_
def Gm(c:D->s_^r_ Key)(f:r_ D):Prop:=f.Pairwise λa b=>∀d e,c a=P3 d->c b=P3 e->BJ e d=q_
def Keyed(a:D->s_^r_ Key)(b:r_ D):Prop:=(∀x∈b,∃k,a x=P3 k/\k≠[])/\∀x∈b,∀y∈b,∀c d,a x=P3 c->a y=P3 d->A_ c d=p_
def range_getD(a:r_ D):(gf a.length).map (λi=>a.getD i .non)=a:=by
 apply lO
 .simp
 simp_all
def Ov{kf:D->s_^r_ Key}{c:r_ D}{a:r_^r_ Key}{b:r_ Nat}(m:a.length=c.length)(r:∀(i:Nat) (x:D),c[i]?=P3 x->∃k,a[i]?=P3 k/\kf x=P3 k)(h:Gk a b):
  (b.map λi=>c.getD i .non).Perm c/\Gm kf (b.map λi=>c.getD i .non):=by
 let#[d,s]:=h;constructor
 .have:=d.map λi=>c.getD i D.non
  rw[m,range_getD]at this;exact this
 .unfold Gm
  rw[ji];intro i j n f l t u o p;rw[kP]at o p;rw[Ev]at n f;have v:b.length=a.length:=by rw[d.length_eq,jH]
  have g:∀i (h:i<b.length) k,kf (c.getD b[i] .non)=P3 k->a.getD (b.getD i 0) []=k:=λi h k e=>by
   have w:b[i]<a.length:=io.mp^d.mem_iff.mp^iE h;have q:b[i]<c.length:=by rw[←m];exact w
   let#[C,y,z]:=r b[i] c[b[i]] (Go q);have A:c.getD b[i] .non=c[b[i]]:=by rw[gF,Go q];rfl
   rw[A,z]at e;have B:b.getD i 0=b[i]:=by rw[gF,Go h];rfl
   rw[B,gF,y];exact XV e
  have:=s i j (lX l)^by rw[←v];exact f
  rw[g i n t o,g j f u p]at this;exact this
theorem ET{b:D->s_^r_ Key}:∀{xs:r_ D},(∀x∈xs,∃k,b x=P3 k/\k≠[])->∃a:r_^r_ Key,a.length=xs.length/\(∀(i:Nat) (x:D),xs[i]?=P3 x->∃k,a[i]?=P3 k/\b x=P3 k/\k≠[])
 |[],_=>#[[],rfl,λi x e=>by simp at e]
 | x::xs,h=>by
  let#[k,d,f]:=h x Op;let#[a,l,g]:=ET (xs:=xs) λy c=>h y^T0 _ c;refine#[k::a,by simp_all,λi y e=>?_];cases i with
  |zero=>
   simp_all
  |succ i=>
   simp_all
section
variable {K:Frag}{M:Addr->Prop}{H:Hp}
theorem Ats.getD:∀{b:r_ D}{a:r_ V},Ats K M H b a->∀i:Nat,At K M H (b.getD i .non)^a.getD i .non
 |[],a,h,i=>by cases(h);simp[At]
 |d::b,a,h,0=>by
  let#[v,r,e,f,c]:=h
  grind
 |d::b,a,h,i+1=>by
  let#[v,r,e,f,c]:=h;subst e
  simpa using Ats.getD c i
theorem Ats.pick{b:r_ D}{c:r_ V}(h:Ats K M H b c):∀a:r_ Nat,Ats K M H (a.map λi=>b.getD i .non)^a.map λi=>c.getD i .non
 |[]=>rfl
 |i::a=>#[_,_,rfl,h.getD i,Ats.pick h a]
def F_{o:D->s_^r_ Key}{f:r_ D}{t:r_ V}{c:r_^r_ Key}(p:∀d k v,d∈f->o d=P3 k->At K M H d v->∃a,v=.ref a/\SqT K H a^k.map kOf)(u:Ats K M H f t)(z:Keyed o f)(w:c.length=f.length)(A:∀(i:Nat) (x:D),f[i]?=P3 x->∃k,c[i]?=P3 k/\o x=P3 k/\k≠[]):KeysAt K H t c:=by
 have b:∀(i:Nat) (h:r_ Key),c[i]?=P3 h->∃x,f[i]?=P3 x/\o x=P3 h/\h≠[]:=λi h e=>by
  have l:i<f.length:=by rw[←w];exact(Uf.mp e).1
  let#[k,g,m,n]:=A i f[i] (Go l);rw[e]at g;cases g;exact#[f[i],Go l,m,n]
 refine#[u.length.trans w.symm,λi h e=>?_,λx q y B=>?_,λx q=>?_]
 .let#[d,g,m,_]:=b i h e
  let#[v,n,C]:=u.get g;let#[a,rfl,E]:=p d h v (iU g) m C;exact#[a,n,E]
 .let#[i,l]:=kJ.mp q
  let#[j,F]:=kJ.mp B;let#[d,g,m,_]:=b i x l;let#[G,r,s,_]:=b j y F;exact z.2 d (iU g) G (iU r) x y m s
 .let#[i,l]:=kJ.mp q
  let#[d,g,m,n]:=b i x l;exact n
def GB{d:D}{k:r_ Key}{v:V}(e:B5 d=P3 k)(h:At K M H d v):∃a,v=.ref a/\SqT K H a^k.map kOf:=by
 cases d with
 |tup g=>
  let#[a,i,b,c,f]:=h
  have:=DN (e) f
  subst this;exact#[a,b,c.sq]
 |_=>cases e
def ZL(c:r_ D)(P:D->Prop):Prop:=∃d b,c=[d]/\KS d=P3 b/\b.length<64/\Keyed B5 b/\∀a:r_ D,a.Perm b->Gm B5 a->P^.lst a
def WE:Bc K .fr (R0 K) ZL:=by
 intro U M H E F P Q o p r w q;let#[d,G,rfl,e,c,g,w]:=w;let#[v,rfl,s]:=Bk r;let#[t,a,u,rfl,f,y]:=Rg s e (λ_ z=>z) p;let#[h,j,m]:=ET g.1;refine#[t,a,u,_,rfl,y M H (Pres.refl _ _)^Ext.refl _ _,by rw[f.length];exact c,F_ (λd k v _=>GB) f g j m,λA l B n=>?_];let#[C,D]:=Ov (kf:=B5) j (λi x e=>by let#[k,a,b,_]:=m i x e;simp_all) B;exact q _ _ _ (AU n) (BL n^f.pick A)^w _ C D
end
section
variable {X:Cx}{a e:Expr}{zV:Kd}{wa:DW}{pos p fp kp:Pos}
def Xr(W:W2)(wa:DW):DW:=λn h P=>wa n h λd e=>∃(c:r_ D) (f:D->D),KS d=P3 c/\c.length<64/\(∀x∈c,∀g:D->Sg->Prop,g (f x) e->W [.sh x] e g)/\Keyed (λx=>B5^f x) c /\
 ∀b:r_ D,b.Perm c->Gm (λx=>B5^f x) b->P (.lst b) e
def T9{k:Nat}{fn pn:Str}{W:W2}(G:Got X.prog X.w X.K X.mg X.base fn k [pn] .sh W)(hr:Room (k+2) X.A)(hg:Gl X "sorted")(hm:X.mg "sorted"=o_)(a0:Gl X fn)(he:DE X e zV wa)
  (L:starEach [e] X.env=[(q_,eval e X.env)]:=by rfl) (a1:(fn==("__debug__":Str))=q_:=by decide):DE X (.Call (.Name "sorted" p) [e] [#[P3 "key",.Name fn fp,kp]] pos) .fr^Xr W wa:=by
 let#[f,fd,F,a2,b1,hb,hW]:=G;let#[t,h1,h2]:=he;refine#[_,SX F hr hg hm a0 a2 hb h1 L a1,λC M H n ρ σ P Q R w q=>?_];refine h2 C M H n ρ σ _ _ R w λv H1 d Z e1 f1 r1 p=>?_;let#[j,E,hd,a3,hw,hK,w]:=p;have N:=R.step e1 f1;let#[κ,l,us,rfl,L,sq]:=Rg (U:=C.U) (r1.tpOf R.dom R.vM) hd R.uV N.vM;let#[O,hl,hk]:=ET hK.1;have s:=L.length;refine#[κ,l,us,O,λc B=>Ext C.U H1 B/\FeedC X.K C.F M B Z/\c.length<=j.length/\∀(i:Nat) (k:V),c[i]?=P3 k->∃x,j[i]?=P3 x/\At X.K M B (E x) k,rfl,sq M H1 (Pres.refl _ _)^Ext.refl _ _,by rw[s];exact a3,#[Ext.refl _ _,f1,gK _,λi k z=>absurd (show(o_:s_ V)=P3 k from z) λh=>nomatch h],λc B v hJ hv=>?_,λc B hJ a4=>?_]
 .let#[ex,u,a5,I]:=hJ
  have m:=N.step ex u;have hi:c.length<j.length:=by rw[←s];exact(Uf.mp hv).1
  have S:j[c.length]?=P3 j[c.length]:=Go hi;let#[v',e2,hA]:=(L.pres^N.pres ex).get S;rw[hv]at e2;cases e2;refine#[rfl,C.F,C.U,C.V,M,Z,[.sh j[c.length]],λd n=>d=E j[c.length]/\n=Z,#[m.dom,m.fU,m.uV,m.vM,u,.cons #[#[v,rfl,hA],rfl] .nil],hw _ (iE hi) _ #[rfl,rfl],λr H3 d n' T f3 vr hd=>?_];let#[rfl,rfl]:=hd;refine#[ex.trans T,f3,by rw[gD,gu];lk,λi k o=>?_]
  by_cases a6:i<c.length
  .rw[i9 a6]at o
   let#[x,h3,h4]:=I i k o;exact#[x,h3,h4.pres^m.pres T]
  .rw[iX^by lk]at o
   have a7:i=c.length:=by
    have:=(Uf.mp o).1
    rw[gu]at this;lk
   subst a7;rw[nC]at o;cases(show P3 r=P3 k from o);exact#[_,S,vr]
 .let#[ex,u,a5,I]:=hJ
  have m:=N.step ex u;have a8:c.length=j.length:=by rw[a4,s]
  have a9:Ats X.K M B (j.map E) c:=by
   have go:∀(j:r_ D) (c:r_ V),c.length=j.length->(∀(i:Nat) (k:V),c[i]?=P3 k->∃x,j[i]?=P3 x/\At X.K M B (E x) k)->Ats X.K M B (j.map E) c:=by
    intro j
    induction j with
    |nil=>intro c h _;exact k6.mp h
    | cons x j ih=>
     intro c h hh;cases c with
     |nil=>cases h
     | cons k c=>
      let#[Y,e3,h3]:=hh 0 k rfl;cases(show P3 x=P3 Y from e3)
      exact#[k,c,rfl,h3,ih c (by simpa using h) λi k' e4=>by
       let#[y,e5,h5]:=hh (i+1) k' (by simpa using e4);exact#[y,by simpa using e5,h5]]
   exact go j c a8 I
  have b0:Keyed B5^j.map E:=by
   refine#[λy hy=>?_,λy hy z hz ka kb ea eb=>?_]
   .let#[x,hx,rfl]:=TM.mp hy
    exact hK.1 x hx
   .let#[x,hx,rfl]:=TM.mp hy
    let#[Y,J,rfl]:=TM.mp hz;exact hK.2 x hx Y J ka kb ea eb
  refine#[F_ (λd k v _=>GB) a9 b0 (by rw[hl,Ev]) λi x e=>?_,λix l ho hn=>?_]
  .rw[UF]at e
   let#[Y,J,rfl]:=gY.mp e;exact hk i Y J
  .let#[o1,o2]:=Ov (kf:=λx=>B5^E x) hl (λi x e=>by let#[k,a,b,_]:=hk i x e;exact#[k,a,b]) ho
   have g:Grow B (AY B l^.lst^ix.map λi=>us.getD i .non):=AU hn;refine q _ _ (.lst^ix.map λi=>j.getD i .non) Z ((e1.trans ex).trans g.ext) (u.grow g) (VR.back (e1.trans ex) ?_)^w _ o1 o2;exact BL hn^(L.pres^N.pres ex).pick ix
def XW:Key->D
 |.inl i=>.int i
 |.inr x=>.str x
def Dk:Key->Prop
 |.inl _=>True
 |.inr x=>x.length<=sizeLine
def UI{K:Frag}{M:Ch->Prop}{H:Hp}{k:Key}(h:Dk k):At K M H (XW k)^kOf k:=by
 cases k with
 |inl i=>exact rfl
 |inr x=>exact#[rfl,h]
end
end Dp
namespace L2
section
open PySem.MeetsSeq
open PySem.AutoSeq1 (wpAny_loadPart')
def Ro(l:Ch)(items:Array Db)(n:Nat)(x:Db)(e:Db->Bool)(j:Nat)(hj:j<items.size)(hit:e items[j]=p_)(hs1:items.size<=sizeLine)(prog:gC)(w:gJ)(A:gX)(R:Result->No->Prop)(hp:gA)(g:Array GenState)(d:Drawn)(tk:Nat)(os:_)
  (hl:hp.get? l=P3 {cls:=.type "list",dict:=o_,data:=.seq items n,slots:=#[]}) (he:∀y,y∈items->PySem.SeqAt.EqAt A.in1 #[hp,g,d,tk,os] y x^e y) (h:R (.ok^.ret .none) #[hp.update l^g9 λxs=>xs.eraseIdxIfInBounds j,g,d,tk,os]):
  ∀k i:Nat,j - i=k->i<=j->(∀m (hm:m<items.size),i<=m->m<j->e items[m]=q_)->
   wpAny (model prog w) A.in1 (iq.«list.remove.loop» #[[.ref l,x,rawInt i],[]]) (λfin s'=>match fin with|.done f=>R (.ok f) s'|.again c'=>c'.quiet=p_/\codeAny (model prog w) A c' R s') (λe s'=>R (.error e) s') #[hp,g,d,tk,os]:=by
 intro k
 induction k with
 |zero=>
  intro i hk hij hno;have hij':i=j:=by lk
  subst hij'
  wp_walk using h9 hl
  have hi:items[((i:Nat):Int).toNat]?=P3 items[i]:=by simp[hj]
  rw[hi];refine Cn^he _ (Array.getElem_mem hj) prog w _ _ ?_;rw[hit];have hz':(items.eraseIdxIfInBounds i).size<=sizeLine+1:=gN (size_erased items _)^Nat.le_succ_of_le hs1
  wp_walk using (j9 hl rfl (hz:=hs1) (_hz':=hz')),h9 hl
  simpa using h
 | succ k ih=>
  intro i hk hij hno;have hlt:i<items.size:=by lk
  wp_walk using h9 hl
  have hi:items[((i:Nat):Int).toNat]?=P3 items[i]:=by simp[hlt]
  have hc:((i:Int)+1)=((i+1:Nat):Int):=by push_cast;rfl
  rw[hi];refine Cn^he _ (Array.getElem_mem hlt) prog w _ _ ?_;rw[hno i hlt (Rs _)^by lk]
  wp_walk
  rw[hc]
  exact#[i8 plain_remove_loop _,ij entry_remove_loop (by
   rw[jD plain_remove_loop _];exact ih (i+1) (by lk) (by lk) λm hm h1 h2=>hno m hm (by lk) h2)]
def Rp{prog:gC}{w:gJ}{A:gX}{E:Db->No->Prop}{s:No}{Q:Db->No->Prop}(l:Ch)(items:Array Db)(n:Nat)(x:Db)(e:Db->Bool)(j:Nat)(hj:j<items.size)(hit:e items[j]=p_)(hno:∀m (hm:m<items.size),m<j->e items[m]=q_)
  (hs1:items.size<=sizeLine) (hl:s.heap.get? l=P3 {cls:=.type "list",dict:=o_,data:=.seq items n,slots:=#[]}) (he:∀y,y∈items->PySem.SeqAt.EqAt A.in1 s y x^e y)
  (h:Q .none {s with heap:=s.heap.update l^g9 λxs=>xs.eraseIdxIfInBounds j}):wpAny (model prog w) A (call (.builtin "list.remove") [.ref l,x]) Q E s:=by
 have key:wpAny (model prog w) A.in1 (iq.«list.remove» #[[.ref l,x],[]]) (λfin s'=>match fin with|.done f=>wants Q E (.ok f) s'|.again c'=>c'.quiet=p_/\codeAny (model prog w) A c' (wants Q E) s') (λe s'=>wants Q E (.error e) s') s:=by
  let#[hp,g,d,tk,os]:=s
  wp_walk using h9 hl
  exact#[i8 plain_remove_loop _,ij entry_remove_loop (Ro l _ n x e j hj hit hs1 _ w A _ hp g d tk os hl he h _ 0 rfl (gK _) (λm hm _ h2=>hno m hm h2))]
 exact jR^jh PySem.F.slot_list_remove.plain PySem.F.entry_list_remove^PySem.F.slot_list_remove.check _ _ _ _ _ _ _ _ #[_,hl,rfl] (PySem.F.args_list_remove_2 _ _) key
end
section
variable {X:Cx}
def Oa:V->r_ V->Hp->VK->Prop:=λx f H Q=>∃(l:Ch) (b:r_ V) (y:V) (a:r_ je) (d:je) (j:Nat),x=.ref l/\f=[y]/\H l=P3^.lst b/\RVs H a b/\RV H d y/\iy a=p_/\d.canLay0=p_/\d.depth<=100 /\
 (∃c,a[j]?=P3 c/\ir c d=p_)/\(∀m e,m<j->a[m]?=P3 e->ir e d=q_)/\Q .non^AY H l^.lst^b.eraseIdx j
def Jk{k:Nat}(L:Room k X.A):Um X "list.remove" Oa:=by
 intro Y s Z H x vs v us Q I M N h;let#[l,O,y,c,d,j,rfl,rfl,D,o,P,E,R,dd,#[S,F,p],t,q]:=h;cases M;let#[u,rfl,T]:=N.one;let#[z,a,n,r,hl,e]:=I.lstM D;let#[U,G]:=RVs.reads I o r;let#[bs,V]:=RV.reads I P T;have J:=PySem.SeqAt.readsAll_map c a U E G;have b:c.length=a.length:=by rw[←J,Ev]
 have hu:=L.un;have K:min (iQ c) d.depth<=d.depth:=kN _ _
 have f:∀m w,c[m]?=P3 w->∀(h:m<a.toArray.size),PySem.SeqAt.readOf s.heap a.toArray[m]=w:=λm w e h=>by
  rw[←J,UF]at e;have W:m<a.length:=by simpa using h
  rw[Go W]at e;have e:=XV e
  simpa using e
 have B:j<a.length:=by rw[←b];exact(Uf.mp F).1
 refine Rp l a.toArray n u (λy=>ir (PySem.SeqAt.readOf s.heap y) d) j (by rw[f8];exact B) (by rw[f j S F];exact p) (λm g C=>?_) (by rw[f8];lk) e (PySem.SeqAt.items_eqAt (vs:=a.toArray) (by rw[List.toList_toArray];exact G) V E R^by lk) ?_
 .have i:m<c.length:=by rw[b];simpa using g
  rw[f m c[m] (Go i) g];exact t m c[m] C (Go i)
 .refine#[.non,_,I.lset (t':=s.toks) (its':=a.eraseIdx j) D e ?_ (r.eraseIdx j) ?_,rfl,q]
  .show a.toArray.eraseIdxIfInBounds j=(a.eraseIdx j).toArray
   rw[List.eraseIdxIfInBounds_toArray]
  .have:=Jo O j
   omega
end
end L2
namespace Dp
open L2
def eN(d:D)(b:r_ D)(P:D->D->Prop):Prop:=∃(a:r_ D) (y:D) (j:Nat),d=.lst a/\b=[y]/\Bv^.lst a/\Bv y/\(∃x,a[j]?=P3 x/\Dy x y=p_)/\(∀m x,m<j->a[m]?=P3 x->Dy x y=q_)/\P (.lst^a.eraseIdx j) .non
def XZ{K:Frag}:OH K Oa eN:=by
 intro M H a d G I P Q m t n w q;let#[b,y,j,rfl,rfl,#[o,s,_],#[v,z,A],#[x,B,c],f,w]:=w;let#[h,i,k]:=t;let#[u,r,rfl,C,D]:=n;cases(show r=[]from D)
 have g:∀(m:Nat) (p:je),(BO b)[m]?=P3 p->∃x,b[m]?=P3 x/\p=toPy x:=λm p e=>by
  rw[B0,UF]at e;let#[x,l,rfl]:=gY.mp e
  grind
 refine#[a,h,u,BO b,toPy y,j,rfl,rfl,i,k.rv o,C.rv v,s,z,A,#[toPy x,by rw[B0,UF,B];rfl,c],λm p E e=>?_,q _ (.lst^b.eraseIdx j) .non _ #[h.eraseIdx j,AH,?_] rfl w]
 .let#[F,l,rfl]:=g m p e
  exact f m F E l
 .exact(k.eraseIdx j).pres^B7 m i
def RF(c:FJ)(i:AX):AX:=λd n a=>∃W:Nat->Sg->r_ Slot->Prop,(∃m,W m n a)/\∀m n a,W m n a->
 c n a λb e=>if b=p_ then ∃N:Sg->r_ Slot->Prop,(∀f g,N f g->∃h,h<m/\W h f g)/\i {d with nx:=N,ct:=N,bk:=d.nx} e a else d.nx e a
section
variable {X:Cx}{κ:Kd}{c:Expr}{body:r_ Stmt}{wc:FJ}{wb:AX}{pos:Pos}
def MY(I:nG (model X.prog X.w) X.A X.env X.xe)(J:DT X c wc)(O:Mz X κ body wb):DS X κ (.While c body [] pos)^RF wc wb:=by
 let#[tc,P,Q]:=J;let#[tb,S,T]:=O;refine#[_,SK I P S,λC M H n U σ y E R L w=>?_];let#[W,#[V,Y],g]:=w;exists λm h t=>∃i j a,Rel X.K C i t j a h/\W m j a,#[V,M,n,U,R,Y];rintro m h t ⟨i,j,a,z,Z⟩;refine Q C i t j a h _ _ z (g m j a Z) λb B D e f p=>?_;have R2:=z.step e f;cases b with
 | true=>
  rw[if_pos rfl]at p ⊢;let#[N,hN,p]:=p;exists λF G=>∃u k l,Rel X.K C u G k l F/\N k l,λF G #[u,k,l,R3,w3]=>?_
  .let#[m',hm,d]:=hN k l w3
   exact#[m',hm,u,k,l,R3,d]
  .exact T C i B D a h {y with nx:=N,ct:=N,bk:=y.nx} _ R2 #[λo v q r x s d=>#[o,q,r,s,d],L.rt,λo v q r x s d=>L.nx o v q r x s d,λo v q r x s d=>#[o,q,r,s,d]] p
 |false=>
  rw[if_neg^by cbv]at p ⊢;exact L.nx i B D a h R2 p
def JR{f:E2}{n:Sg}{a:r_ Slot}(I:Nat->Sg->r_ Slot->Prop)(i:Nat)(j:I i n a)
  (k:∀m n a (N:Sg->r_ Slot->Prop),I m n a->(∀c e g,c<m->I c e g->N e g)->wc n a λb d=>if b=p_ then wb {f with nx:=N,ct:=N,bk:=f.nx} d a else f.nx d a)
  (mono:∀n a (P Q:Bool->Sg->Prop),(∀b d,P b d->Q b d)->wc n a P->wc n a Q):RF wc wb f n a:=by
 refine#[I,#[i,j],λm n a h=>?_];refine mono n a _ _ (λb d p=>?_)^k m n a (λe g=>∃c,c<m/\I c e _) h λc e g l o=>#[c,l,o];cases b with
 |true=>exact#[_,λ_ _ z=>z,p]
 |false=>exact p
end
end Dp
namespace Nt
open L2 Dp
def aS(s t:Ak):Decidable (s=t):=
 if h:s.a=t.a/\s.b=t.b/\s.len=t.len then .isTrue (by let#[a,b,l]:=s;let#[g,i,j]:=t;let#[c,d,f]:=h;simp only at c d f;subst c d f;rfl)else .isFalse λe=>h^by rw[e];exact#[rfl,rfl,rfl]
instance:DecidableEq Ak:=aS
abbrev EF(a:D->Sg->Prop):E2:={nx:=λn _=>Kd.fr=.sh/\a .non n,rt:=a}
def Rl(t:Ak):r_ Key:=[.inl t.len,.inr t.a,.inr t.b]
def IX(a:r_ Ak):Prop:=a.Pairwise λs t=>BJ (Rl t)^Rl s=q_
def Wl:D->D
 |.tup [x,y,z]=>.tup [z,x,y]
 |d=>d
def d_(x:Str×Int):D:=.tup [.str x.1,.int x.2]
abbrev cY:W2:=λa n P=>∃x y z:D,a=[.sh^.tup [x,y,z]]/\P (.tup [z,x,y]) n
def Zn:W2:=λc n P=>∃(d:D) (b:r_ Ak),c=[.sh d]/\KS d=P3^b.map Ai/\b.length<64/\∀a:r_ Ak,a.Perm b->IX a->P (.lst^a.map Ai) n
theorem FR{g:Type}{R:g->g->Prop}(c:∀a b,R a b->R b a->a=b):∀{d f:r_ g},d.Perm f->d.Pairwise R->f.Pairwise R->d=f
 |[],f,p,_,_=>(List.nil_perm.mp p).symm
 |a::d,[],p,_,_=>absurd (List.perm_nil.mp p)^iW _ _
 | a::d,b::f,p,i,j=>by
  have e:a=b:=by
   rcases Tk.mp^p.mem_iff.mp Op with e|h
   .exact e
   .rcases Tk.mp^p.mem_iff.mpr^Op with e|k
    .exact e.symm
    .exact c a b ((g0.mp i).1 b k)^(g0.mp j).1 a h
  subst e;rw[FR c ((List.perm_cons a).mp p) (g0.mp i).2 (g0.mp j).2]
def Wf{b:Type}{f:b->D}{g:D->b}(e:∀x,g^f x=x){c:r_ D}{d:r_ b}(h:c.Perm^d.map f):∃a:r_ b,a.Perm d/\c=a.map f:=by
 exists c.map g,?_
 .have:=h.map g
  rw[h7,show g∘f=id from funext e,kX]at this;exact this
 .rw[h7]
  have:∀x∈c,(f∘g) x=x:=λx i=>by
   let#[t,_,rfl]:=TM.mp^h.mem_iff.mp i
   grind
  rw[iN this,List.map_id']
def Vt:D->Ak
 |.tup [.str a,.str b,.int l]=>#[a,b,l]
 |_=>#["","",0]
section
def Sh{a:r_ Ak}(h:Gm (λx=>B5^Wl x)^a.map Ai):IX a:=by
 unfold Gm at h;rw[kE]at h;exact h.imp λ{s t} z=>z _ _ rfl rfl
def Nf{N:Net}(ok:N.Ok){x:Str}{p:Str×Int}(h:p∈DJ N.ts x):p.1∈N.ps/\1<=p.2/\p.2<=1000000/\∃t∈N.ts,t.len=p.2/\((t.a=x/\t.b=p.1)\/(t.b=x/\t.a=p.1)):=by
 let#[t,c,h]:=jp.mp h;let#[g,i,j,d,f]:=ok.tin t c
 rcases gM.mp h with h|h
 .split at h
  .rename_i e
   rw[Re.mp h];exact#[i,d,f,t,c,rfl,.inl #[e,rfl]]
  .cases h
 .split at h
  .rename_i e
   rw[Re.mp h];exact#[g,d,f,t,c,rfl,.inr #[e,rfl]]
  .cases h
def PM(s t:Ak):Dy (Ai s)^Ai t=p_↔s=t:=by
 let#[a,b,l]:=s;let#[c,d,e]:=t;show(a==c&&(b==d&&(l==e&&p_)))=p_↔_
 simp_all
def ES{a:r_ D}(h:∀d∈a,item d):Bv^.lst a:=by
 have c:=dps_le.mpr λd b=>(h d b).2.2;exact F8 (by cbv) (fines_iff.mpr λd b=>(h d b).1)^by show LZ a+1<=100;lk
theorem Ju{a b:Type}(f:a->b):∀(l:r_ a) (i:Nat),(l.map f).eraseIdx i=(l.eraseIdx i).map f
 |[],i=>rfl
 |x::l,0=>rfl
 |x::l,i+1=>by
  show f x::(l.map f).eraseIdx i=f x::(l.eraseIdx i).map f;rw[Ju f l i]
def Vn{N:Net}(ok:N.Ok){x o:Str}{s t:Ak}(j:s∈N.ts)(k:t∈N.ts)(e:BF s t)(h1:(s.a=x/\s.b=o)\/(s.b=x/\s.a=o))(l:(t.a=x/\t.b=o)\/(t.b=x/\t.a=o)):False:=by
 have i:=(ok.tin s j).2.2.1;have lt:=(ok.tin t k).2.2.1;have c:∀a,¬cs a<cs a:=λa=>jn _
 rcases h1 with⟨d,f⟩|⟨d,f⟩ <;>rcases l with⟨g,h⟩|⟨g,h⟩ <;>rw[d,f]at i <;>rw[g,h]at lt
 .rcases e with e|⟨_,e⟩
  .rw[d,g]at e;exact c _ e
  grind
 .grind
 .exact c _^kU i lt
 .rcases e with e|⟨_,e⟩
  .rw[f,h]at e;exact c _ e
  grind
def QX{N:Net}(ok:N.Ok)(x:Str):((DJ N.ts x).map (·.1)).Nodup:=by
 have go:∀c:r_ Ak,(∀t∈c,t∈N.ts)->c.Pairwise BF->((DJ c x).map (·.1)).Nodup:=by
  intro c
  induction c with
  |nil=>intro _ _;exact h8
  | cons t c m=>
   intro d l;have k:=m (λs i=>d s^T0 _ i) (g0.mp l).2;have lt:=(ok.tin t^d t Op).2.2.1
   have f:∀y,((t.a=x/\t.b=y)\/(t.b=x/\t.a=y))->y∉(DJ c x).map (·.1):=λy n o=>by
    let#[s,i,h]:=K3 o;exact Vn ok (d t Op) (d s^T0 _ i) ((g0.mp l).1 s i) n h
   have e:DJ (t::c) x=((if t.a=x then [(t.b,t.len)]else [])++(if t.b=x then [(t.a,t.len)]else []))++DJ c x:=by
    unfold DJ;rw[jG]
   rw[e]
   by_cases j:t.a=x
   .have g:¬t.b=x:=λz=>by rw[j,z]at lt;exact jn _ lt
    rw[if_pos j,if_neg g,gZ,lR,gQ,gP];exact#[f _^.inl #[j,rfl],k]
   .rw[if_neg j,gj]
    by_cases g:t.b=x
    .rw[if_pos g,lR,gQ,gP]
     exact#[f _^.inr #[g,rfl],k]
    .rw[if_neg g,gj]
     exact k
 exact go N.ts (λ_ h=>h) ok.trise
end
def Gp(t:Ak):r_ Key:=[.inr t.a,.inr t.b,.inl t.len]
def J7(a:r_ Ak):Prop:=a.Pairwise λs t=>BJ (Gp t)^Gp s=q_
def JH(s:Ak):¬BF s s:=by
 rintro(h|⟨_,h⟩) <;>exact A5 _ h
def Ux{s t:Ak}(h:BF s t):BJ (Gp s)^Gp t=p_:=by
 show(if i5 _=.inr _ then(if i5 _=.inr _ then(if lP _=.inl _ then q_ else decide _)else decide (cs _<cs _))else decide (cs _<cs _))=p_
 rcases h with h|⟨h,c⟩
 .rw[if_neg λe=>A5 s.a^by simp_all,decide_eq_true h]
 .rw[if_pos (by rw[h]),if_neg λe=>A5 s.b^by grind,decide_eq_true c]
def Cf{a:r_ Ak}(h:a.Pairwise BF):a.Nodup:=h.imp λ{s t} h e=>by rw[e]at h;exact JH _ h
def sub_len{l m:r_ Ak}(a:l.Nodup)(b:m.Nodup)(h:∀t∈l,t∈m):l.length<=m.length:=by
 have:l.Perm (m.filter λt=>decide (t∈l)):=(mW a^b.filter _).mpr λt=>by
  simp_all
 rw[this.length_eq];exact iP _ _
def YH{N:Net}(ok:N.Ok){a:r_ Ak}(h:∀t∈a,t∈N.ts)(b:a.Pairwise BF):Net.Ok #[N.ps,a]:=#[ok.names,ok.rise,λt c=>ok.tin t^h t c,b]
end Nt
namespace L2
open PySem.W
end L2
namespace Dp
open L2
end Dp
namespace Nt
open L2 Dp
def look(a:r_ Ak)(x y:Str):s_ Int:=((DJ a x).find? λz=>decide (z.1=y)).map (·.2)
def K6(a:r_ Ak):Str->r_ Str->Int->s_ Int
 |_,[],s=>P3 s
 |x,y::r,s=>match look a x y with
  |some l=>K6 a y r (s+l)
  |none=>o_
def Ef:s_ Int->D
 |some i=>.int i
 |none=>.non
def ED:D->Bool
 |.str _=>p_
 |_=>q_
def Y1(N:Net):r_ Str->D
 |x::r=>if x∈N.ps then Ef^K6 N.ts x r 0 else .non
 |[]=>.non
def bV(N:Net):D->D
 |.tup a=>if a.all ED then Y1 N^strsOf a else .non
 |_=>.non
def bo(d:D):Prop:=Gv (10 ^ 40) d/\OT d<=160000/\PU d<=50
abbrev eg:W2:=λa n P=>∃(N:Net) (d:D),a=[.sh^Bx N,.sh d]/\N.Ok/\N.ps.length<=26/\N.ts.length<=60/\bo d/\P (bV N d) n
theorem Ls:∀{b:r_ D},b.all ED=p_->∃a:r_ Str,b=a.map .str
 |[],_=>#[[],rfl]
 |d::r,h=>by
  rw[List.all_cons,gS]at h;let#[a,e]:=Ls h.2;cases d with
  |str x=>exact#[x::a,by grind]
  |_=>cases h.1
def all_strs(a:r_ Str):(a.map D.str).all ED=p_:=by rw[List.all_map];exact kM.mpr λ_ _=>rfl
theorem KL{g:Str->D}{x:Str}:∀{a:r_ Str},BP (a.map .inr) (a.map g)^.inr x=if x∈a then P3^g x else o_
 |[]=>rfl
 |p::a=>by
  show(if i5 p=.inr x then P3 _ else BP _ _ _)=_;rw[KL]
  grind
theorem KO{y:Str}:∀{a:r_ (Str×Int)},BP (a.map λx=>.inr x.1) (a.map λx=>.int x.2)^.inr y=((a.find? λz=>decide (z.1=y)).map (·.2)).map .int
 |[]=>rfl
 |p::b=>by
  show(if i5 _=.inr y then P3 _ else BP _ _ _)=_;rw[KO]
  by_cases e:p.1=y
  .simp_all
  simp_all
def S5{N:Net}(ok:N.Ok){x y:Str}{l:Int}(h:look N.ts x y=P3 l):y∈N.ps/\1<=l/\l<=1000000:=by
 unfold look at h;cases c:(DJ N.ts x).find? λz=>decide (z.1=y)with
 |none=>grind
 |some z=>
  have d:=List.find?_some c;let#[t,b,a]:=jp.mp^mo c;let#[e,f,_,g,i]:=ok.tin t b
  rcases gM.mp a with a|a
  .simp_all
  simp_all
section
variable {n:Sg}
theorem MI{N:Net}(ok:N.Ok){d:E2}{e f:Slot}:∀(r:r_ Str) (x:Str) (s:Int) (a b:Slot),x∈N.ps->(match K6 N.ts x r s with|some l=>∀a b,d.nx n [e,f,.sh^D6 N,.sh^.int l,a,b]|none=>d.rt .non n)->
  B_ (Q0 2^Dt (Bz 4)^Dt (Bz 5) Ml) (BR (DY (A9^BI (Vi p_) (AS 5)^BI DU (AS 2)^AS 4) (DX^wC D.non) CT)^Wd 3^BI DU (BI DU (AS 2)^AS 4)^AS 5) d (Gn ((x::r).map .str)^r.map .str) n [e,f,.sh^D6 N,.sh^.int s,a,b]
 |[],x,s,a,b,g,h=>h a b
 | y::r,x,s,a,b,g,h=>by
  have i:BP (N.ps.map .inr) (N.ps.map^Uj N.ts)^.inr x=P3^Uj N.ts x:=by rw[KL,if_pos g]
  exists rfl,rfl;exists _,_,.inr x,_,rfl,rfl,i,_,_,.inr y,rfl,rfl;rw[KO];unfold K6 at h;have j:((DJ N.ts x).find? λz=>decide (z.1=y)).map (·.2)=look N.ts x y:=rfl;rw[j];cases c:look N.ts x y with
  |none=>rw[c]at h;exact BX h
  |some l=>
   rw[c]at h;have k:BP ((DJ N.ts x).map λz=>.inr z.1) ((DJ N.ts x).map λz=>.int z.2)^.inr y=P3^.int l:=by rw[KO,j,c];rfl
   refine BB #[s,rfl,_,_,.inr x,_,rfl,rfl,i,_,_,.inr y,_,rfl,rfl,k,l,rfl,?_];exact MI ok r y (s+l) _ _ (S5 ok c).1 h
theorem CA{b:BW}{p:FJ}{q:DW}{P:r_ D->Sg->Prop}(c:D->Bool)(g:D->D)(I:r_ Slot->Prop):∀(j e:r_ D) (n:Sg) (f:r_ Slot),
  (∀d∈j,∀(f:r_ Slot) (n:Sg) (r:D->Sg->r_ Slot->Prop) (s:Sg->r_ Slot->Prop),I f->(∀i,I i->c d=p_->r (g d) n i)->(∀i,I i->c d=q_->s n i)->b d f λk=>p n k λc t=>if c=p_ then q t k λy u=>r y u k else s t k)->I f->P (e++(j.filter c).map g) n->GW b p q P j e n f
 |[],e,n,f,_,_,h=>by rw[nJ,List.map_nil,gZ]at h;exact h
 |d::j,e,n,f,l,m,h=>l d Op f n _ _ m
  (λi a v=>CA c g I j _ n _ (λd o=>l d^T0 _ o) a^by simp_all)
  (λi a v=>CA c g I j _ n _ (λd o=>l d^T0 _ o) a^by grind)
end
def VI{a:r_ Ak}(h:Gm B5^a.map Ai):J7 a:=by
 unfold Gm at h;rw[kE]at h;exact h.imp λ{s t} z=>z _ _ rfl rfl
def ML{N:Net}(ok:N.Ok){a:r_ Ak}(h:∀t∈a,t∈N.ts):Bv^.tup^a.map Ai/\Bv^.lst^a.map Ai:=by
 have c:∀d∈a.map Ai,item d:=λd b=>by
  let#[t,e,rfl]:=TM.mp b;exact H_ ok _^TM.mpr #[t,h t e,rfl]
 have f:LZ^a.map Ai<=1:=dps_le.mpr λd b=>(c d b).2.2;exact#[F8 (B:=1000001) (by cbv) (fines_iff.mpr λd b=>(c d b).1) (by show LZ^a.map Ai+1<=100;lk),ES c]
def O7{N:Net}(ok:N.Ok){t:Ak}(h:t∈N.ts):Bv^Ai t:=by
 have a:=H_ ok _^TM.mpr #[t,h,rfl];exact F8 (B:=1000001) (by cbv) a.1^by have:=a.2.2;lk
def WB{a:r_ Ak}{t:Ak}:((a.map Ai).any λy=>Dy y^Ai t)=decide (t∈a):=by
 rw[gi,jQ,decide_eq_true_eq];constructor
 .rintro⟨d,b,e⟩
  let#[s,c,rfl]:=TM.mp b;rw[←(PM s t).mp e];exact c
 .intro h
  exact#[Ai t,TM.mpr #[t,h,rfl],(PM t t).mpr rfl]
def RT{s t:Ak}(h:Gp s=Gp t):s=t:=by
 let#[a,b,l]:=s;let#[c,d,e]:=t;unfold Gp at h;simp only[List.cons.injEq,Sum.inl.injEq,Sum.inr.injEq,and_true]at h;let#[rfl,rfl,rfl]:=h;rfl
def Et{c d:r_ Ak}(p:c.Perm d)(h1:J7 c)(e:J7 d):c=d:=FR (λa b x y=>RT^Cb _ _ y x) p h1 e
def FF{a:r_ Ak}(h:a.Pairwise BF):J7 a:=h.imp λ{s t} z=>by
 cases e:BJ (Gp t)^Gp s with
 |false=>rfl
 |true=>
  have:=CZ _ _ _ (Ux z) e
  rw[CB]at this;cases this
def WH:W2:=λa n P=>∃l t b x:Int,a=[.sh^.int l,.sh^.tup [.int t,.int b],.sh^.int x]/\1<=b/\b<=1000000/\1<=t/\t<=1000000/\P (.bl (decide (l*b<=x*t))) n
section
def eW{i j:Int}(a:0<=j)(h1:j<=1000000):CMul i j:=.inr #[by lk,by lk]
end
end Nt
namespace L2
open PySem.W
section
variable {prog:Program}{w:World}{A:Around}{E:Value->Shared->Prop}{R:Result->Shared->Prop}{I:Addr}{fp wr:r_ Addr}{n:Nat}{P:Nat->Value->Prop}{St:Nat->Heap->Prop}
def Xl(prog:gC)(w:gJ)(A:gX)(c:CmpOp)(P:Nat->Db->Prop)(d:gA->Prop)(e:Nat->Nat->Bool):Prop:=
 ∀i j a b (s:No) (Q:Db->No->Prop) (E:Db->No->Prop),d s.heap->P i a->P j b->Q (.bool^e i j) s->wpAny (model prog w) A (richCompare c a b) Q E s
def Qa(W:Walks prog w A.in1 I fp wr n P St)(D:Nat->Nat->Bool)(G:gA->Prop)(H:Xl prog w A.in1 .Lt P G D)(S:Ch)(J:S∉fp)(g:∀h u:gA,G h->(∀b o,b∉wr->b≠S->h.get? b=P3 o->u.get? b=P3 o)->G u):
  ∀(k j:Nat) (s:No) (r:Db) (c:Nat),n - (j+1)=k->j+1<=n->St (j+1) s.heap->G s.heap->P (argBest D j) r->
  s.heap.get? S=P3 {cls:=.type "list",dict:=o_,data:=.seq #[ r,r] c,slots:=#[]}->
  (∀v u O,P (argBest D (n - 1)) v->(∀b o,b∉wr->b≠S->s.heap.get? b=P3 o->u.get? b=P3 o)->R (.ok^.ret v) {s with heap:=u,toks:=O})->
  codeAny (model prog w) A (.builtin "min.loop" #[[.ref I,.none,.ref S],[]]) R s:=by
 have K:S∉wr:=λh=>J^W.sub _ h;have i:(toString "min"++toString ".loop":String)="min.loop":=by cbv
 intro k
 induction k with
 |zero=>
  intro j s r c Z hj y L t M Q;have N:j+1=n:=by lk
  refine ij PySem.F.entry_min_loop ?_;rw[jD PySem.F.plain_min_loop _];show wpAny _ A.in1 (seqItems?^.ref S >>=_) _ _ s;refine Cn (iY M rfl ?_);show wpAny _ A.in1 (tryCatch (pyNext^.ref I) _ >>=_) _ _ s;refine Cn^mE^W.done s _ _ (N▸y) λu O a=>?_;have l:=a S _ K M;show wpAny _ A.in1 (updateSeq S (λ_=>#[]) >>=_) _ _ _;refine Cn ?_;refine j9 l rfl (Cn^jS^On ?_);refine Q r _ O (by rw[←N];exact t) λb o d f e=>(eq _ _^gc f).trans^a b o d e
 | succ k V=>
  intro j s r c Z hj y L t M Q;have z:j+1<n:=by lk
  refine ij PySem.F.entry_min_loop ?_;rw[jD PySem.F.plain_min_loop _];show wpAny _ A.in1 (seqItems?^.ref S >>=_) _ _ s;refine Cn (iY M rfl ?_);show wpAny _ A.in1 (tryCatch (pyNext^.ref I) _ >>=_) _ _ s;refine Cn^mE^W.item (j+1) s _ _ z y λv u O X x a=>?_;have l:=a S _ K M;have m:G u:=g _ _ L λb o h1 _ e=>a b o h1 e;show wpAny _ A.in1 (tryCatch (holding [v,v] (richCompare .Lt v r >>=_)) _ >>=_) _ _ _;refine Cn^mE^gw^Cn^H (j+1) (argBest D j) v r _ _ _ m X t ?_;refine Cn^gw^iG ?_;refine Cn^jS^On ?_;cases Y:D (j+1)^argBest D j with
  | true=>
   simp only[if_true];refine Cn ?_;refine j9 l rfl (Cn^jS ?_);rw[i]
   refine On #[i8 PySem.F.plain_min_loop _,V (j+1) _ v _ (by lk) z (W.frame _ _ _ x λb T o e=>?_) (g _ _ m λb o _ h2 e=>(eq _ _^gc h2).trans e) (by simp only[argBest,Y,if_true];exact X) (g8 _ l rfl)
    λU B p C q=>?_]
   .exact(eq _ _ λh:S=b=>J^by rw[h];exact T).trans e
   .exact Q U B p C λb o d f e=>q b o d f^(eq _ _^gc f).trans^a b o d e
  |false=>
   simp only[gs,if_false];refine Cn^jS ?_;rw[i];refine On #[i8 PySem.F.plain_min_loop _,V (j+1) _ r c (by lk) z x m (by simp only[argBest,Y,gs,if_false];exact t) l λU B p C q=>?_];exact Q U B p C λb o d f e=>q b o d f^a b o d e
def Ng(W:Walks prog w A.in1 I fp wr n P St)(x:Nat->Nat->Bool)(j:gA->Prop)(k:Xl prog w A.in1 .Lt P j x)(S:Ch)(d:S∉fp)(a:∀h f:gA,j h->(∀b o,b∉wr->b≠S->h.get? b=P3 o->f.get? b=P3 o)->j f)(G:0<n){s:No}{c:Nat}(y:St 0 s.heap)(z:j s.heap)
  (H:s.heap.get? S=P3 {cls:=.type "list",dict:=o_,data:=.seq #[] c,slots:=#[]})
  (K:∀v f J,P (argBest x (n - 1)) v->(∀b o,b∉wr->b≠S->s.heap.get? b=P3 o->f.get? b=P3 o)->R (.ok^.ret v) {s with heap:=f,toks:=J}):
  codeAny (model prog w) A (.builtin "min.loop" #[[.ref I,.none,.ref S],[]]) R s:=by
 have B:S∉wr:=λh=>d^W.sub _ h;have g:(toString "min"++toString ".loop":String)="min.loop":=by cbv
 refine ij PySem.F.entry_min_loop ?_;refine Cn (iY H rfl ?_);refine Cn^mE^W.item 0 s _ _ G y λv f J L l i=>?_;have m:=i S _ B H;have p:j f:=a _ _ z λb o M _ e=>i b o M e;show wpAny _ A.in1 (updateSeq S (λ_=>#[ v,v]) >>=_) _ _ _;refine Cn ?_;refine j9 m rfl ?_;rw[g];refine On #[i8 PySem.F.plain_min_loop _,Qa W x j k S d a _ 0 _ v _ rfl G (W.frame _ _ _ l λb N o e=>?_) (a _ _ p λb o _ O e=>(eq _ _^gc O).trans e) L (g8 _ m rfl) λQ C q D r=>?_]
 .exact(eq _ _ λh:S=b=>d^by grind).trans e
 .exact K Q C q D λb o t u e=>r b o t u^(eq _ _^gc u).trans^i b o t e
def min_list{s:No}{l:Ch}{a:Array Db}{Q:Db->No->Prop}(u:Nat->Nat->Bool)(G:A.handled=o_)(x:s.heap.IsList l a)(H:0<a.size)
  (m:∀i j r t (p:No) (Q:Db->No->Prop) (E:Db->No->Prop),(∀b o,s.heap.get? b=P3 o->p.heap.get? b=P3 o)->a[i]?=P3 r->a[j]?=P3 t->Q (.bool^u i j) p->wpAny (model prog w) A.in1 (richCompare .Lt r t) Q E p)
  (h:∀v k y,a[argBest u (a.size - 1)]?=P3 v->(∀b o,s.heap.get? b=P3 o->k.get? b=P3 o)->Q v {s with heap:=k,toks:=y}):wpAny (model prog w) A (call (.builtin "min") [.ref l]) Q E s:=by
 have d:(toString "min"++toString ".loop":String)="min.loop":=by cbv
 have f:l<s.heap.objs.size:=by let#[_,e,_]:=x;exact TW e
 refine call_function_tree PySem.F.kind_min PySem.F.plain_min PySem.F.entry_min (PySem.F.args_min1 _) ?_;show wpAny _ A.in1 (mO "min" ["key","default"] 0 #[[],[]] >>=_) _ _ s;refine Cn^mH (show mO "min" ["key","default"] 0 #[[],[]]=pure [o_,o_]from rfl) ?_;refine Cn^On ?_;refine Cn^ia x ?_;refine Cn^iH ?_;rw[d];have W:=Walks.list (prog:=prog) (w:=w) (A:=A.in1) G s.heap.objs.size l (gB f) a;have g:(s.heap.push {cls:=.type "list_iterator",data:=.fields #[ .ref l,.int 0 0]}).objs.size=s.heap.objs.size+1:=gz _ _;refine On #[i8 PySem.F.plain_min_loop _,Ng W u (λk=>∀b o,s.heap.get? b=P3 o->k.get? b=P3 o) (λi j r t p Q E z C D q=>m i j r t p Q E z C D q) (s.heap.push {cls:=.type "list_iterator",data:=.fields #[ .ref l,.int 0 0]}).objs.size (λc=>?_) (λC D z B b o e=>B b o (λc=>?_) ?_^z b o e) H #[#[_,FM _ (Sc _ rfl),rfl,rfl],(x.push _).push _] (λb o e=>FM _^FM _ e) (Sc _ rfl) λv k y J B=>?_]
 .rw[g]at c
  rcases Tk.mp c with e|c
  .exact absurd e^Nat.succ_ne_self _
  .rw[←Re.mp c]at f
   exact absurd f^j7.mpr^hZ _
 .rw[Re.mp c]at e
  exact absurd (TW e)^hU _
 .rw[g]
  exact gB^iO^TW e
 .refine h v k y J λb o e=>B b o (λc=>?_) ?_^FM _^FM _ e
  .rw[Re.mp c]at e
   exact absurd (TW e)^hU _
  .rw[g]
   exact gB^iO^TW e
end
theorem IY(a:r_^r_ Key):∀m:Nat,argBest (λi j=>BJ (a.getD i [])^a.getD j []) m<=m/\∀i,i<=m->BJ (a.getD i [])^a.getD (argBest (λi j=>BJ (a.getD i [])^a.getD j []) m) []=q_
 |0=>#[Rs _,λi b=>by
  have:i=0:=by lk
  subst this;exact CB _]
 | m+1=>by
  let#[f,d]:=IY a m;unfold argBest
  by_cases c:BJ (a.getD (m+1) [])^a.getD (argBest (λi j=>BJ (a.getD i [])^a.getD j []) m) []=p_
  .rw[if_pos c]
   refine#[Rs _,λi b=>?_]
   by_cases e:i=m+1
   .subst e;exact CB _
   .cases z:BJ (a.getD i [])^a.getD (m+1) [] with
    |false=>rfl
    |true=>
     have:=CZ _ _ _ z c
     rw[d i^by lk]at this;cases this
  grind
section
variable {X:Cx}
def Wx(K:Frag):r_ V->Hp->VK->Prop:=λc H Q=>∃(p:Ch) (b:r_ V) (a:r_^r_ Key),c=[.ref p]/\SqL K H p b/\0<b.length/\KeysAt K H b a /\
 ∀j v,b[j]?=P3 v->(∀i,i<b.length->BJ (a.getD i [])^a.getD j []=q_)->Q v H
def Qz{k:Nat}(U:Room k X.A):CallR X (.builtin "min")^Wx X.K:=by
 intro zF s σ H V us Q I r h;let#[p,vs,c,rfl,hq,hn,B,q]:=h;let#[u,rfl,rx]:=vals1 r;cases rx;let#[f,E,pl,hz]:=I.list hq;have W:=E.length;have Y:=B.tups I E λb o e=>e;have hu:=U.un;refine min_list (λi j=>BJ (c.getD i [])^c.getD j []) U.hd pl.isList (by rw[f8];lk) (λi j vi vj s' Q' E' d G J L=>?_) λv h' M N d=>?_
 .have C:i<c.length:=by rw[←B.len,W];have:=(kR.mp G).1;simpa using this
  have l:j<c.length:=by rw[←B.len,W];have:=(kR.mp J).1;simpa using this
  let#[a,#[a1,dd,Z,sl],V,n,m,D,e3,e4,e5]:=Y.at_ i c[i] (Go C);let#[a',#[a0,O,P,R],S,n',g,t,w,y,T]:=Y.at_ j c[j] (Go l);simp only at e3 e4 w y;subst e3 e4 w y;have m:f.toArray[i]?=P3^.ref a:=by rw[←m];simp
  have g:f.toArray[j]?=P3^.ref a':=by rw[←g];simp
  rw[m]at G;rw[g]at J;cases G;cases J;have z:=B.same _ (iE C) _^iE l;have g1:c.getD i []=c[i]:=by rw[gF,Go C];rfl
  have g2:c.getD j []=c[j]:=by rw[gF,Go l];rfl
  simp only[g1,g2]at L;rw[←K4 _ _ z]at L
  exact lE (op:=.Lt) #[_,d _ _ D,rfl] #[_,d _ _ t,rfl] PySem.F.slot_tuple_lt PySem.F.entry_tuple_lt (PySem.F.args_tuple_lt_2 _ _) (Eg a a' V S n n' dd O sl R c[i] c[j] e5 T z)
   #[d _ _ D,d _ _ t,show jx (CD c[i] c[j])≠n8/\Q' (.bool (CD c[i] c[j])) s' from#[(λx=>nomatch x),L]] (by show X.A.units+1<cLine;lk)
 .let#[b1,b2]:=IY c (f.toArray.size - 1)
  rw[f8]at N b1 b2;have l:argBest (λi j=>BJ (c.getD i [])^c.getD j []) (f.length - 1)<vs.length:=by lk
  let#[u,m,ru]:=E.get^Go l;have D:f.toArray[argBest (λi j=>BJ (c.getD i [])^c.getD j []) (f.length - 1)]?=P3 u:=by rw[←m];simp
  rw[D]at N;cases N;exact#[_,H,I.kept (t':=M) d,ru,q _ _ (Go l) λi C=>b2 i^by lk]
end
end L2
namespace Dp
open L2
def bv(d:r_ D)(P:D->Prop):Prop:=∃a,d=[.lst a]/\0<a.length/\Keyed B5 a/\∀x∈a,(∀y∈a,∀b c,B5 x=P3 b->B5 y=P3 c->BJ c b=q_)->P x
def Zk{K:Frag}:Bc K .sh (Wx K) bv:=by
 intro U M H D E P Q p F r w q;let#[e,rfl,G,l,w]:=w;let#[v,rfl,s]:=Bk r;let#[a,t,rfl,_,u,f]:=s;let#[b,x,g]:=ET l.1;have c:=f.length;refine#[a,t,b,rfl,.inl u,by lk,F_ (λd k v _=>GB) f l x g,λj v m z=>?_];have h:j<e.length:=by rw[←c];exact(Uf.mp m).1
 let#[I,n,A]:=f.get^Go h;rw[m]at n;cases n;refine q v H e[j] .refl A (w _ (iE h) λy B J L ex N=>?_);let#[i,o]:=kJ.mp B;have C:i<e.length:=(Uf.mp o).1;let#[O,R,S,_]:=g i y o;let#[T,V,W,_]:=g j e[j] (Go h)
 grind
end Dp
namespace L2
def fB(d:Ch)(o:Obj)(a:r_ (Key×V)):It:=
 #[λi H=>H d=P3^.frz o^.dK a/\i<a.length,λi H x b=>∃T p,x=.ref T/\H T=o_/\a[i]?=P3 p/\b=AY H T^.tup [kV p.1,p.2],λi H=>H d=P3^.frz o^.dK a/\a.length<=i]
def Y_{P:gC}{w:gJ}{k:Key}{u:Db}(h:(Ax P w).is k u=p_):RelV (kV k) u:=by
 rcases A3 h with⟨i,t,rfl,rfl⟩|⟨x,t,rfl,rfl⟩
 .exact#[t,rfl]
 .exact#[t,rfl]
def LD{X:Cx}{k:r_ (Ch×Obj)}{l:L2.St}{H:Hp}{s:No}{d:Ch}{o:Obj}{a:r_ (Key×V)}{c:Array jz}{e:Nat}(I:Inv X k l H s)(h:H d=P3^.frz o^.dK a)(f:o.data=.dict c e):
  ∃b,KV a b/\s.heap.DictAt (Ax X.prog X.w) d b e:=by
 let#[g,_,_,b,m,t,n,p,i,q,j,r]:=(I.hok d _ h);rw[g]at i;cases i;rw[f]at j;cases j;exact#[b,m,o,c,g,q,f,r]
def NB{P:gC}{w:gJ}{K:Frag}{L:r_ gI}{j:Nat}{pos:Pos}(d l:Ch)(o:Obj)(f:r_ (Key×V))(es:Array jz)(Z:Nat)(m:o.data=.dict es Z):
  Turn P w K (.Tuple L j pos) (fB d o f) [l] l (λi h=>∃ok n,IsItemIter h l d i f.length Z ok n) where
 mem:=by simp
 obj:=λi h #[ok,n,b] c a=>by
  rw[Re.mp a];exact#[_,b,λv q=>by cases q]
 keep:=λi h h' #[ok,n,b] k=>#[ok,n,k l (by simp) _ b]
 item:=by
  intro X M N O a i zF s σ H E I C b R;subst M N O;let#[S,hi]:=R;let#[ok,n,b]:=b;let#[F,G,D]:=LD I S m
  have J:=G.length;have T:i<F.length:=by lk
  rw[J]at b;obtain⟨k,v,U⟩:∃k v,F[i]=(k,v):=#[_,_,rfl];have hx:F[i]?=P3 (k,v):=by rw[Go T,U]
  have hp:f[i]?=P3 f[i]:=Go hi;let#[Y,rv]:=Hj G hp hx;have Y:f[i].1=k:=Y;refine wpAny_pyNext_items_item b D hx λp h' r t u a0 x=>#[_,rfl,?_];refine wpAny_letOwnedTupleGo_items t λh2 y g=>?_;have hT:H s.heap.objs.size=o_:=I.hok.fresh^Rs _;have B:s.heap.objs.size≠l:=jU^TW b
  have kk:∀c o,c∉[l]->s.heap.get? c=P3 o->h2.get? c=P3 o:=λc o a e=>by
   have a:c≠l:=λz=>a (by rw[z];exact Re.mpr rfl);exact(g.2 c a).trans^x c o a e
  have I2:Inv X zF σ (AY H s.heap.objs.size^.tup [kV f[i].1,f[i].2]) {s with heap:=h2}:=by
   refine I.turnLaid (t':=s.toks) (ch:=[l]) (λc a=>C c a) kk (Rs _) ?_;exact#[by show 2<=sizeLine;decide,[p,v],.cons (Y_^by rw[Y];exact r)^.cons rv .nil,#[_,(g.2 _ B).trans u,rfl,_,rfl,rfl,rfl]]
  refine#[.ref s.heap.objs.size,_,I2,rfl,#[_,_,rfl,hT,hp,rfl],#[p,v,by rw[J];exact y],λc a=>?_];rw[Re.mp a,AF^gc B];exact(C l^by simp).1
 done:=by
  intro X M N O a i zF s σ H E I C b R;subst M N O;let#[S,hi]:=R;let#[ok,n,b]:=b;let#[F,G,D]:=LD I S m
  have J:=G.length;rw[J]at b;refine wpAny_pyNext_items_end (I.ok.hd a) b D (kL^by lk) λh' ext=>#[rfl,?_];exact I.turnedL (t':=s.toks) (ch:=[l]) (λc a=>C c a) λc o a e=>ext c o (λz=>a^by rw[z];exact Re.mpr rfl) e
 self:=λA i s Q E #[ok,n,b] h=>PySem.W.kcp_self b h
def ZH(to:TE):TI:=λb H R=>to b H λx H1=>∃d o a,x=.ref d/\H1 d=P3^.frz o^.dK a/\∀r,H1 r=o_->R (fB d o a)^AY H1 r^.ext λh=>h.IsItemsView r d
def SS{X:Cx}{e:gI}{y:r_ gI}{j:Nat}{p g i:Pos}{to:TE}(O:PE X e to)(m:attributeBase e "items" X.env^eval e X.env=eval e X.env:=by rfl)(n:(g.endLine==i.line)=p_:=by rfl):
  PI X (.Tuple y j p) (.Call (.Attribute e "items" g) [] [] i) (ZH to):=by
 intro E s G H R I h;refine wpAny_Call_method0_late m n^Aq (O E s G H _ I h) λv a #[x,H1,r,P,d,o,f,ex,t,q]=>?_;subst ex;cases P;let#[J,K,Q]:=ZF r^.inl #[f,.inr #[o,t]];let#[_,_,L,S,D]:=Ge r.hok^.inr #[o,t];refine#["dict","dict.items",PySem.F.plainAttrs_dict,PySem.F.slot_dict_items,PySem.F.type_dict_items,J,K,lD rfl (PySem.evalArgs_none ?_)];refine call_meetsIn PySem.F.slot_dict_items D.typeIs PySem.F.entry_dict_items (PySem.F.args_dict_items_1 _) (meets_dict_items (Ax X.prog X.w) d Q) #[#[L,D],?_];have M:H1 a.heap.objs.size=o_:=r.fresh;have N:(a.heap.push {cls:=.type "dict_items",data:=.fields #[ .ref d]}).IsItemsView a.heap.objs.size d:=#[_,Sc _ rfl,rfl,rfl]
 have u:Inv X E G (AY H1 a.heap.objs.size^.ext λh=>h.IsItemsView a.heap.objs.size d) {a with heap:=a.heap.push {cls:=.type "dict_items",data:=.fields #[ .ref d]}}:=
  r.laid (t':=a.toks) (λb o e=>FM _ e) (Rs _) #[N,#[_,Sc _ rfl],λJ K #[o,e,c] k=>#[o,k o e,c]]
 have z:(AY H1 a.heap.objs.size^.ext λh=>h.IsItemsView a.heap.objs.size d) d=P3^.frz o^.dK f:=by rw[AF^AW t M];exact t
 obtain⟨A,B,l⟩:∃A B,o.data=.dict A B:=by
  let#[e0,_,_,L,S,o',T,U,e1,e2,e3,e4]:=(show ObjOk X.prog X.w H1 a.heap d^.frz o^.dK f from r.hok d _ t)
  grind
 let#[V,C,W]:=LD u z l
 have Y:=C.length;refine wpAny_pyIter_items (s:={a with heap:=a.heap.push {cls:=.type "dict_items",data:=.fields #[ .ref d]}}) N W ?_;refine#[_,[(a.heap.push {cls:=.type "dict_items",data:=.fields #[ .ref d]}).objs.size],_,fB d o f,_,rfl,u.kept (t':=a.toks) λb o e=>FM _ e,NB d _ o f A B l,#[.none,.none,by rw[Y];exact Sc _ rfl],λc Z=>?_,q _ M];rw[Re.mp Z];exact u.fpOk (Rs _) u.fresh
end L2
namespace Dp
open L2
def wItems(c:DW):C7:=λn e P=>c n e λd f=>∃a b,d=.fdi a b/\(∀k∈a,Dk k)/\P (Gn (a.map XW) b) f
def ZA(k:Key):kV k=kOf k:=by cases k <;>rfl
section
variable {X:Cx}{a:Expr}{zV:Kd}{wa:DW}{els:r_ Expr}{j:Nat}{tpos apos cpos:Pos}
def T3(U:DE X a zV wa)(c:attributeBase a "items" X.env^eval a X.env=eval a X.env:=by rfl)(f:(apos.endLine==cpos.line)=p_:=by rfl):DI X (.Tuple els j tpos) (.Call (.Attribute a "items" apos) [] [] cpos)^wItems wa:=by
 let#[t,V,W]:=U;refine#[_,SS V c f,λC M H n Y Z P Rr R w q=>?_];refine W C M H n Y Z _ _ R w λv H1 d n1 G I r1 p=>?_;let#[b,l,rfl,m,p]:=p;have R1:=R.step G I;obtain⟨B,k,rfl,⟨o,nM,J⟩,L,N⟩:∃a k,v=.ref a/\NdF M H1 a b k/\b.length=l.length/\Ats X.K M H1 l k:=r1.tpOf R.dom R.vM;have hl:=N.length;refine#[B,o,_,rfl,J,λr hr=>?_];have g:Grow H1 (AY H1 r^.ext λh=>h.IsItemsView r B):=AU hr;refine q _ _ _ n1 (G.trans g.ext) (I.grow g) (λi O D pr E=>?_) p;have s:Pres M H1 O D:=g.pres.trans pr;have u:D B=P3^.frz o^.dK^b.zip k:=(s.nd nM J).2;have zl:(b.zip k).length=b.length:=by rw[i4];lk
 have zd:(Gn (b.map XW) l).length=b.length:=by unfold Gn;rw[List.length_zipWith,Ev];lk
 refine#[λe A=>?_,λa0=>#[u,by lk]];have F:i<b.length:=by rw[←zd];exact(Uf.mp A).1
 have z:i<l.length:=by lk
 refine#[#[u,by lk],λx H2 y=>?_];let#[T,pp,rfl,Q,S,rfl]:=y;let#[v',e1,h1]:=(N.pres s).get^Go z
 have e2:(b.zip k)[i]?=P3 (b[i],v'):=by
  rw[ke];exact#[Go F,e1]
 rw[e2]at S;cases S
 have e3:e=.tup [XW b[i],l[i]]:=by
  unfold Gn at A;rw[nZ,UF,Go F,Go z]at A;exact(XV A).symm
 subst e3;refine#[AU Q,Cd E Q #[_,_,rfl,?_,_,_,rfl,h1,rfl]];show At X.K O D (XW b[i]) (kV b[i]);rw[ZA];exact UI^m _^iE F
end
section
variable {K:Frag}{C:Fm}{M:Addr->Prop}{H:Hp}{n:Sg}{ρ:r_ Slot}{σ:L2.St}
def Rel.hold(R:Rel K C M H n ρ σ){p:Ch}{o:HO}(h:H p=o_)(l:¬Q_ o:=by rintro⟨_,z⟩;cases z):Rel K C (λb=>M b\/b=p) (AY H p o) n ρ σ:=by
 have g:Grow H^AY H p o:=AU h;have j:Pres M H _^AY H p o:=Dn h;refine#[R.len,λa z=>.inl^R.sub a z,λa z=>?_,R.ext.trans g.ext,R.fU,R.uV,λa z=>.inl^R.vM a z,(R.feed.grow g).more p (λf m q=>?_) λu z=>l #[u,by rw[AH]at z;exact XV z],λi s q=>(R.sl i s q).pres j (λ_ z=>.inl z) g.ext R.uV,λq c=>(R.pin q c).trans j,R.br0,R.new,R.two,λq c=>?_]
 .rcases z with z|z
  .let#[u,d]:=R.dom a z
   exact#[u,g.all a u d]
  .rw[z];exact#[o,AH]
 .let#[_,_,_,_,_,e,_]:=R.feed.1 f m
  have:=e.2
  grind
 .let#[d,k,e,r]:=R.kept q c
  exact#[g.all _ _ d,#[.inl k.1,k.2],e,r]
end
def IE(a:r_ Key)(k:Key):Bool:=a.any λb=>decide (b=k)
def hasK_iff{a:r_ Key}{k:Key}:IE a k=p_↔k∈a:=by
 unfold IE
 simp_all
def CW(a:r_ Key)(k:Key):r_ Key:=if IE a k=p_ then a else a++[k]
def CV{a:Type}(b:r_ Key)(c:r_ a)(k:Key)(d:a):r_ a:=if IE b k=p_ then i6 (λe f=>if e=k then d else f) b c else c++[d]
def WA{c:r_ Key}{d:r_ V}(j:c.length=d.length)(k:Key):((c.zip d).any λf=>decide (f.1=k))=IE c k:=by
 rw[gi,jQ,hasK_iff];constructor
 .rintro⟨⟨a,b⟩,g,e⟩
  have e:=of_decide_eq_true e;rw[←e];exact(kY g).1
 .intro h
  let#[i,l,e]:=kQ.mp h;exact#[(c[i],d[i]'(by lk)),kQ.mpr #[i,by grind,by grind],by grind]
def SF{c:r_ Key}{d:r_ V}(f:c.length=d.length)(k:Key)(v:V):putK (c.zip d) k v=(CW c k).zip^CV c d k v:=by
 unfold putK CW CV;rw[WA f]
 by_cases h:IE c k=p_
 .have go:∀(c:r_ _) (d:r_ V),((c.zip d).map λe=>if e.1=k then(e.1,v)else e)=c.zip^i6 (λg i=>if g=k then v else i) c d:=by
   intro c
   induction c with
   |nil=>intro d;rfl
   | cons a c j=>
    intro d;cases d with
    |nil=>rfl
    |cons b d=>
     show(if a=k then(a,v)else(a,b))::_=(a,if a=k then v else b)::_;exact List.cons_eq_cons.mpr #[by split <;>rfl,j d]
  simp_all
 .rw[if_neg h,if_neg h,if_neg h,List.zip_append f]
  rfl
theorem Ats.put{K:Frag}{M:Ch->Prop}{H:Hp}{k:Key}{d:D}{v:V}(j:At K M H d v):∀{c:r_ Key}{f:r_ D}{b:r_ V},Ats K M H f b->Ats K M H (i6 (λg i=>if g=k then d else i) c f)^i6 (λg i=>if g=k then v else i) c b
 |[],f,b,h=>rfl
 |a::c,[],b,h=>by cases(h);rfl
 |a::c,e::f,b,h=>by
  let#[u,r,rfl,m,l]:=h;refine#[_,_,rfl,?_,Ats.put j l]
  grind
def Ats.putX{K:Frag}{M:Ch->Prop}{H:Hp}{k:Key}{d:D}{v:V}{a:r_ Key}{b:r_ D}{c:r_ V}(e:At K M H d v)(h:Ats K M H b c):Ats K M H (CV a b k d)^CV a c k v:=by
 unfold CV
 split
 .exact Ats.put e h
 .exact h.append^Ats.one e
def Of{b:Type}{a:r_ Key}{c:r_ b}{k:Key}{d:b}(e:a.length=c.length):(CW a k).length=(CV a c k d).length:=by
 unfold CW CV
 grind
theorem JX:∀{b:r_ Key}{ds:r_ D}{k:Key},k∉b->BP b ds k=o_
 |[],ds,k,_=>by rfl
 |a::b,[],k,_=>rfl
 |a::b,d::ds,k,h=>by
  unfold BP;rw[if_neg λe=>h^by grind];exact JX λz=>h^T0 _ z
theorem JW:∀{b:r_ Key}{c:r_ D}{k:Key},b.length=c.length->k∈b->∃z,BP b c k=P3 z
 |[],c,k,_,h=>by cases h
 |a::b,[],k,h,_=>by cases h
 | a::b,d::c,k,f,h=>by
  unfold BP
  by_cases e:a=k
  .simp_all
  .rw[if_neg e]
   exact JW (by simp_all)^(Tk.mp h).resolve_left λz=>e z.symm
def RL{b:r_ Key}{c:r_ D}{k:Key}{d:D}(g:b.length=c.length)(j:Key):BP (CW b k) (CV b c k d) j=if j=k then P3 d else BP b c j:=by
 unfold CW CV
 by_cases i:IE b k=p_
 .have h:=hasK_iff.mp i
  rw[if_pos i,if_pos i]
  have go:∀(b:r_ Key) (c:r_ D),b.length=c.length->(j=k->k∈b)->BP b (i6 (λo p=>if o=k then d else p) b c) j=if j=k then P3 d else BP b c j:=by
   intro b
   induction b with
   |nil=>
    intro c _ l
    by_cases e:j=k
    .exact absurd (l e) gO
    .rw[if_neg e];cases c <;>rfl
   | cons a b n=>
    intro c g l;cases c with
    |nil=>cases g
    | cons e c=>
     show(if a=j then P3 (if a=k then d else e)else BP b _ j)=if j=k then P3 d else if a=j then P3 e else BP b c j
     by_cases f:a=j
     .rw[if_pos f,if_pos f]
      by_cases m:j=k
      .rw[if_pos m,if_pos^f.trans m]
      .rw[if_neg m,if_neg λz=>m^f.symm.trans z]
     .rw[if_neg f,if_neg f]
      refine n c (by simpa using g) λz=>(Tk.mp^l z).resolve_left λw=>f^w.symm.trans z.symm
  exact go b c g λ_=>h
 .have h:k∉b:=λz=>i^hasK_iff.mpr z
  rw[if_neg i,if_neg i]
  have go:∀(b:r_ Key) (c:r_ D),b.length=c.length->k∉b->BP (b++[k]) (c++[d]) j=if j=k then P3 d else BP b c j:=by
   intro b
   induction b with
   | nil=>
    intro c g _;cases c with
    |nil=>
     show(if k=j then P3 d else o_)=if j=k then P3 d else o_
     by_cases e:j=k
     .rw[if_pos e,if_pos e.symm]
     .rw[if_neg e,if_neg λz=>e z.symm]
    |cons e c=>cases g
   | cons a b n=>
    intro c g l;cases c with
    |nil=>cases g
    |cons e c=>
     show(if a=j then P3 e else BP (b++[k]) (c++[d]) j)=if j=k then P3 d else if a=j then P3 e else BP b c j
     rw[n c (by simpa using g) λz=>l^T0 _ z]
     by_cases f:a=j
     .rw[if_pos f,if_pos f,if_neg λz=>l^by rw[←z,←f];exact Op]
     .rw[if_neg f,if_neg f]
  exact go b c g h
section
variable {X:Cx}{a b e:Expr}{κ zV zS:Kd}{wa wb:DW}{pos pos':Pos}
def Xy(f g:DW):DW:=λn e P=>f n e λk h=>g h e λd i=>∃c,keyOf k=P3 c/\P (.dic [c] [d]) i
def UD(O:DE X a zV wa)(S:DE X b zS wb)(T:zS≠.tp:=by intro z;cases z):DE X (.Dict [P3 a] [b] pos) .fr^Xy wa wb:=by
 let#[t,V,W]:=O;let#[u,Y,Z]:=S;refine#[_,Ot (Hd V Y Oj) rfl rfl (iW _ _) (by show 1<=15;decide),λC M H n G I P Q R w q=>λp i=>?_];have j:=R.hold (o:=.dK []) i
 have r:¬C.U p:=λz=>by
  let#[o,w]:=R.dom p^R.vM p^R.uV p z;rw[i]at w;cases w
 refine W C _ _ n G I _ _ j w λx H2 k n1 s f1 r1 p1=>?_;have R2:=j.step s f1;refine Z C _ _ n1 G I _ _ R2 p1 λy v d n2 A J r2 B=>?_;let#[e,h,B]:=B;have R3:=R2.step A J;have D:At X.K (λb=>M b\/b=p) v d y:=r2.shOf R2.dom T;have g:v p=P3^.dK []:=A.keep (s.keep AH r) r;have hx:x=kV e:=EC h^r1.tpOf j.dom j.vM;refine#[g,[(e,y)],by rw[hx];rfl,by show 1<=15;decide,?_];show Q (.ref p)^AY v p^.dK [(e,y)];refine q _ _ (.dic [e] [d]) n2 (λb o c=>?_) ?_ #[p,rfl,i,[y],AH,rfl,?_] B
 .have l:b≠p:=AW c i
  let#[o1,z1,L,N]:=s b o (by rw[AF l];exact c);let#[o2,z2,k2,t2]:=A b o1 z1;exact#[o2,by rw[AF l];exact z2,λE F=>(k2 E^by rw[L E F];exact F).trans^L E F,λm z=>(t2 m^(N m z).trans z).trans^N m z]
 .refine J.pres #[λb o c l _=>by rw[AF λz=>l^.inr z];exact c,λb z=>.inl^.inl z,λb m c=>by rw[AF λz=>by rw[z,g]at c;cases c];exact c,λb o c=>(jC (b=p)).elim (λz=>by rw[z];exact#[_,AH]) λz=>#[o,by rw[AF z];exact c]] (λf o hf c=>?_) λb u c=>by rw[AF λz=>by rw[z,g]at c;cases c];exact c
  rw[AF λz=>r^by rw[←z];exact R.fU f hf];exact c
 .exact#[y,[],rfl,D.pres^B7 (.inr rfl) g,rfl]
def RJ(i:Nat)(h j:DW):AX:=λl n e=>∃f g,e[i]?=P3^.ow^.dic f g/\j n e λd m=>h m e λk o=>∃c,keyOf k=P3 c/\f.length<sizeLine/\l.nx o^e.set i^.ow^.dic (CW f c)^CV f g c d
def PR{i k:Nat}{x:gI}(P:Room k X.A)(Q:PE X x^BZ i)(S:DE X a zV wa)(T:DE X b zS wb)(U:zS≠.tp:=by intro z;cases z)
  (V:swapsWith b (P3^.Subscript x a pos') pos.line X.env=pure q_:=by rfl):DS X κ (.Assign [.Subscript x a pos'] b pos)^RJ i wa wb:=by
 let#[t,W,Y]:=S;let#[u,Z,g2]:=T;refine#[_,G1 (ID P) Q W Z V,λC M H n F o D2 E R L w=>?_];let#[l,ds,q,w]:=w;refine g2 C M H n F o _ _ R w λv H1 d n1 e1 f1 r1 p=>?_;have f:=R.step e1 f1;let#[G,r,m,nv,tt]:=f.sl i _ q;exists .ref G,getD_some r;refine Y C M H1 n1 F o _ _ f p λy H2 kk n2 I f2 r2 p=>?_;let#[c,g,a0,p]:=p;have R2:=f.step I f2;let#[a1,h,m',a2,s]:=R2.sl i _ q;rw[r]at h;cases h;let#[J,N,O,j]:=s;have B:At X.K M H2 d v:=(r1.shOf R.dom U).pres^f.pres I;have D:l.length=J.length:=by rw[O,j.length]
 refine#[G,_,rfl,by rw[EC g^r2.tpOf f.dom f.vM];exact DPut.k N (by rw[i4];lk),L.nx M _ n2 _ o (R2.mut (e:=.dic (CW l c)^CV l ds c d) q r #[CV l J c v,by rw[AH,SF D],Of O,(j.putX B).pres^B7 m' N]) p]
def X6:D->s_ Bool
 |.lst c=>P3 (!c.isEmpty)
 |.tup c=>P3 (!c.isEmpty)
 |.bl b=>P3 b
 |.non=>P3 q_
 |_=>o_
def aF(wa:DW):FJ:=λn e P=>wa n e λd f=>∃c,X6 d=P3 c/\P c f
def KD{K:Frag}{M:Ch->Prop}{H:Hp}{c:r_ D}{d:r_ V}(h:Ats K M H c d):d.isEmpty=c.isEmpty:=by
 have:=h.length
 cases d <;>cases c <;>first|rfl|cases this
def RR{U M:Ch->Prop}{H:Hp}{K:Frag}{d:D}{x:V}{c:Bool}(h:AtT K U M H d x)(e:X6 d=P3 c):WP K x H c:=by
 cases d with
 |lst j=>cases e;let#[a,f,rfl,_,g,i]:=h;exact .inl #[f,.inl g,by rw[KD i]]
 |tup j=>cases e;let#[a,f,rfl,g,i]:=h;exact .inr^.inl #[f,.inl^.inl g,by rw[KD i]]
 |bl b=>cases e;rw[h.bl];exact rfl
 |non=>cases e;rw[h];exact rfl
 |_=>cases e
def IK(h:DE X e κ wa)(g:∀f,isTrue e X.env f=(do let v ←f;standAt e.pos;holding [v]^truthy v):=by intro _;rfl):DT X e^aF wa:=by
 let#[t,i,j]:=h;refine#[_,SG i g,λC M H n k l P Q R w q=>?_];refine j C M H n k l _ _ R w λv m d o r s u p=>?_;let#[c,x,p]:=p;exact#[c,RR (u.tpOf R.dom R.vM) x,q c m o r s p]
def Vh(c:Bool)(d e:D)(P:D->Prop):Prop:=e=.non/\P^.bl (if c then !TN d else TN d)
def Xb{K:Frag}:C6 K .sh (λx y H Q=>y=.non/\Q (.bl (decide (x=.non))) H)^Vh q_:=λU M H d e x y P Q c h f g w q=>by
 let#[rfl,w]:=w;exact#[g,q _ H _ .refl (by rw[MR f];rfl) w]
def UU{K:Frag}:C6 K .sh (λx y H Q=>y=.non/\Q (.bl (!decide (x=.non))) H)^Vh p_:=λU M H d e x y P Q c h f g w q=>by
 let#[rfl,w]:=w;exact#[g,q _ H _ .refl (by rw[MR f];rfl) w]
end
end Dp
namespace L2
open AutoSeq1 (wpAny_loadPart')
def QU:typeLookup (.type "list_reverseiterator") "__len__"=pure o_:=by kernel_rfl
def TX:typeLookup (.type "list_reverseiterator") "__length_hint__"=pure^P3^.builtin "list_reverseiterator.__length_hint__":=by kernel_rfl
def boot_reversed:bootBuiltins "reversed"=P3^.type "reversed":=by decide +kernel
def cz(a:gC)(w:gJ)(St:Nat->No->Prop)(I:Ch):Prop:=∀(A:gX) (E:Db->No->Prop) (c:No) (Q:Bool->No->Prop),St 0 c->(∀b d,c.toks<=d->Q b {c with toks:=d})->wpAny (model a w) A (mP^.ref I) Q E c
section
variable {prog:Program}{w:World}{A:Around}{E:Value->Shared->Prop}{s:Shared}{I:Addr}{fp wr:r_ Addr}{G:Array GenState->Array GenState->Prop}{n:Nat}{P:Nat->Value->Prop}{St:Nat->Shared->Prop}{c:String}
def N3{Q:r_ Db->No->Prop}(S:(gv c==gv "list")=q_/\(gv c==gv "tuple")=q_)(T:cz prog w St I)
  (W:WalksS prog w A.in1 I fp wr G n P St) (U:∀i s,St i s->s.TypeIs (.ref I) c) (J:St 0 s) (K:∀b∈fp,b<s.heap.objs.size) (V:I∈fp)
  (X:∀g d,Moved wr G s g->ItemsOf P d n->Q d.toList g) (hn:n<=sizeLine):wpAny (model prog w) A (collect^.ref I) Q E s:=by
 have r:s.heap.objs.size∉fp:=λt=>hU _^K _ t;have L:s.heap.objs.size≠I:=λe=>r (e▸V);unfold collect;refine Cn^wpAny_runValue^ij F.entry_proto_collect ?_;rw[jD F.plain_proto_collect _];show wpAny _ A.in1 (newList [] >>=λl=>again^.builtin "list.__iadd__" #[[l,.ref I],[]]) _ _ s;refine Cn^iH ?_;refine On #[i8 F.plain_list_iadd _,ij F.entry_list_iadd ?_];rw[jD F.plain_list_iadd _];have a:=W.frame 0 s (s.heap.push {cls:=.type "list",data:=.seq ([]:r_ Db).toArray}) s.toks J (Rs _) λb _ o e=>FM _ e;have f:(s.heap.push {cls:=.type "list",data:=.seq ([]:r_ Db).toArray}).get? s.heap.objs.size=P3 {cls:=.type "list",data:=.seq ([]:r_ Db).toArray}:=Sc _ rfl;have M:nE (.ref s.heap.objs.size)^.ref I=q_:=by simp[nE,L]
 show wpAny _ A.in1 (jX (.ref s.heap.objs.size) (.ref I)^.ref s.heap.objs.size) _ _ _;unfold jX;refine Cn^ki (U 0 _ a) ?_;rw[if_neg^by rw[M,S.1,S.2];decide];refine Cn^W.self 0 _ _ _ a ?_;refine Cn^gw ?_;refine T _ _ _ _ a λb y u=>?_
 have z:∀(h:gA) (p m:Nat),s.toks<=m->St 0 {s with heap:=h,toks:=m}->h.get? s.heap.objs.size=P3 {cls:=.type "list",data:=.seq #[] p}->(∀b o,b≠s.heap.objs.size->s.heap.get? b=P3 o->h.get? b=P3 o)->
   ∀R:Result->No->Prop,(∀g d c,g.heap.get? s.heap.objs.size=P3 {cls:=.type "list",dict:=o_,data:=.seq d c,slots:=#[]}->Moved wr G s g->ItemsOf P d n->R (.ok^.ret^.ref s.heap.objs.size) g)->
   codeAny (model prog w) A (.builtin "list.extend.loop" #[[.ref s.heap.objs.size,.ref I,.ref s.heap.objs.size],[]]) R {s with heap:=h,toks:=m}:=by
  intro h p m Y N Z hk R hR;refine codeAny_extend_loopS W hn _ r _ n 0 _ _ _ rfl (gK _) N Z (ItemsOf.nil P) λg B c' t O C=>hR g B c' O #[λb o x e=>t.heap b o (λj=>?_)^hk b o (gB^TW e) e,t.gens,t.drawn,t.os,gN Y t.toks] C
  rcases Tk.mp j with e'|j
  .exact absurd (TW e)^by rw[e'];exact hU _
  .exact x j
 have q:∀g d c,g.heap.get? s.heap.objs.size=P3 {cls:=.type "list",dict:=o_,data:=.seq d c,slots:=#[]}->Moved wr G s g->ItemsOf P d n->wpAny (model prog w) A (load s.heap.objs.size >>=λo=>match o.data with
   |.seq xs _=>pure xs.toList
   |_=>unsupported "internal:collect") Q E g:=λg d c M h2 h3=>Cn^wpAny_load M^On^X g d h2 h3
 have D:=W.frame 0 _ (s.heap.push {cls:=.type "list",data:=.seq ([]:r_ Db).toArray}) y a u λb _ o e=>e;refine wpAny_ite_split (λ_=>?_) λ_=>On #[i8 F.plain_extend_loop _,z _ 0 y u D f (λb o _ e=>FM _ e) _ q];refine Cn^kr ?_;refine Cn ?_;show wpAny _ _ (updateSeq s.heap.objs.size (·.push .none) >>=λ_=>updateSeq s.heap.objs.size (·.pop)) _ _ _;refine Cn (j9 f rfl ?_);have k:=g8 (g9 (·.push gW)) f rfl;refine j9 (hz:=by seq_fits) k rfl ?_;have v:=g8 (g9 (·.pop)) k rfl;refine On #[i8 F.plain_extend_loop _,z _ _ y u ?_ v (λb o x e=>?_) _ q]
 .refine W.frame 0 {s with heap:=s.heap.push {cls:=.type "list",data:=.seq ([]:r_ Db).toArray},toks:=y} _ y D (Rs _) λb x o e=>?_
  have H:b≠s.heap.objs.size:=λh=>r (h▸x);exact(eq _ _^gc H).trans^(eq _ _^gc H).trans e
 .exact(eq _ _^gc x).trans^(eq _ _^gc x).trans^FM _ e
def JJ{Q₁:Db->No->Prop}(nc:(gv c==gv "list")=q_/\(gv c==gv "tuple")=q_)(hH:cz prog w St I)(W:WalksS prog w A.in1.in1 I fp wr G n P St)(hT:∀i s,St i s->s.TypeIs (.ref I) c)(hst:St 0 s)(hfp:∀b∈fp,b<s.heap.objs.size)(hI:I∈fp)
  (h:∀s' acc,Moved wr G s s'->ItemsOf P acc n->Q₁ (.ref s'.heap.objs.size) {s' with heap:=s'.heap.push {cls:=.type "tuple",data:=.seq acc}}) (hsz:n<=sizeLine):
  codeAny (model prog w) A (.call (.builtin "tuple.__new__") #[[.type "tuple",.ref I],[]]) (wants Q₁ E) s:=by
 refine codeAny_of_tree ?_;show wpAny _ A.in1 (do checkBuiltinCall "tuple.__new__" #[[.type "tuple",.ref I],[]];again^.builtin "tuple.__new__" #[[.type "tuple",.ref I],[]]) _ _ s;refine Cn^mH (F.newCall_tuple_1 _)^On #[i8 F.plain_tuple_new _,ij F.entry_tuple_new ?_];rw[jD F.plain_tuple_new _];have hsub:=sub_tuple_self;have hinit:=init_tuple_lookup;have hmh:=madeHere_tuple;have hTI:=hT 0 s hst;have nc2:=nc.2
 wp_walk using ki hTI,N3 (hn:=hsz) nc hH W hT hst hfp hI
 intro s' acc hm hacc;show wpAny _ _ (kj acc.toList.toArray >>=λv=>ret v) _ _ _;unfold kj;refine Cn (iH ?_^by show acc.toList.toArray.size<=sizeLine;simp only[Array.toArray_toList];rw[hacc.1];exact hsz);refine On ?_;have e:acc.toList.toArray=acc:=by simp
 rw[e];exact h s' acc hm hacc
def JK{Q:Db->No->Prop}(l:(gv c==gv "list")=q_/\(gv c==gv "tuple")=q_)(m:cz prog w St I)(W:WalksS prog w A.in1.in1.in1 I fp wr G n P St)(o:∀i s,St i s->s.TypeIs (.ref I) c)(j:St 0 s)(k:∀b∈fp,b<s.heap.objs.size)(p:I∈fp)
  (q:∀g e,Moved wr G s g->ItemsOf P e n->Q (.ref g.heap.objs.size) {g with heap:=g.heap.push {cls:=.type "tuple",data:=.seq e}}) (hsz:n<=sizeLine):
  wpAny (model prog w) A (call (.type "tuple") [.ref I]) Q E s:=by
 refine callType_codes (Q₁:=λf a=>a.TypeIs f "tuple"/\Q f a) nh (F.typeCall_tuple_1 _) F.entry_object_init
  (JJ (hsz:=hsz) l m W o j k p λg e r h=>#[#[_,Sc _ rfl,rfl],q g e r h]) λf a d=>?_
 exact#[d.1,F.args_object_init_2 f _,object_init_meets nh.init.lookup nh.made (by cbv) prog w A.in1 _ a #[d.1,rfl,d.2]]
def S3(e:∀i s,St i s->s.TypeIs (.ref I) "list_reverseiterator"):cz prog w St I:=by
 intro A E s Q c h;have d:=e 0 _ c;unfold mP;refine Cn^nH d QU ?_;show wpAny _ A (specialOf (ZB I)^g_ "__length_hint__" >>=_) _ _ _;refine Cn (nH d TX ?_)
 (generalize a:("list_reverseiterator.__length_hint__":String)=id0;wp_delta;rw[show splitId id0=P3 ("list_reverseiterator","__length_hint__")from by subst a;decide +kernel];subst a)
 refine Cn^lJ (b:=p_) d (by rw[isSubtype_type];kernel_rfl) ?_;exact On^h _ _^Rs _
end
section
variable {X:Cx}{e:Expr}{te:TE}{p1 p2 q1 q2:Pos}
def cj(X:Cx)(R:Ch->r_ V->Hp->Prop):Prop:=∀{j:r_ (Ch×Obj)}{k:St}{H1:Hp}{d:No}{l:Ch}{h:r_ V},Inv X j k H1 d->R l h H1->∃e:r_ Db,Vals h e/\h.length<=sizeLine/\l<d.heap.objs.size /\
 ∀{A:gX}{E:Db->No->Prop}{Q:Db->No->Prop},(∀(o:Obj) (g:Nat) (c:String) (f:Nat->No->Prop),o.isFreed=q_->(gv c==gv "list")=q_/\(gv c==gv "tuple")=q_->WalksS X.prog X.w X.A.in1.in1.in1 d.heap.objs.size [d.heap.objs.size,l] [d.heap.objs.size] (λa b=>b=a) e.toArray.size (λi v=>e.toArray[e.toArray.size - 1 - i]?=P3 v) f->
  (∀i s,f i s->s.TypeIs (.ref d.heap.objs.size) c)->cz X.prog X.w f d.heap.objs.size->f 0 {d with heap:=d.heap.push o,toks:=g}->Q (.ref d.heap.objs.size) {d with heap:=d.heap.push o,toks:=g})->wpAny (model X.prog X.w) A (call (.type "reversed") [.ref l]) Q E d
def Wg(R:Ch->r_ V->Hp->Prop)(te:TE):TE:=λb H Q=>te b H λx H1=>∃l a,x=.ref l/\R l a H1/\∀r,H1 r=o_->Q (.ref r)^AY H1 r^.tup a.reverse
def VD{R:Ch->r_ V->Hp->Prop}(ok:cj X R)(U:PE X e te)(y:Gl X "tuple")(z:X.mg "tuple"=o_)(A:Gl X "reversed")(B:X.mg "reversed"=o_)(h1:starEach [mQ (.Name "reversed" p2) [e] [] q2] X.env=[(q_,eval (mQ (.Name "reversed" p2) [e] [] q2) X.env)])
  (M:starEach [e] X.env=[(q_,eval e X.env)]):PE X (.Call (.Name "tuple" p1) [.Call (.Name "reversed" p2) [e] [] q2] [] q1)^Wg R te:=by
 intro r s C H Q I h;refine iB^C1 I y z boot_tuple ?_;refine iF ?_ h1 rfl;rw[h1];refine kh ?_;refine iB^C1 I A B boot_reversed ?_;refine iF ?_ M rfl;rw[M];refine kh^Aq (U r s C H _ I h) λu d #[x,H1,t,Y,l,D,ex,Z,q]=>k8 ?_;subst ex;cases Y;let#[f,N,O,E,go]:=ok t Z;have j:=N.length;refine go λo k c a0 fr nc W hT hH h0=>k8 ?_;have F:H1 d.heap.objs.size=o_:=t.fresh;have I2:Inv X r C H1 {d with heap:=d.heap.push o,toks:=k}:=t.kept (t':=k) λb o e=>FM _ e;have G:Ft X r H1 d.heap.objs.size:=t.fpOk (Rs _) F;refine JK nc hH W hT h0 (λb m=>?_) Op (λs' a v n=>?_)^by rw[f8,←j];exact O
 .rcases Tk.mp m with rfl|m
  .exact TW^Sc _ fr
  .obtain rfl:=Re.mp m
   exact gL E^by show d.heap.objs.size<=(d.heap.push _).objs.size;rw[size_push'];exact hZ _
 .let#[h',g',d',g,J]:=s'
  have e1:g'=d.gens:=v.gens;have e2:d'=d.drawn:=v.drawn;have e3:J=d.os:=v.os;subst e1 e2 e3;have K:=I2.turnedL (h':=h') (t':=g) (ch:=[d.heap.objs.size]) (λc hc=>by rw[Re.mp hc];exact G) λb o m e=>v.heap b o m e;have P:Inv X r C H1 {d with heap:=h',toks:=g}:=K
  have hv:a.toList=f.reverse:=by
   refine me λi=>?_;let#[S,a2]:=n;have e0:a.toList[i]?=a[i]?:=by simp
   rw[e0]
   by_cases T:i<f.length
   .have p:i<a.size:=by rw[S,f8];exact T
    have a3:=a2 i a[i] (i_ p);rw[List.getElem?_reverse T,i_ p,←a3,f8];simp
   .rw[kL^by rw[l_];lk]
    exact nR^by rw[S,f8];lk
  have L:a=f.reverse.toArray:=by rw[←hv]
  have rr:Vals D.reverse f.reverse:=N.reverse;refine#[.ref h'.objs.size,AY H1 h'.objs.size^.tup D.reverse,P.laid (t':=g) (λb o e=>FM _ e) (Rs _) (show ObjOk X.prog X.w _ _ _^.tup D.reverse from#[by rw[l_];exact O,f.reverse,rr,by rw[L];exact IsTupN.new _ _]),rfl,q _^P.hok.fresh^Rs _]
def Uy(K:Frag)(te:TE):TE:=Wg (λl a H=>SqL K H l a) te
def QK(o:X.calm=p_)(p:PE X e te)(d:Gl X "tuple")(f:X.mg "tuple"=o_)(g:Gl X "reversed")(h:X.mg "reversed"=o_)(h1:starEach [mQ (.Name "reversed" p2) [e] [] q2] X.env=[(q_,eval (mQ (.Name "reversed" p2) [e] [] q2) X.env)]:=by rfl)
  (q:starEach [e] X.env=[(q_,eval e X.env)]:=by rfl):PE X (.Call (.Name "tuple" p1) [.Call (.Name "reversed" p2) [e] [] q2] [] q1)^Uy X.K te:=by
 refine VD (λ{v w H1 c l x} n r=>?_) p d f g h h1 q;let#[a,s,pl,t]:=n.list r;have j:c.heap.IsList l a.toArray:=pl.isList;have b:l<c.heap.objs.size:=by let#[_,e,_]:=id j;exact TW e
 refine#[a,s,t,b,λ{A E Q} k=>call_reversed_list j (k (revObj l ((a.toArray.size:Int) - 1)) c.toks "list_reverseiterator" _ rfl (by cbv) (Walks.listRev (A:=X.A.in1.in1.in1) (n.ok.hd o) c.heap.objs.size l (gB b) a.toArray).toS (λi u m=>m.2.1.typeIs) (S3 λi u m=>m.2.1.typeIs) #[gK _,#[_,Sc _ rfl,rfl,by show Data.fields _=_;simp[revObj]],j.push _])]
end
end L2
namespace Dp
open L2
def Ur(b:DW):DW:=λn c P=>b n c λd e=>∃a,d=.lst a/\P (.tup a.reverse) e
section
variable {X:Cx}{a:Expr}{zV:Kd}{wa:DW}{p1 p2 q1 q2:Pos}
def Qv(l:X.calm=p_)(m:DE X a zV wa)(b:Gl X "tuple")(c:X.mg "tuple"=o_)(e:Gl X "reversed")(f:X.mg "reversed"=o_)(h1:starEach [mQ (.Name "reversed" p2) [a] [] q2] X.env=[(q_,eval (mQ (.Name "reversed" p2) [a] [] q2) X.env)]:=by rfl)
  (o:starEach [a] X.env=[(q_,eval a X.env)]:=by rfl):DE X (.Call (.Name "tuple" p1) [.Call (.Name "reversed" p2) [a] [] q2] [] q1) .sh^Ur wa:=by
 let#[t,s,u]:=m;refine#[_,QK l s b c e f h1 o,λC M H n x y P Q R w q=>?_];refine u C M H n x y _ _ R w λv H1 d z h i A p=>?_;let#[G,rfl,p]:=p;have B:=R.step h i;let#[D,j,rfl,I,E,F]:=A.tpOf R.dom R.vM;refine#[D,j,rfl,.inl E,λr k=>?_];have g:Grow H1^AY H1 r^.tup j.reverse:=AU k;exact q _ _ (.tup _) z (h.trans g.ext) (i.grow g) (Cd B.dom k^F.reverse) p
end
end Dp
namespace Nt
open L2 Dp
def Ed(N:Net)(x y:Str)(l:Int):Prop:=(y,l)∈DJ N.ts x
inductive Wk (N:Net) (s:Str):Str->Int->Prop
 |nil:Wk N s s 0
 |snoc {x y:Str}{d l:Int}:Wk N s x d->Ed N x y l->Wk N s y (d+l)
def Least(N:Net)(s x:Str)(d:Int):Prop:=Wk N s x d/\∀a,Wk N s x a->d<=a
def Ed.pos{N:Net}(ok:N.Ok){x y:Str}{l:Int}(h:Ed N x y l):1<=l/\l<=1000000:=by
 let#[_,a,b,_]:=Nf ok h
 simp_all
def Ed.ins{N:Net}(ok:N.Ok){x y:Str}{l:Int}(h:Ed N x y l):y∈N.ps:=(Nf ok h).1
def Wk.pos{N:Net}(ok:N.Ok){s x:Str}{d:Int}(h:Wk N s x d):0<=d:=by
 induction h with
 |nil=>lk
 |snoc _ a b=>have:=a.pos ok;lk
def Least.unique{N:Net}{s x:Str}{d a:Int}(h:Least N s x d)(b:Least N s x a):d=a:=by
 have:=h.2 a b.1
 have:=b.2 d h.1
 omega
def LN{N:Net}{s:Str}{F:Str->s_ Int}(c:∃d,F s=P3 d/\d<=0)(f:∀x d,F x=P3 d->Wk N s x d)(j:∀x d y l,F x=P3 d->Ed N x y l->∃b,F y=P3 b/\b<=d+l):
  (∀x d,F x=P3 d->Least N s x d)/\∀x d,Wk N s x d->F x≠o_:=by
 have a:∀x d,Wk N s x d->∃b,F x=P3 b/\b<=d:=by
  intro x d h
  induction h with
  |nil=>exact c
  |snoc _ k m=>
   grind
 refine#[λx d e=>#[f x d e,λb h=>?_],λx d h e=>?_]
 .let#[g,i,n]:=a x b h
  simp_all
 .let#[g,i,_]:=a x d h
  grind
structure Dmap (ks:List Key) (ds:List D) (Bx:α->D) (F:Str->Option α):Prop where
 len:ks.length=ds.length
 at_:∀x:Str,BP ks ds^.inr x=(F x).map Bx
 dom:∀k∈ks,∃x:Str,k=.inr x
 nd:ks.Nodup
def Dmap.mem{c:Type}{b:r_ Key}{ds:r_ D}{Bx:c->D}{F:Str->s_ c}(h:Dmap b ds Bx F)(x:Str):(.inr x∈b)↔F x≠o_:=by
 constructor
 .intro a e
  let#[z,d]:=JW h.len a;rw[h.at_,e]at d;cases d
 .intro f
  by_cases a:i5 x∈b
  .exact a
  .have:=JX (ds:=ds) a
   rw[h.at_]at this
   simp_all
def Dmap.one{b:Type}{Bx:b->D}{s:Str}{a:b}:Dmap [.inr s] [Bx a] Bx (λx=>if x=s then P3 a else o_):=by
 refine#[rfl,λx=>?_,λk c=>#[s,Re.mp c],gP.mpr #[gO,h8]];show(if i5 s=.inr x then P3 _ else o_)=(if x=s then P3 a else o_).map _
 by_cases e:x=s
 .simp_all
 .rw[if_neg e,if_neg λz=>e (jA z).symm];rfl
def HY{b:Type}(F:Str->s_ b)(x:Str)(a:b):Str->s_ b:=λy=>if y=x then P3 a else F y
def B1{b:Type}{F:Str->s_ b}{x:Str}{a:b}:HY F x a x=P3 a:=if_pos rfl
def Bp{b:Type}{F:Str->s_ b}{x y:Str}{a:b}(h:y≠x):HY F x a y=F y:=if_neg h
def Dmap.put{d:Type}{f:r_ Key}{g:r_ D}{Bx:d->D}{F:Str->s_ d}(h:Dmap f g Bx F)(x:Str)(a:d):Dmap (CW f^.inr x) (CV f g (.inr x)^Bx a) Bx^HY F x a:=by
 exists Of h.len,λy=>?_,λk c=>?_
 .rw[RL h.len]
  unfold HY
  by_cases e:y=x
  .rw[if_pos e,if_pos^by rw[e]];rfl
  .rw[if_neg e,if_neg λz=>e^jA z,h.at_]
 .unfold CW at c
  split at c
  .exact h.dom k c
  .rcases gM.mp c with c|c
   .exact h.dom k c
   simp_all
 .unfold CW
  split
  .exact h.nd
  .rename_i i
   rw[ic];refine#[h.nd,gP.mpr #[gO,h8],λa j b l e=>i^hasK_iff.mpr ?_]
   grind
def Dmap.le{d:Type}{a:r_ Key}{g:r_ D}{Bx:d->D}{F:Str->s_ d}(h:Dmap a g Bx F){b:r_ Str}(i:∀x,F x≠o_->x∈b):a.length<=b.length:=by
 have:∀(a:r_ Key) (b:r_ Str),a.Nodup->(∀k∈a,∃x:Str,k=.inr x/\x∈b)->a.length<=b.length:=by
  intro a
  induction a with
  |nil=>simp_all
  | cons k a l=>
   intro b c e;let#[x,rfl,n]:=e k Op;have c:=gP.mp c
   have o:=l (b.erase x) c.2 λj m=>by
    let#[y,rfl,p]:=e j^T0 _ m
    grind
   grind
 refine this a b h.nd λk f=>?_;let#[x,rfl]:=h.dom k f;exact#[x,rfl,i x^(h.mem x).mp f]
abbrev Mx:=Str->s_ (Int×s_ Str)
structure Dj (N:Net) (s:Str) (F:Mx) (Wt:List Str):Prop where
 start:F s=P3 (0,o_)
 ins:∀x,F x≠o_->x∈N.ps
 wk:∀x d p,F x=P3 (d,p)->Wk N s x d
 prev:∀x d p,F x=P3 (d,p)->(p=o_/\x=s)\/∃y dy q l,p=P3 y/\F y=P3 (dy,q)/\y∉Wt/\Ed N y x l/\d=dy+l
 wfound:∀x∈Wt,F x≠o_
 nd:Wt.Nodup
 done:∀x d p y l,F x=P3 (d,p)->x∉Wt->Ed N x y l->∃dy q,F y=P3 (dy,q)/\dy<=d+l
 near:∀x d p y dy q,F x=P3 (d,p)->x∉Wt->F y=P3 (dy,q)->y∈Wt->d<=dy
def Dj.init{N:Net}{s:Str}(c:s∈N.ps):Dj N s (λx=>if x=s then P3 (0,o_)else o_) [s]:=by
 have a:∀x d p,(if x=s then P3 ((0:Int),(o_:s_ Str))else o_)=P3 (d,p)->x=s/\d=0/\p=o_:=λx d p e=>by
  grind
 refine#[if_pos rfl,λx e=>?_,λx d p e=>?_,λx d p e=>?_,λx b=>?_,gP.mpr #[gO,h8],λx d p y l e b=>?_,λx d p y f q e b=>?_]
 .grind
 .let#[rfl,rfl,rfl]:=a x d p e
  exact .nil
 .let#[rfl,rfl,rfl]:=a x d p e
  exact .inl #[rfl,rfl]
 .simp_all
 .exact absurd (Re.mpr (a x d p e).1) b
 .exact absurd (Re.mpr (a x d p e).1) b
structure Dm (N:Net) (s:Str) (F:Mx) (Wt:List Str) (v:Str) (dv:Int) (seen:List (Str×Int)):Prop where
 start:F s=P3 (0,o_)
 ins:∀x,F x≠o_->x∈N.ps
 wk:∀x d p,F x=P3 (d,p)->Wk N s x d
 prev:∀x d p,F x=P3 (d,p)->(p=o_/\x=s)\/∃y dy q l,p=P3 y/\F y=P3 (dy,q)/\y∉Wt/\Ed N y x l/\d=dy+l
 wfound:∀x∈Wt,F x≠o_
 nd:Wt.Nodup
 done:∀x d p y l,F x=P3 (d,p)->x∉Wt->x≠v->Ed N x y l->∃dy q,F y=P3 (dy,q)/\dy<=d+l
 near:∀x d p y dy q,F x=P3 (d,p)->x∉Wt->F y=P3 (dy,q)->y∈Wt->d<=dy
 here:∃p,F v=P3 (dv,p)
 out:v∉Wt
 least:∀x d p,F x=P3 (d,p)->x∉Wt->d<=dv
 gone:∀y l,(y,l)∈seen->∃dy q,F y=P3 (dy,q)/\dy<=dv+l
def Dj.take{N:Net}{s:Str}{F:Mx}{c:r_ Str}(h:Dj N s F c){v:Str}{dv:Int}{p:s_ Str}(o:v∈c)(e:F v=P3 (dv,p))(i:∀y∈c,∀g q,F y=P3 (g,q)->dv<=g):Dm N s F (c.erase v) v dv []:=by
 have f:∀x,x∈c.erase v->x∈c:=λx b=>List.mem_of_mem_erase b;have m:v∉c.erase v:=λz=>(h.nd.mem_erase_iff.mp z).1 rfl
 have a:∀x,x∉c.erase v->x=v\/x∉c:=λx b=>by
  grind
 refine#[h.start,h.ins,h.wk,λx d q ex=>?_,λx b=>h.wfound x^f x b,h.nd.erase v,λx d q y l ex b r t=>?_,λx d q y g j ex b n k=>?_,#[p,e],m,λx d q ex b=>?_,λy l k=>by cases k]
 .rcases h.prev x d q ex with z|⟨y,g,j,l,u,w,A,B,C⟩
  .exact .inl z
  .exact .inr #[y,g,j,l,u,w,λz=>A^f y z,B,C]
 .rcases a x b with z|z
  .exact absurd z r
  .exact h.done x d q y l ex z t
 .rcases a x b with z|z
  .subst z
   rw[e]at ex;cases ex;exact i y (f y k) g j n
  .exact h.near x d q y g j ex z n^f y k
 .rcases a x b with z|z
  .grind
  .exact h.near x d q v dv p ex z e o
def Dm.finish{N:Net}{s:Str}{F:Mx}{b:r_ Str}{v:Str}{dv:Int}{a:r_ (Str×Int)}(h:Dm N s F b v dv a)(f:∀y l,Ed N v y l->(y,l)∈a):Dj N s F b:=by
 refine#[h.start,h.ins,h.wk,h.prev,h.wfound,h.nd,λx d p y l e g c=>?_,h.near]
 by_cases z:x=v
 .subst z
  let#[j,i]:=h.here;rw[i]at e;cases e;exact h.gone y l^f y l c
 .exact h.done x d p y l e g z c
def Dm.find{N:Net}(ok:N.Ok){s:Str}{F:Mx}{m:r_ Str}{v:Str}{dv:Int}{j:r_ (Str×Int)}(h:Dm N s F m v dv j){y:Str}{l:Int}(w:Ed N v y l)(K:F y=o_):Dm N s (HY F y (dv+l,P3 v)) (m++[y]) v dv (j++[(y,l)]):=by
 have L:=(w.pos ok).1;let#[A,B]:=h.here;have C:∀x d p,F x=P3 (d,p)->x≠y:=λx d p e z=>by rw[z,K]at e;cases e
 have f:∀x d p,F x=P3 (d,p)->HY F y (dv+l,P3 v) x=P3 (d,p):=λx d p e=>by rw[Bp^C x d p e];exact e
 have Q:y∉m:=λz=>h.wfound y z K
 have c:∀x d p,HY F y (dv+l,P3 v) x=P3 (d,p)->(x=y/\d=dv+l/\p=P3 v)\/(x≠y/\F x=P3 (d,p)):=λx d p e=>by
  by_cases z:x=y
  .rw[z,B1]at e;cases e;exact .inl #[z,rfl,rfl]
  .rw[Bp z]at e;exact .inr #[z,e]
 have k:∀x,x∉m++[y]->x∉m/\x≠y:=λx g=>#[λz=>g^iS _ z,λz=>g^gH _^by rw[z];exact Re.mpr rfl]
 have M:v∉m++[y]:=λz=>by
  rcases gM.mp z with z|z
  .exact h.out z
  .exact C v dv A B^Re.mp z
 refine#[f _ _ _ h.start,λx g=>?_,λx d p e=>?_,λx d p e=>?_,λx g=>?_,?_,λx d p z o e g R D=>?_,λx d p z O q e g E i=>?_,#[A,f _ _ _ B],M,λx d p e g=>?_,λz o i=>?_]
 .by_cases z:x=y
  .rw[z];exact w.ins ok
  .rw[Bp z]at g;exact h.ins x g
 .rcases c x d p e with⟨rfl,rfl,_⟩|⟨_,e⟩
  .exact .snoc (h.wk v dv A B) w
  .exact h.wk x d p e
 .rcases c x d p e with⟨rfl,rfl,rfl⟩|⟨_,e⟩
  .exact .inr #[v,dv,A,l,rfl,f _ _ _ B,M,w,rfl]
  .rcases h.prev x d p e with z|⟨u,P,q,o,S,G,r,T,U⟩
   .exact .inl z
   .refine .inr #[u,P,q,o,S,f _ _ _ G,λz=>?_,T,U]
    rcases gM.mp z with z|z
    .exact r z
    .exact C u P q G^Re.mp z
 .rcases gM.mp g with g|g
  .have:=h.wfound x g
   cases e:F x with
   |none=>exact absurd e this
   |some a=>rw[f x a.1 a.2 e];intro z;cases z
  .rw[Re.mp g,B1];intro z;cases z
 .rw[ic]
  exact#[h.nd,gP.mpr #[gO,h8],λa V b W e=>Q^by rw[←Re.mp W,←e];exact V]
 .let#[n,t]:=k x g
  rcases c x d p e with⟨z,_⟩|⟨_,e⟩
  .exact absurd z t
  .let#[H,I,r,J]:=h.done x d p z o e n R D
   exact#[H,I,f _ _ _ r,J]
 .let#[n,t]:=k x g
  rcases c x d p e with⟨z,_⟩|⟨_,ex⟩
  .exact absurd z t
  .rcases c z O q E with⟨_,G,_⟩|⟨X,E⟩
   .have:=h.least x d p ex n
    omega
   .rcases gM.mp i with i|i
    .exact h.near x d p z O q ex n E i
    .exact absurd (Re.mp i) X
 .let#[n,t]:=k x g
  rcases c x d p e with⟨z,_⟩|⟨_,e⟩
  .exact absurd z t
  .exact h.least x d p e n
 .rcases gM.mp i with i|i
  .let#[H,I,r,J]:=h.gone z o i
   exact#[H,I,f _ _ _ r,J]
  .cases Re.mp i
   exact#[_,_,B1,nS _]
def Dm.nearer{N:Net}(ok:N.Ok){s:Str}{F:Mx}{k:r_ Str}{v:Str}{dv:Int}{f:r_ (Str×Int)}(h:Dm N s F k v dv f){y:Str}{l A:Int}{J:s_ Str}(o:Ed N v y l)(B:F y=P3 (A,J))(Q:dv+l<A):Dm N s (HY F y (dv+l,P3 v)) k v dv (f++[(y,l)]):=by
 have K:=(o.pos ok).1;let#[r,t]:=h.here
 have L:y∈k:=by
  by_cases z:y∈k
  .exact z
  .have:=h.least y A J B z
   omega
 have M:v≠y:=λz=>h.out (by rw[z];exact L);have c:∀x,x∉k->HY F y (dv+l,P3 v) x=F x:=λx b=>Bp λz=>b^by rw[z];exact L
 have a:∀x d p,HY F y (dv+l,P3 v) x=P3 (d,p)->(x=y/\d=dv+l/\p=P3 v)\/(x≠y/\F x=P3 (d,p)):=λx d p e=>by
  by_cases z:x=y
  .rw[z,B1]at e;cases e;exact .inl #[z,rfl,rfl]
  .rw[Bp z]at e;exact .inr #[z,e]
 have g:∀x d p,F x=P3 (d,p)->∃O q,HY F y (dv+l,P3 v) x=P3 (O,q)/\O<=d:=λx d p e=>by
  by_cases z:x=y
  .subst z
   rw[B]at e;cases e;exact#[_,_,B1,by lk]
  .exact#[d,p,by rw[Bp z];exact e,nS _]
 have R:s≠y:=λz=>by
  have:=h.start
  rw[z,B]at this;cases this
  have:=(h.wk v dv r t).pos ok
  omega
 refine#[by rw[Bp R];exact h.start,λx b=>?_,λx d p e=>?_,λx d p e=>?_,λx b=>?_,h.nd,λx d p z m e b S C=>?_,λx d p z P q e b D i=>?_,#[r,by rw[Bp M];exact t],h.out,λx d p e b=>?_,λz m i=>?_]
 .by_cases z:x=y
  .rw[z];exact o.ins ok
  .rw[Bp z]at b;exact h.ins x b
 .rcases a x d p e with⟨rfl,rfl,_⟩|⟨_,e⟩
  .exact .snoc (h.wk v dv r t) o
  .exact h.wk x d p e
 .rcases a x d p e with⟨rfl,rfl,rfl⟩|⟨_,e⟩
  .exact .inr #[v,dv,r,l,rfl,by rw[Bp M];exact t,h.out,o,rfl]
  .rcases h.prev x d p e with z|⟨u,T,q,m,U,V,j,n,W⟩
   .exact .inl z
   .exact .inr #[u,T,q,m,U,by rw[c u j];exact V,j,n,W]
 .by_cases z:x=y
  .rw[z,B1];intro w;cases w
  .rw[Bp z];exact h.wfound x b
 .rw[c x b]at e
  let#[E,G,j,X]:=h.done x d p z m e b S C;let#[H,I,n,Y]:=g z E G j;exact#[H,I,n,by lk]
 .rw[c x b]at e
  rcases a z P q D with⟨rfl,rfl,_⟩|⟨Z,D⟩
  .have:=h.least x d p e b
   omega
  .exact h.near x d p z P q e b D i
 .rw[c x b]at e
  exact h.least x d p e b
 .rcases gM.mp i with i|i
  .let#[E,G,j,X]:=h.gone z m i
   let#[H,I,n,Y]:=g z E G j;exact#[H,I,n,by lk]
  .cases Re.mp i
   exact#[_,_,B1,nS _]
def Dm.skip{N:Net}{s:Str}{F:Mx}{c:r_ Str}{v:Str}{dv:Int}{a:r_ (Str×Int)}(h:Dm N s F c v dv a){y:Str}{l d:Int}{e:s_ Str}(i:F y=P3 (d,e))(f:d<=dv+l):Dm N s F c v dv (a++[(y,l)]):=by
 refine#[h.start,h.ins,h.wk,h.prev,h.wfound,h.nd,h.done,h.near,h.here,h.out,h.least,λz g b=>?_]
 rcases gM.mp b with b|b
 .exact h.gone z g b
 simp_all
structure Told (N:Net) (s:Str) (F:Mx):Prop where
 start:F s=P3 (0,o_)
 ins:∀x,F x≠o_->x∈N.ps
 least:∀x d p,F x=P3 (d,p)->Least N s x d
 all:∀x d,Wk N s x d->F x≠o_
 prev:∀x d p,F x=P3 (d,p)->(p=o_/\x=s)\/∃y dy q l,p=P3 y/\F y=P3 (dy,q)/\Ed N y x l/\d=dy+l
def Dj.told{N:Net}{s:Str}{F:Mx}(h:Dj N s F []):Told N s F:=by
 have c:=LN (N:=N) (s:=s) (F:=λx=>(F x).map (·.1)) #[0,by rw[h.start];rfl,nS _] (λx d e=>by
  let#[#[g,p],a,b]:=gY.mp e;cases b;exact h.wk x _ p a) (λx d y l e i=>by
  let#[#[g,p],a,b]:=gY.mp e;cases b;let#[f,q,j,k]:=h.done x _ p y l a gO i;exact#[f,by rw[j];rfl,k])
 refine#[h.start,h.ins,λx d p e=>c.1 x d (by rw[e];rfl),λx d m e=>c.2 x d m (by rw[e];rfl),λx d p e=>?_]
 rcases h.prev x d p e with z|⟨y,f,q,l,a,b,_,n,o⟩
 .exact .inl z
 simp_all
abbrev Kn:=Str->s_ Int
structure Bf (N:Net) (s:Str) (c:Nat) (K:Kn):Prop where
 start:∃d,K s=P3 d/\d<=0
 ins:∀x,K x≠o_->x∈N.ps
 wk:∀x d,K x=P3 d->Wk N s x d
 top:∀x d,K x=P3 d->d<=1000000*(c:Int)
structure fS (N:Net) (s:Str) (K:Kn):Prop where
 ins:∀x,K x≠o_->x∈N.ps
 least:∀x d,K x=P3 d->Least N s x d
 all:∀x d,Wk N s x d->K x≠o_
 top:∀x d,K x=P3 d->d<=30000000
def walk(N:Net):r_ Str->Int->Prop
 |[],_=>False
 |[_],d=>d=0
 |x::y::r,d=>∃l e,Ed N x y l/\walk N (y::r) e/\d=l+e
def P1{N:Net}{x y:Str}{r:r_ Str}{d l:Int}(a:Ed N x y l)(h:walk N (y::r) d):walk N (x::y::r) (l+d):=#[l,d,a,h,rfl]
def fC(N:Net)(a b:Str):s_ Int->Prop
 |some d=>Least N a b d
 |none=>∀d,¬Wk N a b d
def Told.far{N:Net}{s:Str}{F:Mx}(h:Told N s F)(x:Str):fC N s x ((F x).map (·.1)):=by
 cases e:F x with
 |none=>exact λd b=>h.all x d b e
 |some a=>exact h.least x _ _ e
def Way(N:Net)(a b:Str)(o:s_^r_ Str):Prop:=match o with
 |some w=>∃d r,w=a::r/\w.getLast?=P3 b/\walk N w d/\Least N a b d/\w.length<=30/\∀x∈w,x∈N.ps
 |none=>∀d,¬Wk N a b d
def bO:s_ Str->D
 |some y=>.str y
 |none=>.non
def bP:s_ Int->D
 |some y=>.int y
 |none=>.non
def bN:s_^r_ Str->D
 |some w=>.tup^w.map .str
 |none=>.non
def Gw(p:Int×s_ Str):D:=.tup [.int p.1,bO p.2]
def okN(N:Net):Prop:=N.Ok/\N.ps.length<=25/\N.ts.length<=60
def cZ:W2:=λf n P=>∃(a:r_ Str) (b:r_ Key) (c:r_ D) (F:Mx),f=[.br^.lst^a.map .str,.br^.dic b c]/\Dmap b c Gw F/\(∀x∈a,F x≠o_)/\a≠[]/\a.length<=100 /\
 ∀v∈a,(∀y∈a,∀d g e h,F v=P3 (d,g)->F y=P3 (e,h)->d<=e)->P (.str v) n
def Zo:W2:=λc n P=>∃(N:Net) (s:Str),c=[.sh^Bx N,.sh^.str s]/\okN N/\s∈N.ps/\∀(a:r_ Key) (b:r_ D) (F:Mx),Dmap a b Gw F->Told N s F->P (.dic a b) n
def cf:W2:=λc n P=>∃(N:Net) (a b:Str),c=[.sh^Bx N,.sh^.str a,.sh^.str b]/\okN N/\a∈N.ps/\b∈N.ps/\∀o,fC N a b o->P (bP o) n
def eZ:W2:=λc n P=>∃(N:Net) (a b:Str),c=[.sh^Bx N,.sh^.str a,.sh^.str b]/\okN N/\a∈N.ps/\b∈N.ps/\∀o,Way N a b o->P (bN o) n
def eV{i j:Int}{x y:Str}(h:BJ [.inl j,.inr y] [.inl i,.inr x]=q_):i<=j:=by
 have h:(if lP j=.inl i then(if i5 y=.inr x then q_ else decide _)else decide _)=q_:=h
 grind
section
def BU(x:Str):keyOf^.str x=P3^.inr x:=rfl
def QY{N:Net}(ok:N.Ok){a:r_ Str}(h:∀x∈a,x∈N.ps):Bv^.lst^a.map .str:=ES λd b=>by
  let#[x,c,rfl]:=TM.mp b;exact DP^ok.names x^h x c
def M7{N:Net}{d:r_ Str}(b:d.Nodup)(h:∀x∈d,x∈N.ps):d.length<=N.ps.length:=by
 have:∀(a c:r_ Str),a.Nodup->(∀x∈a,x∈c)->a.length<=c.length:=by
  intro a
  induction a with
  |nil=>grind
  |cons x a g=>
   intro c b f;have k:=f x Op;have b:=gP.mp b;have l:=g (c.erase x) b.2 λj i=>(List.mem_erase_of_ne λe=>b.1^by simp_all).mpr^f j^T0 _ i
   grind
 simp_all
def L0(a:r_ Key)(k:Key):(CW a k).length=if IE a k=p_ then a.length else a.length+1:=by
 unfold CW
 split
 .rfl
 simp_all
def Dmap.has{b:Type}{a:r_ Key}{d:r_ D}{Bx:b->D}{F:Str->s_ b}(h:Dmap a d Bx F){x:Str}:(F x=o_->IE a^.inr x=q_)/\(F x≠o_->IE a^.inr x=p_):=by
 constructor
 .intro e
  cases c:IE a _ with
  |false=>rfl
  |true=>exact absurd e^(h.mem x).mp^hasK_iff.mp c
 .intro e
  exact hasK_iff.mpr^(h.mem x).mpr e
def P9{N:Net}{x:Str}(c:x∈N.ps):BP (N.ps.map .inr) (N.ps.map^Uj N.ts)^.inr x=P3^Uj N.ts x:=by
 have go:∀a:r_ _,x∈a->BP (a.map .inr) (a.map^Uj N.ts)^.inr x=P3^Uj N.ts x:=by
  intro a
  induction a with
  |nil=>grind
  | cons q a b=>
   intro h;show(if i5 q=.inr x then P3 _ else BP _ _ _)=_
   by_cases e:q=x
   .grind
   .rw[if_neg λz=>e^jA z]
    exact b^(Tk.mp h).resolve_left λz=>e z.symm
 simp_all
def Uo(l:r_ (Str×Int)):Gn ((l.map λx=>(.inr x.1:Key)).map XW) (l.map λx=>.int x.2)=l.map d_:=by
 induction l with
 |nil=>rfl
 |cons p l a=>
  show D.tup _::Gn _ _=d_ p::l.map _;rw[←a];rfl
end
structure WInv (N:Net) (F:Mx) (b:Str) (db:Int) (acc:List Str) (pl:Option Str):Prop where
 st:(acc=[]/\pl=P3 b)\/∃z r dz,acc.reverse=z::r/\F z=P3 (dz,pl)/\walk N acc.reverse (db - dz)/\acc.reverse.getLast?=P3 b
 nd:acc.Nodup
 ins:∀x∈acc,x∈N.ps
 less:∀y dy q,pl=P3 y->F y=P3 (dy,q)->∀x∈acc,∃dx qx,F x=P3 (dx,qx)/\dy<dx
 fnd:∀y,pl=P3 y->F y≠o_
def wm(F:Mx):s_ Str->Nat
 |none=>0
 |some y=>((F y).getD (0,o_)).1.toNat+1
def WInv.step{N:Net}(ok:N.Ok){a:Str}{F:Mx}(T:Told N a F){b:Str}{k:Int}{K:s_ Str}(eb:F b=P3 (k,K)){m:r_ Str}{y:Str}{g:Int}{f:s_ Str}(h:WInv N F b k m^P3 y)(c:F y=P3 (g,f)):WInv N F b k (m++[y]) f/\wm F f<wm F^P3 y:=by
 have L:=(T.least y g f c).1.pos ok
 have A:∀w o q,f=P3 w->F w=P3 (o,q)->o<g:=λw o q e i=>by
  rcases T.prev y g f c with⟨z,_⟩|⟨B,s,C,l,j,n,t,u⟩
  .rw[e]at z;cases z
  .rw[e]at j
   cases j;rw[i]at n;cases n
   have:=(t.pos ok).1
   omega
 have D:∀w,f=P3 w->F w≠o_:=λw e=>by
  rcases T.prev y g f c with⟨z,_⟩|⟨B,s,C,l,j,n,_⟩
  .rw[e]at z;cases z
  .rw[e]at j
   cases j;rw[n];intro z;cases z
 exists#[.inr ?_,?_,λx d=>?_,λw o q e i x d=>?_,D]
 .rw [List.reverse_append,List.reverse_singleton,lR]
  rcases h.st with⟨rfl,e⟩|⟨z,r,E,j,n,t,u⟩
  .cases e
   rw[eb]at c;cases c;exact#[_,_,_,rfl,eb,(by show k - k=0;lk),rfl]
  .exists y,m.reverse,g,rfl,c,?_
   .rw[j]at t ⊢
    rcases T.prev z E (P3 y) n with⟨w,_⟩|⟨B,s,C,l,M,G,O,Q⟩
    .cases w
    .cases M
     rw[c]at G;cases G
     have:=P1 O t
     rw[show l+(k - E)=k - g by lk]at this;exact this
   .rw[j]at u ⊢
    exact u
 .rw[ic]
  refine#[h.nd,gP.mpr #[gO,h8],λx d z P e=>?_];rw[Re.mp P]at e;let#[H,I,ex,v]:=h.less y g f rfl c x d;rw[e,c]at ex;cases ex;lk
 .rcases gM.mp d with d|d
  .exact h.ins x d
  .rw[Re.mp d]
   exact T.ins y^by rw[c];intro z;cases z
 .have J:=A w o q e i
  rcases gM.mp d with d|d
  .let#[H,I,ex,v]:=h.less y g f rfl c x d
   exact#[H,I,ex,by lk]
  .rw[Re.mp d]
   exact#[g,f,c,J]
 .cases f with
  |none=>exact Nat.succ_pos _
  | some w=>
   cases i:F w with
   |none=>exact absurd i (D w rfl)
   |some p=>
    have J:=A w p.1 p.2 rfl i;have R:=(T.least w p.1 p.2 i).1.pos ok;show((F w).getD (0,o_)).1.toNat+1<((F y).getD (0,o_)).1.toNat+1;rw[i,c];show p.1.toNat+1<g.toNat+1;lk
def NI{N:Net}(a:okN N):Gv 1000001^Bx N/\OT^Bx N<=48000/\PU^Bx N<=3:=X4 (Va a.1) (H_ a.1) (by rw[Ev];have:=a.2.1;lk)^by rw[Ev];have:=a.2.2;lk
end Nt
namespace Dp
open L2
section
variable {p:Pos}
def Rel.lessKp{K:Frag}{C:Fm}{q:Ch×HO}{M:Ch->Prop}{H:Hp}{n:Sg}{a:r_ Slot}{b:L2.St}(R:Rel K {C with kp:=q::C.kp} M H n a b):Rel K C M H n a b:=
 #[R.len,R.sub,R.dom,R.ext,R.fU,R.uV,R.vM,R.feed,R.sl,R.pin,R.br0,R.new,R.two,λp c=>R.kept p^T0 _ c]
end
end Dp
namespace Nt
open L2 Dp
def sub(N:Net)(kept:r_ Ak):Net:=#[N.ps,N.ts.filter λu=>decide (u∈kept)]
def W6(N:Net)(t b:Int)(u:Ak):Prop:=∃d,Least N u.a u.b d/\d*b<=u.len*t
noncomputable def Hx(N:Net)(t b:Int)(u:Ak):Bool:=@decide (W6 N t b u)^jL _
def nearB_iff{N:Net}{t b:Int}{u:Ak}:Hx N t b u=p_↔W6 N t b u:=by
 unfold Hx
 grind
noncomputable def Dx(N:Net)(t b:Int):r_ Ak->r_ Ak->r_ Ak
 |a,[]=>a
 |a,u::r=>if Hx (sub N a) t b u=p_ then Dx N t b a r else Dx N t b (a++[u]) r
def LV:W2:=λc n P=>∃(N:Net) (z:D) (b:r_ Ak),c=[.sh^Bx N,.br z]/\KS z=P3^b.map Ai/\b.length<64/\∀a:r_ Ak,a.Perm b->J7 a->P (Bx #[N.ps,a]) n
def Ue:W2:=λc n P=>∃(N:Net) (u:Ak) (t b:Int),c=[.sh^Bx N,.sh^.tup [.int t,.int b],.sh^Ai u]/\okN N/\u.a∈N.ps/\u.b∈N.ps/\1<=b/\b<=1000000/\1<=t/\t<=1000000/\∀o:s_^r_ Str,(∀w,o=P3 w->Way N u.a u.b^P3 w/\Hx N t b u=p_)->(o=o_->Hx N t b u=q_)->P (bN o) n
def Ua:W2:=λc n P=>∃(N:Net) (t b:Int),c=[.sh^Bx N,.sh^.tup [.int t,.int b]]/\okN N/\1<=b/\b<=1000000/\1<=t/\t<=1000000/\∀a:r_ Ak,a.Perm N.ts->IX a->P (Bx^sub N^Dx N t b [] a) n
def sub_mem{N:Net}{kept:r_ Ak}{u:Ak}:u∈(sub N kept).ts↔u∈N.ts/\u∈kept:=by
 show u∈N.ts.filter _↔_
 simp_all
def OU{N:Net}(a:okN N)(kept:r_ Ak):okN^sub N kept:=#[YH a.1 (λt h=>(sub_mem.mp h).1)^a.1.trise.filter _,a.2.1,gN (iP _ _) a.2.2]
def RY{N:Net}(ok:N.Ok){kept a:r_ Ak}(d:∀t∈kept,t∈N.ts)(nd:kept.Nodup)(b:a.Perm kept)(c:J7 a):(#[N.ps,a]:Net)=sub N kept:=by
 congr 1
 refine Et ((mW (b.nodup_iff.mpr nd)^(Cf ok.trise).filter _).mpr λt=>?_) c^FF^ok.trise.filter _;rw[b.mem_iff]
 simp_all
def Nl{N:Net}{t b:Int}{kept r:r_ Ak}{u:Ak}:Dx N t b kept (u::r)=if Hx (sub N kept) t b u=p_ then Dx N t b kept r else Dx N t b (kept++[u]) r:=rfl
theorem Hw{f g:Type}:∀{l:r_ (f×g)},(l.map (·.1)).Nodup->∀{p q:f×g},p∈l->q∈l->p.1=q.1->p=q
 |a::l,d,p,q,h,i,e=>by
  rw[gQ,gP]at d
  rcases Tk.mp h with b|b <;>rcases Tk.mp i with c|c
  .rw[b,c]
  .grind
  .exact absurd (TM.mpr #[p,b,by rw[e,c]]) d.1
  .exact Hw d.2 b c e
def VU{N:Net}(ok:N.Ok){x y:Str}{l:Int}(h:Ed N x y l):look N.ts x y=P3 l:=by
 unfold look;cases e:(DJ _ x).find? _ with
 |none=>exact absurd (List.find?_eq_none.mp e _ h)^by simp
 |some q=>
  have a:=of_decide_eq_true^List.find?_some (p:=λz=>decide _) e;rw[Hw (QX ok x) (mo e) h a];rfl
theorem Ld{N:Net}(ok:N.Ok):∀{r:r_ Str}{x:Str}{s d:Int},walk N (x::r) d->K6 N.ts x r s=P3 (s+d)
 |[],x,s,d,h=>by
  have:=h
  subst this;show P3 s=P3 _
  grind
 |y::r,x,s,d,h=>by
  let#[l,e,a,b,rfl]:=h;show(match look _ x y with|some l=>K6 _ y r _|none=>o_)=_;rw[VU ok a];show K6 _ y r _=_;rw[Ld ok b,Int.add_assoc]
def VW{N:Net}(ok:N.Ok){x:Str}{r:r_ Str}{d:Int}(a:x∈N.ps)(b:walk N (x::r) d):bV N^.tup^(x::r).map .str=.int d:=by
 show(if((x::r).map _).all _ then Y1 N _ else .non)=_;rw[if_pos^all_strs _,HS];show(if x∈N.ps then Ef _ else .non)=_;rw[if_pos a,Ld ok b,ko];rfl
theorem JQ{N:Net}{B:Nat}(ok:N.Ok):∀{w:r_ Str},(∀x∈w,x∈N.ps)->II B^w.map .str/\NH^w.map .str<=9*w.length/\LZ^w.map .str<=0
 |[],_=>#[trivial,Rs _,Rs _]
 | x::r,h=>by
  let#[a,b,c]:=JQ ok λy e=>h y^T0 _ e;have d:=ok.names x^h x Op;exists#[λf g=>by have:=d.2.2 f g;lk,a],?_
  .show x.length+1+NH _<=9*(r.length+1)
   have:=d.2.1
   omega
  assumption
def RD{N:Net}(ok:N.Ok){w:r_ Str}(d:w.length<=30)(h:∀x∈w,x∈N.ps):bo^.tup^w.map .str:=by
 let#[a,b,c]:=JQ ok h;exact#[a,by show NH _<=160000;lk,by show LZ _+1<=50;lk]
end Nt
namespace Dp
open L2
end Dp
namespace Nt
open L2 Dp
end Nt
namespace L2
open AutoSeq1 (wpAny_loadPart')
def boot_enumerate:bootBuiltins "enumerate"=P3^.type "enumerate":=by decide +kernel
section
variable {prog:Program}{w:World}{A:Around}{E:Value->Shared->Prop}{s:Shared}
def Qt{κ:Bool}(m:A.handled=o_)(f l:Ch)(g:l≠f)(c:Array Db):Draws prog w A f [f,l] c.size (λi v=>c[i]?=P3 v) (λi h=>ItAt κ h f l i/\SqAt κ h l c) where
 live:=λ_ _ d=>let #[o,n,_]:=d.1.lies;#[o,n]
 frame:=λ_ _ _ d k=>#[d.1.mv λo e=>k f (by simp) o e,d.2.mv λo e=>k l (by simp) o e]
 item:=λi s Q E j d p=>Ea d.1 d.2 (x:=c[i]) (by simp[j]) λq a b=>p _ q s.toks (by simp[j]) #[a,d.2.eb b.extBut g] b
 done:=λs Q E d r=>Fd m d.1 d.2 (by simp) r
def Nx{κ:Bool}(d:A.handled=o_)(c l:Ch)(a:Array Db)(k:Nat)(f:a[k]?=o_):Draws prog w A c [c,l] k (λ_ _=>True) (λi h=>ItAt κ h c l i/\SqAt κ h l a/\i=k) where
 live:=λ_ _ b=>let #[o,g,_]:=b.1.lies;#[o,g]
 frame:=λ_ _ _ b k=>#[b.1.mv λo e=>k c (by simp) o e,b.2.1.mv λo e=>k l (by simp) o e,b.2.2]
 item:=λi s Q E j b n=>absurd b.2.2^gB j
 done:=λs Q E b m=>Fd d b.1 b.2.1 f m
def Sv(κ:Bool)(l:Ch)(items:Array Db):Meets (iq.«enumerate.__new__» #[[.type "enumerate",.ref l],[]]) (λ_ R s=>SqAt κ s.heap l items /\
   R (.ok^.ret^.ref (s.heap.push^Gb κ l).objs.size) {s with heap:=(s.heap.push^Gb κ l).push {cls:=.type "enumerate",data:=.fields #[ .none,.bool q_,.ref s.heap.objs.size,rawInt 0,.none,.none]}}):=
 .of_wp λprog w A R s h=>by
  let#[hp,g,d,tk,os]:=s;let#[hl,h]:=h
  have hsub:=sub_enumerate;cases κ with
  | true=>
   have hL:nQ (kA #[hp,g,d,tk,os]) l items:=hl;let#[#[c,dct,dt,sl],ho,hc,n,hd]:=id hL;replace hc:c=.type "list":=hc;replace hd:dt=.seq items n:=hd;subst hc hd
   wp_walk using h9 ho
   refine wpAny_stack_any λst=>On ?_
   split
   .rename_i c _ _ _ _ _
    cases(c==gv "enumerate") <;>(wp_walk using h9 ho,ia hL;exact#[_,rfl,h])
   ·(wp_walk using h9 ho,ia hL;exact#[_,rfl,h])
  | false=>
   have hL:nB (kA #[hp,g,d,tk,os]) l items:=hl;let#[#[c,dct,dt,sl],ho,hc,n,hd]:=id hL;replace hc:c=.type "tuple":=hc;replace hd:dt=.seq items n:=hd;subst hc hd
   wp_walk using h9 ho
   refine wpAny_stack_any λst=>On ?_
   split
   .rename_i c _ _ _ _ _
    cases(c==gv "enumerate") <;>(wp_walk using h9 ho,iJ hL;exact#[_,rfl,h])
   ·(wp_walk using h9 ho,iJ hL;exact#[_,rfl,h])
def JM{c:Bool}{l:Ch}{a:Array Db}{Q:Db->No->Prop}(j:SqAt c s.heap l a)
  (h:∀d,IsEnum d (s.heap.objs.size+1) s.heap.objs.size 0 .none->ItAt c d s.heap.objs.size l 0->(∀b o,s.heap.get? b=P3 o->d.get? b=P3 o)->Q (.ref (s.heap.objs.size+1)) {s with heap:=d}):
  wpAny (model prog w) A (call (.type "enumerate") [.ref l]) Q E s:=by
 refine callType_new F.called_enumerate (by cbv) (F.typeCall_enumerate_1 _) (F.newCall_enumerate_1 _) (λf=>F.args_object_init_2 f _) F.entry_enumerate_new (Sv c l a) #[j,?_];have g:(s.heap.push^Gb c l).objs.size=s.heap.objs.size+1:=gz ..;have i:((s.heap.push^Gb c l).push {cls:=.type "enumerate",data:=.fields #[ .none,.bool q_,.ref s.heap.objs.size,rawInt 0,.none,.none]}).get? (s.heap.push^Gb c l).objs.size=P3 _:=Sc _ rfl;rw[g]at i;exists#[_,by rw[g];exact i,rfl];rw[g];exact h _ i ((IA c s.heap l).mv λo e=>FM _ e) λb o e=>FM _^FM _ e
end
def aA(K:Frag)(c:Bool)(a:Ch)(b:r_ V):It:=
 #[λi H=>SqK c K H a b/\i<b.length,λi H x d=>∃T p,x=.ref T/\H T=o_/\d=AY H T^.tup [.int i,p]/\b[i]?=P3 p,λi H=>SqK c K H a b/\b.length<=i]
structure Z2 (κ:Bool) (e it a:Ch) (k:Nat) (h:gA):Prop where
 e:∃old,IsEnum h e it (k:Int) old
 i:ItAt κ h it a k
def P4{P:gC}{w:gJ}{K:Frag}{es:r_ gI}{j:Nat}{pos:Pos}(κ:Bool)(e f a:Ch)(S:r_ V)(r:e≠f)(ae:a≠e)(ai:a≠f):
  Turn P w K (.Tuple es j pos) (aA K κ a S) [e,f] e (Z2 κ e f a) where
 mem:=by simp
 obj:=λi h d c b=>by
  simp only[Tk,gO,or_false]at b
  rcases b with rfl|rfl
  .let#[o,q]:=d.e
   exact#[_,q,λv q=>by cases q]
  .exact d.i.lies
 keep:=λi h T d k=>by
  let#[o,q]:=d.e;exact#[#[o,k e (by simp) _ q],d.i.mv λo e=>k f (by simp) o e]
 item:=by
  intro X t y B b i U s W H E I m d C;subst t y B;let#[D,F]:=C;let#[n,p,G]:=D.at I;let#[u,hu,ru]:=p.get^Go F;let#[l,g]:=d.e;have l1:=p.length;refine wpAny_pyNext_enum_itemD (Qt (κ:=κ) (A:=X.A.in1) (I.ok.hd b) f a ai n.toArray) g #[d.i,G] (by simp;lk) r (by simp[r,ae.symm]) λx T J hp a1 a2 a3 a4 a5=>#[_,rfl,?_]
  have L:x=u:=by
   have Y:n[i]?=P3 x:=by simpa using hp
   rw[hu]at Y;exact(XV Y).symm
  subst L;refine wpAny_letOwnedTupleGo_enum a1 λZ b1 M=>?_;have hT:H s.heap.objs.size=o_:=I.hok.fresh^Rs _
  have N:∀c o,c∉[e,f]->s.heap.get? c=P3 o->Z.get? c=P3 o:=λc o b z=>by
   simp only[Tk,gO,or_false,not_or]at b;exact M.extBut _ _ b.1^a5 c o b.1 b.2 z
  have I2:Inv X U W (AY H s.heap.objs.size^.tup [.int i,S[i]]) {s with heap:=Z,toks:=J+1}:=by
   refine I.turnLaid (t':=J+1) (ch:=[e,f]) m N (Rs _) ?_;have nT:s.heap.objs.size≠e:=jU^TW g;exact#[by show 2<=sizeLine;decide,[.int i J,x],.cons #[_,rfl]^.cons ru .nil,#[_,M.extBut _ _ nT a3,rfl,_,rfl,rfl,rfl]]
  refine#[.ref s.heap.objs.size,_,I2,rfl,#[_,_,rfl,hT,rfl,Go F],#[#[_,b1],a2.1.eb M.extBut r.symm],λc b=>?_];have O:H c=o_:=(m c b).1
  have R:c≠s.heap.objs.size:=λz=>by
   obtain⟨o,ho⟩:∃o,s.heap.get? c=P3 o:=by
    simp only[Tk,gO,or_false]at b
    rcases b with rfl|rfl
    .exact#[_,g]
    .let#[o,q,_]:=d.i.lies;exact#[o,q]
   rw[z]at ho;exact hU _^TW ho
  rw[AF R];exact O
 done:=by
  intro X t y B b i U s W H E I m d C;subst t y B;let#[D,F]:=C;let#[n,p,G]:=D.at I;let#[l,g]:=d.e;have l1:=p.length;refine wpAny_pyNext_enum_endD (Nx (κ:=κ) (A:=X.A.in1) (I.ok.hd b) f a n.toArray i^by simp;lk) g #[d.i,G,rfl] λT N=>#[rfl,?_];refine I.turnedL (t':=s.toks) (ch:=[e,f]) m λc o b e=>?_;simp only[Tk,gO,or_false,not_or]at b;exact N c o b.2 e
 self:=λA i s Q E d h=>by
  let#[l,g]:=d.e;exact wpAny_pyIter_enum g h
section
variable {X:Cx}{e1:Expr}{es:r_ Expr}{j:Nat}{tpos p pos:Pos}{te:TE}
def be(K:Frag)(te:TE):TI:=λd H R=>te d H λv H1=>∃b a c,v=.ref a/\SqK b K H1 a c/\R (aA K b a c) H1
def VB(t:Gl X "enumerate")(v:X.mg "enumerate"=o_)(w:PE X e1 te)(g:starEach [e1] X.env=[(q_,eval e1 X.env)]:=by rfl):
  PI X (.Tuple es j tpos) (.Call (.Name "enumerate" p) [e1] [] pos) (be X.K te):=by
 intro y s z H R I h;refine iB^C1 I t v boot_enumerate ?_;refine iF ?_ g rfl;rw[g];refine kh^Aq (w y s z H _ I h) λu b #[x,H1,f,A,i,a,k,ex,B,q]=>k8 ?_;subst ex;cases A;let#[F,C,l]:=B.at f;have m:a<b.heap.objs.size:=by let#[o,e]:=l.lies;exact TW e
 refine JM l λG n D E=>?_;refine wpAny_pyIter_enum n ?_;refine#[b.heap.objs.size+1,[b.heap.objs.size+1,b.heap.objs.size],_,aA X.K i a k,H1,rfl,f.kept (t':=b.toks) E,P4 i _ _ a k (by show(_:Nat)≠(_:Nat);lk) (gB^iO m)^gB m,#[#[_,n],D],λc r=>?_,q]
 have d:b.heap.objs.size<=c:=by
  simp only[Tk,gO,or_false]at r
  rcases r with rfl|rfl
  .exact hZ _
  .exact Rs _
 exact f.fpOk d^f.hok.fresh d
end
end L2
namespace Dp
open L2
def Bw:Nat->r_ D->r_ D
 |_,[]=>[]
 |k,x::r=>.tup [.int (k:Int),x]::Bw (k+1) r
theorem EW:∀(k:Nat) (a:r_ D),(Bw k a).length=a.length
 |_,[]=>rfl
 |k,x::r=>by show(Bw (k+1) r).length+1=r.length+1;rw[EW (k+1) r]
theorem GF:∀(k:Nat) (a:r_ D) (i:Nat),(Bw k a)[i]?=(a[i]?).map λx=>.tup [.int ((k+i:Nat):Int),x]
 |_,[],i=>by simp[Bw]
 |k,x::r,0=>rfl
 |k,x::r,i+1=>by
  show(Bw (k+1) r)[i]?=(r[i]?).map _;rw[GF (k+1) r i,show k+1+i=k+(i+1) by lk]
section
variable {K:Frag}
def MW{M:Ch->Prop}{H:Hp}{κ:Bool}{a:Ch}{c:r_ V}{e:r_ D}(m:Ats K M H e c){i:Nat}{j:Ch->Prop}{b:Hp}(r:Pres M H j b)(h1:SqK κ K b a c)(k:∀a,j a->∃o,b a=P3 o):
  (∀d,(Bw 0 e)[i]?=P3 d->(aA K κ a c).go i b/\∀x g,(aA K κ a c).yld i b x g->Grow b g/\At K j g d x)/\((Bw 0 e).length<=i->(aA K κ a c).stop i b):=by
 have w:=m.length;refine#[λd f=>?_,λs=>#[h1,by rw[EW]at s;lk]];rw[GF,Nat.zero_add]at f;cases h:e[i]? with
 |none=>rw[h]at f;cases f
 |some t=>
  rw[h]at f;have l:D.tup [.int (i:Int),t]=d:=XV f;have z:i<e.length:=(Uf.mp h).1;refine#[#[h1,by lk],λx g y=>?_];let#[T,p,rfl,n,rfl,u]:=y;let#[A,q,v]:=(m.pres r).get h;rw[u]at q;cases q;subst l;exact#[AU n,Cd k n #[.int (i:Int),[p],rfl,rfl,p,[],rfl,v,rfl]]
end
end Dp
namespace L2
end L2
namespace Dp
open L2
end Dp
namespace Nt
open L2 Dp
end Nt
namespace Dp
open L2
section
variable {X:Cx}{pos:Pos}
def Xz:DW:=λn _ P=>P (.dic [] []) n
def UE:DE X (.Dict [] [] pos) .fr Xz:=by
 refine#[_,Hg,λC M H n b c P Q R w q=>λp a=>?_];have g:Grow H^AY H p^.dK []:=AU a;exact q _ _ (.dic [] []) n g.ext (R.feed.grow g) #[p,rfl,a,[],AH,rfl,rfl] w
end
end Dp
namespace L2
end L2
namespace Dp
open L2
section
variable {a:Expr}
mutual
theorem At.frz{K:Frag}{M:Ch->Prop}{H:Hp}{a:Ch}{f:Ch->Obj}{kvs:r_ (Key×V)}(ha:H a=P3^.dK kvs):∀{d:D}{v:V},Ek d=p_->At K M H d v->At K M (E5 H [a] f) d v
 |.non,v,_,h=>h
 |.bl b,v,_,h=>h
 |.int i,v,_,h=>h
 |.str x,v,_,h=>h
 |.tup ds,v,hn,h=>by
  let#[b,vs,e,n2,hs]:=h;refine#[b,vs,e,?_,Ats.frz ha hn hs];unfold NdT at n2 ⊢;rw[DR λz=>by rw[Re.mp z,ha]at n2;cases n2];exact n2
 |.lst ds,v,hn,h=>by
  let#[b,vs,e,#[n1,n2],hs]:=h;refine#[b,vs,e,#[n1,?_],Ats.frz ha hn hs];rw[DR λz=>by rw[Re.mp z,ha]at n2;cases n2];exact n2
 |.dic _ _,v,hn,h=>by cases hn
 |.fdi _ _,v,hn,h=>by cases hn
 |.dit _ _,v,hn,h=>by cases hn
 |.ob _,v,hn,h=>by cases hn
theorem Ats.frz{K:Frag}{M:Ch->Prop}{H:Hp}{a:Ch}{f:Ch->Obj}{kvs:r_ (Key×V)}(ha:H a=P3^.dK kvs):∀{ds:r_ D}{vs:r_ V},Cz ds=p_->Ats K M H ds vs->Ats K M (E5 H [a] f) ds vs
 |[],vs,_,h=>h
 |d::ds,vs,hn,h=>by
  let#[v,r,e,h1,h2]:=h;have hn:(Ek d&&Cz ds)=p_:=hn;rw[gS]at hn;exact#[v,r,e,At.frz ha hn.1 h1,Ats.frz ha hn.2 h2]
end
end
def Bo:r_^r_ Key->r_ D->r_ Key->s_ D
 |a::b,d::c,k=>if a=k then P3 d else Bo b c k
 |_,_,_=>o_
def MP:r_ D->s_^r_ Key
 |[]=>P3 []
 |d::a=>match keyOf d,MP a with
  |some k,P3 b=>P3 (k::b)
  |_,_=>o_
def keysOf:D->s_^r_ Key
 |.tup a=>MP a
 |_=>o_
section
variable {K:Frag}{X:Cx}
theorem HN{M:Ch->Prop}{H:Hp}{k:r_ Key}:∀{ks:r_^r_ Key}{c:r_ D}{a:r_ V},Ats K M H c a->
  match Bo ks c k with
  |some z=>∃v,B8 (ks.zip a) k=P3 v/\At K M H z v
  |none=>B8 (ks.zip a) k=o_
 |[],c,a,h=>by unfold Bo;exact rfl
 |b::ks,[],a,h=>by cases h;exact rfl
 | b::ks,d::c,a,h=>by
  let#[v,r,rfl,f,g]:=h;have i:=HN (k:=k) (ks:=ks) g;unfold Bo
  by_cases e:b=k
  .rw[if_pos e]
   refine#[v,?_,f];show B8 ((b,v)::ks.zip r) k=P3 v;rw[C_ e]
  .rw[if_neg e]
   have:B8 ((b,v)::ks.zip r) k=B8 (ks.zip r) k:=DA e
   rw[show(b::ks).zip (v::r)=(b,v)::ks.zip r from rfl,this];exact i
def TF{M:Ch->Prop}{H:Hp}{d:D}{v:V}{k:Key}(e:keyOf d=P3 k)(h:At K M H d v):v=kV k:=by
 cases d with
 |int i=>cases e;exact h
 |str x=>cases e;exact h.1
 |_=>cases e
theorem MO{M:Ch->Prop}{H:Hp}:∀{a:r_ D}{b:r_ V}{c:r_ Key},MP a=P3 c->Ats K M H a b->b=c.map kV
 |[],b,c,e,h=>by cases e;exact h
 | d::a,b,c,e,h=>by
  let#[v,r,rfl,i,j]:=h;unfold MP at e;cases f:keyOf d with
  |none=>rw[f]at e;cases e
  | some k=>
   cases g:MP a with
   |none=>rw[f,g]at e;cases e
   |some l=>
    rw[f,g]at e;cases e;rw[MO g j,TF f i];rfl
def EU{U M:Ch->Prop}{H:Hp}{d:D}{v:V}{k:r_ Key}(e:keysOf d=P3 k)(h:AtT K U M H d v):∃b,v=.ref b/\H b=P3^.tup^k.map kV:=by
 cases d with
 |tup g=>
  let#[a,i,rfl,c,f]:=h.tup;exists a,rfl;rw[←MO e f];exact c
 |_=>cases e
def GG{U M:Ch->Prop}{H:Hp}{x:V}{c:r_^r_ Key}{d:r_ D}(h:AtT K U M H (.dit c d) x):∃a b,x=.ref a/\Rd H a^.dT^c.zip b/\Ats K M H d b:=by
 let#[a,b,rfl,_,e,_,f]:=h;exact#[a,b,rfl,.inl e,f]
def PY{H:Hp}{a b:Ch}{c:r_ (r_ Key×V)}{k:r_ Key}(e:Rd H a^.dT c)(eb:H b=P3^.tup^k.map kV):DGet H a (.ref b)^B8 c k:=.inr #[c,k,b,e,rfl,eb,rfl]
def eJ(a:Bool)(e d:D)(P:D->Prop):Prop:=∃b c k,d=.dit b c/\keysOf e=P3 k/\P^.bl (if a then !(Bo b c k).isSome else(Bo b c k).isSome)
def XD(d e:D)(P:D->Prop):Prop:=∃a b k z,d=.dit a b/\keysOf e=P3 k/\Bo a b k=P3 z/\P z
def cJ:C6 K .sh YV^eJ q_:=λU M H e d y x P Q g s i j w q=>by
 let#[ks,l,k,rfl,m,w]:=w;let#[a,f,rfl,n,o]:=GG j;let#[b,rfl,p]:=EU m i;refine#[a,B8 (ks.zip f) k,rfl,PY n p,q _ H (.bl _) .refl rfl ?_];have h:=HN (k:=k) (ks:=ks) o;cases c:Bo ks l k with
 |none=>rw[c]at h w;rw[show B8 (ks.zip f) k=o_ from h];exact w
 |some z=>rw[c]at h w;let#[v,r,_]:=h;rw[r];exact w
def Zi:C6 K .sh R8 XD:=λU M H d e x y P Q c r f g w q=>by
 let#[ks,s,k,z,rfl,i,j,w]:=w;let#[a,t,rfl,l,m]:=GG f;let#[b,rfl,n]:=EU i g;have h:=HN (k:=k) (ks:=ks) m;rw[j]at h;let#[v,o,p]:=h;exact#[a,v,rfl,by rw[←o];exact PY l n,q v H z .refl p w]
variable {a b:Expr}{zV zS:Kd}{wa wb:DW}{pos:Pos}
def Vu{k:Nat}(g:Room k X.A)(h:DE X a zV wa)(i:DE X b zS wb)(j:WR b:=by intro _ _;rfl):DE X (.Subscript a b pos) .sh^BI XD wa wb:=by
 let#[l,c,d]:=h;let#[m,e,f]:=i;exact#[C8 R8 l m,G2 (ID g) c e j,λC M H n o p P Q R w q=>Du Zi d f C M H n o p P Q R w q]
end
def Gc(a:r_^r_ Key)(k:r_ Key):Bool:=a.any λb=>decide (b=k)
def hasK_iffU{a:r_^r_ Key}{k:r_ Key}:Gc a k=p_↔k∈a:=by
 unfold Gc;rw[jQ];exact#[fun#[x,hx,e]=>by rw[←of_decide_eq_true e];exact hx,λh=>#[k,h,decide_eq_true rfl]]
def Cv(a:r_^r_ Key)(k:r_ Key):r_^r_ Key:=if Gc a k=p_ then a else a++[k]
def Bg{a:Type}(b:r_^r_ Key)(c:r_ a)(k:r_ Key)(d:a):r_ a:=if Gc b k=p_ then i6 (λe f=>if e=k then d else f) b c else c++[d]
def UP{c:r_^r_ Key}{d:r_ V}(j:c.length=d.length)(k:r_ Key):((c.zip d).any λf=>decide (f.1=k))=Gc c k:=by
 rw[gi,jQ,hasK_iffU];constructor
 .rintro⟨⟨a,b⟩,g,e⟩
  have e:a=k:=of_decide_eq_true e;rw[←e];exact(kY g).1
 .intro h
  let#[i,l,e]:=kQ.mp h;refine#[(c[i],d[i]'(by lk)),?_,by rw[e];exact decide_eq_true rfl];exact kQ.mpr #[i,by rw[i4];lk,by rw[List.getElem_zip]]
def QE{c:r_^r_ Key}{d:r_ V}(f:c.length=d.length)(k:r_ Key)(v:V):putK (c.zip d) k v=(Cv c k).zip^Bg c d k v:=by
 unfold putK Cv Bg;rw[UP f]
 by_cases h:Gc c k=p_
 .rw [if_pos h,if_pos h,if_pos h]
  have go:∀(c:r_^r_ Key) (d:r_ V),((c.zip d).map λe=>if e.1=k then(e.1,v)else e)=c.zip^i6 (λg i=>if g=k then v else i) c d:=by
   intro c
   induction c with
   |nil=>intro d;rfl
   | cons a c j=>
    intro d;cases d with
    |nil=>rfl
    |cons b d=>
     show(if a=k then(a,v)else(a,b))::_=(a,if a=k then v else b)::_;exact List.cons_eq_cons.mpr #[by split <;>rfl,j d]
  exact go c d
 .rw[if_neg h,if_neg h,if_neg h,List.zip_append f]
  rfl
theorem Ats.putU{K:Frag}{M:Ch->Prop}{H:Hp}{k:r_ Key}{d:D}{v:V}(l:At K M H d v):∀{c:r_^r_ Key}{f:r_ D}{b:r_ V},Ats K M H f b->Ats K M H (i6 (λi j=>if i=k then d else j) c f)^i6 (λi j=>if i=k then v else j) c b
 |[],f,b,h=>rfl
 |a::c,[],b,h=>by cases(show b=[]from h);rfl
 |a::c,e::f,b,h=>by
  let#[u,r,rfl,m,n]:=h;refine#[_,_,rfl,?_,Ats.putU l n];show At K M H (if a=k then d else e) (if a=k then v else u)
  by_cases g:a=k
  .rw[if_pos g,if_pos g];exact l
  .rw[if_neg g,if_neg g];exact m
def Ats.putXU{K:Frag}{M:Ch->Prop}{H:Hp}{k:r_ Key}{d:D}{v:V}{a:r_^r_ Key}{b:r_ D}{c:r_ V}(e:At K M H d v)(h:Ats K M H b c):Ats K M H (Bg a b k d)^Bg a c k v:=by
 unfold Bg
 split
 .exact Ats.putU e h
 .exact h.append^Ats.one e
def SE{c:Type}{a:r_^r_ Key}{b:r_ c}{k:r_ Key}{d:c}(e:a.length=b.length):(Cv a k).length=(Bg a b k d).length:=by
 unfold Cv Bg
 split
 .rw[List.length_zipWith];lk
 .rw[gD,gD];show a.length+1=b.length+1;lk
section
variable {X:Cx}{pos:Pos}
def RH:DW:=λn _ P=>P (.dit [] []) n
def UB:DE X (.Dict [] [] pos) .fr RH:=by
 refine#[_,Sb,λC M H n b c P Q R w q=>λp a=>?_];have g:Grow H^AY H p^.dT []:=AU a;exact q _ _ (.dit [] []) n g.ext (R.feed.grow g) #[p,rfl,a,[],AH,rfl,rfl] w
end
end Dp
namespace L2
def DRaw(h:gA)(a:Ch)(b:Array jz)(c:Nat):Prop:=∃o,h.get? a=P3 o/\o.ExactDict/\o.data=.dict b c
section
variable {P:Program}{w:World}{A:Around}{E:Value->Shared->Prop}{s:Shared}{d t:Addr}{es:Array DictEntry}{ep i:Nat}
def DRaw.ty(x:DRaw s.heap d es ep):s.TypeIs (.ref d) "dict":=let #[o,a,b,_]:=x;#[o,a,b.1]
def DRaw.lt{h:gA}(x:DRaw h d es ep):d<h.objs.size:=let #[_,a,_]:=x;TW a
def DRaw.to{h a:gA}(x:DRaw h d es ep)(k:∀o,h.get? d=P3 o->a.get? d=P3 o):DRaw a d es ep:=let #[o,b,c]:=x;#[o,k o b,c]
def Ru{Q:Db->No->Prop}(lo:(d==sysModules)=q_)(x:DRaw s.heap d es ep)
  (q:Q (.ref s.heap.objs.size) {s with heap:=s.heap.push {cls:=.type "dict_keyiterator",data:=.fields #[ .ref d,.int 0 0,.int es.size 0,.int ep 0]}}):wpAny (model P w) A (pyIter^.ref d) Q E s:=by
 have T:=x.ty;let#[o,b,e,c]:=x;refine wpAny_pyIter_slot T F.slot_dict_iter^iV F.slot_dict_iter T F.entry_dict_iter ?_^F.args_dict_iter_1 _;unfold iq.«dict.__iter__»;refine Cn ?_
 unfold Builtin.Dict.dictSlotNone;refine Cn^lS T ?_
 show wpAny (model P w) _ (pure^ZB d) _ _ s;refine On ?_
 show wpAny (model P w) _ (lT d >>=_) _ _ s;unfold lT
 rw[if_neg^by rw[lo];decide];refine Cn^On^Cn^iz b c^Cn^l7 b c ?_
 refine Cn^iH^On #[_,rfl,"dict_keyiterator",_,#[_,Sc _ rfl,rfl],iw.lookup,?_];simpa [rawInt]using q
def Rv{Q:s_ Db->No->Prop}(x:s.heap.IsKeyIter t d i es.size ep)(y:DRaw s.heap d es ep)(hi:i<es.size)
  (q:∀e,e.IsKeyIter t d (i+1) es.size ep->jB t s.heap e->Q (P3 es[i].key) {s with heap:=e}):wpAny (model P w) A (pyNext^.ref t) Q E s:=by
 have T:=x.typeIs;let#[o,f,k,c]:=x;let#[m,g,n,h]:=y;unfold pyNext;refine Cn^jv^h_ (name:=g_ "__next__") T iw^iV iw T l9 ?_^l8 _
 refine Cn^On^Cn^Cn ?_
 first|refine Cn^jJ T^On ?_|refine Cn^jq T^On ?_
 refine Cn^wpAny_fieldsOf f c ?_;have ow:mF "dict_keyiterator"=q_:=by cbv
 simp only[ow,gs,if_false];show wpAny (model P w) _ (if(ZB d==gW)=p_ then _ else _) _ _ s;rw[if_neg (show ¬(ZB d==gW)=p_ by intro z;cases z)];refine Cn^On^Cn^iz g h ?_
 rw[if_neg^by simp];refine Cn^On^Cn^l7 g h ?_
 rw[if_neg^by simp];refine On ?_
 simp only[show ¬(i:Int)<0 by lk,if_false,jF,i_ hi];refine Cn ?_
 first|refine Cn^jJ T^On ?_|refine Cn^jq T^On ?_
 refine Cn^wpAny_isOneOf_keyiter T ?_;show wpAny (model P w) _ (setField (.ref t) 1^rawInt ((i:Int)+1) >>=_) _ _ s
 refine Cn^jm f c (by simp) ?_;have j:(s.heap.update t (i7 (·.setIfInBounds 1^rawInt ((i:Int)+1)))).IsKeyIter t d (i+1) es.size ep:=#[_,g8 _ f^lQ^jV c _,(Obj.cls_mapFields ..).trans k,by rw[jV c];simp[rawInt]];refine Cn (gw (Cn (wpAny_isOneOf_keyiter (s:={s with heap:=s.heap.update t (i7 (·.setIfInBounds 1^rawInt ((i:Int)+1)))}) j.typeIs ?_)));show wpAny (model P w) _ (pure es[i].key) _ _ _;exact On^On #[_,rfl,On^q _ j (jN ..)]
def U6{Q:s_ Db->No->Prop}(k:A.handled=o_)(x:s.heap.IsKeyIter t d i es.size ep)(y:DRaw s.heap d es ep)(hi:es.size<=i)
  (q:∀e,nP t s.heap e->Q o_ {s with heap:=e}):wpAny (model P w) A (pyNext^.ref t) Q E s:=by
 have T:=x.typeIs;let#[o,f,l,g]:=x;let#[n,h,p,j]:=y;unfold pyNext;refine Cn^jv^h_ (name:=g_ "__next__") T iw^iV iw T l9 ?_^l8 _
 refine Cn^On^Cn^Cn ?_
 first|refine Cn^jJ T^On ?_|refine Cn^jq T^On ?_
 refine Cn^wpAny_fieldsOf f g ?_;have ow:mF "dict_keyiterator"=q_:=by cbv
 simp only[ow,gs,if_false];show wpAny (model P w) _ (if(ZB d==gW)=p_ then _ else _) _ _ s;rw[if_neg (show ¬(ZB d==gW)=p_ by intro z;cases z)];refine Cn^On^Cn^iz h j ?_
 rw[if_neg^by simp];refine Cn^On^Cn^l7 h j ?_
 rw[if_neg^by simp];refine On ?_
 simp only[show ¬(i:Int)<0 by lk,if_false,jF,nR hi];refine Cn ?_
 first|refine Cn^jJ T^On ?_|refine Cn^jq T^On ?_
 show wpAny (model P w) _ (setField (.ref t) 0 .none >>=_) _ _ s;refine Cn^jm f g (by simp) ?_
 show wpAny (model P w) _ (newExc (.type "StopIteration") [] >>=_) _ _ _;refine Cn ?_
 simp only[newExc,newTuple];refine Cn^iH ?_^by size_fits
 refine Cn (m:=firstArgMember _ _) (mH (a:=gW) (by first|rfl|(simp only[firstArgMember];rfl))^iH ?_^by size_fits);simp only[raiseNew];refine Cn^wpAny_handled ?_
 rw[show A.in1.handled=o_ from k];refine Cn^On^wpAny_throw ?_;refine Cn^lJ (T:="StopIteration") (b:=p_) #[_,Sc _ rfl,rfl] isSubtype_stop ?_
 exact On^q _^((jN ..).extBut.push _).push _
def QD(p:A.handled=o_)(I d:Ch)(g:d≠I)(es:Array jz)(ep:Nat):Walks P w A I [I,d] [I] es.size (λi v=>∃e,es[i]?=P3 e/\v=e.key) (λi h=>h.IsKeyIter I d i es.size ep/\DRaw h d es ep) where
 sub:=λb c=>by rw[Re.mp c];exact Op
 frame:=λ_ _ _ a l=>#[a.1.at λo e=>l I (by simp) o e,a.2.to λo e=>l d (by simp) o e]
 item:=λi s Q E m a f=>Rv a.1 a.2 m λj k n=>f _ j s.toks #[_,i_ m,rfl] #[k,a.2.to λo e=>n.extBut d o g e] λb o c e=>n.extBut b o (λh=>c^by simp[h]) e
 done:=λs Q E a f=>U6 p a.1 a.2 (Rs _) λj q=>f j s.toks λb o c e=>q b o (λh=>c^by simp[h]) e
 self:=λ_ _ _ _ a f=>wpAny_pyIter_keyiter a.1 f
def OZ(lo:(d==sysModules)=q_):PySem.W.KdlSrc P w "dict" d d es.size (λi v=>∃e,es[i]?=P3 e/\v=e.key) (λh=>DRaw h d es ep) where
 type:=λ_ x=>x.ty
 there:=λ_ x=>#[x.lt,x.lt]
 keep:=λ_ _ x k=>x.to λo e=>k d (.inl rfl) o e
 notList:=by cbv
 notTuple:=by cbv
 hint:=λ_ _ _ _ x q=>PySem.W.kdl_hint_dict x.ty q
 iter:=λ_ _ a x=>#[_,_,(λ_ _ q=>Ru lo x q),QD a _ d (gB x.lt) es ep,#[#[_,Sc _ rfl,rfl,rfl],x.to λo e=>FM _ e]]
end
open PySem.W
def O_(k:Key):kOf k=kV k:=by cases k <;>rfl
def VZ(a:r_ Key):a.map kOf=a.map kV:=iN λk _=>O_ k
section
variable {X:Cx}
def G9{P:gC}{w:gJ}{H:Hp}{h:gA}{d:Ch}{b:r_ (r_ Key×V)}(ok:HOk P w H h)(y:Rd H d^.dT b):
  ∃(o:Obj) (c:Array jz) (f:Nat) (g:r_ Ch),h.get? d=P3 o/\o.ExactDict/\o.data=.dict c f/\g.length=b.length/\c.size=b.length /\
   (∀(i:Nat) (e:jz),c[i]?=P3 e->∃a,g[i]?=P3 a/\e.key=.ref a)/\∀(i:Nat) (a:Ch) (p:r_ Key×V),g[i]?=P3 a->b[i]?=P3 p->H a=P3^.tup^p.1.map kV:=by
 let#[_,_,j,r,o,c,f,z,A,B,s,D,E]:=EG ok y
 have t:b.length=j.length:=by
  have:∀{l:r_ (r_ Key×V)}{m:r_ (r_ Key×Ch×Db)},KT H l m->l.length=m.length:=λq=>q.length
  exact this r
 have k:c.size=j.length:=by rw[←gl,s,Ev]
 refine#[o,c,f,j.map λx=>x.2.1,z,A,B,by rw[Ev,t],by rw[k,t],λi e u=>?_,λi a p v C=>?_]
 .rw[←kI,s,UF]at u
  let#[x,n,rfl]:=gY.mp u;exact#[x.2.1,by rw[UF,n];rfl,rfl]
 .rw[UF]at v
  let#[x,n,rfl]:=gY.mp v
  have:=Hj r C n
  exact this.2.1
def Rz:r_ V->Hp->VK->Prop:=λf H Q=>∃(d:Ch) (b:r_ (r_ Key×V)),f=[.ref d]/\Rd H d^.dT b/\b.length<64/\(∀x∈b.map (·.1),∀y∈b.map (·.1),A_ x y=p_)/\(∀x∈b.map (·.1),x≠[]) /\
 ∀(c:r_ Ch) (e:r_ Nat) (l:Ch),c.length=b.length->(∀(i:Nat) (a:Ch) (p:r_ Key×V),c[i]?=P3 a->b[i]?=P3 p->H a=P3^.tup^p.1.map kV)->Gk (b.map (·.1)) e->H l=o_->
  Q (.ref l) (AY H l^.lst^e.map λi=>(c.map V.ref).getD i .non)
def IT(E:X.calm=p_):CallR X (.builtin "sorted") Rz:=by
 intro F s G H xs us Q I r h;let#[d,j,rfl,y,J,k,m,q]:=h;let#[u,rfl,K]:=vals1 r;cases K;let#[o,es,ep,f,L,M,N,n,g5,O,z]:=G9 I.hok y;have R:=(EG I.hok y).2.1;refine CL (kw:=[]) (args_sorted1 _) (λx=>args_list_sort _)^PySem.W.kdu_collect (OZ (P:=X.prog) (w:=X.w) (es:=es) (ep:=ep) R) (show X.A.in1.handled=o_ from by simp[I.ok.hd E]) #[o,L,M,N] (by rw[gn];lk) λS B c t b=>#[by rw[gl,b.1,gn];lk,?_];have T:Inv X F G H {s with heap:=S,toks:=B}:=I.kept (t':=B) t
 have U:c.toList=f.map ZB:=by
  refine me λi=>?_;cases C:c.toList[i]? with
  |some v=>
   let#[e,V,rfl]:=b.2 i v (by rw[←kI];exact C);let#[a,Y,Z]:=O i e V;rw[UF,Y,Z];rfl
  |none=>
   have:c.toList.length<=i:=mq.mp C
   rw[gl,b.1]at this;rw[kL^by rw[Ev];lk]
 rw[U];refine Jc T (Fx f) (by rw[Ev];lk) (keys:=j.map (·.1)) #[by rw[Ev,Ev];exact n,λi ns e=>?_,k,m] λix l ho hl=>q f ix l n z ho hl;rw[UF]at e;let#[p,D,rfl]:=gY.mp e;have g:i<f.length:=by rw[n];exact(Uf.mp D).1
 refine#[f[i],by rw[UF,Go g];rfl,?_];rw[VZ];exact SqT.of^z i _ p (Go g) D
end
end L2
namespace Dp
open L2
def tupK(k:r_ Key):D:=.tup^k.map XW
theorem MN{K:Frag}{M:Ch->Prop}{H:Hp}:∀{k:r_ Key},(∀x∈k,Dk x)->Ats K M H (k.map XW)^k.map kV
 |[],_=>rfl
 |x::k,h=>#[kV x,k.map kV,rfl,by rw[←O_];exact UI^h x Op,MN λy a=>h y^T0 _ a]
theorem HQ{K:Frag}{M:Ch->Prop}{H:Hp}:∀{b:r_^r_ Key}{c:r_ Ch},c.length=b.length->(∀k∈b,∀x∈k,Dk x)->(∀(i:Nat) (a:Ch) (k:r_ Key),c[i]?=P3 a->b[i]?=P3 k->H a=P3^.tup^k.map kV)->Ats K M H (b.map tupK)^c.map V.ref
 |[],[],_,_,_=>rfl
 |k::b,a::c,e,d,h=>#[.ref a,c.map V.ref,rfl,#[a,k.map kV,rfl,h 0 a k rfl rfl,MN^d k Op],HQ (by simpa using e) (λk f=>d k^T0 _ f) λi g j l m=>h (i+1) g j (by simpa using l)^by simpa using m]
section
variable {X:Cx}
def ZK(f:r_ D)(P:D->Prop):Prop:=∃(c:r_^r_ Key) (e:r_ D),f=[.dit c e]/\c.length=e.length/\c.length<64/\(∀x∈c,∀y∈c,A_ x y=p_)/\(∀x∈c,x≠[])/\(∀k∈c,∀x∈k,Dk x) /\
 ∀d:r_^r_ Key,d.Perm c->d.Pairwise (λa b=>BJ b a=q_)->P^.lst^d.map tupK
def Si{c:r_^r_ Key}{d:r_ Nat}(h:Gk c d):(d.map λi=>c.getD i []).Perm c/\(d.map λi=>c.getD i []).Pairwise (λa b=>BJ b a=q_):=by
 let#[f,g]:=h;have o:d.length=c.length:=by rw[f.length_eq,jH]
 constructor
 .have:=f.map λi=>c.getD i []
  have e:(gf c.length).map (λi=>c.getD i [])=c:=by
   apply lO
   .simp
   .intro i f g
    simp[g]
  rw[e]at this;exact this
 .rw[ji]
  intro i j m n k;rw[Ev]at m n
  have:=g i j (lX k)^by lk
  rw[kP,kP];rw[gF (l:=d),Go n,gF (l:=d),Go m]at this;exact this
def Pl:Bc X.K .fr Rz ZK:=by
 intro U M H O R P Q t S u w q;let#[c,T,rfl,W,x,e,f,y,w]:=w;let#[v,rfl,z]:=Bk u;let#[a,g,rfl,A,B]:=GG z;have C:=B.length;have h:(c.zip g).map (·.1)=c:=List.map_fst_zip (by lk);have j:(c.zip g).length=c.length:=by rw[i4];lk
 refine#[a,_,rfl,A,by lk,by rw[h];exact e,by rw[h];exact f,λD m l E n o d=>?_];rw[h]at o;let#[F,G]:=Si o
 have I:Ats X.K M H (c.map tupK)^D.map V.ref:=HQ (by lk) y λi b k J s=>by
  have p:i<(c.zip g).length:=by rw[j];exact(Uf.mp s).1
  have:=n i b _ J^Go p
  rw[List.getElem_zip]at this;let#[_,L]:=Uf.mp s;rw[L]at this;exact this
 have N:(m.map λi=>(c.map tupK).getD i .non)=(m.map λi=>c.getD i []).map tupK:=by
  rw[h7];refine iN λi p=>?_;have r:i<c.length:=io.mp^o.1.mem_iff.mp p;show(c.map tupK).getD i .non=tupK^c.getD i [];rw[gF,gF,UF,Go r];rfl
 have:=w _ F G
 rw[←N]at this;exact q _ _ (.lst _) (AU d) (BL d^I.pick m) this
end
end Dp
namespace L2
section
variable {prog:Program}{w:World}{A:Around}{E:Value->Shared->Prop}{s:Shared}{x y:Str}{t u:Tok}
def RN(x y:Str)(i:Nat):Str:=if i=0 then x else y
def OL{i:Nat}{v:Db}(h:(#[ jk x t,jk y u]:Array Db)[i]?=P3 v):∃k,v=.str (RN x y i) k:=by
 match i with
 |0=>exact#[t,(XV h).symm]
 |1=>exact#[u,(XV h).symm]
 |i+2=>simp at h
def Qx:CmpOf prog w A .Lt (λi v=>(#[ jk x t,jk y u]:Array Db)[i]?=P3 v) (λi j=>decide ((RN x y i).cps.toList<(RN x y j).cps.toList)):=λi j f g s Q E c d h=>by
 let#[a,rfl]:=OL c;let#[b,rfl]:=OL d;exact richCompare_gives (op:=.Lt) (jg s _ a) (jg s _ b) PySem.F.slot_str_lt PySem.F.entry_str_lt (PySem.F.args_str_lt_2 _ _) (gives_str_lt _ _ a b) (λe=>nomatch e) h
def Qy:CmpOf prog w A .Gt (λi v=>(#[ jk x t,jk y u]:Array Db)[i]?=P3 v) (λi j=>decide ((RN x y j).cps.toList<(RN x y i).cps.toList)):=λi j f g s Q E c d h=>by
 let#[a,rfl]:=OL c;let#[b,rfl]:=OL d;exact richCompare_gives (op:=.Gt) (jg s _ a) (jg s _ b) PySem.F.slot_str_gt PySem.F.entry_str_gt (PySem.F.args_str_gt_2 _ _) (gives_str_gt _ _ a b) (λe=>nomatch e) h
def RO{n c:Nat}(h:c∈[n+1,n]):c<n+1+1:=by
 simp only[Tk,gO,or_false]at h;lk
def Lj{a:Nat->Nat->Bool}{v:Db}(h:(#[ jk x t,jk y u]:Array Db)[argBest a 1]?=P3 v):v=if a 1 0=p_ then .str y u else .str x t:=by
 have e:argBest a 1=if a 1 0=p_ then 1 else 0:=rfl
 rw[e]at h;cases c:a 1 0 with
 |true=>rw[c]at h;exact(XV h).symm
 |false=>rw[c]at h;exact(XV h).symm
def QZ{Q:Db->No->Prop}(i:A.handled=o_)(h:∀a d,(∀c o,s.heap.get? c=P3 o->a.get? c=P3 o)->Q (if decide (y.cps.toList<x.cps.toList)=p_ then .str y u else .str x t) {s with heap:=a,toks:=d}):
  wpAny (model prog w) A (call (.builtin "min") [.str x t,.str y u]) Q E s:=by
 have f:(s.heap.push {cls:=.type "tuple",data:=.seq #[ .str x t,.str y u]}).IsTuple s.heap.objs.size #[ .str x t,.str y u]:=#[_,Sc _ rfl,rfl,0,rfl];refine call_min_two^iJ f ?_;have b:(s.heap.push {cls:=.type "tuple",data:=.seq #[ .str x t,.str y u]}).objs.size=s.heap.objs.size+1:=gz ..;refine#[_,[_,s.heap.objs.size],[_],_,_,_,_,rfl,Walks.tuple (A:=A.in1) i _ s.heap.objs.size (by rw[b];exact gB^jO _) #[ .str x t,.str y u],#[#[_,Sc _ rfl,rfl,rfl],f.push _],λc g=>?_,by simp,Qx,λv a d j k=>?_]
 .rw[gz,b];rw[b]at g;exact RO g
 .rw[Lj j]
  refine h a d λc o e=>k c o (λm=>?_)^FM _^FM _ e;have l:=TW e;rw[Re.mp m,b]at l;exact absurd l^j7.mpr^hZ _
def Qb{Q:Db->No->Prop}(i:A.handled=o_)(h:∀a d,(∀c o,s.heap.get? c=P3 o->a.get? c=P3 o)->Q (if decide (x.cps.toList<y.cps.toList)=p_ then .str y u else .str x t) {s with heap:=a,toks:=d}):
  wpAny (model prog w) A (call (.builtin "max") [.str x t,.str y u]) Q E s:=by
 have f:(s.heap.push {cls:=.type "tuple",data:=.seq #[ .str x t,.str y u]}).IsTuple s.heap.objs.size #[ .str x t,.str y u]:=#[_,Sc _ rfl,rfl,0,rfl];refine call_max_two^iJ f ?_;have b:(s.heap.push {cls:=.type "tuple",data:=.seq #[ .str x t,.str y u]}).objs.size=s.heap.objs.size+1:=gz ..;refine#[_,[_,s.heap.objs.size],[_],_,_,_,_,rfl,Walks.tuple (A:=A.in1) i _ s.heap.objs.size (by rw[b];exact gB^jO _) #[ .str x t,.str y u],#[#[_,Sc _ rfl,rfl,rfl],f.push _],λc g=>?_,by simp,Qy,λv a d j k=>?_]
 .rw[gz,b];rw[b]at g;exact RO g
 .rw[Lj j]
  refine h a d λc o e=>k c o (λm=>?_)^FM _^FM _ e;have l:=TW e;rw[Re.mp m,b]at l;exact absurd l^j7.mpr^hZ _
end
section
variable {X:Cx}
def Ww:r_ V->Hp->VK->Prop:=λa H Q=>∃x y:Str,a=[.str x,.str y]/\Q (.str (if decide (y.cps.toList<x.cps.toList)=p_ then y else x)) H
def Wy:r_ V->Hp->VK->Prop:=λa H Q=>∃x y:Str,a=[.str x,.str y]/\Q (.str (if decide (x.cps.toList<y.cps.toList)=p_ then y else x)) H
def GJ(a:X.calm=p_):CallR X (.builtin "min") Ww:=by
 intro b s c H d e Q I r h;let#[x,y,rfl,q]:=h;let#[u,f,rfl,#[t,rfl],#[g,rfl]]:=vals2 r;refine QZ (I.ok.hd a) λi j k=>#[_,H,I.kept k,?_,q];cases decide (y.cps.toList<x.cps.toList) <;>exact#[_,rfl]
def GK(a:X.calm=p_):CallR X (.builtin "max") Wy:=by
 intro b s c H d e Q I r h;let#[x,y,rfl,q]:=h;let#[u,f,rfl,#[t,rfl],#[g,rfl]]:=vals2 r;refine Qb (I.ok.hd a) λi j k=>#[_,H,I.kept k,?_,q];cases decide (x.cps.toList<y.cps.toList) <;>exact#[_,rfl]
end
end L2
namespace Dp
open L2
section
variable {K:Frag}
def XJ(a:r_ D)(P:D->Prop):Prop:=∃x y:Str,a=[.str x,.str y]/\P^.str (if decide (y.cps.toList<x.cps.toList)=p_ then y else x)
def XM(a:r_ D)(P:D->Prop):Prop:=∃x y:Str,a=[.str x,.str y]/\P^.str (if decide (x.cps.toList<y.cps.toList)=p_ then y else x)
def Li{U M:Ch->Prop}{H:Hp}{x y:Str}{a:r_ V}(b:Paired (λv d=>AtT K U M H d v) a [.str x,.str y]):a=[.str x,.str y]/\x.length<=sizeLine/\y.length<=sizeLine:=by
 cases b with
 | cons c e=>cases e with
  |cons f g=>
   cases g;let#[rfl,h]:=c.str;let#[rfl,i]:=f.str;exact#[rfl,h,i]
def OC:Bc K .sh Ww XJ:=by
 intro U M H c d P Q a f b w q;let#[x,y,rfl,w]:=w;let#[e,g,h]:=Li b;exact#[x,y,e,q _ H (.str _) .refl #[rfl,by split <;>assumption] w]
def OD:Bc K .sh Wy XM:=by
 intro U M H c d P Q a f b w q;let#[x,y,rfl,w]:=w;let#[e,g,h]:=Li b;exact#[x,y,e,q _ H (.str _) .refl #[rfl,by split <;>assumption] w]
end
end Dp
namespace L2
open PySem.W
end L2
namespace Dp
open L2
end Dp
namespace L2
open PySem.W
end L2
namespace Dp
open L2
section
variable {K:Frag}
def bp(d:D)(lo hi:s_ Int)(P:D->Prop):Prop:=match d with
 |.lst a=>P^.lst^cutD a lo hi
 |_=>False
def cL:e7 K .fr (YO K) bp:=by
 intro U M H d x c e P Q f k g w q;unfold bp at w
 split at w
 .let#[a,h,rfl,_,i,j]:=g
  exact#[a,h,rfl,.inl i,λp b=>q _ _ (.lst _) (AU b) (BL b^LK c e j) w]
 .exact w.elim
end
end Dp
namespace Nt
open L2 Dp
def words26:r_ Str:=["a","aa","ab","abc","b","ba","bb","c","come","d","far","in","lay","m","n","near","out","place","q","r","tie","tree","x","xy","y","zzzzzzzz"]
def LW:W2:=λa n P=>a=[]/\P (.lst^words26.map .str) n
def Ud:W2:=λb n P=>∃m:Nat,b=[.fd,.sh^.int m]/\m<=26/\2<=n.n/\∀a:r_ Str,a.length=m->(∀x∈a,Bm x)->rising a->P (.tup^a.map .str) (n - 2)
def CI(i:Nat):Str:=words26.getD i "a"
def HK:∀i,i<26->Bm^CI i:=by
 have h:∀i∈gf 26,1<=(CI i).length/\(CI i).length<=8/\∀c∈cs^CI i,97<=c/\c<=122:=by decide +kernel
 exact λi a=>h i^io.mpr a
def P0:∀i j,i<26->j<26->CI i=CI j->i=j:=by
 have h:∀i∈gf 26,∀j∈gf 26,cs^CI i=cs^CI j->i=j:=by decide +kernel
 exact λi j a b e=>h i (io.mpr a) j (io.mpr b)^congrArg cs e
def Lc(i:Nat)(h:i<26):(words26.map D.str)[i]?=P3^.str^CI i:=by
 have a:i<words26.length:=h;unfold CI;rw[UF,gF,Go a];rfl
section
def NS(f s:Nat):D->D
 |.int k=>.str^CI ((f+s*k.toNat) % 26)
 |_=>.non
def L6(f s k:Nat):NS f s^.int (0+(k:Int))=.str^CI ((f+s*k) % 26):=by
 show D.str^CI ((f+s*(0+(k:Int)).toNat) % 26)=_;rw[show(0+(k:Int)).toNat=k by lk]
structure f9 (xs:List Str) (ks:List^List Key) (ds:List D):Prop where
 len:ks.length=ds.length
 nd:ks.Nodup
 key:∀k∈ks,∃a b:Str,k=[.inr a,.inr b]/\a∈xs/\b∈xs/\cs a<cs b
 val:∀d∈ds,∃l:Int,d=.int l/\1<=l/\l<=1000000
end
end Nt
namespace Dp
open L2
def Xs:AX:=λ_ _ _=>False
section
variable {X:Cx}{κ:Kd}{st:Stmt}
def Tv:DS X κ st Xs:=#[_,λ_ _ _ _ _ _ h=>h.elim,λ_ _ _ _ _ _ _ _ _ _ w=>w]
end
end Dp
namespace Nt
open Dp
end Nt
namespace L2
def Fv:HO->Prop
 |.lst _=>True
 |.dT _=>True
 |.dK _=>True
 |_=>False
def View(H a:Hp):Prop:=∀b,a b=H b\/∃u,Fv u/\(H b=P3^.vol u/\a b=P3 u\/H b=P3 u/\a b=P3^.vol u)
section
variable {P:Program}{w:World}{H H' H1:Hp}{h h':Heap}
def View.to(v:View H H'){b:Ch}{o:HO}(e:H b=P3 o)(k:¬Fv o)(n:∀u,o≠.vol u):H' b=P3 o:=by
 rcases v b with q|⟨u,c,⟨q,_⟩|⟨q,_⟩⟩
 .rw[q];exact e
 .rw[e]at q;exact absurd (XV q)^n u
 .rw[e]at q;rw[XV q]at k;exact absurd c k
def View.none(v:View H H'){b:Ch}:H' b=o_↔H b=o_:=by
 rcases v b with q|⟨u,c,⟨q,r⟩|⟨q,r⟩⟩
 .rw[q]
 .rw[q,r];exact#[(λz=>by cases z),λz=>by cases z]
 .rw[q,r];exact#[(λz=>by cases z),λz=>by cases z]
def View.tup(v:View H H')(b:Ch)(a:r_ V)(e:H b=P3^.tup a):H' b=P3^.tup a:=v.to e (λz=>z) λu z=>by cases z
def View.own(v:View H H')(b x:Ch)(e:H b=P3^.own x):H' b=P3^.own x:=v.to e (λz=>z) λu z=>by cases z
def View.hok(v:View H H')(x:HOk P w H h):HOk P w H' h:=λa o e=>by
 have d:∀o,ObjOk P w H h a o->ObjOk P w H' h a o:=λo z=>z.stay (λ_ _ _ q=>q) (λb q=>v.own b a q) λb f q=>v.tup b f q
 rcases v a with q|⟨u,c,⟨q,r⟩|⟨q,r⟩⟩
 .exact d o^x a o^by rw[←q];exact e
 .have z:=XV^r.symm.trans e
  subst z;exact d u (show ObjOk P w H h a^.vol u from x a _ q)
 .have z:=XV^r.symm.trans e
  subst z;exact(show ObjOk P w H' h a u from d u^x a u q)
def View.symm(v:View H H'):View H' H:=λb=>by
 rcases v b with q|⟨u,c,⟨q,r⟩|⟨q,r⟩⟩
 .exact .inl q.symm
 .exact .inr #[u,c,.inr #[r,q]]
 .exact .inr #[u,c,.inl #[r,q]]
def View.unR{fs ex:r_ Ch}(v:View H H')(u:Un fs ex H1 H h h'):Un fs ex H1 H' h h' where
 keep:=u.keep
 slot:=u.slot
 free:=λb o q n c=>v.none.mpr (u.free b o q n c)
 there:=u.there
 tups:=λb a q=>v.tup b a (u.tups b a q)
 frzs:=λb o x q=>v.to (u.frzs b o x q) (λz=>z) λu z=>by cases z
 tbls:=λb d q=>let #[m,z]:=u.tbls b d q;#[m,v.to z (λz=>z) λu z=>by cases z]
def View.unL{fs ex:r_ Ch}(v:View H H')(u:Un fs ex H' H1 h h'):Un fs ex H H1 h h' where
 keep:=λb o q n=>u.keep b o q (v.none.mpr n)
 slot:=λb o q n=>u.slot b o q (v.none.mpr n)
 free:=λb o q n c=>u.free b o q (v.none.mpr n) c
 there:=u.there
 tups:=λb a q=>u.tups b a (v.tup b a q)
 frzs:=λb o x q=>u.frzs b o x (v.to q (λz=>z) λu z=>by cases z)
 tbls:=λb d q=>u.tbls b d^v.to q (λz=>z) λu z=>by cases z
def Inv.view{X:Cx}{d:r_ (Ch×Obj)}{e:St}{s:No}(I:Inv X d e H s)(v:View H H'):Inv X d e H' s:=
 #[I.ok,I.os,I.bare,v.unR I.base,I.loc,I.cell,v.none.mpr I.free,λx c q=>v.none.mpr^I.freeC x c q,λp f=>let #[a,b,c]:=I.pin p f;#[a,v.none.mpr b,c],v.hok I.hok,I.len]
def EP.view{X:Cx}{a:r_ (Ch×Obj)}{b:St}{Q:VK}{u:Db}{s:No}(h:EP X a b (λv H=>∃H',View H H'/\Q v H') u s):EP X a b Q u s:=
 let #[v,_,I,r,H',w,q]:=h;#[v,H',I.view w,r,q]
def vR(r:r_ V->Hp->VK->Prop):r_ V->Hp->VK->Prop:=λb H Q=>∃H1,View H H1/\r b H1 λv c=>∃a,View c a/\Q v a
def fY(sp:Sp):Sp:=λb H Q E=>∃H1,View H H1/\sp b H1 (λv c=>∃a,View c a/\Q v a) E
def CallR.view{X:Cx}{f:Db}{r:r_ V->Hp->VK->Prop}(c:CallR X f r):CallR X f^vR r:=by
 intro a s b H d e Q I g q;let#[H1,v,q]:=q;exact Aq (c a s b H1 d e _ (I.view v) g q) λu i h=>h.view
def QL{X:Cx}{e:gI}{t:TE}(h:PE X e t):PE X e (λa H Q=>t a H λv H1=>∃b,View H1 b/\Q v b):=λc s a H Q I q=>Aq (h c s a H _ I q) λu d h=>h.view
def FnOk.view{K:Frag}{i:Str->s_ Db}{a:gA}{k:Nat}{f:Ch}{fd:gp}{ps:r_ Str}{sp:Sp}(F:FnOk P w K i a Eo k f fd ps sp):FnOk P w K i a Eo k f fd ps^fY sp:=by
 refine#[λj H Q E #[H1,_,q]=>F.len _ _ _ _ q,λA c s H d m j Q E n e p t #[H1,v,q]=>?_];have y:Env0 P w K i a A c s H1:=#[e.frames,e.mod,λb o z=>#[(e.bs b o z).1,v.none.mpr (e.bs b o z).2],e.bsz,e.funs,λb z=>v.none.mpr^e.frf b z,v.hok e.hok,e.bare];refine kG (F.run A c s H1 d m j _ E n y p t q) λr O g=>?_;cases r with
 |error x=>exact gy g
 | ok B=>
  cases B with
  |ret u=>
   let#[C,H',D,G,I,J,L,M,l,N]:=g;exact#[C,M,D,G,l.unR^v.unL I,l.hok J,L,N]
  |next=>exact gy g
  |brk=>exact gy g
  |cont=>exact gy g
def dg(K:Frag)(T:String)(r:V->r_ V->Hp->VK->Prop)(to:TE)(t:TA):TE:=λb H Q=>to b H λx H1=>(∃a,View H1 a/\aP K T x a)/\t b H1 λe a=>∃c,View a c/\r x e c λv f=>∃d,View f d/\Q v d
variable {X:Cx}{o e:Expr}{es:r_ Expr}{to:TE}{t:TA}{name:Str}{apos cpos:Pos}{T id:String}{r:V->r_ V->Hp->VK->Prop}
def Yj(n:mi T)(c:Slot T name id)(g:typeOf^.builtin id=pure^.type "method_descriptor")(p:Um X id r)(q:PE X o to)(y:PA X (e::es) t)
  (a:attributeBase o name X.env^eval o X.env=eval o X.env:=by rfl)
  (d:((backTo cpos^starEach (e::es) X.env).all (λx=>!x.1)&&(backToKw cpos^keywordEach [] X.env).all (λx=>x.1.isSome)
   && decide ((e::es).length+([]:r_ jl).length+(if([]:r_ jl).isEmpty then 0 else 1)<30))=p_:=by rfl)
  (b:(apos.endLine==cpos.line)=p_:=by rfl) (z:starEach (e::es) X.env=(q_,eval e X.env)::starEach es X.env:=by rfl) (f:(backTo cpos^starEach es X.env).any (·.1)=q_:=by rfl):
  PE X (.Call (.Attribute o name apos) (e::es) [] cpos) (dg X.K T r to t):=by
 intro R s i H Q I h;refine wpAny_Call_method_late a d b rfl (Aq (q _ s i H _ I h) λv j #[x,H1,k,l,#[S,A,ty],B]=>?_);let#[C,D]:=RM (k.view A) l ty;exists T,id,n,c,g,C,D;have m:=y cpos _ j i H1 _ k B;rw[z]at m ⊢;refine lD (by simp_all)^n6 ?_;exact Aq m λE F #[G,U,J,L,M,N,O]=>Aq (p _ F i M x G v E _ (J.view N) l L O) λu j h=>h.view
end
end L2
namespace Dp
open L2
def Sg.put(s:Sg)(a:Ch)(c:Wc):Sg:=#[s.n,λb=>if b=a then P3 c else s.w b]
def Sg.drop(s:Sg)(L:r_ Ch):Sg:=#[s.n,λb=>if b∈L then o_ else s.w b]
def Sg.back(a s:Sg)(L:r_ Ch):Sg:=#[a.n,λb=>if b∈L then s.w b else a.w b]
def Sg.back_drop(s:Sg)(L:r_ Ch)(m:Nat):Sg.back #[m,(s.drop L).w] s L=#[m,s.w]:=by
 show(#[m,λb=>if b∈L then s.w b else if b∈L then o_ else s.w b]:Sg)=_
 congr 1
 funext b
 by_cases h:b∈L
 .rw[if_pos h]
 .rw[if_neg h,if_neg h]
def Ir(w:Ch->s_ Wc):D->D
 |.ob a=>match w a with
  |some (.pl d)=>d
  |_=>.ob a
 |d=>d
def Ef(w:Ch->s_ Wc):D->D
 |.dic b a=>.dic b^a.map^Ir w
 |.tup a=>.tup^a.map^Ir w
 |d=>Ir w d
def JE(w:Ch->s_ Wc):D->r_ Ch
 |.ob a=>match w a with
  |some (.pl _)=>[a]
  |_=>[]
 |_=>[]
def EA(w:Ch->s_ Wc):D->r_ Ch
 |.dic _ a=>a.flatMap^JE w
 |.tup a=>a.flatMap^JE w
 |d=>JE w d
def am(w:Ch->s_ Wc):Slot->Slot
 |.sh d=>.sh^Ef w d
 |s=>s
def Yw(w:Ch->s_ Wc):Slot->r_ Ch
 |.sh d=>EA w d
 |_=>[]
def Fw(H:Hp)(L:r_ Ch):Hp:=λb=>if b∈L then(match H b with|some (.vol u)=>P3 u|o=>o)else H b
def Q8(H:Hp)(L:r_ Ch):Hp:=λb=>if b∈L then(match H b with|some u=>P3^.vol u|none=>o_)else H b
section
variable {K:Frag}{M:Addr->Prop}{H:Hp}{L:r_ Addr}{w:Addr->s_ Wc}
def CellOk.pl{a:Ch}{d:D}(h:CellOk K M H a^.pl d):¬M a/\∃u,Fv u/\H a=P3^.vol u/\Fw H [a] a=P3 u:=by
 cases d with
 |lst e=>let#[c,f,b,_]:=h;refine#[c,_,?_,b,by unfold Fw;rw[if_pos Op,b]];exact trivial
 |dit g e=>let#[c,f,b,_]:=h;refine#[c,_,?_,b,by unfold Fw;rw[if_pos Op,b]];exact trivial
 |_=>exact h.elim
def FE{u:HO}(h:Fv u):¬Q_ u:=by rintro⟨x,rfl⟩;exact h
def Cells(M:Ch->Prop)(H:Hp)(L:r_ Ch):Prop:=∀b∈L,¬M b/\∃u,Fv u/\H b=P3^.vol u
def Cells.un(c:Cells M H L){b:Ch}(a:b∈L){u:HO}(h:H b=P3^.vol u):Fw H L b=P3 u:=by unfold Fw;rw[if_pos a,h]
def Es{b:Ch}(a:b∉L):Fw H L b=H b:=if_neg a
def D4{b:Ch}(a:b∉L):Q8 H L b=H b:=if_neg a
def Cells.out(c:Cells M H L){b:Ch}{o:HO}(h:H b=P3 o)(n:¬Q_ o):b∉L:=λa=>by
 let#[_,u,_,e]:=c b a;rw[h]at e;exact n #[u,XV e]
def Cells.keep(c:Cells M H L){b:Ch}{o:HO}(h:H b=P3 o)(n:¬Q_ o):Fw H L b=P3 o:=by rw[Es^c.out h n];exact h
def Cells.view(c:Cells M H L):View H^Fw H L:=λb=>by
 by_cases a:b∈L
 .let#[_,u,k,e]:=c b a
  exact .inr #[u,k,.inl #[e,c.un a e]]
 .exact .inl^Es a
def Cells.ex(c:Cells M H L)(b:Ch)(o:HO)(h:H b=P3 o):∃d,Fw H L b=P3 d:=by
 by_cases a:b∈L
 .let#[_,u,k,e]:=c b a
  exact#[u,c.un a e]
 .exact#[o,by rw[Es a];exact h]
def Cells.pres(c:Cells M H L):Pres M H M^Fw H L:=#[λb o h _ n=>c.keep h n,λ_ z=>.inl z,λb a h=>c.keep h (by rintro⟨_,z⟩;cases z),c.ex]
def Cells.ext{U:Ch->Prop}(c:Cells M H L):Ext U H^Fw H L:=λb o h=>by
 let#[a,e]:=c.ex b o h;refine#[a,e,λ_ n=>?_,λd z=>?_]
 .rw[c.keep h n]at e;exact(XV e).symm
 .subst z;rw[c.keep h^by rintro⟨_,z⟩;cases z]at e;exact(XV e).symm
def G0{a:Ch}{d:D}(q:w a=P3^.pl d):Ir w^.ob a=d:=by
 show(match w a with|some (.pl d)=>d|_=>D.ob a)=d;rw[q]
def FV{a:Ch}{d:D}(q:w a=P3^.pl d):JE w^.ob a=[a]:=by
 show(match w a with|some (.pl _)=>[a]|_=>[])=_;rw[q]
def OX{a:Ch}(q:∀d,w a≠P3^.pl d):Ir w^.ob a=.ob a/\JE w^.ob a=[]:=by
 show(match w a with|some (.pl d)=>d|_=>D.ob a)=_/\(match w a with|some (.pl _)=>[a]|_=>[])=_;cases e:w a with
 |none=>exact#[rfl,rfl]
 |some x=>cases x with
  |ins C b c=>exact#[rfl,rfl]
  |pl d=>exact absurd e^q d
def OY(l:∀a c,w a=P3 c->CellOk K M H a c)(c:Cells M H L){d:D}{v:V}(h:At K M H d v)(i:∀a∈JE w d,a∈L):At K M (Fw H L) (Ir w d) v:=by
 cases d with
 | ob a=>
  by_cases q:∃d,w a=P3^.pl d
  .let#[d,q]:=q
   rw[G0 q];rw[FV q]at i;have j:a∈L:=i a Op;have k:=l a _ q;let#[rfl,_]:=h;cases d with
   |lst m=>let#[b,e,f,_,g]:=k;exact#[a,e,rfl,#[b,c.un j f],g.pres c.pres]
   |dit o m=>let#[b,e,f,n,_,g]:=k;exact#[a,e,rfl,#[b,c.un j f],n,g.pres c.pres]
   |_=>exact k.elim
  .rw[(OX λd z=>q #[d,z]).1];exact h.pres c.pres
 |_=>exact At.pres c.pres h
theorem FO(g:∀a c,w a=P3 c->CellOk K M H a c)(c:Cells M H L):∀{b:r_ D}{i:r_ V},Ats K M H b i->(∀a∈b.flatMap^JE w,a∈L)->Ats K M (Fw H L) (b.map^Ir w) i
 |[],_,h,_=>h
 |d::b,_,#[v,r,e,k,l],j=>#[v,r,e,OY g c k λa f=>j a (by simp[f]),FO g c l λa f=>j a^by simp only[jG,gM];exact .inr f]
def Kb(b:∀a c,w a=P3 c->CellOk K M H a c)(c:Cells M H L){d:D}{v:V}(h:At K M H d v)(f:∀a∈EA w d,a∈L):At K M (Fw H L) (Ef w d) v:=by
 cases d with
 |dic k j=>let#[a,g,e,n,l,i]:=h;exact#[a,g,e,n.pres c.pres,by rw[Ev];exact l,FO b c i f]
 |tup j=>let#[a,g,e,n,i]:=h;exact#[a,g,e,n.pres c.pres,FO b c i f]
 |ob a=>exact OY b c h f
 |_=>exact At.pres c.pres h
def Ky{d:D}{a:Ch}(h:a∈JE w d):∃x,w a=P3^.pl x:=by
 cases d with
 | ob b=>
  by_cases q:∃d,w b=P3^.pl d
  .let#[d,q]:=q
   rw[FV q]at h;rw[Re.mp h];exact#[d,q]
  .rw[(OX λd z=>q #[d,z]).2]at h;cases h
 |_=>cases h
def Oy{d:D}{a:Ch}(h:a∈EA w d):∃x,w a=P3^.pl x:=by
 cases d with
 |dic f e=>let#[x,_,c]:=jp.mp h;exact Ky c
 |tup e=>let#[x,_,c]:=jp.mp h;exact Ky c
 |ob b=>exact Ky (d:=.ob b) h
 |_=>cases h
end
def Er(W:W2)(c:La):DW:=λn f P=>c n f λe b=>∃L a,e.map^am b.w=a/\e.flatMap^Yw b.w=L/\W a (b.drop L) λd g=>flat d=p_/\P d^g.back b L
section
variable {X:Cx}{e:Expr}{es:r_ Expr}{pos p:Pos}{was:La}
theorem Mp{K:Frag}{F:s_ (Ch×Ch)}{U e M:Ch->Prop}{H:Hp}{L:r_ Ch}{w:Ch->s_ Wc}(g:∀a c,w a=P3 c->CellOk K M H a c)(c:Cells M H L)(i:∀a,U a->e a):∀{j:r_ V}{b:r_ Slot},Paired (Ct K F e M H) j b->(∀a∈b.flatMap^Yw w,a∈L)->Paired (Ct K F e M^Fw H L) j^b.map^am w
 |_,_,.nil,_=>.nil
 |_,s::b,.cons #[h,o] t,k=>by
  refine .cons ?_ (Mp g c i t λa f=>k a^by simp only[jG,gM];exact .inr f);cases s with
  |sh d=>let#[v,l,m]:=h;exact#[#[v,l,Kb g c m λa f=>k a^by simp only[jG,gM];exact .inl f],rfl]
  |_=>exact#[h.pres c.pres (λ_ z=>z) (c.ext (U:=U)) i,o]
def Hz{K:Frag}{F:s_ (Ch×Ch)}{M:Ch->Prop}{H:Hp}{n:Sg}{a:Type}{g:a->r_ Ch}{c:r_ a}(f:FeedC K F M H n)(e:∀s b,b∈g s->∃d,n.w b=P3^.pl d):Cells M H^c.flatMap g:=λb h=>by
 let#[s,_,i]:=jp.mp h;let#[d,j]:=e s b i;let#[l,u,k,m,_]:=(f.2 b _ j).pl;exact#[l,u,k,m]
def VP{w:Ch->s_ Wc}(s:Slot)(b:Ch)(h:b∈Yw w s):∃d,w b=P3^.pl d:=by
 cases s with
 |sh d=>exact Oy h
 |_=>cases h
def FeedC.lend{K:Frag}{F:s_ (Ch×Ch)}{M:Ch->Prop}{H:Hp}{n:Sg}{L:r_ Ch}(f:FeedC K F M H n)(c:Cells M H L):FeedC K F M (Fw H L)^n.drop L:=by
 refine#[λg e=>(f.1 g e).pres c.pres λo h=>?_,λa x b=>?_]
 .let#[_,_,_,z,_]:=f.1 g e
  rw[z]at h;cases h
  exact c.keep z^by rintro⟨_,z⟩;cases z
 .have b:(if a∈L then o_ else n.w a)=P3 x:=b
  by_cases d:a∈L
  .rw[if_pos d]at b;cases b
  .rw[if_neg d]at b
   exact(f.2 a x b).to (λ_ _ z=>z) c.pres.2.2.1 c.ex λu i=>by rw[Es d];exact i
def Ie{K:Frag}{C:Fm}{M:Ch->Prop}{H1 g:Hp}{l m:Sg}{P:r_ Slot}{Q:L2.St}{L:r_ Ch}(A:Rel K C M H1 l P Q)(c:Cells M H1 L)(G:Ext C.U (Fw H1 L) g)(H:FeedC K C.F M g m):
  View g (Q8 g L)/\Ext C.U H1^Q8 g L/\FeedC K C.F M (Q8 g L)^m.back l L/\∀b o,g b=P3 o->∃i,Q8 g L b=P3 i:=by
 have I:=A.feed;have q:∀b∈L,∀u,H1 b=P3^.vol u->Fv u->g b=P3 u:=λb d u e k=>G.keep (c.un d e) (λz=>(c b d).1 (A.vM b^A.uV b z))^FE k;have y:∀b∈L,∀u,H1 b=P3^.vol u->Fv u->Q8 g L b=P3^.vol u:=λb d u e k=>by unfold Q8;rw[if_pos d,q b d u e k]
 have J:View g^Q8 g L:=λb=>by
  by_cases d:b∈L
  .let#[_,u,k,e]:=c b d
   exact .inr #[u,k,.inr #[q b d u e k,y b d u e k]]
  .exact .inl^D4 d
 have s:∀b o,g b=P3 o->∃i,Q8 g L b=P3 i:=λb o h=>by
  by_cases d:b∈L
  .let#[_,u,k,e]:=c b d
   exact#[_,y b d u e k]
  .exact#[o,by rw[D4 d];exact h]
 have B:Ext C.U H1^Q8 g L:=λb o h=>by
  by_cases d:b∈L
  .let#[_,u,k,e]:=c b d
   rw[h]at e;cases e
   exact#[_,y b d u h k,λ_ n=>absurd #[u,rfl] n,λD z=>by cases z]
  .let#[i,E,R,S]:=G b o^by rw[Es d];exact h
   exact#[i,by rw[D4 d];exact E,R,S]
 refine#[J,B,#[λf N=>?_,λa x j=>?_],s]
 .let#[x,r,T,V,W,O,Y]:=H.1 f N
  let#[_,_,_,Z,_,o3,_]:=I.1 f N;have l:f.1∉L:=c.out Z (by rintro⟨_,z⟩;cases z);have m:f.2∉L:=c.out o3.2 (by rintro⟨_,z⟩;cases z);exact#[x,r,T,by rw[D4 l];exact V,W,#[O.1,by rw[D4 m];exact O.2],Y]
 .have j:(if a∈L then l.w a else m.w a)=P3 x:=j
  by_cases t:a∈L
  .rw[if_pos t]at j
   refine(I.2 a x j).to (λ_ _ z=>z) (λb D h=>B.tup h) (λb o h=>let #[i,E,_]:=B b o h;#[i,E]) λu e=>?_;let#[_,u',k,v]:=c a t;rw[e]at v;cases v
   exact y a t u e k
  .rw[if_neg t]at j
   exact(H.2 a x j).to (λ_ _ z=>z) (λb D h=>J.tup b D h) s λu e=>by rw[D4 t];exact e
def IN{k:Nat}{ps:r_ Str}{W:W2}{x:Str}(G:Got X.prog X.w X.K X.mg X.base x k ps .sh W)(I:Room k X.A)(J:Gl X x)(j:M5 X (e::es) was)
  (l:(x==("__debug__":Str))=q_:=by decide) (N:starEach (e::es) X.env=(q_,eval e X.env)::starEach es X.env:=by rfl) (m:(backTo pos^starEach es X.env).any (·.1)=q_:=by rfl):
  DE X (.Call (.Name x p) (e::es) [] pos) .sh (Er W was):=by
 let#[f,fd,G,O,S,T,Y]:=G;let#[t,Z,h2]:=j;refine#[_,G3 G.view I J O S T .nil FS Z l N m,λC M H n ρ σ P Q R w q=>?_];refine h2 C M H n ρ σ _ _ R w λu H1 ss n1 y i B #[L,r,es,D,p]=>?_;have g:=R.step y i;have c:Cells M H1 L:=D▸Hz i VP;rw[gZ];exists Fw H1 L,c.view;refine#[(Paired.length B).trans (by have:=Y _ _ _ p;rw[←es,Ev]at this;exact this),C.F,C.U,C.V,M,n1.drop L,r,_,#[λa z=>let #[o,h]:=g.dom a z;c.ex a o h,g.fU,g.uV,g.vM,i.lend c,es▸Mp i.2 c g.uV B λa j=>D▸j],p,λv H3 d n2 e3 f3 r3 #[fl,p3]=>?_];let#[E,e4,f4,s]:=Ie g c e3 f3;exact#[Q8 H3 L,E,q v _ d _ (y.trans e4) f4 (G7 (λb u h=>E.tup b u h) s d fl r3) p3]
def Jz:D->Prop
 |.lst a=>Ay a=p_
 |.dit _ a=>Ay a=p_
 |_=>False
def fk:Kd->D->Prop
 |.sh,z=>flat z=p_
 |.fr,z=>Jz z
 |.tp,_=>False
def aO(c:Kd)(f:r_ D->(D->Prop)->Prop)(d:C7):DW:=λn e P=>d n e λg b=>∃a,g.map^Ef b.w=a/\f a λz=>fk c z/\P z b
def V_{K:Frag}{U b M:Ch->Prop}{H:Hp}{L:r_ Ch}{w:Ch->s_ Wc}(f:∀a c,w a=P3 c->CellOk K M H a c)(c:Cells M H L)(k:∀a,U a->b a){d:D}{v:V}(h:AtT K b M H d v)(g:∀a∈EA w d,a∈L)(i:∀a,b a->M a):AtT K b M (Fw H L) (Ef w d) v:=by
 cases d with
 |dic r j=>let#[a,m,e,n,o,l,q]:=h;exact#[a,m,e,n,c.keep o (by rintro⟨_,z⟩;cases z),by rw[Ev];exact l,FO f c q g]
 |tup j=>exact At.tp i^Kb f c (d:=.tup j) h g
 |ob a=>exact At.tp i^Kb f c (d:=.ob a) h g
 |_=>exact AtT.pres h c.pres (c.ext (U:=U)) k
theorem Mm{K:Frag}{U b M:Ch->Prop}{H:Hp}{L:r_ Ch}{w:Ch->s_ Wc}(g:∀a c,w a=P3 c->CellOk K M H a c)(c:Cells M H L)(i:∀a,U a->b a)(j:∀a,b a->M a):∀{k:r_ V}{e:r_ D},Paired (λv d=>AtT K b M H d v) k e->(∀a∈e.flatMap^EA w,a∈L)->Paired (λv d=>AtT K b M (Fw H L) d v) k^e.map^Ef w
 |_,_,.nil,_=>.nil
 |_,d::e,.cons h t,l=>.cons (V_ g c i h (λa f=>l a^by simp only[jG,gM];exact .inl f) j)^Mm g c i j t λa f=>l a^by simp only[jG,gM];exact .inr f
def Zf{E:Kd}{r:r_ V->Hp->VK->Prop}{f:r_ D->(D->Prop)->Prop}{t:TA}{W:C7}(hA:Bc X.K E r f)(h2:∀(C:Fm) (M:Ch->Prop) (H:Hp) (n:Sg) (s:r_ Slot) (x:L2.St) (P:r_ D->Sg->Prop) (Q:r_ V->Hp->Prop),Rel X.K C M H n s x->W n s P->
   (∀i j l y,Ext C.U H j->FeedC X.K C.F M j y->Paired (λv d=>AtT X.K C.V M j d v) i l->P l y->Q i j)->t x H Q)
  (C:Fm) (M:Ch->Prop) (H:Hp) (n:Sg) (s:r_ Slot) (x:L2.St) (P:D->Sg->Prop) (Q:VK) (R:Rel X.K C M H n s x) (w:aO E f W n s P)
  (q:∀v j d y,Ext C.U H j->FeedC X.K C.F M j y->VR X.K C.V M H j E v d->P d y->Q v j):af (vR r) t x H Q:=by
 refine h2 C M H n s x _ _ R w λi H1 l k I G r1 #[J,ed,p]=>?_;have A:=R.step I G;have c:Cells M H1^l.flatMap^EA k.w:=Hz G λd b=>Oy;refine#[_,c.view,hA C.V M _ J i _ _ (λa z=>let #[o,h]:=A.dom a z;c.ex a o h) A.vM (ed▸Mm G.2 c A.uV A.vM r1 λa L=>L) p λv Y z g Z #[B,pz]=>?_];let#[v3,e4,f4,m]:=Ie A c g.ext^(G.lend c).grow g;rw[show k.drop^l.flatMap^EA k.w=#[k.n,(k.drop^l.flatMap^EA k.w).w]from rfl,Sg.back_drop]at f4;have N:∀b i,Y b=P3^.tup i->Q8 Y (l.flatMap^EA k.w) b=P3^.tup i:=λb i h=>v3.tup b i h;refine#[_,v3,q v _ z k (I.trans e4) f4 (VR.back I ?_) pz];cases E with
 |tp=>exact B.elim
 |sh=>exact G7 N m z B Z
 | fr=>
  let#[a,e,L,tp]:=Z
  have hn:H1 a=o_:=by
   cases h:H1 a with
   |none=>rfl
   |some o=>let#[o',h']:=c.ex a o h;rw[L]at h';cases h'
  have hL:a∉l.flatMap^EA k.w:=λhb=>by let#[_,u,_,h]:=c a hb;rw[hn]at h;cases h
  exists a,e,hn;cases z with
  |lst es=>let#[O,S,T]:=tp;exact#[O,by rw[D4 hL];exact S,Ar N m es B T]
  |dit ks es=>let#[O,S,T,g3]:=tp;exact#[O,by rw[D4 hL];exact S,T,Ar N m es B g3]
  |dic ks es=>exact(show False from B).elim
  |_=>exact(show False from tp).elim
def Nz{a:Kd}{x:Str}{T:String}{r:r_ V->Hp->VK->Prop}{f:r_ D->(D->Prop)->Prop}{d:C7}(g:CallR X (.type T) r)(h:Bc X.K a r f)(i:Gl X x)(j:X.mg x=o_)(k:bootBuiltins x=P3^.type T)(l:WU X (e::es) d)
  (m:x ≠ "__name__":=by decide) (b:(x==("__debug__":Str))=q_:=by decide)
  (o:starEach (e::es) X.env=(q_,eval e X.env)::starEach es X.env:=by rfl) (c:(backTo pos^starEach es X.env).any (·.1)=q_:=by rfl):DE X (.Call (.Name x p) (e::es) [] pos) a^aO a f d:=by
 let#[t,s,u]:=l;exact#[_,F5 g.view i j k s m b o c,λC M H n v y P Q R w q=>Zf h u C M H n v y P Q R w q]
end
end Dp
namespace L2
theorem GD{b c:Type}(f:b->c):∀(l:r_ b) (j:Nat),(l.map f).eraseIdx j=(l.eraseIdx j).map f
 |[],_=>rfl
 |_::_,0=>rfl
 |a::l,j+1=>by show f a::(l.map f).eraseIdx j=f a::(l.eraseIdx j).map f;rw[GD f l j]
section
variable {prog:Program}{w:World}{K:Type}[DecidableEq K]{knd:HeapKind prog w K}{A:Around}{E:Value->Shared->Prop}{s:Shared}{d a:Addr}{k:K}{xs:r_ (K×Addr×Value)}{j:Nat}{p:Addr×Value}
def KP{Q:s_ jz->No->Prop}(v:knd.room A)(b:knd.is s.heap k a)(y:s.heap.DictOfH knd d xs)(m:xs[j]?=P3 (k,p))(z:xs.length<=sizeLine)
  (B:∀n,n.DictOfH knd d^xs.eraseIdx j->jB d s.heap n->Q (P3^entryOfKey knd (k,p)) {s with heap:=n,toks:=s.toks+knd.draws k}):
  wpAny (model prog w) A (n9 d^.ref a) Q E s:=by
 let#[o,C,D,g,F,c,f,h,r]:=y;unfold n9
 try with_reducible refine gw ?_
 refine Cn^knd.pyHash v b ?_;refine Cn^wpAny_dictFind_heap (s:={s with toks:=s.toks+knd.draws k}) v b g c f h r (λt=>absurd m^t j p) λi q u=>?_;obtain rfl:=idxH_unique r m u;rw[m]at u;cases u;refine Cn^iz (s:={s with toks:=s.toks+knd.draws k}) g c ?_;rw[entry_at f j,m]
 refine Cn (wpAny_updateDictKeys (hz:=by have e:=size_of_entries f;lk) (s:={s with toks:=s.toks+knd.draws k}) g c (On (B _ #[_,_,D+1,g8 _ g^Obj.isFreed_of_dict^Obj.data_mapDictKeys c _,
   F.mapDictKeys _,Obj.data_mapDictKeys c _,?_,?_,?_] (jN ..))))
 .let#[l]:=C
  have f:l=xs.map^entryOfKey knd:=f;subst f;simp[GD]
 .intro x G
  exact knd.keeps (h x^List.mem_of_mem_eraseIdx G) g c (jN ..)
 .rw[←GD]
  exact r.sublist (List.eraseIdx_sublist ..)
def Gs:MeetsIn prog w (iq.«dict.pop» #[[.ref d,.ref a],[]]) (λA R s=>knd.room A.in1/\∃k xs j p,knd.is s.heap k a/\s.heap.DictOfH knd d xs/\xs.length<=sizeLine/\xs[j]?=P3 (k,p) /\
   ∀b,b.DictOfH knd d^xs.eraseIdx j->jB d s.heap b->R (.ok^.ret p.2) {s with heap:=b,toks:=s.toks+knd.draws k}):=
 .of_wp λA R s #[n,k,xs,j,p,c,e,f,m,h]=>by
  let#[o,q,y,r,z,t,u,v,B]:=id e;unfold iq.«dict.pop»;refine Cn ?_;unfold Builtin.Dict.keyAndDefault;refine Cn^lS e.typeIs ?_;show wpAny _ _ (pure (d,ZB a,o_)) _ _ s;refine On ?_;have x:(keyPart^ZB a).isSome=q_:=rfl;simp only[x,gs,if_false];refine Cn^iz r t^Cn^On ?_
  have g:q.isEmpty=q_:=by
   have C:=size_of_entries u;have D:j<xs.length:=(Uf.mp m).1;simp only[Array.isEmpty,decide_eq_false_iff_not];lk
  rw[g];simp only[gs,if_false];refine Cn^KP n c e m f λb i l=>?_;simp only[Option.isNone_some,gs,if_false];exact Cn^jS^On #[_,rfl,h b i l]
end
def Wu:V->r_ V->Hp->VK->Prop:=λx c H Q=>∃d b a k j v,x=.ref d/\c=[.ref b]/\H d=P3^.dT a/\H b=P3^.tup^k.map kV/\a[j]?=P3 (k,v)/\Q v^AY H d^.dT^a.eraseIdx j
theorem Jg{a b:Type}{R:a->b->Prop}:∀{c:r_ a}{d:r_ b}{j:Nat}{x:a},Paired R c d->c[j]?=P3 x->∃y,d[j]?=P3 y/\R x y
 |_::_,_::_,0,_,.cons r _,e=>#[_,rfl,by cases e;exact r]
 |_::_,_::_,j+1,_,.cons _ t,e=>Jg (j:=j) t^by rw[k7]at e;exact e
theorem FT{a b:Type}{R:a->b->Prop}:∀{c:r_ a}{d:r_ b} (j:Nat),Paired R c d->Paired R (c.eraseIdx j)^d.eraseIdx j
 |_,_,_,.nil=>.nil
 |_::_,_::_,0,.cons _ t=>t
 |_::_,_::_,j+1,.cons r t=>.cons r^FT j t
def O2{X:Cx}{k:Nat}(i:Room k X.A):Um X "dict.pop" Wu:=by
 rintro T s U H x V v W Q I l m ⟨d,b,n,k,j,u,rfl,rfl,e,B,C,q⟩;cases(show v=ZB d from l);cases m with
 |cons r t=>
 cases t
 rename_i D
 cases(show D=ZB b from r);let#[z,c,E,a,dd]:=XR I.hok e;let#[#[G,p],J,f,Y,K]:=Jg a C;have f:k=G:=f;subst f;refine call_meetsIn PySem.F.slot_dict_pop dd.typeIs PySem.F.entry_dict_pop (PySem.F.args_dict_pop_2 _ _) (Gs (knd:=tupleKind^Ax X.prog X.w)) #[j5 (by have:=i.units;lk),k,E,j,p,GA I.hok B,dd,by rw[←Paired.length a];exact z,J,λZ g L=>#[u,_,?_,K,q]];let#[o,M,N,h,O,P,R,_,S]:=g;refine HG I (by rw[e];exact ip) L #[o,h] #[gN (List.length_eraseIdx_le ..) z,c,_,Paired.imp' (λx y r=>#[r.1,by rw[AF^W7 r.2.1 e λz=>nomatch z];exact r.2.1,r.2.2])^FT j a,o,M,N,h,O,P,R,S]
end L2
namespace Dp
open L2
section
variable {K:Frag}{F:s_ (Addr×Addr)}{M:Addr->Prop}{H:Hp}{n:Sg}{a:Addr}{u u':HO}{c:Wc}
def G8{U:Ch->Prop}(h:H a=P3^.vol u):Ext U H^AY H a^.vol u':=λb o e=>by
 by_cases z:b=a
 .subst z
  rw[h]at e;cases e
  exact#[_,AH,λ_ v=>absurd #[u,rfl] v,λc z=>by cases z]
 .exact#[o,by rw[AF z];exact e,λ_ _=>rfl,λ_ _=>rfl]
def FeedC.put(f:FeedC K F M H n)(h:H a=P3^.vol u)(m:CellOk K M (AY H a^.vol u') a c):FeedC K F M (AY H a^.vol u')^n.put a c:=by
 have j:∀{b o},H b=P3 o->¬Q_ o->b≠a:=λe v z=>v #[u,by rw[z,h]at e;exact(XV e).symm];have x:=G8 (U:=λ_=>False) (u':=u') h;refine#[λg q=>?_,λb k d=>?_]
 .let#[p,r,s,l,t,i,y]:=f.1 g q
  exact#[p,r,s,by rw[AF^j l^by rintro⟨_,z⟩;cases z];exact l,t,#[i.1,by rw[AF^j i.2^by rintro⟨_,z⟩;cases z];exact i.2],y]
 .have d:(if b=a then P3 c else n.w b)=P3 k:=d
  by_cases z:b=a
  .rw[if_pos z]at d;cases d;rw[z];exact m
  .rw[if_neg z]at d
   exact(f.2 b k d).to (λ_ _ z=>z) (λb C e=>x.tup e) (λb o e=>let #[A,B,_]:=x b o e;#[A,B]) λv e=>by rw[AF z];exact e
def putN(f:Str):r_ Str->r_ Str
 |[]=>[f]
 |g::r=>if g=f then g::r else g::putN f r
def putX{b:Type}(f:Str)(y:b):r_ Str->r_ b->r_ b
 |[],_=>[y]
 |_::_,[]=>[y]
 |g::r,x::c=>if g=f then y::c else x::putX f y r c
theorem L4(f:Str)(y:V):∀{ks:r_ Str}{vs:r_ V},ks.length=vs.length->DZ f y^ks.zip vs=(putN f ks).zip^putX f y ks vs
 |[],[],_=>rfl
 |k::ks,v::vs,h=>by
  have b:=L4 f y (ks:=ks) (vs:=vs) (by simpa using h);show(if k=f then(k,y)::ks.zip vs else(k,v)::DZ f y^ks.zip vs)=(if k=f then k::ks else k::putN f ks).zip (if k=f then y::vs else v::putX f y ks vs)
  by_cases e:k=f
  .rw[if_pos e,if_pos e,if_pos e];rfl
  .rw[if_neg e,if_neg e,if_neg e,b];rfl
theorem L1{b:Type}(f:Str)(y:b):∀{ks:r_ Str}{vs:r_ b},ks.length=vs.length->(putN f ks).length=(putX f y ks vs).length
 |[],[],_=>rfl
 |k::ks,v::vs,h=>by
  have c:=L1 f y (ks:=ks) (vs:=vs) (by simpa using h);show(if k=f then k::ks else k::putN f ks).length=(if k=f then y::vs else v::putX f y ks vs).length
  by_cases e:k=f
  .rw[if_pos e,if_pos e];simpa using h
  .rw[if_neg e,if_neg e];simpa using c
theorem L3(f:Str){d:D}{v:V}(g:At K M H d v):∀{b:r_ Str}{c:r_ D}{i:r_ V},b.length=c.length->Ats K M H c i->Ats K M H (putX f d b c)^putX f v b i
 |[],[],_,_,h=>by cases h;exact#[_,_,rfl,g,rfl]
 |k::b,m::c,_,l,#[o,r,e,p,j]=>by
  subst e;show Ats K M H (if k=f then d::c else m::putX f d b c) (if k=f then v::r else o::putX f v b r)
  by_cases e:k=f
  .rw[if_pos e,if_pos e];exact#[_,_,rfl,g,j]
  .rw[if_neg e,if_neg e];exact#[_,_,rfl,p,L3 f g (by simpa using l) j]
theorem Jf(f:Str){d:D}(g:flat d=p_):∀{c:r_ Str}{b:r_ D},c.length=b.length->Ay b=p_->Ay^putX f d c b=p_
 |[],[],_,_=>by show(flat d&&p_)=p_;rw[g];rfl
 |k::c,i::b,l,h=>by
  have h:(flat i&&Ay b)=p_:=h;rw[gS]at h;show Ay (if k=f then d::b else i::putX f d c b)=p_
  by_cases e:k=f
  .rw[if_pos e];show(flat d&&Ay b)=p_;rw[g,h.2];rfl
  .rw[if_neg e];show(flat i&&Ay^putX f d c b)=p_;rw[h.1,Jf f g (by simpa using l) h.2];rfl
theorem MJ{f:Str}{x:D}:∀{b:r_ Str}{c:r_ D}{g:r_ V},Ats K M H c g->(b.zip c).lookup f=P3 x->∃v,(b.zip g).lookup f=P3 v/\At K M H x v
 |[],_,_,_,e=>by cases e
 |_::_,[],_,_,e=>by cases e
 | k::b,d::c,_,#[v,r,h,i,j],e=>by
  subst h
  by_cases z:f=k
  .subst z
   simp only[ik,j_,BEq.rfl]at e ⊢;cases e;exact#[v,rfl,i]
  .have l:(f==k)=q_:=beq_eq_false_iff_ne.mpr z
   simp only[ik,j_,l]at e ⊢;exact MJ j e
theorem DL{d:Type}{f:Str}:∀{b:r_ Str}{c:r_ d},f∉b->(b.zip c).lookup f=o_
 |[],_,_=>rfl
 |_::_,[],_=>rfl
 |k::b,v::c,h=>by
  have e:(f==k)=q_:=beq_eq_false_iff_ne.mpr λz=>h (by rw[z];exact Op);simp only[ik,j_,e];exact DL λz=>h^T0 _ z
end
def Xw(C:Ch)(f:Str)(w:DW):DW:=λn g P=>w n g λd b=>∃a c e x,d=.ob a/\b.w a=P3^.ins C c e/\(c.zip e).lookup f=P3 x/\P x b
def aH(C:Ch)(f:Str)(h i:DW):AX:=λj n c=>i n c λy k=>flat y=p_/\h k c λd e=>∃a b g,d=.ob a/\e.w a=P3^.ins C b g/\b.length<1000/\j.nx (e.put a^.ins C (putN f b)^putX f y b g) c
section
variable {X:Cx}{C:Addr}{f m:Str}{o e value:Expr}{es:r_ Expr}{pos pos' apos p:Pos}{κ zK κv:Kd}{wo wv:DW}{was:La}
def Dg{K:Frag}{U M:Ch->Prop}{H:Hp}{a:Ch}{v:V}(h:AtT K U M H (.ob a) v):v=.ref a:=h.1
def BH(c:Cls X.K C)(g:NoAttr X.K C f)(h:DE X e κ wo)(i:attributeBase e f X.env^eval e X.env=eval e X.env:=by rfl):DE X (.Attribute e f pos) .sh^Xw C f wo:=by
 let#[t,j,k]:=h;refine#[_,Yi j i,λC0 M H n l r P Q R w q=>?_];refine k C0 M H n l r _ _ R w λv H1 d s y b z #[a,L,N,x,A,B,D,p]=>?_;subst A;let#[E,O,F,S,T,G]:=b.2 a _ B;let#[u,I,J]:=MJ G D;exact#[a,C,E,_,u,Dg^z.tpOf R.dom R.vM,F,c,g,I,q u H1 x s y b J p]
def IL(c:Cls X.K C)(v:NoAttr X.K C f)(A:DE X o zK wo)(B:DE X value κv wv)(D:κv≠.tp:=by intro z;cases z)(F:swapsWith value (P3^.Attribute o f pos') pos.line X.env=pure q_:=by rfl):DS X κ (.Assign [.Attribute o f pos'] value pos)^aH C f wo wv:=by
 let#[to,G,I]:=A;let#[tv,J,N]:=B;refine#[_,Ya G J F,λC0 M H n h i D2 E R L w=>?_];refine N C0 M H n h i _ _ R w λy H1 d O P Q S #[T,V]=>?_;have b:=R.step P Q;refine I C0 M H1 O h i _ _ b V λx W d2 n2 s j Y #[a,e,Z,ed,hw,hl,p]=>?_;subst ed;have R2:=b.step s j;let#[k,l,q,g,g3,t]:=j.2 a _ hw;have r:e.length=l.length:=g.trans t.length.symm;have u:=G8 (U:=C0.U) (u':=.ins C k^DZ f y^e.zip l) q;have hy:At X.K M W d y:=(S.shOf R.dom D).pres^b.pres s;refine#[a,C,k,_,Dg^Y.tpOf b.dom b.vM,q,c,v,by rw[i4,r,Nat.min_self,←r];exact hl,?_];refine L.nx M _ _ h i (R2.step u^j.put (c:=.ins C (putN f e)^putX f d e Z) q #[k,putX f y e l,?_,L1 f d g,Jf f T g g3,?_]) p
 .rw[AH,L4 f y r]
 .exact(L3 f hy g t).pres^R2.pres u
def Q6(P:gC)(w:gJ)(K:Frag)(c:Str->s_ Db)(a:gA)(C:Ch)(m:Str)(k:Nat)(ps:r_ Str)(κ:Kd)(W:W2):Prop:=
 ∃f fd,FnOk P w K c a Eo k f fd ps^P_ K κ W ps.length/\Ug K C m f/\Binds K fd ps []/\∀b n P,W b n P->b.length=ps.length
def CU(C:Ch)(m:Str)(W:W2)(wo:DW)(was:La):DW:=λn b P=>wo n b λd c=>∃a e g,d=.ob a/\c.w a=P3^.ins C e g/\m∉e/\was c b λh i=>W (.sh^.ob a::h) i P
def HE{k:Nat}{ps:r_ Str}{W:W2}{pl:Sem Bool}(c:Cls X.K C)(G:Q6 X.prog X.w X.K X.mg X.base C m k ps κ W)(I:Room k X.A)(J:DE X o zK wo)(L:M5 X (e::es) was)
  (i:starEach (e::es) X.env=(q_,eval e X.env)::starEach es X.env:=by rfl) (j:(backTo pos^starEach es X.env).any (·.1)=q_:=by rfl)
  (N:eval (.Call (.Attribute o m apos) (e::es) [] pos) X.env=(do
   let ov ←eval o X.env
   standAt apos.atName
   let (f,first) ←holding [ov] (getMethod ov m pl)
   callWith pos f first (backTo pos^starEach (e::es) X.env) (backToKw pos^keywordEach [] X.env)):=by rfl):DE X (.Call (.Attribute o m apos) (e::es) [] pos) κ^CU C m W wo was:=by
 let#[f,fd,G,O,S,T]:=G;let#[to,U,Y]:=J;let#[t,Z,a2]:=L;refine#[_,Ki U c O G I S .nil FS Z i j N,λC0 M H n s u P Q R w q=>?_];refine Y C0 M H n s u _ _ R w λv H1 d n1 l x r1 #[a,ks,ds,ed,hw,hl,w1]=>?_;subst ed;have y:=R.step l x;let#[dx,vs,z,g2,g3,g4]:=x.2 a _ hw;have ev:=Dg^r1.tpOf R.dom R.vM;subst ev;exists a,dx,_,rfl,z,DL hl;refine a2 C0 M H1 n1 s u _ _ y w1 λa0 B ss n2 g D E p=>?_;have R2:=y.step g D;rw[gZ];have r:∃o,B a=P3 o:=let #[o',h,_]:=g a _ z;#[o',h]
 have b:Ct X.K C0.F C0.V M B (.ref a)^.sh^.ob a:=#[#[_,rfl,rfl,r],rfl];exact#[(Paired.length^Paired.cons b E).trans^T _ _ _ p,_,_,_,M,n2,_,P,#[R2.dom,R2.fU,R2.uV,R2.vM,D,Paired.cons b E],p,λv H3 d n3 e3 f3 r3 p3=>q v H3 d n3 ((l.trans g).trans e3) f3 (VR.back (l.trans g) r3) p3]
def EI{k:Nat}{ps:r_ Str}{W:W2}{pl:Sem Bool}(c:Cls X.K C)(G:Q6 X.prog X.w X.K X.mg X.base C m k ps κ W)(j:Room k X.A)(l:DE X o zK wo)
  (r:eval (.Call (.Attribute o m apos) [] [] pos) X.env=(do
   let ov ←eval o X.env
   standAt apos.atName
   let (f,first) ←holding [ov] (getMethod ov m pl)
   callWith pos f first (backTo pos^starEach [] X.env) (backToKw pos^keywordEach [] X.env)):=by rfl):DE X (.Call (.Attribute o m apos) [] [] pos) κ^CU C m W wo Al:=by
 let#[f,fd,G,s,t,u]:=G;let#[to,x,y]:=l;refine#[_,Sa x c s G j t .nil FS r,λC0 M H n z B P Q R w q=>?_];refine y C0 M H n z B _ _ R w λv H1 d D g h E #[a,ks,ds,I,J,L,p]=>?_;subst I;have e:=R.step g h;let#[N,vs,i,g2,g3,g4]:=h.2 a _ J;have O:=Dg^E.tpOf R.dom R.vM;subst O;exists a,N,_,rfl,i,DL L;have b:Ct X.K C0.F C0.V M H1 (.ref a)^.sh^.ob a:=#[#[_,rfl,rfl,_,i],rfl];exact#[u _ _ _ p,_,_,_,M,D,_,P,#[e.dom,e.fU,e.uV,e.vM,h,Paired.cons b .nil],p,λv S d T U Y Z p3=>q v S d T (g.trans U) Y (VR.back g Z) p3]
def Z1(P:gC)(w:gJ)(K:Frag)(b:Str->s_ Db)(a:gA)(x:Str)(C:Ch)(k:Nat)(ps:r_ Str)(W:W2):Prop:=
 ∃f fd,FnOk P w K b a Eo k f fd ps^P_ K .sh W ps.length/\Mk K C f/\b x=P3^.ref C/\Binds K fd ps []/\∀c n P,W c n P->c.length=ps.length
def aM(C:Ch)(W:W2)(was:La):DW:=λn b P=>was n b λc a=>∀x,a.w x=o_->W (.sh^.ob x::c) (a.put x^.ins C [] []) λd e=>d=.non/\P (.ob x) e
def Vx{k:Nat}{ps:r_ Str}{W:W2}{x:Str}(G:Z1 X.prog X.w X.K X.mg X.base x C k ps W)(hr:Room (k+1) X.A)(B:Gl X x)(l:M5 X (e::es) was)
  (D:(x==("__debug__":Str))=q_:=by decide) (he:starEach (e::es) X.env=(q_,eval e X.env)::starEach es X.env:=by rfl) (E:(backTo pos^starEach es X.env).any (·.1)=q_:=by rfl):
  DE X (.Call (.Name x p) (e::es) [] pos) .sh (aM C W was):=by
 let#[f,fd,G,hm,hx,hb,hW]:=G;let#[t,a1,a2]:=l;refine#[_,VF hm G hr B hx hb .nil FS a1 D he E,λC0 M H n ρ σ P Q R w q=>?_];refine a2 C0 M H n ρ σ _ _ R w λvs H1 ss r N I r1 p=>λa i l J ne=>?_;have O:=R.step N I;have S:Grow H1^AY H1 i^.own a:=AU J;have L:AY H1 i (.own a) a=o_:=by rw[AF^gc ne];exact l
 have T:Grow (AY H1 i^.own a)^AY (AY H1 i^.own a) a^.vol^.ins C i []:=AU L;have y:Ext C0.U H1^AY (AY H1 i^.own a) a^.vol^.ins C i []:=S.ext.trans T.ext
 have nw:r.w a=o_:=by
  cases z:r.w a with
  |none=>rfl
  |some c=>
   have k:=I.2 a c z;cases c with
   |ins C ks ds=>let#[_,_,h,_]:=k;rw[l]at h;cases h
   |pl d=>let#[_,u,_,h,_]:=k.pl;rw[l]at h;cases h
 have p:=p a nw
 have Y:FeedC X.K C0.F M (AY (AY H1 i^.own a) a^.vol^.ins C i [])^r.put a^.ins C [] []:=by
  have f:=(I.grow S).grow T;refine#[λg B=>f.1 g B,λb k j=>?_];have j:(if b=a then P3 _ else r.w b)=P3 k:=j
  by_cases z:b=a
  .rw[if_pos z]at j;cases j;rw[z];exact#[i,[],AH,rfl,rfl,rfl]
  .rw[if_neg z]at j;exact f.2 b k j
 have R2:=O.step y Y;rw[gZ];have Z:Paired (Ct X.K C0.F C0.V M^AY (AY H1 i^.own a) a^.vol^.ins C i []) (V.ref a::vs) (.sh^.ob a::ss):=Paired.cons #[#[_,rfl,rfl,_,AH],rfl]^Paired.imp' (λv s h=>#[h.1.pres (O.pres y) (λ_ z=>z) y R.uV,h.2]) r1;refine#[(Paired.length Z).trans^hW _ _ _ p,_,_,_,M,_,_,_,#[R2.dom,R2.fU,R2.uV,R2.vM,Y,Z],p,λv H3 d n3 e3 f3 r3 #[ed,p3]=>?_];subst ed;refine#[r3,q (.ref a) H3 (.ob a) n3 ((N.trans y).trans e3) f3 #[rfl,?_] p3];let#[o',h,_]:=e3 a _ AH;exact#[o',h]
def RK(w:DW):DW:=λn c P=>w n c λd b=>Jz d/\∀a,b.w a=o_->P (.ob a)^b.put a^.pl d
def HF(h:DE X e .fr wo):DE X e .sh^RK wo:=by
 let#[t,s,y]:=h;refine#[_,QL s,λC0 M H n W Y P Q R w q=>?_];refine y C0 M H n W Y _ _ R w λv H1 d D N E #[a,Z,F,tp] #[A,p]=>?_;subst Z;have R1:=R.step N E;have O:¬M a:=λz=>by let#[o,h]:=R.dom a z;rw[F]at h;cases h
 obtain⟨u,I,J,cell⟩:∃u,Fv u/\H1 a=P3 u/\∀j:Hp,j a=P3^.vol u->(∀b i,H1 b=P3^.tup i->j b=P3^.tup i)->(∀b o,H1 b=P3 o->∃B,j b=P3 B)->CellOk X.K M j a^.pl d:=by
  cases d with
  |lst G=>let#[i,s,y]:=tp;exact#[.lst i,trivial,s,λj g t o=>#[O,i,g,A,Ar t o G A y]]
  |dit S G=>let#[i,s,y,h3]:=tp;exact#[.dT^S.zip i,trivial,s,λj g t o=>#[O,i,g,y,A,Ar t o G A h3]]
  |_=>exact(show False from A).elim
 have L:View H1^AY H1 a^.vol u:=λb=>by
  by_cases z:b=a
  .rw[z];exact .inr #[u,I,.inr #[J,AH]]
  .exact .inl^AF z
 have ex:∀b o,H1 b=P3 o->∃B,AY H1 a (.vol u) b=P3 B:=λb o h=>(jC (b=a)).elim (λz=>by rw[z];exact#[_,AH]) λz=>#[o,by rw[AF z];exact h]
 have e2:Ext C0.U H^AY H1 a^.vol u:=λb o h=>by
  let#[B,h',z]:=N b o h;exact#[B,by rw[AF^AW h F];exact h',z]
 have nv:∀b c,D.w b=P3 c->b≠a:=λb c k z=>by
  subst z;have k:=E.2 b c k;cases c with
  |ins C S G=>let#[_,_,h,_]:=k;rw[J]at h;exact FE I #[_,XV h]
  |pl d=>let#[_,_,_,h,_]:=k.pl;rw[J]at h;exact FE I #[_,XV h]
 have nw:D.w a=o_:=by
  cases z:D.w a with
  |none=>rfl
  |some c=>exact absurd rfl (nv a c z)
 refine#[_,L,q (.ref a) _ (.ob a) _ e2 #[λg T=>?_,λb k l=>?_] #[rfl,_,AH]^p a nw]
 .let#[x,r,cs,g1,g2,V,g4]:=E.1 g T
  let#[_,_,_,o1,_,o3,_]:=R.feed.1 g T;exact#[x,r,cs,by rw[AF^AW o1 F];exact g1,g2,#[V.1,by rw[AF^AW o3.2 F];exact V.2],g4]
 .have l:(if b=a then P3^Wc.pl d else D.w b)=P3 k:=l
  by_cases z:b=a
  .rw[if_pos z]at l;cases l;rw[z];exact cell _ AH (λb i h=>L.tup b i h) ex
  .rw[if_neg z]at l
   exact(E.2 b k l).to (λ_ _ z=>z) (λb i h=>L.tup b i h) ex λu h=>by rw[AF z];exact h
def bY(T:String):D->Prop
 |.lst _=>T="list"
 |.dit _ _=>T="dict"
 |_=>False
def fD(T:String)(f:D->r_ D->(D->D->Prop)->Prop)(wo:DW)(h:C7):DW:=λn b P=>wo n b λx c=>∃a,x=.ob a/\(∃d,c.w a=P3^.pl d/\bY T d)/\h c b λe g=>Ay e=p_/\∃d,g.w a=P3^.pl d/\f d e λy z=>Jz y/\flat z=p_/\P z^g.put a^.pl y
def GI{K:Frag}{M:Ch->Prop}{H:Hp}{a:Ch}{d:D}(h:CellOk K M H a^.pl d):Cells M H [a]/\Tops K (λb=>M b\/b=a) (Fw H [a]) a d:=by
 have c:Cells M H [a]:=λb q=>by
  rw[Re.mp q];let#[g,u,k,e,_]:=h.pl;exact#[g,u,k,e]
 exists c;cases d with
 |lst i=>let#[g,j,e,l,n]:=h;exact#[j,c.un Op e,Ar c.pres.2.2.1 c.ex i l n]
 |dit s i=>let#[g,j,e,l,n,r]:=h;exact#[j,c.un Op e,l,Ar c.pres.2.2.1 c.ex i n r]
 |_=>exact h.elim
def X3{K:Frag}{M:Ch->Prop}{H:Hp}{a:Ch}{d:D}{T:String}(h:Tops K M H a d)(t:bY T d):aP K T (.ref a) H:=by
 cases d with
 |lst e=>let#[c,b,_]:=h;exact .inl #[t,c,SqL.of b]
 |dit g e=>let#[c,b,_]:=h;exact .inr^.inr^.inl #[t,.inr #[_,b]]
 |_=>exact(show False from t).elim
def Sx{r:V->r_ V->Hp->VK->Prop}{f:D->r_ D->(D->D->Prop)->Prop}{C0:Fm}{M:Ch->Prop}{H:Hp}{n:Sg}{O:r_ Slot}{S:L2.St}{a:Ch}{d:D}{i:r_ D}{e:r_ V}{P:D->Sg->Prop}{Q:VK}(R:Rel X.K C0 M H n O S)(T:OH X.K r f)(W:n.w a=P3^.pl d)(Y:Ay i=p_)(Z:Ats X.K M H i e)
  (p:f d i λy z=>Jz y/\flat z=p_/\P z^n.put a^.pl y) (q:∀v s z I,Ext C0.U H s->FeedC X.K C0.F M s I->At X.K M s z v->P z I->Q v s):View H^Fw H [a]/\r (.ref a) e (Fw H [a]) λv H4=>∃J,View H4 J/\Q v J:=by
 have k:=R.feed.2 a _ W;let#[c,tp]:=GI k;let#[L,u,ck,N,_]:=k.pl;refine#[c.view,T (λb=>M b\/b=a) _ a d i e _ _ (.inr rfl) tp (Ar c.pres.2.2.1 c.ex i Y Z) p λo y z v t hz #[j,fz,pp]=>?_];have g:∀b,b≠a->AY (Fw H [a]) a o b=H b:=λb z=>by rw[AF z,Es λh=>z^Re.mp h]
 have A:∀b e,AY (Fw H [a]) a o b=P3^.tup e->AY H a (.vol o) b=P3^.tup e:=λb e h=>by
  by_cases z:b=a
  .rw[z]at h;exact absurd h^t.notT
  .rw[AF z,←g b z];exact h
 have ex:∀b x,AY (Fw H [a]) a o b=P3 x->∃o',AY H a (.vol o) b=P3 o':=λb x h=>(jC (b=a)).elim (λz=>by rw[z];exact#[_,AH]) λz=>#[x,by rw[AF z,←g b z];exact h]
 obtain⟨B,cell⟩:Fv o/\CellOk X.K M (AY H a^.vol o) a^.pl y:=by
  cases y with
  |lst es=>let#[E,l,G]:=t;rw[AH]at l;cases l;exact#[trivial,L,E,AH,j,Ar A ex es j G]
  |dit ks es=>let#[E,l,G,g3]:=t;rw[AH]at l;cases l;exact#[trivial,L,E,AH,G,j,Ar A ex es j g3]
  |_=>exact(show False from j).elim
 refine#[AY H a^.vol o,λb=>?_,q v _ z _ (G8 N) (R.feed.put N cell) (G7 A ex z fz hz) pp]
 by_cases z:b=a
 .rw[z];exact .inr #[o,B,.inr #[AH,AH]]
 .rw[g b z];exact .inl^AF z
def Pa{name:Str}{b:Pos}{T k:String}{r:V->r_ V->Hp->VK->Prop}{f:D->r_ D->(D->D->Prop)->Prop}{A:C7}(L:mi T)(i:PySem.Slot T name k)(l:typeOf^.builtin k=pure^.type "method_descriptor")
  (N:Um X k r) (O:OH X.K r f) (S:DE X o zK wo) (U:WT X (e::es) A)
  (g:attributeBase o name X.env^eval o X.env=eval o X.env:=by rfl)
  (j:((backTo b^starEach (e::es) X.env).all (λx=>!x.1)&&(backToKw b^keywordEach [] X.env).all (λx=>x.1.isSome)
   && decide ((e::es).length+([]:r_ jl).length+(if([]:r_ jl).isEmpty then 0 else 1)<30))=p_:=by rfl)
  (h:(apos.endLine==b.line)=p_:=by rfl) (W:starEach (e::es) X.env=(q_,eval e X.env)::starEach es X.env:=by rfl) (c:(backTo b^starEach es X.env).any (·.1)=q_:=by rfl):
  DE X (.Call (.Attribute o name apos) (e::es) [] b) .sh (fD T f wo A):=by
 let#[to,Y,Z]:=S;let#[t,a1,a2]:=U;refine#[_,Yj L i l N Y a1 g j h W c,λC0 M H n B E P Q R w q=>?_];refine Z C0 M H n B E _ _ R w λv H1 d n1 F G r1 #[a,ed,#[d1,s,hT],w1]=>?_;subst ed;have ev:=Dg^r1.tpOf R.dom R.vM;subst ev;have I:=R.step F G;let#[c1,u]:=GI^G.2 a _ s;exists#[_,c1.view,X3 u hT];refine a2 C0 M H1 n1 B E _ _ I w1 λvs H2 ds n2 J f2 r2 #[fl,d2,y,p]=>?_;exact#[_,Sx (I.step J f2) O y fl r2 p λv H3 z n3 e3 f3 r3 p3=>q v H3 z n3 ((F.trans J).trans e3) f3 r3 p3]
end
end Dp
namespace L2
section
variable {X:Cx}{o i value:Expr}{pos pos':Pos}{td ty tv:TE}
def YM(td ty tv:TE):TS:=λD b H=>tv b H λv H1=>td b H1 λx f=>ty b f λy g=>∃a c d e,x=.ref a/\View g c/\DPut c a y v d/\View d e/\D.nx b e
def SN(c:X.A.units+1<cLine)(d:PE X o td)(hi:PE X i ty)(e:PE X value tv)(f:swapsWith value (P3^.Subscript o i pos') pos.line X.env=pure q_):
  PS X (.Assign [.Subscript o i pos'] value pos) (YM td ty tv):=by
 intro K s b H D I h;refine wpAny_Assign_Subscript (Aq (e _ s b H _ I h) λr j #[v,H1,k,l,m]=>Aq (d _ j b H1 _ k m) λu n #[x,p,q,t,w]=>Aq (hi _ n b p _ q w) λL M #[y,N,z,B,a,O,P,C,ex,E,g,F,G]=>?_) f;subst ex;obtain rfl:u=ZB a:=t;exact Jx c (z.view E) g B l λQ J=>#[b,C,J.view F,G]
def R7:r_ V->Hp->VK->Prop:=λe H Q=>∃(d:Ch) (b:r_ (r_ Key×V)),e=[.ref d]/\Rd H d^.dT b/\b.length<64 /\
 ∀(c:r_ Ch) (l:Ch),c.length=b.length->(∀(i:Nat) (a:Ch) (p:r_ Key×V),c[i]?=P3 a->b[i]?=P3 p->H a=P3^.tup^p.1.map kV)->H l=o_->Q (.ref l)^AY H l^.lst^c.map V.ref
def N7(l:X.calm=p_):CallR X (.type "list") R7:=by
 intro M s N H O R Q I r h;let#[d,m,rfl,j,n,q]:=h;let#[u,rfl,p]:=vals1 r;cases p;let#[o,es,ep,c,t,x,y,z,S,A,B]:=G9 I.hok j;have C:=(EG I.hok j).2.1;refine PySem.W.kdl_call (OZ (P:=X.prog) (w:=X.w) (es:=es) (ep:=ep) C) (I.ok.hd l) #[o,t,x,y] (by rw[gn];lk) λT D f E g F b=>?_
 have G:f=(c.map ZB).toArray:=by
  refine Array.ext' ?_;refine me λi=>?_;cases k:f.toList[i]? with
  |some v=>
   let#[e,J,rfl]:=b.2 i v (by rw[←kI];exact k);let#[a,K,g]:=A i e J;show _=(c.map ZB)[i]?;rw[UF,K,g];rfl
  |none=>
   have:f.toList.length<=i:=mq.mp k
   rw[gl,b.1]at this;show _=(c.map ZB)[i]?;rw[kL^by rw[Ev];lk]
 have L:=I.hok.fresh^Rs s.heap.objs.size;refine#[.ref s.heap.objs.size,_,I.laid (t':=D) (o:=.lst^c.map V.ref) g (Rs _) #[by rw[Ev,gn];lk,c.map ZB,E,Fx c,by rw[←G];exact F],rfl,q c _ z B L]
end
end L2
namespace Dp
open L2
def ZO(c:r_ D)(P:D->Prop):Prop:=∃(a:r_^r_ Key) (b:r_ D),c=[.dit a b]/\a.length=b.length/\a.length<64/\(∀k∈a,∀x∈k,Dk x)/\P^.lst^a.map tupK
def WF{K:Frag}:Bc K .fr R7 ZO:=by
 intro U M H u x P Q g y h w q;let#[d,z,rfl,A,j,m,w]:=w;let#[v,rfl,n]:=Bk h;let#[a,c,rfl,o,p]:=GG n;have B:=p.length;have C:(d.zip c).length=d.length:=by rw[i4];lk
 refine#[a,_,rfl,o,by lk,λD l E r e=>q _ _ _ (AU e) (BL e^HQ (by lk) m λi b k s f=>?_) w];have t:i<c.length:=by have:=(Uf.mp f).1;lk
 exact r i b (k,c[i]) s^by rw[ke];exact#[f,Go t]
def XH(d:D)(e:r_ D)(P:D->D->Prop):Prop:=∃b c k a j x,d=.dit b c/\e=[k]/\keysOf k=P3 a/\b[j]?=P3 a/\c[j]?=P3 x/\P (.dit (b.eraseIdx j)^c.eraseIdx j) x
theorem Th{c d:Type}:∀(a:r_ c) (b:r_ d) (j:Nat),a.length=b.length->(a.zip b).eraseIdx j=(a.eraseIdx j).zip^b.eraseIdx j
 |[],[],_,_=>rfl
 |_::_,_::_,0,_=>rfl
 |x::a,y::b,j+1,h=>by show(x,y)::(a.zip b).eraseIdx j=(x,y)::(a.eraseIdx j).zip^b.eraseIdx j;rw[Th a b j^by simpa using h]
def UT{K:Frag}:OH K Wu XH:=by
 intro M H a d E F P Q m t c w q;let#[g,o,k,e,j,x,rfl,rfl,p,s,y,w]:=w;let#[h,i,l,f]:=t;let#[u,r,rfl,A,B]:=c;cases(show r=[]from B);let#[b,rfl,C]:=EU p^At.tp (U:=λ_=>False) (λ_ z=>z.elim) A;let#[v,D,c]:=f.get y;have n:Pres M H M^AY H a^.dT^(g.zip h).eraseIdx j:=B7 m i;refine#[a,b,_,e,j,v,rfl,rfl,i,C,by rw[ke];exact#[s,D],q _ (.dit (g.eraseIdx j)^o.eraseIdx j) x v #[h.eraseIdx j,?_,?_,(f.eraseIdx j).pres n] (c.pres n) w]
 .rw[AH,Th _ _ _^l.trans f.length.symm]
 .rw[List.length_eraseIdx,List.length_eraseIdx,l]
section
variable {X:Cx}{a b c o:Expr}{κ zV zS zK:Kd}{wa wb wo:DW}{pos pos':Pos}
def WW(wo i j:DW):AX:=λm n e=>j n e λd p=>flat d=p_/\wo p e λx q=>i q e λk g=>∃l c f h,x=.ob l/\keysOf k=P3 c/\g.w l=P3^.pl^.dit f h/\f.length<sizeLine/\m.nx (g.put l^.pl^.dit (Cv f c)^Bg f h c d) e
theorem Hc{k:r_ Key}{d:D}(g:flat d=p_):∀{i:r_^r_ Key}{c:r_ D},Ay c=p_->Ay^i6 (λf e=>if f=k then d else e) i c=p_
 |[],_,_=>rfl
 |_::_,[],_=>rfl
 |f::i,e::c,h=>by
  have h:(flat e&&Ay c)=p_:=h;rw[gS]at h;show(flat (if f=k then d else e)&&Ay _)=p_;rw[Hc g h.2,Bool.and_true]
  split
  .exact g
  .exact h.1
theorem Do:∀{c d:r_ D},Ay c=p_->Ay d=p_->Ay (c++d)=p_
 |[],_,_,h=>h
 |x::c,d,h,g=>by
  have h:(flat x&&Ay c)=p_:=h;rw[gS]at h;show(flat x&&Ay (c++d))=p_;rw[h.1,Do h.2 g];rfl
def PP{k:Nat}(V:Room k X.A)(W:DE X o zK wo)(Y:DE X a zV wa)(Z:DE X b zS wb)(hk:zS≠.tp:=by intro z;cases z)
  (hs:swapsWith b (P3^.Subscript o a pos') pos.line X.env=pure q_:=by rfl):DS X κ (.Assign [.Subscript o a pos'] b pos)^WW wo wa wb:=by
 let#[t,h1,h2]:=Y;let#[u,g1,g2]:=Z;let#[to,o1,o2]:=W;refine#[_,SN (ID V) o1 h1 g1 hs,λC M H n q r D2 E R L w=>?_];refine g2 C M H n q r _ _ R w λv H1 d n1 e1 f1 r1 #[G,w1]=>?_;have i:=R.step e1 f1;refine o2 C M H1 n1 q r _ _ i w1 λx H2 d2 n2 I f2 r2 w2=>?_;have R2:=i.step I f2;refine h2 C M H2 n2 q r _ _ R2 w2 λy B d3 n3 J s r3 #[l,e,g,ds,ed,j,N,hl,p]=>?_;have O:=R2.step J s;subst ed;have hx:=Dg^r2.tpOf i.dom i.vM;subst hx;let#[c,us,t1,t2,t3]:=GI^s.2 l _ N;let#[nM,f,D,P,Q,S]:=s.2 l _ N;have m:=c.un Op D;have hu:=XV^m.symm.trans t1;let#[b',rfl,F]:=EU j^r3.tpOf R2.dom R2.vM;have lu:g.length=f.length:=P.trans S.length.symm;exists l,Fw B [l],_,AY B l^.vol^.dT^putK (g.zip f) e v,rfl,c.view,DPut.t m (c.keep F^by rintro⟨_,z⟩;cases z) (by rw[i4];lk),λb0=>?_
 .by_cases z:b0=l
  .rw[z];exact .inr #[.dT _,trivial,.inr #[AH,AH]]
  .rw[AF z,AF z];exact .inl (Es λh=>z^Re.mp h).symm
 .have T:=G8 (U:=C.U) (u':=.dT^putK (g.zip f) e v) D
  have hd:At X.K M B d v:=((r1.shOf R.dom hk).pres^i.pres I).pres^R2.pres J;refine L.nx M _ _ q r (O.step T^s.put (c:=.pl^.dit (Cv g e)^Bg g ds e d) D #[nM,Bg g f e v,?_,SE P,?_,(Ats.putXU hd S).pres^O.pres T]) p
  .rw[AH,QE lu]
  .unfold Bg
   split
   .exact Hc G Q
   .exact Do Q^by show(flat d&&p_)=p_;rw[G];rfl
def RI(d e:Str)(f g:DW):DW:=λn c P=>f n c λh i=>g i c λj k=>P (.dic [.inr d,.inr e] [h,j]) k
def UC{e h:Str}{W Y:Nat}{s v:Pos}(Z:DE X a zV wa)(hb:DE X b zS wb)(A:e≠h:=by decide)(a0:decide (e.length<=1000)=p_:=by rfl)(a1:decide (h.length<=1000)=p_:=by rfl)(B:zV≠.tp:=by intro z;cases z)(D:zS≠.tp:=by intro z;cases z):DE X (.Dict [P3^.Constant (.str e) W s,P3^.Constant (.str h) Y v] [a,b] pos) .fr^RI e h wa wb:=by
 let#[t,h1,h2]:=Z;let#[u,g1,g2]:=hb;refine#[_,Ot (Hd NU h1^Hd NU g1 Oj) rfl rfl (iW _ _) (by show 2<=15;decide),λC M H n N O P Q R w q=>λp k=>?_];have E:=R.hold (o:=.dK []) k
 have F:¬C.U p:=λz=>by
  let#[o,w]:=R.dom p^R.vM p^R.uV p z;rw[k]at w;cases w
 refine h2 C _ _ n N O _ _ E w λx H2 S n1 G f1 r1 s=>?_;have R2:=E.step G f1;refine g2 C _ _ n1 N O _ _ R2 s λy I d n2 l T r2 v=>?_;have R3:=R2.step l T;have i:At X.K (λb=>M b\/b=p) I S x:=(r1.shOf E.dom B).pres^R2.pres l;have j:At X.K (λb=>M b\/b=p) I d y:=r2.shOf R2.dom D;have g:I p=P3^.dK []:=l.keep (G.keep AH F) F;exists g,[(.inr e,x),(.inr h,y)],?_,by show 2<=15;decide
 .rfl
 rw[show E4 [] [((.inr e:Key),x),(.inr h,y)]=[(.inr e,x),(.inr h,y)] by simp[E4,putK,A]];refine q _ _ (.dic [.inr e,.inr h] [S,d]) n2 (λb o c=>?_) ?_ #[p,rfl,k,[x,y],AH,rfl,?_] v
 .have m:b≠p:=AW c k
  let#[o1,z1,e,V]:=G b o (by rw[AF m];exact c);let#[o2,z2,h,t2]:=l b o1 z1;exact#[o2,by rw[AF m];exact z2,λJ L=>(h J^by rw[e J L];exact L).trans^e J L,λr z=>(t2 r^(V r z).trans z).trans^V r z]
 .refine T.pres #[λb o c m _=>by rw[AF λz=>m^.inr z];exact c,λb z=>.inl^.inl z,λb r c=>by rw[AF λz=>by rw[z,g]at c;cases c];exact c,λb o c=>(jC (b=p)).elim (λz=>by rw[z];exact#[_,AH]) λz=>#[o,by rw[AF z];exact c]] (λf o hf c=>?_) λb u c=>by rw[AF λz=>by rw[z,g]at c;cases c];exact c
  rw[AF λz=>F^by rw[←z];exact R.fU f hf];exact c
 .exact#[x,[y],rfl,i.pres^B7 (.inr rfl) g,y,[],rfl,j.pres^B7 (.inr rfl) g,rfl]
end
end Dp
namespace L2
section
variable {X:Cx}
def Ri{P:gC}{w:gJ}{A:gX}{E:Db->No->Prop}{s:No}{k:String}{a b:Ch}{e d:Array jz}{l f:Nat}{Q:Bool->No->Prop}(m:(a==sysModules)=q_)(n:(b==sysModules)=q_)(o:DRaw s.heap a e l)(p:DRaw s.heap b d f)(g:d.size=0)
  (h:Q (decide (e.size=0)) s):wpAny (model P w) A (nU k a b) Q E s:=by
 let#[t,i,u,j]:=o;let#[ob,q,v,r]:=p;unfold nU lT;rw[if_neg (show ¬(a==sysModules)=p_ by rw[m];exact gE),if_neg (show ¬(b==sysModules)=p_ by rw[n];exact gE)];refine Cn^On^Cn^On ?_;refine Cn^iz i j ?_
 dsimp only
 refine Cn^iz q r ?_
 by_cases c:e.size=0
 .rw[if_neg^by rw[c,g];simp]
  refine Cn^l7 i j ?_;refine Cn ?_;rw[Std.Legacy.Range.forIn_eq_forIn_range'];simp only[Std.Legacy.Range.size,Nat.sub_zero,Nat.add_sub_cancel,Nat.div_one,c,List.range'_zero,nY];rw[decide_eq_true c]at h;exact On^On h
 .rw[if_pos^by rw[g];simpa using c]
  rw[decide_eq_false c]at h;exact Cn^kr^On h
def ax:R2:=λx y H Q=>∃a b c,x=.ref a/\y=.ref b/\Rd H a^.dT c/\Rd H b^.dK []/\Q (.bl (!decide (c.length=0))) H
def Yn{k:Nat}(r:Room k X.A):OpR X (compareOp .NotEq) ax:=by
 intro R s S H x y v u Q I t w h;let#[a,b,f,rfl,rfl,n,z,q]:=h;cases t;cases w;let#[o,p,B,U,C,D,E,V,G,W,Y]:=G9 I.hok n;have J:=(EG I.hok n).2.1;let#[_,K,Z,L,g]:=Ge I.hok z;let#[ob,c,M,i,j,l,N,m,_]:=id g;have d:DRaw s.heap a p B:=#[o,C,D,E]
 have O:c.size=0:=by
  have e1:=m.length;have P:=L.length;have e3:c.toList.length=c.size:=gl;rw[hG]at P;lk
 refine wpAny_richCompare_same_room (op:=.NotEq) d.ty g.typeIs PySem.F.slot_dict_ne (iV PySem.F.slot_dict_ne d.ty PySem.F.entry_dict_ne ?_^PySem.F.args_dict_ne_2 _ _) r.units0;show wpAny _ _ (mr "__ne__" #[[.ref a,.ref b],[]] >>=_) _ _ s;refine Cn ?_;unfold mr;refine Cn^lS d.ty ?_;show wpAny _ _ (pure (ZB a,ZB b)) _ _ s;refine On ?_;refine Cn^lJ (T:="dict") g.typeIs PySem.F.sub_dict_dict ?_;simp only[Bool.not_true,gs,if_false];refine Cn^On^Cn^On ?_;refine Cn^Ri J K d #[ob,i,j,l] O ?_;refine On #[_,rfl,(λx=>nomatch x),?_];have e:p.size=f.length:=by first|exact G|omega
 rw[e];refine#[.bl _,H,I,?_,q];show jx _=jx _;simp
def JG{P:gC}{w:gJ}{d:Ch}{b:Array jz}{c:Nat}(lo:(d==sysModules)=q_):
  MeetsIn P w (iq.«dict.__len__» #[[.ref d],[]]) (λ_ R s=>DRaw s.heap d b c/\R (.ok^.ret^.int b.size s.toks) {s with toks:=s.toks+1}):=
 .of_wp λA R s #[e,h]=>by
  let#[o,f,g,a]:=e;show wpAny _ _ (dictSize d >>=_) _ _ s;unfold dictSize;refine Cn^Cn^iz f a^On ?_;show wpAny _ _ (Builtin.Dict.pendingCount d >>=_) _ _ s;refine Cn^wpAny_pendingCount_other lo ?_;refine wpAny_ret_mkInt ?_;rw[Nat.add_zero];exact h
def J1:CallR X (.builtin "len") (λe H Q=>∃a b,e=[V.ref a]/\Rd H a^.dT b/\Q (.int b.length) H):=by
 intro v s w H e x Q I r h;let#[a,b,rfl,f,q]:=h;let#[u,rfl,g]:=vals1 r;cases g;let#[z,i,_]:=EG I.hok f;let#[o,c,j,y,k,l,n,A,p,_]:=G9 I.hok f;have d:DRaw s.heap a c j:=#[o,k,l,n];have t:=PySem.sizeLine_eq;refine Calls.call_function_entry kind_len plain_len entry_len (args_len1 _) ?_;unfold iq.«len»;refine Cn (m:=oneArg "len" _)^On ?_
 refine Cn (m:=callSpecial? (.ref a)^g_ "__len__") (h_ (name:=g_ "__len__") d.ty F.slot_dict_len
  (call_meetsIn F.slot_dict_len d.ty F.entry_dict_len (F.args_dict_len_1 _) (JG i) #[d,?_]))
 show wpAny _ _ _ _ _ {s with toks:=s.toks+1};refine Cn^gw^On ?_;refine Cn^jS ?_;show wpAny _ _ (if((c.size:Nat):Int)<0 then _ else _) _ _ _;rw[if_neg^by lk];show wpAny _ _ (if((c.size:Nat):Int)≥2 ^ 63 then _ else _) _ _ _;rw[if_neg^by lk];rw[p];exact Cn^wpAny_mkInt^On #[_,rfl,.int b.length,H,I.tok _,#[_,rfl],q]
end
end L2
namespace Dp
open L2
def eP(d e:D)(P:D->Prop):Prop:=∃a b,d=.dit a b/\a.length=b.length/\e=.dic [] []/\P^.bl (!decide (a.length=0))
def cN{K:Frag}:C6 K .sh ax eP:=λU M H d e x y P Q f n g h w q=>by
 let#[c,o,rfl,p,rfl,w]:=w;let#[a,i,rfl,j,k]:=GG g;let#[b,r,rfl,_,l,_,m]:=h;have e:(c.zip i).length=c.length:=by rw[i4,k.length];lk
 exists a,b,_,rfl,rfl,j,.inl l;rw[e];exact q _ H (.bl _) .refl rfl w
def bx(c:r_ D)(P:D->Prop):Prop:=∃a b,c=[.dit a b]/\a.length=b.length/\P^.int (a.length:Int)
def UV{K:Frag}:Bc K .sh (λd H Q=>∃a b,d=[V.ref a]/\Rd H a^.dT b/\Q (.int b.length) H) bx:=by
 intro U M H l m P Q f n g w q;let#[c,o,rfl,p,w]:=w;let#[v,rfl,h]:=Bk g;let#[a,i,rfl,j,k]:=GG h;have e:(c.zip i).length=c.length:=by rw[i4,k.length];lk
 exists a,_,rfl,j;rw[e];exact q _ H (.int _) .refl rfl w
end Dp
namespace L2
section
variable {X:Cx}{zF:r_ (Addr×Obj)}{σ:St}{H:Hp}{s:Shared}
def NJ{u:gX}{v:Db->No->Prop}{j:r_ Str}{d:r_ Db}{Q:VK}(I:Inv X zF σ H s)(f:StrsAre d j)(g:d.length<64)
  (q:∀(c:r_ Str) (l:Ch),c.Perm j->sortedS c=p_->H l=o_->Q (.ref l)^AY H l^.lst^c.map V.str):
  wpAny (model X.prog X.w) u (iq.«list.sort» #[[.ref s.heap.objs.size],[]]) (λh x=>h=.done^.ret .none/\EP X zF σ Q (.ref s.heap.objs.size) x) v {s with heap:=s.heap.push^seqObj "list" d.toArray 0}:=by
 have k:(s.heap.push^seqObj "list" d.toArray 0).get? s.heap.objs.size=P3^seqObj "list" d.toArray 0:=Sc _ rfl;refine list_sort_treeK strKind_oneLt k f.keysOf (λm n p e=>keyKind_strs^by rw[←e];exact f) g λi y A=>#[rfl,?_];let#[c,r,t,B]:=sorted_out_str f y A;let#[e,C]:=sortedHeap_at (out:=(arrOf i).map (·.2)) k;have D:H s.heap.objs.size=o_:=I.fresh;have E:=(Bn r).length;have F:=(Bn f).length;have G:=t.length_eq;rw[Ev]at E F;refine#[.ref s.heap.objs.size,AY H s.heap.objs.size^.lst^c.map V.str,I.laid (t':=s.toks) (λb o z=>?_) (Rs _) #[by rw[Ev,gn];lk,_,e,Bn r,C],rfl,q c _ t B D];rw[sortedHeap_old (gB^TW z)^by rw[size_push'];exact iO^TW z];exact FM _ z
end
end L2
namespace Dp
open L2
end Dp
namespace L2
section
variable {X:Cx}
def Ry(K:Frag):r_ V->Hp->VK->Prop:=λc H Q=>∃(p:Ch) (b:r_ Str),c=[.ref p]/\SqT K H p^b.map V.str/\b.length<64/\∀(a:r_ Str) (l:Ch),a.Perm b->sortedS a=p_->H l=o_->Q (.ref l)^AY H l^.lst^a.map V.str
def N5:CallR X (.builtin "sorted")^Ry X.K:=by
 intro i s j H k b Q I r h;let#[p,l,rfl,c,d,q]:=h;let#[u,rfl,e]:=vals1 r;cases e;exact CL (args_sorted1 _) (λx=>args_list_sort _)^IP (κ:=q_) I c λb m a f g=>#[by rw[←a.length];exact f,NJ g (HU a) (by have:=a.length;rw[Ev]at this;lk) q]
end
end L2
namespace Dp
open L2
def ZJ(c:r_ D)(P:D->Prop):Prop:=∃b:r_ Str,c=[.tup^b.map .str]/\b.length<64/\∀a:r_ Str,a.Perm b->sortedS a=p_->P^.lst^a.map .str
def WD{K:Frag}:Bc K .fr (Ry K) ZJ:=by
 intro U M H t u P Q m y n w q;let#[b,rfl,g,w]:=w;let#[v,rfl,i]:=Bk n;let#[a,c,rfl,o,j]:=i.tup
 have d:∀{b:r_ Str}{c:r_ V},Ats K M H (b.map D.str) c->c=b.map V.str:=by
  intro b
  induction b with
  |nil=>intro c h;exact h
  |cons x b p=>
   rintro c ⟨v,r,e,f,d⟩;rw[e,f.1,p d];rfl
 have e:=d j;subst e;exact#[a,b,rfl,o.sq,g,λs l f d k=>q _ _ _ (AU k) (BL k^Ats.strs λx i=>j.strs_le x^f.mem_iff.mp i)^w _ f d]
end Dp
namespace Nt
open L2 Dp
def tD(t b:Int):D:=.tup [.int t,.int b]
def RS(t b:Int):Prop:=1<=b/\b<=1000000/\1<=t/\t<=1000000
def kc(C:Ch)(t b:Int)(N M:Net):Wc:=.ins C ["times","whole","kept"] [tD t b,Bx N,Bx M]
def IsT(N:Net)(t b:Int)(M:Net):Prop:=∃a:r_ Ak,a.Perm N.ts/\IX a/\M=sub N^Dx N t b [] a
def Zx(A B l:r_ Ak):Prop:=l.Perm (A.filter λt=>decide (t∉B))/\IX l
def UM(n:Sg)(a b:Ch)(x y:r_ Ak):Sg:=(n.put a^.pl^.lst^x.map Ai).put b^.pl^.lst^y.map Ai
def Xg(C:Ch)(n:Sg)(a:Ch)(t b:Int)(M N:Net)(P:D->Sg->Prop):Prop:=∀(T:Net) (c d:r_ Ak) (e f:Ch),IsT N t b T->Zx T.ts M.ts c->Zx M.ts T.ts d->n.w e=o_->n.w f=o_->e≠f->P (.tup [.ob e,.ob f])^UM (n.put a^kc C t b N T) e f c d
def UN(x y:Str)(u:Ak):Prop:=(u.a=x/\u.b=y)\/(u.a=y/\u.b=x)
noncomputable def Ag(x y:Str)(u:Ak):Bool:=@decide (UN x y u)^jL _
noncomputable def Q1(x:Str)(u:Ak):Bool:=@decide (u.a=x\/u.b=x)^jL _
def WM:W2:=λa n P=>∃N M:Net,a=[.sh^Bx N,.sh^Bx M]/\okN N/\okN M/\∀l,Zx N.ts M.ts l->P (.lst^l.map Ai) n
def Po:W2:=λb n P=>∃(N:Net) (a:r_ Ak),b=[.sh^Bx N,.br^.lst^a.map Ai]/\okN N/\(∀u∈a,u∈N.ts)/\P (Bx #[N.ps,N.ts.filter λt=>decide (t∉a)]) n
def Mt:W2:=λa n P=>a=[.fd]/\1<=n.n/\∀t b:Int,1<=b->b<=t->t<=1000000->P (tD t b) (n - 1)
def WN(C:Ch):W2:=λc n P=>∃(a:Ch) (t b:Int),c=[.sh^.ob a,.sh^tD t b]/\n.w a=P3^.ins C [] []/\P .non^n.put a^kc C t b #[[],[]] #[[],[]]
def Pp(C:Ch):W2:=λc n P=>∃(a:Ch) (t b:Int) (d M N:Net),c=[.sh^.ob a,.sh^Bx N]/\n.w a=P3^kc C t b d M/\okN N/\okN M/\RS t b/\Xg C n a t b M N P
def Xh(C:Ch)(n:Sg)(a:Ch)(t b:Int)(N M:Net):Prop:=n.w a=P3^kc C t b N M/\okN N/\okN M/\RS t b
inductive Dd where
 |come (x:Str)|go (x:Str)|lay (x y:Str) (l:Int)|take (x y:Str)
def Em:Dd->D
 |.come x=>.tup [.str "come",.str x]
 |.go x=>.tup [.str "go",.str x]
 |.lay x y l=>.tup [.str "lay",.str x,.str y,.int l]
 |.take x y=>.tup [.str "take",.str x,.str y]
def lo(x y:Str):Str:=if cs x<cs y then x else y
def hi(x y:Str):Str:=if cs x<cs y then y else x
def Z3(N:Net):Dd->Net->Prop
 |.come x,a=>Bm x/\x∉N.ps/\a.ps.Perm (x::N.ps)/\a.ts=N.ts
 |.go x,a=>x∈N.ps/\a=#[N.ps.filter λy=>decide (y≠x),N.ts.filter λu=>!Q1 x u]
 |.lay x y l,a=>x∈N.ps/\y∈N.ps/\x≠y/\1<=l/\l<=1000000/\a.ps=N.ps/\a.ts.Perm (#[lo x y,hi x y,l]::N.ts.filter λu=>!Ag x y u)
 |.take x y,a=>(∃u,N.ts.filter^Ag x y=[u])/\x∈N.ps/\y∈N.ps/\x≠y/\a=#[N.ps,N.ts.filter λu=>!Ag x y u]
def FG(C:Ch):W2:=λc n P=>∃(a:Ch) (t b:Int) (N M:Net),c=[.sh^.ob a]/\n.w a=P3^kc C t b N M/\P (Bx N) n
def Ik(C:Ch):W2:=λc n P=>∃(a:Ch) (t b:Int) (N M:Net),c=[.sh^.ob a]/\n.w a=P3^kc C t b N M/\P (Bx M) n
def tk(u:Ak):r_ Key:=[.inr u.a,.inr u.b]
def Iv(ps:r_ Str):D:=.lst^ps.map .str
def FI(a:r_ Ak):D:=.dit (a.map tk)^a.map λu=>.int u.len
def JO(N:Net)(ps:r_ Str)(a:r_ Ak):Prop:=N.ps.Perm ps/\N.ts.Perm a/\okN N
def Gq(x y:D):D:=.dic [.inr "places",.inr "ties"] [x,y]
def Il:W2:=λb n P=>∃(N:Net) (ps:r_ Str) (a:r_ Ak),b=[.sh^Gq (Iv ps)^FI a]/\JO N ps a/\P (Bx N) n
def WK:W2:=λa n P=>∃x y:Str,a=[.sh^.str x,.sh^.str y]/\Bm x/\Bm y/\x≠y/\P (.tup [.str^lo x y,.str^hi x y]) n
def Pt:W2:=λh n P=>∃(l t:Ch) (N f:Net) (ps:r_ Str) (g:r_ Ak) (d:Dd),h=[.sh^Gq (.ob l)^.ob t,.sh^Em d]/\l≠t/\n.w l=P3^.pl^Iv ps/\n.w t=P3^.pl^FI g/\JO N ps g/\Z3 N d f/\okN f /\
 ∀(a:Sg) (c:r_ Str) (e:r_ Ak),a.n=n.n->a.w l=P3^.pl^Iv c->a.w t=P3^.pl^FI e->JO f c e->(∀b,b≠l->b≠t->a.w b=n.w b)->P .non a
def Kc(n:Sg)(a:Ch)(c d:Wc):(n.put a c).put a d=n.put a d:=by
 unfold Sg.put
 congr 1
 funext b
 by_cases h:b=a
 .simp only[h,if_pos]
 .simp only[if_neg h]
def Br(n:Sg)(a:Ch)(c:Wc):(n.put a c).w a=P3 c:=if_pos rfl
def B2{n:Sg}{a b:Ch}{c:Wc}(h:b≠a):(n.put a c).w b=n.w b:=if_neg h
def Lm(a:r_ Str):flat^.tup^a.map .str=p_:=by
 show Ay _=p_
 induction a with
 |nil=>rfl
 |cons x a b=>show(p_&&Ay^a.map D.str)=p_;rw[b];rfl
def E8(a:r_ Ak):Ay^a.map Ai=p_:=by
 induction a with
 |nil=>rfl
 |cons u a b=>show(flat^Ai u&&Ay^a.map Ai)=p_;rw[b];rfl
def IJ(N:Net):flat^Bx N=p_:=by
 show(flat^.tup^N.ps.map .str&&(flat^.tup^N.ts.map Ai&&p_))=p_;rw[Lm,show flat^.tup^N.ts.map Ai=p_ from E8 N.ts];rfl
theorem IsT.okN{N T:Net}{t b:Int}(h:IsT N t b T)(ok:okN N):okN T:=by
 let#[a,_,_,rfl]:=h;exact OU ok _
def IsT.ps{N T:Net}{t b:Int}(h:IsT N t b T):T.ps=N.ps:=by
 let#[a,_,_,rfl]:=h;rfl
section
def MU(A B:r_ Ak):(A.map Ai).filter (λd=>!((B.map Ai).any λy=>Dy y d))=(A.filter λt=>decide (t∉B)).map Ai:=by
 rw[kg]
 congr 1
 refine jI λt _=>?_;show(!((B.map Ai).any λy=>Dy y^Ai t))=decide (t∉B);rw[WB,decide_not]
def VX{N:Net}(ok:N.Ok):Bv^.tup^N.ts.map Ai:=(ML ok λ_ h=>h).1
def GV{N:Net}(ok:N.Ok):Bv^.tup^N.ps.map .str:=DM ok.names
def EV(x y:Str):Dy (.str x)^.str y=(x==y):=rfl
def HH{a:r_ Str}{x:Str}:((a.map D.str).any λy=>Dy y^.str x)=decide (x∈a):=by
 rw[gi,jQ,decide_eq_true_eq];constructor
 .rintro⟨d,b,e⟩
  let#[y,c,rfl]:=TM.mp b;rw[EV,beq_iff_eq]at e;rw[←e];exact c
 .exact λh=>#[.str x,TM.mpr #[x,h,rfl],by rw[EV,beq_self_eq_true]]
end
def aD:1<=sizeLine:=by cbv
def Ka{c:r_ Str}(h:rising c):c.Nodup:=h.imp λ{a b} z e=>by rw[e]at z;exact A5 _ z
def JZ(x y:Str):cs x<cs y\/x=y\/cs y<cs x:=by
 by_cases a:cs x<cs y
 .exact .inl a
 .by_cases b:cs y<cs x
  .exact .inr^.inr b
  .refine .inr^.inl ?_
   have:=Jm (.inr x) (.inr y) (decide_eq_false a)^decide_eq_false b
   exact jA this
def D1{x y:Str}(h:cs x<cs y):¬cs y<cs x:=λg=>A5 _^kU h g
def bT{x y:Str}(h:x≠y):(if decide (cs y<cs x)=p_ then y else x)=lo x y:=by
 unfold lo
 rcases JZ x y with g|g|g
 .rw[if_pos g,if_neg^by rw[decide_eq_true_eq];exact D1 g]
 .exact absurd g h
 .rw[if_neg^D1 g,if_pos^decide_eq_true g]
def bU{x y:Str}(h:x≠y):(if decide (cs x<cs y)=p_ then y else x)=hi x y:=by
 unfold hi
 rcases JZ x y with g|g|g
 .rw[if_pos g,if_pos^decide_eq_true g]
 .exact absurd g h
 .rw[if_neg^D1 g,if_neg^by rw[decide_eq_true_eq];exact D1 g]
def W9{x y:Str}(h:x≠y):cs^lo x y<cs^hi x y/\(lo x y=x/\hi x y=y\/lo x y=y/\hi x y=x):=by
 unfold lo hi
 rcases JZ x y with g|g|g
 .rw[if_pos g,if_pos g];exact#[g,.inl #[rfl,rfl]]
 .exact absurd g h
 .rw[if_neg^D1 g,if_neg^D1 g];exact#[g,.inr #[rfl,rfl]]
def Fl{x y:Str}(h:x≠y){u:Ak}(i:cs u.a<cs u.b):UN x y u↔u.a=lo x y/\u.b=hi x y:=by
 let#[l,c]:=W9 h;unfold UN;constructor
 .rintro(⟨f,g⟩|⟨f,g⟩)
  .rcases c with⟨d,e⟩|⟨d,e⟩
   .rw[d,e];exact#[f,g]
   .rw[d,e]at l;rw[f,g]at i;exact absurd l^D1 i
  .rcases c with⟨d,e⟩|⟨d,e⟩
   .rw[d,e]at l;rw[f,g]at i;exact absurd l^D1 i
   .rw[d,e];exact#[f,g]
 .rintro⟨f,g⟩
  rcases c with⟨d,e⟩|⟨d,e⟩
  .exact .inl #[f.trans d,g.trans e]
  .exact .inr #[f.trans d,g.trans e]
def betwB_iff{x y:Str}{u:Ak}:Ag x y u=p_↔UN x y u:=by
 unfold Ag;exact @decide_eq_true_iff _^jL _
def atB_iff{x:Str}{u:Ak}:Q1 x u=p_↔u.a=x\/u.b=x:=by
 unfold Q1;exact @decide_eq_true_iff _^jL _
def Vl(a b c d:Str):Dy (.tup [.str a,.str b])^.tup [.str c,.str d]=p_↔a=c/\b=d:=by
 show((a==c)&&((b==d)&&p_))=p_↔_;simp
def ER{x y:Str}(b:Bm x)(c:Bm y):Bv^.tup [.str x,.str y]:=DM (ps:=[x,y]) λp a=>by
 rcases Tk.mp a with rfl|a
 .exact b
 .rw[Re.mp a];exact c
def Qg{x y:Str}(a:Bm x)(b:Bm y):Bm^lo x y/\Bm^hi x y:=by
 unfold lo hi
 split <;>exact#[by assumption,by assumption]
def OM{a b x:Str}:([D.str a,D.str b].any λy=>Dy y^.str x)=(decide (a=x)||decide (b=x)):=by
 show((a==x)||((b==x)||false))=_;rw[Bool.or_false,lU,lU]
def tk_eq{s t:Ak}:tk s=tk t↔s.a=t.a/\s.b=t.b:=by
 unfold tk;simp
def ND{N:Net}(ok:N.Ok):(N.ts.map tk).Nodup:=kE.mpr (ok.trise.imp λ{s t} h e=>by
 let#[a,b]:=tk_eq.mp e
 rcases h with h|⟨_,h⟩
 .rw[a]at h;exact A5 _ h
 .rw[b]at h;exact A5 _ h)
def X8{s t:Ak}(h:BF s t):BJ (tk t)^tk s=q_:=by
 show(if(i5 t.a:Key)=.inr s.a then(if(i5 t.b:Key)=.inr s.b then q_ else decide (t.b.cps.toList<s.b.cps.toList))else decide (t.a.cps.toList<s.a.cps.toList))=q_
 rcases h with h|⟨e,h⟩
 .rw[if_neg λz=>by rw[jA z]at h;exact A5 _ h]
  exact decide_eq_false^D1 h
 .rw[if_pos (by rw[e]),if_neg λz=>by rw[jA z]at h;exact A5 _ h]
  exact decide_eq_false^D1 h
def Ln{N:Net}(ok:N.Ok){d:r_ Ak}(e:N.ts.Perm d){c:r_^r_ Key}(h1:c.Perm^d.map tk)(f:c.Pairwise λa b=>BJ b a=q_):c=N.ts.map tk:=
 FR (λa b x y=>Cb _ _ y x) (h1.trans (e.map tk).symm) f (kE.mpr^ok.trise.imp λ{s t} h=>X8 h)
theorem M_:∀{a:r_ Ak}{t:Ak},(a.map tk).Nodup->t∈a->Bo (a.map tk) (a.map λu=>.int u.len)^tk t=P3^.int t.len
 |[],_,_,h=>by cases h
 |u::a,t,b,h=>by
  rw[gQ,gP]at b;show(if tk u=tk t then P3^D.int u.len else Bo (a.map tk) (a.map λu=>D.int u.len)^tk t)=_
  rcases Tk.mp h with rfl|h
  .rw[if_pos rfl]
  .rw[if_neg (λz=>b.1^by rw[z];exact TM.mpr #[t,h,rfl]),M_ b.2 h]
def Jb{x y:D}{P:D->Prop}(h:P x):DU (Gq x y) (.str "places") P:=#[_,_,.inr "places",x,rfl,rfl,rfl,h]
def Eh{x y:D}{P:D->Prop}(h:P y):DU (Gq x y) (.str "ties") P:=#[_,_,.inr "ties",y,rfl,rfl,by
 show(if(i5 "places":Key)=.inr "ties" then P3 x else if(i5 "ties":Key)=.inr "ties" then P3 y else o_)=P3 y;rw[if_neg^by cbv,if_pos rfl],h]
def Tb{N:Net}(ok:N.Ok){d:r_ Ak}(e:N.ts.Perm d):∀k∈d.map tk,∀x∈k,Dk x:=λk f x c=>by
 let#[u,g,rfl]:=TM.mp f;let#[h,i,_]:=ok.tin u^e.mem_iff.mpr g;have j:=PySem.sizeLine_eq;have l:=(ok.names _ h).2.1;have m:=(ok.names _ i).2.1
 rcases Tk.mp c with rfl|c
 .show u.a.length<=sizeLine;lk
 .rw[Re.mp c];show u.b.length<=sizeLine;lk
section
def RZ{N:Net}{a:r_ Ak}(b:okN N)(d:N.ts.Perm a):(a.map tk).length=(a.map λu=>D.int u.len).length/\(a.map tk).length<64/\(∀x∈a.map tk,∀y∈a.map tk,A_ x y=p_)/\(∀x∈a.map tk,x≠[]):=by
 have e:=b.2.2;have g:=d.length_eq;refine#[by rw[Ev,Ev],by rw[Ev];lk,λx c y f=>?_,λx c=>?_]
 .let#[u,_,rfl]:=TM.mp c
  let#[v,_,rfl]:=TM.mp f;rfl
 .let#[u,_,rfl]:=TM.mp c
  exact iW _ _
end
def Eu(a:r_ Str):Ay^a.map .str=p_:=Lm a
def Nn(a:r_ Ak):Ay (a.map λu=>D.int u.len)=p_:=by
 induction a with
 |nil=>rfl
 |cons u a b=>show(p_&&Ay^a.map λu=>D.int u.len)=p_;rw[b];rfl
def NC(a:r_ Ak):Ay^(a.map tk).map tupK=p_:=by
 induction a with
 |nil=>rfl
 |cons u a b=>show(flat^tupK^tk u&&Ay^(a.map tk).map tupK)=p_;rw[b];rfl
def U9(ps:r_ Str):Jz^Iv ps:=Eu ps
def ON(a:r_ Ak):Jz^FI a:=Nn a
def XQ(a:r_ Ak)(j:Nat):D.dit ((a.map tk).eraseIdx j)^(a.map λu=>D.int u.len).eraseIdx j=FI^a.eraseIdx j:=by
 rw[GD,GD];rfl
theorem UO{b:Type}[DecidableEq b]:∀{a:r_ b}{x:b},x∈a->∃j:Nat,a[j]?=P3 x/\(∀m y,m<j->a[m]?=P3 y->y≠x)/\(x::a.eraseIdx j).Perm a
 |[],_,h=>by cases h
 | y::a,x,h=>by
  by_cases e:y=x
  .subst e
   exact#[0,rfl,λm _ c=>absurd c^Nat.not_lt_zero _,List.Perm.refl _]
  .let#[j,f,g,i]:=UO^(Tk.mp h).resolve_left λz=>e z.symm
   exists j+1,f,λm z c d=>?_
   .cases m with
    |zero=>cases d;exact e
    |succ m=>exact g m z (by lk) d
   .show(x::y::a.eraseIdx j).Perm (y::a)
    exact(ni ..).trans^i.cons y
def Fa{c:Type}[DecidableEq c]{a:r_ c}{x:c}{j:Nat}(nd:a.Nodup)(h:(x::a.eraseIdx j).Perm a):(a.eraseIdx j).Perm (a.filter λy=>decide (y≠x)):=by
 have b:=h.nodup_iff.mpr nd;rw[gP]at b;have f:=h.filter λy=>decide (y≠x);rw[jM^by simp]at f;have e:((a.eraseIdx j).filter λy=>decide (y≠x))=a.eraseIdx j:=mB.mpr λy d=>decide_eq_true fun(z:y=x)=>b.1 (by rw[←z];exact d);rw[e]at f;exact f
def aR{x:Str}{u:Ak}:([D.str u.a,D.str u.b].any λy=>Dy y^.str x)=Q1 x u:=by
 rw[OM,gi,atB_iff,Bool.or_eq_true,decide_eq_true_eq,decide_eq_true_eq]
section
variable {n:Sg}
theorem GC{N:Net}(ok:N.Ok){x:Str}(k:Bm x){l t:Ch}{d1:D}(g:atI [D.str "go",D.str x] 1=P3^.str x){r:E2}:∀(d e:r_ Ak) (m:Sg) (j:Slot),(∀u∈e++d,u∈N.ts)->(e++d).length<=60->((e++d).map tk).Nodup->m.w t=P3^.pl^FI ((e.filter λu=>!Q1 x u)++d)->
  (∀(h:Sg) (s:Slot),h.n=m.n->h.w t=P3 (.pl^FI^(e++d).filter λu=>!Q1 x u)->(∀b,b≠t->h.w b=m.w b)->r.nx h [.sh^Gq (.ob l)^.ob t,.sh^Em^.go x,s])->
  B_ (Bz 2) (DY (A9^BI (ZP q_) (BI Io (AS 1)^wC^D.int 1)^AS 2) (Lf^fD "dict" XH (BI DU (AS 0)^wC^D.str "ties")^AL (AS 2) Ap) CT) r ((d.map tk).map tupK) m [.sh^Gq (.ob l)^.ob t,.sh^Em^.go x,j]
 |[],e,m,j,_,_,_,i,q=>q m j rfl (by rw[gZ]at i ⊢;exact i) λ_ _=>rfl
 | u::d,e,m,j,f,o,p,i,q=>by
  have B:u∈N.ts:=f u^gH _ Op;let#[C,E,H,_]:=ok.tin u B;have F:e++u::d=(e++[u])++d:=by rw[jf];rfl
  exists _,g,BK k,ER (ok.names _ C)^ok.names _ E,_,rfl;show if([D.str u.a,D.str u.b].any λy=>Dy y^.str x)=p_ then _ else _
  rw[aR];rw[F]at f o p q;cases c:Q1 x u with
  |false=>
   refine BB ?_;refine GC ok k (d1:=d1) g d (e++[u]) m _ f o p ?_ q;rw[i,List.filter_append,jt (by rw[c];rfl),nJ,jf];rfl
  | true=>
   refine BX ?_;refine Eh ?_;exists t,rfl,#[_,i,rfl],rfl,_,i
   have v:((e.filter λu=>!Q1 x u)++u::d)[(e.filter λu=>!Q1 x u).length]?=P3 u:=by
    rw[iX^Rs _,nC];rfl
   refine#[_,_,_,tk u,(e.filter λu=>!Q1 x u).length,.int u.len,rfl,rfl,rfl,by rw[UF,v];rfl,by rw[UF,v];rfl,?_];rw[XQ];exists ON _,rfl;refine GC ok k (d1:=d1) g d (e++[u]) _ _ f o p ?_ λh s a b G=>q h s a b λz A=>(G z A).trans^B2 A;rw[Br,List.filter_append,jM (by rw[c];simp),nJ,gZ,List.eraseIdx_append_of_length_le^Rs _,nC];rfl
end
def Cr{ps:r_ Str}(h:∀x∈ps,Bm x):Bv^.lst^ps.map .str:=ES λd a=>by
 let#[x,b,rfl]:=TM.mp a;exact DP^h x b
section
def U7{a:r_ Ak}{v:Ak}(nd:(a.map tk).Nodup):∃c:r_ Ak,D.dit (Cv (a.map tk)^tk v)^Bg (a.map tk) (a.map λu=>D.int u.len) (tk v)^.int v.len=FI c/\c.Perm (v::a.filter λu=>decide (tk u≠tk v)):=by
 unfold Cv Bg
 by_cases h:Gc (a.map tk)^tk v=p_
 .rw [if_pos h,if_pos h]
  exists a.map λu=>if tk u=tk v then v else u,?_
  .unfold FI
   congr 1
   .rw[h7]
    refine iN λu _=>?_;show tk u=tk (if tk u=tk v then v else u)
    split
    .assumption
    .rfl
   .clear nd h
    induction a with
    |nil=>rfl
    |cons u a f=>
     rw[gQ,gQ,gQ,gQ,←f];show(if tk u=tk v then D.int v.len else D.int u.len)::_=D.int (if tk u=tk v then v else u).len::_
     split <;>rfl
  .have g:=hasK_iffU.mp h
   clear h
   induction a with
   |nil=>cases g
   | cons u a f=>
    rw[gQ,gP]at nd;rw[gQ]
    by_cases e:tk u=tk v
    .rw[if_pos e,jM^by simp[e]]
     have d:∀w∈a,tk w≠tk v:=λw b z=>nd.1^by rw[e,←z];exact TM.mpr #[w,b,rfl]
     rw[mB.mpr λw b=>decide_eq_true^d w b,show(a.map λu=>if tk u=tk v then v else u)=a from by
      refine(iN λw b=>if_neg^d w b).trans^List.map_id' a]
    .rw[if_neg e,jt^by simp[e]]
     rw[gQ]at g;exact((f nd.2^(Tk.mp g).resolve_left λz=>e z.symm).cons u).trans (ni ..)
 .rw[if_neg h,if_neg h]
  refine#[a++[v],by unfold FI;rw[gR,gR];rfl,?_];have d:∀w∈a,tk w≠tk v:=λw b z=>h (hasK_iffU.mpr^by rw[←z];exact TM.mpr #[w,b,rfl]);rw[mB.mpr λw b=>decide_eq_true^d w b];exact jd _ _
end
def Jj{xs:r_ Str}{r:Int}(a:0<=r)(h1:r<xs.length):∃x∈xs,atI (xs.map D.str) r=P3^.str x/\xs[r.toNat]?=P3 x:=by
 have h:r.toNat<xs.length:=by lk
 refine#[xs[r.toNat],iE _,?_,Go h]
 have:=AC (xs:=xs.map D.str) (j:=r.toNat) (v:=.str xs[r.toNat])^by rw[UF,Go h];rfl
 rwa[show((r.toNat:Nat):Int)=r by lk]at this
theorem Nq{f:Type}{r:f->f->Prop}(g:∀a b c,r a b->r b c->r a c)(x:f):∀{e:r_ f},e.Pairwise r->(∀y∈e,r x y\/r y x)->∃l:r_ f,l.Perm (x::e)/\l.Pairwise r
 |[],_,_=>#[[x],.refl _,nF _ _]
 | y::e,h,t=>by
  let#[i,j]:=g0.mp h
  rcases t y Op with z|z
  .refine#[x::y::e,.refl _,g0.mpr #[λw d=>?_,h]]
   rcases Tk.mp d with rfl|d
   .exact z
   .exact g _ _ _ z^i w d
  .let#[l,p,q]:=Nq g x j λw d=>t w^T0 _ d
   refine#[y::l,(p.cons y).trans^ni x y e,g0.mpr #[λw d=>?_,q]]
   rcases Tk.mp^p.mem_iff.mp d with rfl|d
   .exact z
   .exact i w d
def Vm{a b c:Ak}(h:BF a b)(g:BF b c):BF a c:=by
 rcases h with h|⟨h,d⟩ <;>rcases g with g|⟨g,e⟩
 .exact .inl^kU h g
 .exact .inl (g▸h)
 .exact .inl (h▸g)
 .exact .inr #[h.trans g,kU d e]
def KC(s:Sg)(L:r_ Ch):Sg.back (s.drop L) s L=s:=Sg.back_drop s L s.n
def F4{w:Ch->s_ Wc}{l t:Ch}{x y:D}(h1:w l=P3^.pl x)(a:w t=P3^.pl y):Dp.Ef w^Gq (.ob l)^.ob t=Gq x y/\EA w^Gq (.ob l)^.ob t=[l,t]:=by
 exists ?_
 .show D.dic _ [Ir w^.ob l,Ir w^.ob t]=_
  rw[G0 h1,G0 a];rfl
 .show JE w^.ob l++(JE w^.ob t++[])=_
  rw[FV h1,FV a];rfl
def Bs(s:Sg)(a:Ch)(c:Wc):(s.put a c).w a=P3 c:=if_pos rfl
def A2{s:Sg}{a b:Ch}{c:Wc}(h:b≠a):(s.put a c).w b=s.w b:=if_neg h
def HX{N:Net}(ok:okN N):Lx^Bx N:=by
 let#[a,b,c]:=NI ok;exact OW (by cbv) a (by lk)^by lk
def CP{x:Str}{t e:Prop}(h:e):if(if p_=p_ then !(x==x)else x==x)=p_ then t else e:=by
 rw[if_pos rfl,beq_self_eq_true];exact h
def V1(d:Dd):flat^Em d=p_:=by cases d <;>rfl
structure fw (C:Ch) (t b:Int) (pool:List Str) (k:Nat) (n:Sg) (a l tt:Ch) (N M:Net) (ps:List Str) (us:List Ak):Prop where
 nn:7*k<=n.n
 wa:n.w a=P3 (kc C t b N M)
 wl:n.w l=P3 (.pl^Iv ps)
 wt:n.w tt=P3 (.pl^FI us)
 al:a≠l
 at':a≠tt
 lt:l≠tt
 st:JO N ps us
 ok:okN M
 inp:∀x∈ps,x∈pool
 l1:N.ps.length+k<=18
 l2:N.ts.length+k<=18
end Nt
namespace L2
end L2
namespace Dp
open L2
end Dp
namespace Nt
open L2 Dp
def FD(x y:Str):cs (x++y)=cs x++cs y:=PySem.W.KT.app_list x y
def LL(x:Str):(cs x).length=x.length:=gl
def F1{x y:Str}(h:cs x=cs y):x=y:=Str.ext'^Array.toList_inj.mp h
def CS(x y z:Str):x++y++z=x++(y++z):=F1^by rw[FD,FD,FD,FD,jf]
def len_app(x y:Str):(x++y).length=x.length+y.length:=by rw[←LL,FD,gD,LL,LL]
def sp:Str:=" "
def XX:cs sp=[32]:=by decide +kernel
def CY(i:Int):Str:=g_^toString i
theorem PV:∀(k m:Nat),m<10 ^ (k+1)->(jY 10 m).length<=k+1
 |0,m,h=>by rw[ju^by lk];exact Rs _
 | k+1,m,h=>by
  by_cases a:m<10
  .rw[ju a];show 1<=_;lk
  .have t:jY 10 (m / 10)++jY 10 (m % 10)=jY 10 (10*(m / 10)+m % 10):=mG (by cbv) (by lk)^ku m^by cbv
   rw[Nat.div_add_mod]at t
   have:=PV k (m / 10)^by rw[Nat.pow_succ]at h;lk
   rw[←t,gD,ju^ku m^by cbv];show _+1<=_;lk
def Nc{i:Int}(h:1<=i):∃m:Nat,i=(m:Int)/\1<=m/\cs^CY i=(jY 10 m).map Char.toNat:=by
 let#[m,rfl]:=Int.eq_ofNat_of_zero_le (show 0<=i by lk);exact#[m,rfl,by lk,PySem.W.KIN.signs_num m]
def O0{i:Int}(h:1<=i):∀c∈cs^CY i,48<=c/\c<=57:=by
 let#[m,rfl,_,e]:=Nc h;rw[e];intro c b;let#[d,a,rfl]:=TM.mp b;have r:=PyProof.Rows.digit_range^mR (by cbv) (by cbv) a;exact r
def Kz{i:Int}(h:1<=i)(a:i<=1000000):(CY i).length<=7:=by
 let#[m,rfl,_,e]:=Nc h;rw[←LL,e,Ev];exact PV 6 m^by lk
def Oz{i:Int}(h:1<=i)(a:i<=1000000):i.natAbs.log2<1920:=by
 have:i.natAbs<2 ^ 1920:=j4 (show i.natAbs<=1000000 by lk)^by decide +kernel
 exact(Nat.log2_lt^by lk).mpr this
def X_(t:Ak):Str:=jE sp [t.a,t.b,CY t.len]
def Dw(t:Ak):Str:=jE sp ["tie",t.a,t.b,CY t.len]
def GY(x:Str):Str:=jE sp ["place",x]
def linesOf(N:Net):r_ Str:=N.ps.map GY++N.ts.map Dw
def Lo(t:Ak):Prop:=Bm t.a/\Bm t.b/\cs t.a<cs t.b/\1<=t.len/\t.len<=1000000
section
def K0{x:Str}(h:Bm x):x.length<=8:=h.2.1
def X9:("tie ":Str)="tie"++sp:=F1^by decide +kernel
def SO:("place ":Str)="place"++sp:=F1^by decide +kernel
def S6(t:Ak):("tie ":Str)++X_ t=Dw t:=by
 rw[X9];rfl
def S7(x:Str):("place ":Str)++x=GY x:=by
 rw[SO];rfl
def Qh{x:Str}(h:Bm x):("place ":Str).length+x.length<=sizeLine:=by
 have:=h.2.1
 rw[show("place ":Str).length=6 by decide +kernel,PySem.sizeLine_eq];lk
def RU{t:Ak}(h:Lo t):(X_ t).length<=25:=by
 let#[c,d,_,e,f]:=h;have g:=K0 c;have i:=K0 d;have j:=Kz e f;show(t.a++sp++(t.b++sp++CY t.len)).length<=_;rw[len_app,len_app,len_app,len_app,show sp.length=1 by decide +kernel];lk
def Sn{N:Net}(ok:N.Ok){t:Ak}(h:t∈N.ts):Lo t:=by
 let#[a,b,c,d,e]:=ok.tin t h;exact#[ok.names _ a,ok.names _ b,c,d,e]
def dk:D->D
 |.str x=>.str^GY x
 |_=>.non
end
structure f6 (C:Ch) (t b:Int) (pool:List Str) (k:Nat) (n:Sg) (a l tt:Ch) (N M:Net) (ps:List Str) (us:List Ak):Prop where
 kp:Xh C n a t b N M
 tn:IsT N t b M
 wl:n.w l=P3 (.pl^Iv ps)
 wt:n.w tt=P3 (.pl^FI us)
 al:a≠l
 at':a≠tt
 lt:l≠tt
 st:JO N ps us
 inp:∀x∈ps,x∈pool
 l1:N.ps.length+k<=18
 l2:N.ts.length+k<=18
def Hy{n:Sg}{x y:Ch}{c:Wc}(h:n.w x=P3 c)(g:n.w y=o_):x≠y:=λz=>by rw[z,g]at h;cases h
def Tg{b:Type}{l:r_ b}{p:b->Bool}{P:D->Prop}(h:P^.bl^l.all p):ZQ [.lst^l.map λa=>.bl^p a] P:=
 #[_,_,rfl,Ic p l,by simp_all]
def UQ{a b:Bool}{P:D->Sg->Prop}{n:Sg}{k:(D->Sg->Prop)->Prop}(c:a=p_->P (.bl b) n->k P)(h:P (.bl (a&&b)) n):(match (.bl a:D)with|.bl p_=>k P|.bl q_=>P (.bl q_) n|_=>False):=UL c h
def bS:D->Bool
 |.ob _=>q_
 |_=>p_
abbrev Wb(g:D->Bool):W2:=λb n P=>∃a:r_ D,b=a.map Slot.sh/\a.length=1/\bS^a.getD 0 .non=p_/\P (.bl^g^a.getD 0 .non) n
def Wb.out{g:D->Bool}{b:r_ Slot}{n:Sg}{P:D->Sg->Prop}(h:Wb g b n P):∃d,b=[.sh d]/\bS d=p_/\P (.bl^g d) n:=by
 let#[a,rfl,l,o,p]:=h;cases a with
 |nil=>cases l
 |cons d a=>cases a with
  |nil=>exact#[d,rfl,o,p]
  |cons _ _=>cases l
def Xq:D->Bool
 |.int _=>p_
 |_=>q_
def VQ:D->Bool
 |.int i=>decide (1<=i)&&decide (i<=1000000)
 |_=>q_
def ME:D->Bool
 |.str x=>(decide (1<=x.length)&&decide (x.length<=8))&&(cs x).all λc=>decide (97<=c)&&decide (c<=122)
 |_=>q_
abbrev Zm:W2:=Wb Xq
abbrev WL:W2:=Wb VQ
abbrev cb:W2:=Wb ME
section
def Ra(c:Nat):((!(decide ([c]<("a":Str).cps.toList)))&&(!(decide (("z":Str).cps.toList<[c]))))=(decide (97<=c)&&decide (c<=122)):=by
 have a:("a":Str).cps.toList=[97]:=by decide +kernel
 have b:("z":Str).cps.toList=[122]:=by decide +kernel
 rw[a,b,gi];simp only[gS,lA,decide_eq_false_iff_not,decide_eq_true_eq,List.cons_lt_cons_iff,List.not_lt_nil,and_false,or_false];lk
def V7(x:Str):(cs x).length=x.length:=gl
def Jd(x:Str):(Dp.signs x).length=x.length:=by unfold Dp.signs;rw[Ev];exact V7 x
end
def nameB_iff{d:D}:ME d=p_↔∃x,d=.str x/\Bm x:=by
 cases d with
 |str x=>
  simp[ME,Bm];constructor
  .simp_all
  simp_all
 |_=>exact#[(λh=>by cases h),fun#[x,e,_]=>(by cases e)]
theorem DK{b:BW}{g:AX}{l:E2}{all:r_ D}(I:r_ D->Sg->r_ Slot->Prop)(i:∀n c,I all n c->l.nx n c)
  (f:∀(a:r_ D) (d:D) (j:r_ D) (n:Sg) (c:r_ Slot) (nx:Sg->r_ Slot->Prop),all=a++d::j->I a n c->(∀m o,I (a++[d]) m o->nx m o)->b d c λp=>g {l with nx:=nx,ct:=nx,bk:=l.nx} n p):
  ∀(k a:r_ D) (n:Sg) (c:r_ Slot),all=a++k->I a n c->B_ b g l k n c
 |[],a,n,c,e,h=>by
  rw[gZ]at e;subst e;exact i n c h
 |d::k,a,n,c,e,h=>f _ d k n c _ e h λm o q=>DK I i f k _ m _ (by grind) q
def KY{lo:Int}{n:Nat}{a b:r_ D}{d:D}(h:DC lo n=a++d::b):d=.int (lo+(a.length:Int))/\a.length<n:=by
 have c:=congrArg lC h;rw[DB]at c;have e:(DC lo n)[a.length]?=P3 d:=by grind
 unfold DC at e
 simp_all
end Nt
namespace L2
section
variable {X:Cx}
open Builtin.Str in
def Rx:V->r_ V->Hp->VK->Prop:=λx xs H Q=>∃(z y:Str),x=.str z/\xs=[.str y]/\(y.length==0)=q_/\z.length<=sizeLine/\(partsBetween z (occurrences z y 0 z.length (z.length+1)) y.length).length<=sizeLine/\(Txt.split z y).length<=sizeLine/\∀p,H p=o_->Q (.ref p)^AY H p^.lst^(Txt.split z y).map V.str
theorem JU:∀(l:r_ (Str×Tok)),Vals ((l.map (·.1)).map V.str)^strValues l
 |[]=>.nil
 |p::l=>.cons #[p.2,rfl]^JU l
open Builtin.Str in
def Sy:Um X "str.split" Rx:=by
 intro zF s σ H x xs v us Q I rx rv h;let#[z,y,rfl,rfl,hy,hz,hn,hl,q]:=h;let#[t,rfl]:=rx;let#[u,rfl,ru]:=vals1 rv;let#[u,rfl]:=ru
 have fin:∀(l:r_ (Str×Tok)) (k:Nat),l.map (·.1)=Txt.split z y->EP X zF σ Q (.ref s.heap.objs.size) {s with heap:=s.heap.push {cls:=.type "list",data:=.seq (strValues l).toArray},toks:=k}:=λl k e=>by
  refine#[.ref s.heap.objs.size,_,I.laid (t':=k) (λb o e=>FM _ e) (Rs _) (show ObjOk X.prog X.w _ _ _^.lst^(Txt.split z y).map V.str from#[by rw[Ev];exact hl,strValues l,_,e▸JU l,Sc _ rfl]),rfl,q _^I.hok.fresh^Rs _]
 cases h1:(decide (z.length<y.length)||decide (strKind z<strKind y))
 .cases hf:(occurrences z y 0 z.length (z.length+1)).isEmpty
  .refine mj PySem.F.slot_str_split (jg _ _ _) PySem.F.entry_str_split (PySem.F.args_str_split_2 _ _) (meets_str_split_sep z y t u h1 hy hf hz hn) ?_
   show wants (EP X zF σ Q) X.xe _ {s with toks:=_,heap:=s.heap.push {cls:=.type "list",data:=.seq (strsFrom s.toks^partsBetween z (occurrences z y 0 z.length (z.length+1)) y.length).toArray}};rw[strsFrom_eq];exact fin (numbered s.toks _) _^(numbered_texts _ _).trans ((if_neg^ne_true_of_eq_false h1).trans^if_neg^ne_true_of_eq_false hf).symm
  .exact mj PySem.F.slot_str_split (jg _ _ _) PySem.F.entry_str_split (PySem.F.args_str_split_2 _ _) (meets_str_split_not_found z y t u h1 hy hf)^fin [(z,t)] s.toks ((if_neg^ne_true_of_eq_false h1).trans^if_pos hf).symm
 .exact mj PySem.F.slot_str_split (jg _ _ _) PySem.F.entry_str_split (PySem.F.args_str_split_2 _ _) (meets_str_split_cannot_occur z y t u h1)^fin [(z,t)] s.toks (if_pos h1).symm
def Wz:r_ V->Hp->VK->Prop:=λa H Q=>∃i:Int,a=[.str^g_^toString i]/\0<=i/\i<10 ^ 10/\Q (.int i) H
def J5:CallR X (.type "int") Wz:=by
 intro c s d H e f Q I r h;let#[i,rfl,a,b,q]:=h;let#[u,rfl,t,rfl]:=vals1 r;exact PySem.W.KIN.call_num a b #[.int _,H,I.tok _,#[_,rfl],q]
end
end L2
namespace Dp
open L2
section
variable {K:Frag}
theorem Mn{M:Ch->Prop}{H:Hp}:∀{a:r_ Str},(∀y∈a,y.length<=sizeLine)->Ats K M H (a.map D.str)^a.map V.str
 |[],_=>rfl
 |y::a,h=>#[_,_,rfl,#[rfl,h y Op],Mn λz b=>h z^T0 _ b]
open Builtin.Str in
def ZI(d:D)(ds:r_ D)(P:D->Prop):Prop:=∃(z y:Str),d=.str z/\ds=[.str y]/\(y.length==0)=q_/\(partsBetween z (occurrences z y 0 z.length (z.length+1)) y.length).length<=sizeLine/\(Txt.split z y).length<=sizeLine/\(∀x∈Txt.split z y,x.length<=sizeLine)/\P^.lst^(Txt.split z y).map .str
def WC:dH K .fr "str" Rx ZI:=by
 intro U M H d j x k P Q c l b a w q;let#[z,y,rfl,rfl,e,f,g,h,w]:=w;let#[v,rfl,i]:=Bk a;exact#[z,y,b.str.1,by rw[i.str.1],e,b.str.2,f,g,λp a=>q _ _ _ (AU a) (BL (U:=U) a^Mn h) w]
def b7(a:r_ D)(P:D->Prop):Prop:=∃i:Int,a=[.str^g_^toString i]/\0<=i/\i<10 ^ 10/\P^.int i
def UX:Bc K .sh Wz b7:=by
 intro U M H f g P Q a h b w q;let#[i,rfl,c,d,w]:=w;let#[v,rfl,e]:=Bk b;exact#[i,by rw[e.str.1],c,d,q _ H (.int i) .refl rfl w]
end
end Dp
namespace L2
def Rt(A:gX)(s:No){x y:Key}{u v:Db}(c:RelV (kOf x) u)(d:RelV (kOf y) v)(e:GP x y=p_)(a:gC)(w:gJ)(E:Db->No->Prop)(Q:Db->No->Prop)(h:Q (.bool^Z8 y x) s):
  wpAny (model a w) A (richCompare .Gt u v) Q E s:=by
 cases x with
 | inl i=>
  cases y with
  |inl j=>
   let#[t,rfl]:=c;let#[b,rfl]:=d;exact(PyProof.Rows.gt_int h:wpAny (model a w) A (compareOp .Gt (.int i t)^.int j b) Q E s)
  |inr z=>cases e
 | inr z=>
  cases y with
  |inl j=>cases e
  |inr f=>
   let#[t,rfl]:=c;let#[b,rfl]:=d;exact(PySem.P.gt_str h:wpAny (model a w) A (compareOp .Gt (.str z t)^.str f b) Q E s)
section
open PySem.SeqAt
open PySem.AutoSeq1 (wpAny_loadPart')
open PySem.MeetsSeq PySem.MeetsSeq2 PySem.MeetsSeq3
def Ip(l b:Ch)(items items2:Array Db)(n n2:Nat)(dd dd2:s_ Ch)(sl sl2:Array^s_ Db)(ns ms:r_ Key)(hi:Vals (ns.map kOf) items.toList)(hj:Vals (ms.map kOf) items2.toList)(hsame:A_ ns ms=p_):
  Meets (iq.«tuple.__gt__» #[[.ref l,.ref b],[]])
   (λ_ R s=>s.heap.get? l=P3 {cls:=.type "tuple",dict:=dd,data:=.seq items n,slots:=sl}/\s.heap.get? b=P3 {cls:=.type "tuple",dict:=dd2,data:=.seq items2 n2,slots:=sl2} /\
    R (.ok^.ret^.bool^CD ms ns) s):=
 .of_wp λprog w A R s h=>by
  let#[hp,g,d,tk,os]:=s;let#[hl,hb,h]:=h
  have f2:=nA;have z1:items.size=ns.length:=by have:=hi.length;rw[Ev]at this;rw[this];simp
  have z2:items2.size=ms.length:=by have:=hj.length;rw[Ev]at this;rw[this];simp
  wp_walk using h9 hl,h9 hb,wpAny_forIn_list _ (λrest b s'=>b.1=o_/\s'=#[hp,g,d,tk,os]/\∃(vs ws:r_ Db) (ns' ms':r_ Key),rest=vs.zip ws /\
   Vals (ns'.map kOf) vs/\Vals (ms'.map kOf) ws/\A_ ns' ms'=p_/\ns'.length+items2.size=ms'.length+items.size/\R (.ok^.ret^.bool^CD ms' ns') #[hp,g,d,tk,os]) _
  case turn=>
   rintro⟨y,x⟩ rest b s' ⟨hb',rfl,vs,ws,ns',ms',hz,hvi,hwi,hsm,hlen,hR⟩;cases ns' with
   |nil=>cases hvi;rw[md]at hz;cases hz
   | cons a ns'=>
    cases ms' with
    |nil=>cases hwi;rw[mM]at hz;cases hz
    | cons c ms'=>
     rw[gQ]at hvi hwi;cases hvi with
     | cons ra hvi'=>
      cases hwi with
      | cons rc hwi'=>
       rw[ik]at hz;injection hz with hyx hrest
       injection hyx with hy hx
       subst hy hx;have hR':R (.ok^.ret^.bool (if c=a then CD ms' ns' else Z8 c a)) #[hp,g,d,tk,os]:=hR;have hsm':(GP a c&&A_ ns' ms')=p_:=hsm;rw[gS]at hsm';simp only[gG]at hlen;let#[e,he,hiff]:=MV (A:=A.in1) (s:=#[hp,g,d,tk,os]) ra rc;refine Cn^he prog w _ _ ?_;cases e with
       |true=>
        rw[if_pos (hiff.mp rfl).symm]at hR'
        wp_walk
        exact#[rfl,rfl,_,_,_,_,hrest,hvi',hwi',hsm'.2,by lk,hR']
       |false=>
        rw[if_neg λq=>absurd (hiff.mpr q.symm) gE]at hR';have hri:=Rt A.in1 #[hp,g,d,tk,os] ra rc hsm'.1 prog w
        wp_walk using hri
        exact#[_,rfl,by simpa using hR']
  case fin=>
   rintro⟨b1,b2⟩ s' ⟨hb',rfl,vs,ws,ns',ms',hz,hvi,hwi,hsm,hlen,hR⟩;simp only at hb';subst hb'
   have hv:CD ms' ns'=decide (items2.size<items.size):=by
    cases ns' with
    | nil=>
     cases ms' with
     |nil=>
      simp only[hG]at hlen;exact(decide_eq_false^by lk).symm
     |cons c u=>
      simp only[hG,gG]at hlen;exact(decide_eq_false^by lk).symm
    | cons a t=>
     cases ms' with
     |nil=>
      simp only[hG,gG]at hlen;exact(decide_eq_true^by lk).symm
     |cons c u=>
      rw[gQ]at hvi hwi;cases hvi;cases hwi;rw[ik]at hz;cases hz
   rw[hv]at hR
   wp_walk
   exact#[_,rfl,by simpa [lW]using hR]
  case h=>
   exact#[rfl,rfl,items.toList,items2.toList,ns,ms,rfl,hi,hj,hsame,by lk,h]
end
section
variable {X:Cx}
def YU(K:Frag):R2:=λx y H Q=>∃a b c d,x=.ref a/\y=.ref b/\SqT K H a^c.map kOf/\SqT K H b^d.map kOf/\A_ c d=p_/\Q (.bl^CD d c) H
def Yr(B:X.A.units<cLine):OpR X (compareOp .Gt)^YU X.K:=by
 intro C s D H x y v u Q I E G h;let#[a,b,g,i,rfl,rfl,J,L,j,q]:=h;cases E;cases G;let#[k,M,N,_]:=I.tuple J;let#[c,O,P,_]:=I.tuple L;let#[#[R,dd,p,S],r,t,n,w]:=id N;let#[#[z,l,m,o],d,e,T,f]:=id P;simp only at t w e f;subst t w e f
 exact lE (op:=.Gt) #[_,r,rfl] #[_,d,rfl] PySem.F.slot_tuple_gt PySem.F.entry_tuple_gt (PySem.F.args_tuple_gt_2 _ _) (Ip a b k.toArray c.toArray n T dd l S o g i M O j)
  #[r,d,show jx^CD i g≠n8/\EP X C D Q (.bool^CD i g) s from#[(λx=>nomatch x),#[.bl _,H,I,rfl,q]]] B
def VE{a:gI}{f:TE}{pos:Pos}(i:PE X a f):PE X (.UnaryOp .Not a pos) (λd H Q=>f d H λx H1=>∃c,WP X.K x H1 c/\Q (.bl (!c)) H1):=by
 intro g s d H Q I h;refine UnaryOp_^Aq (i g s d H _ I h) λv j #[x,H1,l,m,c,n,o]=>?_;exact not_of^Aq (RQ g j d H1 x v (λk p=>k=c/\Q (.bl (!k)) p) l m #[c,n,rfl,o]) λb u #[r,t,e,q]=>#[.bl (!b),r,t,rfl,q]
end
end L2
namespace Dp
open L2
def b8(d e:D)(P:D->Prop):Prop:=match d,e with
 |.tup c,.tup f=>∃a b,Ga c=P3 a/\Ga f=P3 b/\A_ a b=p_/\P^.bl^CD b a
 |_,_=>False
section
variable {X:Cx}{e e1:Expr}{es:r_ Expr}{κ:Kd}{wa:DW}{pos:Pos}
def Yq{k:Nat}(a:Room k X.A):OpR X (compareOp .Gt)^YU X.K:=Yr a.units0
def cR:C6 X.K .sh (YU X.K) b8:=λU M H d e x y P Q c s f g w q=>by
 unfold b8 at w
 split at w
 .let#[h,i,j,k,l,w]:=w
  let#[a,t,rfl,m,n]:=f.tup;let#[b,u,rfl,o,p]:=g.tup;have e1:=DN j n;have r:=DN k p;subst e1 r;exact#[a,b,h,i,rfl,rfl,m.sq,o.sq,l,q _ H (.bl _) .refl rfl w]
 .exact w.elim
def aL(wa:DW):DW:=λn a P=>wa n a λd b=>∃c,X6 d=P3 c/\P (.bl (!c)) b
def Vv(h:DE X e κ wa):DE X (.UnaryOp .Not e pos) .sh^aL wa:=by
 let#[t,a,b]:=h;refine#[_,VE a,λC M H n f g P Q R w q=>?_];refine b C M H n f g _ _ R w λv i d j e1 k l p=>?_;let#[c,m,p]:=p;exact#[c,RR (l.tpOf R.dom R.vM) m,q _ i (.bl (!c)) j e1 k rfl p]
def Xv(i:Nat)(b:BW)(a:AX):AX:=λe n c=>∃d,c[i]?=P3^.br^.lst d/\B_ b a e (Bw 0 d) n c
variable {fpos:Pos}{body:r_ Stmt}{b:BW}{wb:AX}{p cp:Pos}{x:Str}{i j:Nat}{tpos:Pos}
def Tw(hp:nG (model X.prog X.w) X.A X.env X.xe)(hc:X.calm=p_)(a0:Gl X "enumerate")(hm:X.mg "enumerate"=o_)(h:PE X (.Name x p)^BZ i)(hg:DG X (.Tuple es j tpos) b)(hb:Mz X κ body wb)
  (hs:∀y,foldedSetIterable (.Call (.Name "enumerate" cp) [.Name x p] [] pos) X.env y=pure y:=by intro _;rfl) (a1:starEach [.Name x p] X.env=[(q_,eval (.Name x p) X.env)]:=by rfl):
  DS X κ (.For (.Tuple es j tpos) (.Call (.Name "enumerate" cp) [.Name x p] [] pos) body [] fpos) (Xv i b wb):=by
 let#[g,g1,g2]:=hg;let#[tb,b1,b2]:=hb;refine#[_,Kf hp hc (VB a0 hm h a1) g1 b1 hs,λC M H n J V G E R L w=>?_];let#[d,hi,w]:=w;let#[v,e1,a2]:=R.sl i _ hi;let#[a,W,rfl,nV,hH,a3]:=a2
 obtain⟨o,ho,N,D⟩:∃o,H a=P3 o/\¬Q_ o/\∀c:Hp,c a=P3 o->SqL X.K c a W:=by
  rcases hH with z|⟨u,z⟩
  .exact#[_,z,(by rintro⟨_,z⟩;cases z),λc e=>.inl^.inl e]
  .exact#[_,z,(by rintro⟨_,z⟩;cases z),λc e=>.inl^.inr #[u,e]]
 exists .ref a,getD_some e1,p_,a,W,rfl,D H ho
 obtain⟨f,R1,B,st⟩:∃f,Rel X.K {C with kp:=f} M H n J V/\(∀{M H n J V},Rel X.K {C with kp:=f} M H n J V->Rel X.K C M H n J V)/\(∀k c l r t,Rel X.K {C with kp:=f,zF:=(M,H)::C.zF} k c l r t->SqL X.K c a W):=by
  by_cases hM:M a
  .refine#[(a,o)::C.kp,#[R.len,R.sub,R.dom,R.ext,R.fU,R.uV,R.vM,R.feed,R.sl,R.pin,R.br0,R.new,R.two,λq O=>?_],λR=>R.lessKp,λk c l r t s=>D c (s.kept (a,o) Op).1]
   rcases Tk.mp O with rfl|O
   .refine#[ho,#[hM,N],nV,λj e q z=>?_]
    let#[u,hu]:=R.br0 i _ a hi e1
    have:=(R.new j _ a q rfl z).2
    rw[hu]at this;cases this
   .exact R.kept q O
  .exact#[C.kp,R,λR=>R,λk c l r t s=>D c^(s.pin (M,H) Op).1 a o ho hM N]
 have el:=EW 0 d;exists λi m t c=>m=d.length - i/\i<=d.length/\∃k l r,Rel X.K {C with kp:=f,zF:=(M,H)::C.zF} k c l r t/\B_ b wb G ((Bw 0 d).drop i) l r,#[d.length,by simp,gK _,M,n,J,R1.pinned,w];rintro i m t c ⟨rfl,a5,k,l,r,s,Y⟩;have pr:Pres M H k c:=s.pin (M,H) Op;have O:=st k c l r t s;have y:=MW (κ:=p_) a3 (i:=i) pr (show SqK p_ X.K c a W from O) s.dom
 by_cases a4:i<d.length
 .have ed:(Bw 0 d).drop i=(Bw 0 d)[i]::(Bw 0 d).drop (i+1):=ig^by lk
  rw[ed]at Y;let#[go,yl]:=y.1 _ (Go^by lk);refine .inr #[go,λzM I=>∃M2 Z zL,Rel X.K {C with kp:=f,zF:=(M,H)::C.zF} M2 I Z zL zM/\B_ b wb G ((Bw 0 d).drop (i+1)) Z zL,λzM I #[M2,Z,zL,F,w2]=>#[d.length - (i+1),by lk,rfl,a4,M2,Z,zL,F,w2],λx I hy=>?_];let#[gr,hx]:=yl x I hy;have F:=s.step gr.ext^s.feed.grow gr;refine g2 _ k I l r t _ x _ _ F hx Y λzQ zT R3 w3=>?_;refine b2 _ k I l zQ zT {G with nx:=B_ b wb G^(Bw 0 d).drop (i+1),ct:=B_ b wb G^(Bw 0 d).drop (i+1),bk:=G.nx} _ R3 #[λP H4 Q S zP T U=>#[P,Q,S,T,U],L.rt,λP H4 Q S zP T U=>L.nx P H4 Q S zP (B T.unpin) U,λP H4 Q S zP T U=>#[P,Q,S,T,U]] w3
 .have e:i=d.length:=by lk
  rw[List.drop_eq_nil_of_le^by lk]at Y;exact .inl #[y.2^by lk,L.nx k c l r t (B s.unpin) Y]
end
end Dp
namespace Nt
open L2 Dp
def YI:sp=#[#[ 32]]:=F1^by rw[XX];rfl
theorem Pe:∀{p q r s:r_ Nat},32∉p->32∉q->p++32::r=q++32::s->p=q/\r=s
 |[],[],r,s,_,_,e=>#[rfl,(lI e).2]
 |[],b::q,r,s,_,c,e=>absurd (by rw[(lI e).1];exact Op) c
 |a::p,[],r,s,d,_,e=>absurd (by rw[←(lI e).1];exact Op) d
 |a::p,b::q,r,s,d,c,e=>by
  let#[f,g]:=lI e;let#[h,i]:=Pe (λz=>d^T0 _ z) (λz=>c^T0 _ z) g;exact#[by rw[f,h],i]
def Fj(x y:Str)(r:r_ Str):cs^jE sp (x::y::r)=cs x++32::cs^jE sp (y::r):=by
 show cs (x++sp++jE sp (y::r))=_;rw[FD,FD,XX,jf];rfl
theorem MQ:∀{a b:r_ Str},a≠[]->b≠[]->(∀w∈a,32∉cs w)->(∀v∈b,32∉cs v)->cs^jE sp a=cs^jE sp b->a=b
 |[],_,h,_,_,_,_=>absurd rfl h
 |_,[],_,h,_,_,_=>absurd rfl h
 |[x],[y],_,_,_,_,e=>by rw[F1 (x:=x) (y:=y) e]
 |[x],y::z::r,_,_,c,_,e=>by
  rw[Fj]at e;exact absurd (show 32∈cs x by rw[show cs x=_ from e];exact gH _ Op)^c x Op
 |x::z::r,[y],_,_,_,d,e=>by
  rw[Fj]at e;exact absurd (show 32∈cs y by rw[show cs y=_ from e.symm];exact gH _ Op)^d y Op
 |x::j::r,y::k::s,_,_,c,d,e=>by
  rw[Fj,Fj]at e;let#[g,i]:=Pe (c x Op) (d y Op) e;rw[F1 g,MQ (λz=>by cases z) (λz=>by cases z) (λw f=>c w^T0 _ f) (λw f=>d w^T0 _ f) i]
def Lv{a:r_ Str}(c:a≠[])(h:∀w∈a,32∉cs w):Txt.split (jE sp a) sp=a:=by
 refine MQ (λz=>?_) c (λw b=>?_) h ?_
 .have:=split_pos (jE sp a) sp
  rw[z]at this;exact absurd this^by cbv
 .rw[YI]at b
  exact StrLaws.split_free _ 32 w b
 .rw[StrLaws.join_split]
open Builtin.Str in
def LY(x:Str)(ws:r_ Str):Prop:=(sp.length==0)=q_/\(partsBetween x (occurrences x sp 0 x.length (x.length+1)) sp.length).length<=sizeLine/\(Txt.split x sp).length<=sizeLine/\(∀z∈Txt.split x sp,z.length<=sizeLine)/\Txt.split x sp=ws
def GO{ws:r_ Str}(b:ws≠[])(h:∀w∈ws,32∉cs w)(d:ws.length<=10)(f:(jE sp ws).length<=1000):LY (jE sp ws) ws:=by
 have c:=PySem.sizeLine_eq;have e:=Lv b h;refine#[by decide +kernel,?_,by rw[e];lk,λx a=>?_,e]
 .rw[len_partsBetween]
  have:=StrLaws.occ_length_le (jE sp ws) sp 0 (jE sp ws).length ((jE sp ws).length+1)
  omega
 .have:=part_short a
  omega
def T1:∀(m:Nat),1<=m->∃c r,jY 10 m=c::r/\c≠'0':=by
 intro m
 induction m using Nat.strongRecOn with
 | _ m a=>
  intro b
  by_cases h:m<10
  .rw[ju h]
   exists _,_,rfl
   have:∀d:Nat,d<10->1<=d->Nat.digitChar d≠'0':=by cbv
   exact this m h b
  .have t:jY 10 (m / 10)++jY 10 (m % 10)=jY 10 (10*(m / 10)+m % 10):=mG (by cbv) (by lk)^ku m^by cbv
   rw[Nat.div_add_mod]at t;let#[c,r,e,f]:=a (m / 10) (by lk) (by lk);rw[←t,e];exact#[c,_,rfl,f]
def Sr{i:Int}(h:1<=i):∃c r,cs^CY i=c::r/\c≠48:=by
 let#[m,rfl,d,e]:=Nc h;let#[c,r,a,f]:=T1 m d;rw[e,a];refine#[c.toNat,r.map Char.toNat,rfl,λz=>f ?_];have g:=mR (b:=10) (n:=m) (c:=c) (by cbv) (by cbv) (by rw[a];exact Op);exact Char.ext^UInt32.toNat_inj.mp z
def Zq:W2:=λa n P=>∃i:Int,a=[.sh^.str^CY i]/\1<=i/\i<=1000000/\P (.bl p_) n
def Xe:W2:=λa n P=>∃(x:Str) (ps:r_ Str),a=[.sh^.lst [.str "place",.str x],.br^.lst^ps.map .str,.br^.lst []]/\ps.length<24/\Bm x/\(∀y,ps.getLast?=P3 y->cs y<cs x)/\P .non n
def cW:W2:=λd n P=>∃(t:Ak) (ps:r_ Str) (c:r_ Ak),d=[.sh^.str t.a,.sh^.str t.b,.br^.lst^ps.map .str,.br^.lst^c.map Ai]/\(∀p∈ps,Bm p)/\t.b∈ps/\ps.length<=24/\cs t.a<cs t.b/\(∀s,c.getLast?=P3 s->BF s t)/\P (.bl p_) n
def Xd:W2:=λd n P=>∃(t:Ak) (ps:r_ Str) (c:r_ Ak),d=[.sh^.lst [.str "tie",.str t.a,.str t.b,.str^CY t.len],.br^.lst^ps.map .str,.br^.lst^c.map Ai]/\(∀p∈ps,Bm p)/\Lo t/\t.a∈ps/\t.b∈ps/\ps.length<=24/\c.length<60/\(∀s,c.getLast?=P3 s->BF s t)/\P .non n
def Xf:W2:=λa n P=>Xe a n P\/Xd a n P
def cX:W2:=λa n P=>∃N:Net,a=[.br^.lst^(linesOf N).map .str]/\N.Ok/\N.ps.length<=24/\N.ts.length<=60/\P (Bx N) n
section
def K1{x:Str}(h:Bm x):32∉cs x:=λz=>absurd (h.2.2 32 z).1 (by cbv)
def Ss{i:Int}(h:1<=i):32∉cs^CY i:=λz=>absurd (O0 h 32 z).1 (by cbv)
def W8:(g_^toString (1000000:Int)).length=7:=by decide +kernel
def Ze:cs "0123456789"=[48,49,50,51,52,53,54,55,56,57]:=by decide +kernel
def cC:D->D
 |.str x=>.bl (!(iR "0123456789" x 0 ("0123456789":Str).length 1).isEmpty)
 |_=>.non
theorem Ib{b:Type}(p:b->Bool):∀l:r_ b,allB (l.map λa=>D.bl^p a)=P3^l.map p
 |[]=>rfl
 |a::l=>by
  show(allB^l.map λa=>D.bl^p a).map (p a::·)=_;rw[Ib p l];rfl
def Sw{x:Str}(h:Bm x):ME^.str x=p_:=nameB_iff.mpr #[x,rfl,h]
def TB{w:r_ Str}{b:Str}(h:w.getLast?=P3 b):atI (w.map D.str) (-1)=P3^.str b:=by
 let#[a,rfl]:=jj.mp h;rw[gR];exact Mo _ _
def S_{w:r_ Ak}{b:Ak}(h:w.getLast?=P3 b):atI (w.map Ai) (-1)=P3^Ai b:=by
 let#[a,rfl]:=jj.mp h;rw[gR];exact Mo _ _
def bZ{ps:r_ Str}{x:Str}(a:x∈ps):((ps.map D.str).any λy=>Dy y^.str x)=p_:=by
 rw[List.any_map];exact jQ.mpr #[x,a,by show(x==x)=p_;exact beq_self_eq_true x]
def Tl{s t:Ak}(h:BF s t):CD [.inr s.a,.inr s.b] [.inr t.a,.inr t.b]=p_:=by
 unfold CD CD CD
 rcases h with h|⟨e,h⟩
 .rw[if_neg λz=>by rw[jA z]at h;exact jn _ h]
  exact decide_eq_true h
 .rw[e,if_pos rfl,if_neg λz=>by rw[jA z]at h;exact jn _ h]
  exact decide_eq_true h
def Ti{c:r_ Str}{a b:r_ D}{d:D}(h:Bw 0^c.map .str=a++d::b):∃x,c[a.length]?=P3 x/\d=.tup [.int (a.length:Int),.str x]:=by
 have e:(Bw 0^c.map .str)[a.length]?=P3 d:=by rw[h,iX^Rs _,nC];rfl
 rw[GF,UF,Option.map_map]at e;let#[t,f,g]:=gY.mp e;exists t,f;rw[←g];show D.tup [.int ((0+a.length:Nat):Int),.str t]=_;rw[Nat.zero_add]
def Od{a:Type}{R:a->a->Prop}{l:r_ a}{i:Nat}{x y:a}(h:l.Pairwise R)(b:l[i]?=P3 x)(c:(l.take i).getLast?=P3 y):R y x:=by
 let#[d,e]:=Uf.mp b
 have:l=l.take i++l[i]::l.drop (i+1):=by rw[←ig d,nj]
 rw[this,kO]at h;rw[e]at h;exact h.2.2 y (List.mem_of_getLast? c) x Op
def B9{a:Type}{l:r_ a}{i:Nat}{x:a}(h:l[i]?=P3 x):l.take (i+1)=l.take i++[x]:=by rw[List.take_add_one,h];rfl
def L5{y:Str}(h:Bm y):LY (GY y) ["place",y]:=GO (ws:=["place",y]) (λz=>by cases z) (λw a=>by
  rcases Tk.mp a with rfl|a
  .decide +kernel
  .rw[Re.mp a];exact K1 h) (by show 2<=10;decide) (by
  show("place"++sp++y:Str).length<=1000
  have:=h.2.1
  rw[len_app,len_app,show("place":Str).length=5 by decide +kernel,show sp.length=1 by decide +kernel]
  omega)
def P5{t:Ak}(h:Lo t):LY (Dw t) ["tie",t.a,t.b,CY t.len]:=GO (ws:=["tie",t.a,t.b,CY t.len]) (λz=>by cases z) (λw c=>by
  rcases Tk.mp c with rfl|c
  .decide +kernel
  rcases Tk.mp c with rfl|c
  .exact K1 h.1
  rcases Tk.mp c with rfl|c
  .exact K1 h.2.1
  .rw[Re.mp c];exact Ss h.2.2.2.1) (by show 4<=10;decide) (by
  show(("tie":Str)++sp++X_ t).length<=1000
  have:=RU h
  rw[len_app,len_app,show("tie":Str).length=3 by decide +kernel,show sp.length=1 by decide +kernel]
  omega)
end
def Mu(C:Ch):W2:=λd n P=>∃(t b:Int) (N:Net),d=[.br^.lst^(linesOf N).map .str,.sh^tD t b]/\okN N/\N.ps.length<=24/\RS t b/\∀(a:Ch) (T:Net) (c:Sg),IsT N t b T->n.w a=o_->c.n=n.n->c.w a=P3^kc C t b N T->(∀y,n.w y≠o_->c.w y=n.w y)->P (.ob a) c
def Y3{g:D->Bool}:∀a n P,Wb g a n P->a.length=1:=λ_ _ _ h=>by
 let#[d,rfl,_]:=h.out;rfl
def Y4:∀a n P,Xf a n P->a.length=3:=λ_ _ _ h=>by
 rcases h with⟨_,_,rfl,_⟩|⟨_,_,_,rfl,_⟩ <;>rfl
def dq:okN #[[],[]]:=#[#[λx a=>(by cases a),.nil,λx a=>(by cases a),.nil],gK _,gK _]
def P6(t:Ak):("tie ":Str)++t.a++sp++t.b++sp++CY t.len=Dw t:=by
 rw[←S6];show _=("tie ":Str)++(t.a++sp++(t.b++sp++CY t.len));rw[CS,CS,CS,CS,CS,CS]
end Nt
namespace Dp
open L2
section
variable {X:Cx}{p p1 p2 pos:Pos}{i:Nat}{x nm:Str}
def We(i:Nat):Sg->r_ Slot->(Slot->Sg->Prop)->Prop:=λn b P=>match b[i]? with
 |some (.ex a nm c d)=>P (.ex a nm c d) n
 |_=>False
def cH(i:Nat){x:Str}{pos:Pos}(d:X.N[i]?=P3 x:=by rfl)(e:Pu X.env.scope x:=by first|exact gx rfl|exact iK (gx rfl)|exact iK (iK rfl))(b:(x==("__debug__":Str))=q_:=by decide)
  (c:(x==("__classdict__":Str))=q_:=by decide):c7 X (.Name x pos)^We i:=by
 refine#[_,De d e b c,λC M H n k l P Q R w q=>?_];unfold We at w
 split at w
 .rename_i a nm f g b
  let#[h,j]:=R.sl i _ b;exact#[_,getD_some h,q _ H (.ex a nm f g) n (Ext.refl _ _) R.feed #[#[rfl,j],rfl] w]
 grind
def KJ(i:Nat)(a:Str):DW:=λn b P=>match b[i]? with
 |some (.ex _ nm _ _)=>P (.bl (decide (nm=a))) n
 |_=>False
def RE(i:Nat):DW:=λn a P=>match a[i]? with
 |some (.ex _ _ _ _)=>P (.bl p_) n
 |_=>False
def FC{b:Str}{D U:Ch}(s:b ≠ "ThinError")(xd:XC X.K b D U)(c:Gl X b)(e:X.mg b=P3^.ref D)(t:Gl X "isinstance")(y:X.mg "isinstance"=o_)(A:X.N[i]?=P3 x:=by rfl)(B:Pu X.env.scope x:=by first|exact gx rfl|exact iK (gx rfl)|exact iK (iK rfl))(f:(x==("__debug__":Str))=q_:=by decide)
  (g:(x==("__classdict__":Str))=q_:=by decide) (h:(b==("__debug__":Str))=q_:=by decide) (m:starEach [.Name x p1,.Name b p2] X.env=(q_,eval (.Name x p1) X.env)::starEach [.Name b p2] X.env:=by rfl) (j:starEach [.Name b p2] X.env=[(q_,eval (.Name b p2) X.env)]:=by rfl) (k:(backTo pos^starEach [.Name b p2] X.env).any (·.1)=q_:=by rfl):
  DE X (.Call (.Name "isinstance" p) [.Name x p1,.Name b p2] [] pos) .sh (KJ i b):=by
 refine#[_,DF Mi t y (by decide +kernel) (Aw (De A B f g) (Aw (Oq (v:=.ref D) c e rfl h) Bt j) m) (by cbv) (by cbv) m k,λC M H n S T P Q R w q=>?_];unfold KJ at w
 split at w
 .rename_i a nm V W f
  let#[E,F,G,I,u,Y,o,#[Z,J],L,O,hl,hs]:=R.sl i _ f;refine#[.ref a,getD_some E,a,F,G,I,u,nm,.ref D,"",_,rfl,J,L,λd r=>?_,o,.inr #[D,rfl,o.kit xd s],q _ H (.bl _) n (Ext.refl _ _) R.feed rfl w]
  rcases O with⟨z,_⟩|⟨dd,z,_,l⟩
  .grind
  .rw[z]at r;cases r;exact#[_,l]
 grind
def Vy(c:Gl X "ValueError")(e:X.mg "ValueError"=o_)(o:Gl X "isinstance")(r:X.mg "isinstance"=o_)(s:X.N[i]?=P3 x:=by rfl)(t:Pu X.env.scope x:=by first|exact gx rfl|exact iK (gx rfl)|exact iK (iK rfl))(f:(x==("__debug__":Str))=q_:=by decide)
  (g:(x==("__classdict__":Str))=q_:=by decide) (l:starEach [.Name x p1,.Name "ValueError" p2] X.env=(q_,eval (.Name x p1) X.env)::starEach [.Name "ValueError" p2] X.env:=by rfl) (h:starEach [.Name "ValueError" p2] X.env=[(q_,eval (.Name "ValueError" p2) X.env)]:=by rfl) (j:(backTo pos^starEach [.Name "ValueError" p2] X.env).any (·.1)=q_:=by rfl):
  DE X (.Call (.Name "isinstance" p) [.Name x p1,.Name "ValueError" p2] [] pos) .sh (RE i):=by
 refine#[_,DF Mi o r (by decide +kernel) (Aw (De s t f g) (Aw (Ou (v:=.ty "ValueError") c e PyProof.Rows.Boot.«ValueError» rfl) Bt h) l) (by cbv) (by cbv) l j,λC M H n I J P Q R w q=>?_];unfold RE at w
 split at w
 .rename_i a nm K L f
  let#[y,A,B,D,u,O,m,#[S,E],F,G,T,U]:=R.sl i _ f;refine#[.ref a,getD_some y,a,A,B,D,u,nm,.ty "ValueError","ValueError",p_,rfl,E,F,λd b=>?_,m,.inl #[rfl,m.kitV],q _ H (.bl _) n (Ext.refl _ _) R.feed rfl w]
  rcases G with⟨z,_⟩|⟨dd,z,_,k⟩
  .rw[z]at b;cases b
  .rw[z]at b;cases b;exact#[_,k]
 .exact w.elim
end
def fnX{P:gC}{w:gJ}{K:Frag}{D:Str->s_ Db}{e:gA}{x a:Str}{j:iD}{f:Ch}{fd:gp}{N ps:r_ Str}{k:Nat}{m:Kd}{W:WX}{G:PX->AX}(F:Fun K x a j f fd)(S:A8 N ps^AK j)(J:ps.length<=N.length)
  (L:∀(c:Db) (A:gX) (b:r_ Env) (s:No) (H:Hp) (E:XK) (g:PX) (o:s_ (Ch×Ch)) (U M:Ch->Prop),LiftX K o U M H g E->Room k^A.deeper^envOfC a (AK j) s.heap.objs.size f c->
   JP (λC=>C.F=o/\C.U=U/\C.M0=M/\C.H0=H) (C4 (KI P w) P w K D e N a (AK j) f c A b s H E) m (Aa j) (G g))
  (hW:∀r n i g,r.length=ps.length->W r n i g->G g {nx:=λn _=>m=.sh/\i .non n,rt:=i} n (r++gq (N.length - ps.length) .no)):
  FnOk P w K D e (KI P w) (k+1) f fd ps (Z7 K m W ps.length):=by
 let#[oc,od,kV,O,pm,an,c,ct,T,rfl,V,u]:=F.ex;refine XA V u S (λX H Q E h=>h.1) λA b s H X Q E Y h=>?_;let#[hl,o,U,V',M,n,r,i,g,I,hw,q,l]:=h;let#[t,Z,t2]:=L c A _ s H E g o U M l Y;exists t,Z;have el:=Paired.length I.2.2.2.2.2;have R:=Je (N:=N) I (by lk);refine t2 _ M H n _ _ {nx:=λn _=>m=.sh/\i .non n,rt:=i} _ #[rfl,rfl,rfl,rfl] R #[λM1 H1 y zR zJ B p=>?_,λv H1 d y e1 f1 r1 p=>q v H1 d y e1 f1 r1 p,λ_ _ _ _ _ _ z=>z.elim,λ_ _ _ _ _ _ z=>z.elim] ?_
 .let#[hk,p]:=p
  subst hk;exact q .non H1 .non y B.ext (B.feed.pres (Pres.less B.sub) (λ_ _ _ z=>z) λ_ _ z=>z) rfl p
 grind
section
variable {X:Cx}{κ:Kd}
def RG(j i:Nat):AX:=λc n b=>match b[i]? with
 |some (.ex a d e f)=>c.nx n^b.set j^.ex a d e f
 |_=>False
def Tt{i j:Nat}{x y:Str}{b p pos:Pos}(e:X.N.Nodup)(f:X.N[j]?=P3 x)(g:Loc X.env.scope x)(hi:X.N[i]?=P3 y:=by rfl)(h:Pu X.env.scope y:=by first|exact gx rfl|exact iK (gx rfl)|exact iK (iK rfl))(c:(y==("__debug__":Str))=q_:=by decide)
  (d:(y==("__classdict__":Str))=q_:=by decide) (k:swapsWith (.Name y p) (P3^.Name x b) pos.line X.env=pure q_:=by rfl)
  (l:X.fn x=p_\/X.env.scope.names.lookup x=P3 .local:=by first|exact .inl rfl|exact .inr rfl|assumption):DS X κ (.Assign [.Name x b] (.Name y p) pos)^RG j i:=by
 refine#[_,Cw e f g (De hi h c d) k l,λC M H n u v A E R L w=>?_];unfold RG at w
 split at w
 .rename_i a m o q c
  let#[r,t]:=R.sl i _ c;exact#[_,getD_some r,L.nx M H n _ _ (R.setS (s:=.ex a m o q) rfl (λ_ z=>by cases z) #[rfl,t]) w]
 .exact w.elim
end
def Xi(K:Frag)(b:Str->s_ Db)(a:Str):Prop:=∃C U,XC K a C U/\b a=P3^.ref C/\PySem.W.findIn K (.ref C) "__init__"=P3^P3^.builtin "ValueError.__init__"
def Ui(g:Fm->Prop)(X:Cx)(e:gI)(h:Kd)(w:DW):Prop:=∃t,PE X e t/\∀(C:Fm) (M:Ch->Prop) (H:Hp) (n:Sg) (b:r_ Slot) (c:L2.St) (P:D->Sg->Prop) (Q:VK),g C->Rel X.K C M H n b c->w n b P->(∀v a d f,Ext C.U H a->FeedC X.K C.F M a f->VR X.K C.V M H a h v d->P d f->Q v a)->t c H Q
def OJ(g:Fm->Prop)(X:Cx)(h:r_ gI)(w:La):Prop:=∃t,PA X h t/\∀(C:Fm) (M:Ch->Prop) (H:Hp) (n:Sg) (b:r_ Slot) (c:L2.St) (P:r_ Slot->Sg->Prop) (Q:r_ V->Hp->Prop),g C->Rel X.K C M H n b c->w n b P->
 (∀d a e f,Ext C.U H a->FeedC X.K C.F M a f->Paired (Ct X.K C.F C.V M a) d e->P e f->Q d a)->t c H Q
def Pss(a:Fm->Prop)(X:Cx)(b:PX):Prop:=∃R:XK,CH (KI X.prog X.w) X R/\∀(C:Fm) (M:Ch->Prop) (H:Hp) (n:Sg) (c:r_ Slot) (d:L2.St),a C->Rel X.K C M H n c d->LiftX X.K C.F C.U M H b R
def Pss.mk{X:Cx}{R:XK}{g:Fm->Prop}{h:PX}{i:s_ (Ch×Ch)}{j k:Ch->Prop}{H0:Hp}(l:CH (KI X.prog X.w) X R)(m:LiftX X.K i j k H0 h R)(b:∀C,g C->C.F=i/\C.U=j/\C.M0=k/\C.H0=H0):Pss g X h:=by
 refine#[R,l,λC M H n L N o r=>?_];let#[rfl,rfl,rfl,rfl]:=b C o;intro q s t u v x y c A e f B xd D E p;have a:Pres M c _ c:=Pres.less r.sub;refine m q s t u v x y c A (r.ext.trans e) (f.pres a (λ_ _ _ z=>z) λ_ _ z=>z) B ?_ D (E.pres a) p
 rcases xd with z|⟨d,G,I,J⟩
 .exact .inl z
 .exact .inr #[d,G,λz=>I^r.sub d z,J]
def Py(P:gC)(w:gJ)(K:Frag)(c:Str->s_ Db)(a:gA)(C:Ch)(m:Str)(k:Nat)(ps:r_ Str)(d:Kd)(W:WX):Prop:=
 ∃f fd,FnOk P w K c a (KI P w) k f fd ps^Z7 K d W ps.length/\Ug K C m f/\Binds K fd ps []/\∀b n P e,W b n P e->b.length=ps.length
def Us(b:Str)(c:PX)(a:C7):AX:=λ_ n d=>a n d λe f=>e.length<=100/\c b [] [] f
section
variable {Φ:Fm->Prop}{X:Cx}{Pr:PX}{κ zU zK:Kd}{wa wo:DW}{was:La}{w1:Sg->r_ Slot->(Slot->Sg->Prop)->Prop}{C:Addr}{x m nm:Str}{o e:Expr}{es:r_ Expr}{pos pos' cpos apos p:Pos}{k:Nat}{ps:r_ Str}
def Za(h:DE X e κ wa):Ui Φ X e κ wa:=let #[t,a,b]:=h;#[t,a,λC M H n c d P Q _=>b C M H n c d P Q]
def Pc(h:M5 X es was):OJ Φ X es was:=let #[t,a,b]:=h;#[t,a,λC M H n c d P Q _=>b C M H n c d P Q]
def Pb(h:Ui Φ X e κ wa)(j:OJ Φ X es was)(k:κ≠.tp:=by intro z;cases z)(l:starEach (e::es) X.env=(q_,eval e X.env)::starEach es X.env:=by rfl):OJ Φ X (e::es)^AR (Am wa) was:=by
 let#[t,r,s]:=h;let#[u,y,A]:=j;refine#[_,Aw r y l,λC M H n a b P Q c R w q=>?_];refine s C M H n a b _ _ c R w λv H1 d B f D E p=>?_;have g:=R.step f D;exact A C M H1 B a b _ _ c g p λN F G I i J K L=>q _ F (.sh d::G) I (f.trans i) J (.cons #[#[v,rfl,(E.shOf R.dom k).pres^g.pres i],rfl] K) L
def V2(h:Ui Φ X e κ wa)(j:OJ Φ X es was)(k:starEach (e::es) X.env=(q_,eval e X.env)::starEach es X.env:=by rfl):OJ Φ X (e::es)^AR (Ep wa) was:=by
 let#[t,l,r]:=h;let#[u,s,y]:=j;refine#[_,Aw l s k,λC M H n b c P Q f R w q=>?_];refine r C M H n b c _ _ f R w λv H1 d z g A B p=>?_;have i:=R.step g A;exact y C M H1 z b c _ _ f i p λK D E F a G I J=>q _ D (.br d::E) F (g.trans a) G (.cons #[#[v,rfl,(B.tpOf R.dom R.vM).pres (i.pres a) a R.uV],rfl] I) J
def T7(h:Ui Φ X e κ wa)(i:κ≠.tp:=by intro z;cases z)(j:starEach [e] X.env=[(q_,eval e X.env)]:=by rfl):Ui Φ X (.List [e] pos) .fr^HL^AL wa Ap:=by
 let#[t,k,l]:=h;refine#[_,Kj^Aw k Bt j,λC M H n r s P Q u R w q=>?_];refine l C M H n r s _ _ u R w λv H1 d y f A b p=>?_;have b:Ats X.K M H1 [d] [v]:=#[v,[],rfl,b.shOf R.dom i,rfl];refine#[by rw[b.length];exact p.1,λa c=>?_];have g:Grow H1^AY H1 a^.lst [v]:=AU c;exact q _ _ (.lst [d]) y (f.trans g.ext) (A.grow g) (VR.back f #[a,rfl,c,[v],AH,b.pres^Dn c]) p.2
def T8{W:W2}(G:Got X.prog X.w X.K X.mg X.base x k ps κ W)(j:Room k X.A)(l:Gl X x)(r:OJ Φ X (e::es) was)
  (b:(x==("__debug__":Str))=q_:=by decide) (s:starEach (e::es) X.env=(q_,eval e X.env)::starEach es X.env:=by rfl) (c:(backTo pos^starEach es X.env).any (·.1)=q_:=by rfl):
  Ui Φ X (.Call (.Name x p) (e::es) [] pos) κ (BE W was):=by
 let#[f,fd,G,u,y,z,B]:=G;let#[t,D,E]:=r;refine#[_,G3 G j l u y z .nil FS D b s c,λC M H n F I P Q J R w q=>?_];refine E C M H n F I _ _ J R w λZ H1 L N g h i p=>?_;have a:=R.step g h;rw[gZ];exact#[(Paired.length i).trans^B _ _ _ p,_,_,_,M,N,L,P,#[a.dom,a.fU,a.uV,a.vM,h,i],p,λv O d S T U V Y=>q v O d S (g.trans T) U (VR.back g V) Y]
def T6{W:W2}{pl:Sem Bool}(c:Cls X.K C)(G:Q6 X.prog X.w X.K X.mg X.base C m k ps κ W)(J:Room k X.A)(L:DE X o zK wo)(N:OJ Φ X (e::es) was)
  (i:starEach (e::es) X.env=(q_,eval e X.env)::starEach es X.env:=by rfl) (j:(backTo pos^starEach es X.env).any (·.1)=q_:=by rfl)
  (O:eval (.Call (.Attribute o m apos) (e::es) [] pos) X.env=(do
   let ov ←eval o X.env
   standAt apos.atName
   let (f,first) ←holding [ov] (getMethod ov m pl)
   callWith pos f first (backTo pos^starEach (e::es) X.env) (backToKw pos^keywordEach [] X.env)):=by rfl):Ui Φ X (.Call (.Attribute o m apos) (e::es) [] pos) κ^CU C m W wo was:=by
 let#[f,fd,G,S,T,U]:=G;let#[to,Y,Z]:=L;let#[t,a1,a2]:=N;refine#[_,Ki Y c S G J T .nil FS a1 i j O,λC0 M H n s u P Q hC R w q=>?_];refine Z C0 M H n s u _ _ R w λv H1 d n1 l y r1 #[a,ks,ds,ed,hw,hl,w1]=>?_;subst ed;have z:=R.step l y;let#[dx,vs,B,g2,g3,g4]:=y.2 a _ hw;have ev:=Dg^r1.tpOf R.dom R.vM;subst ev;exists a,dx,_,rfl,B,DL hl;refine a2 C0 M H1 n1 s u _ _ hC z w1 λa0 D ss n2 g E I p=>?_;have R2:=z.step g E;rw[gZ];have r:∃o,D a=P3 o:=let #[o',h,_]:=g a _ B;#[o',h]
 have b:Ct X.K C0.F C0.V M D (.ref a)^.sh^.ob a:=#[#[_,rfl,rfl,r],rfl];exact#[(Paired.length^Paired.cons b I).trans^U _ _ _ p,_,_,_,M,n2,_,P,#[R2.dom,R2.fU,R2.uV,R2.vM,E,Paired.cons b I],p,λv H3 d n3 e3 f3 r3 p3=>q v H3 d n3 ((l.trans g).trans e3) f3 (VR.back (l.trans g) r3) p3]
def A4{W:WX}{pl:Sem Bool}(O:Pss Φ X Pr)(c:Cls X.K C)(G:Py X.prog X.w X.K X.mg X.base C m k ps κ W)(S:Room k X.A)(T:DE X o zK wo)(U:M5 X (e::es) was)
  (i:starEach (e::es) X.env=(q_,eval e X.env)::starEach es X.env:=by rfl) (j:(backTo pos^starEach es X.env).any (·.1)=q_:=by rfl)
  (Y:eval (.Call (.Attribute o m apos) (e::es) [] pos) X.env=(do
   let ov ←eval o X.env
   standAt apos.atName
   let (f,first) ←holding [ov] (getMethod ov m pl)
   callWith pos f first (backTo pos^starEach (e::es) X.env) (backToKw pos^keywordEach [] X.env)):=by rfl):Ui Φ X (.Call (.Attribute o m apos) (e::es) [] pos) κ^CU C m (λz n P=>W z n P Pr) wo was:=by
 let#[E,Z,hL]:=O;let#[f,fd,G,hm,hb,hW]:=G;let#[to,o1,o2]:=T;let#[t,a1,a2]:=U;refine#[_,Ki o1 c hm G S hb .nil Z a1 i j Y,λC0 M H n l r P Q hC R w q=>?_];refine o2 C0 M H n l r _ _ R w λv H1 d n1 s B r1 #[a,ks,ds,ed,hw,hl,w1]=>?_;subst ed;have D:=R.step s B;let#[dx,vs,I,g2,g3,g4]:=B.2 a _ hw;have ev:=Dg^r1.tpOf R.dom R.vM;subst ev;exists a,dx,_,rfl,I,DL hl;refine a2 C0 M H1 n1 l r _ _ D w1 λa0 u z J g L N p=>?_;have R2:=D.step g L;rw[gZ];have y:∃o,u a=P3 o:=let #[o',h,_]:=g a _ I;#[o',h]
 have b:Ct X.K C0.F C0.V M u (.ref a)^.sh^.ob a:=#[#[_,rfl,rfl,y],rfl];exact#[(Paired.length^Paired.cons b N).trans^hW _ _ _ _ p,_,_,_,M,J,_,P,Pr,#[R2.dom,R2.fU,R2.uV,R2.vM,L,Paired.cons b N],p,λv H3 d n3 e3 f3 r3 p3=>q v H3 d n3 ((s.trans g).trans e3) f3 (VR.back (s.trans g) r3) p3,hL C0 M u J l r hC R2]
def EH(h:Ui Φ X e zU wa)(c:swapsWith e o_ pos.line X.env=pure q_:=by rfl):Z5 Φ X κ (.Expr e pos)^Lf wa:=by
 let#[t,f,g]:=h;exact#[_,Kg f c,λC M H n a b r E i R L w=>g C M H n a b _ _ i R w λv j d k l q s p=>L.nx M j k a b (R.step l q) p]
def EY(h:Ui Φ X e κ wa)(a:κ≠.tp:=by intro z;cases z):Z5 Φ X κ (.Return (P3 e) pos)^DX wa:=by
 let#[t,b,c]:=h;exact#[_,D9 b,λC M H n f g q E i R L w=>c C M H n f g _ _ i R w λv r d s j k l p=>Rm R L j k l a p]
def PN{i:Nat}(a:X.N.Nodup)(hi:X.N[i]?=P3 x)(b:Loc X.env.scope x)(c:Ui Φ X e zU wa)(f:zU≠.tp:=by intro z;cases z)(g:swapsWith e (P3^.Name x pos') pos.line X.env=pure q_:=by rfl)
  (h:X.fn x=p_\/X.env.scope.names.lookup x=P3 .local:=by first|exact .inl rfl|exact .inr rfl|assumption):Z5 Φ X κ (.Assign [.Name x pos'] e pos)^C9 i wa:=by
 let#[t,j,k]:=c;exact#[_,Cw a hi b j g h,λC M H n l q D E r R L w=>k C M H n l q _ _ r R w λv s d u y A B p=>L.nx M s u _ _ ((R.step y A).set^B.shOf R.dom f) p]
def B6{c:C7}(j:Pss Φ X Pr)(G:Xi X.K X.mg nm)(l:Room (k+1) X.A)(q:Gl X nm)(s:WT X (e::es) c)(a:(nm==("__debug__":Str))=q_:=by decide)(u:starEach (e::es) X.env=(q_,eval e X.env)::starEach es X.env:=by rfl)(b:(backTo cpos^starEach es X.env).any (·.1)=q_:=by rfl):Z5 Φ X κ (.Raise (P3^.Call (.Name nm p) (e::es) [] cpos) o_ pos)^Us nm Pr c:=by
 let#[E,v,y]:=j;let#[C,U,d,z,B]:=G;let#[t,D,F]:=s;refine#[_,QF v^NQ d B l.hd q z D a u b,λC0 M H n f g O P I r L w=>?_];refine F C0 M H n f g _ _ r w λQ H1 R h J i N #[S,p]=>?_;exact#[by rw[N.length,PySem.sizeLine_eq];lk,y C0 M H1 h f g I (r.step J i) nm C U [] [] [] o_ H1 h (Ext.refl _ _) i d (.inl #[rfl,rfl,rfl]) rfl rfl p]
def bi{P:gC}{w:gJ}{K:Frag}{e:Str->s_ Db}{b:gA}{x q:Str}{d:iD}{f:Ch}{fd:gp}{N ps:r_ Str}{k:Nat}{κ:Kd}{W:WX}{i:PX->AX}(F:Fun K x q d f fd)(S:A8 N ps^AK d)
  (j:∀{c:Db}{A:gX}{a:r_ Env}{s:No}{H:Hp}{E:XK}{Pr:PX}{Φ:Fm->Prop},Room k^A.deeper^envOfC q (AK d) s.heap.objs.size f c->Pss Φ (C4 (KI P w) P w K e b N q (AK d) f c A a s H E) Pr->JP Φ (C4 (KI P w) P w K e b N q (AK d) f c A a s H E) κ (Aa d)^i Pr)
  (r:∀{ss n Pd Pr},W ss n Pd Pr->i Pr {nx:=λn _=>κ=.sh/\Pd .non n,rt:=Pd} n (ss++gq (N.length - ps.length) .no)) (g:ps.length<=N.length:=by decide):
  FnOk P w K e b (KI P w) (k+1) f fd ps (Z7 K κ W ps.length):=fnX F S g (λc A a s H E Pr u U M l t=>j t^Pss.mk Sf l λC h=>h) λ_ _ _ _ _ h=>r h
end
end Dp
namespace L2
open PySem.AutoSeq1 (wpAny_loadPart')
end L2
namespace Dp
open L2
end Dp
namespace L2
section
variable {X:Cx}
def a9(K:Frag):V->r_ V->Hp->VK->Prop:=λx g H Q=>∃(a:Ch) (c:r_ V) (y:V) (b:r_ je) (d:je) (j:Nat),x=.ref a/\g=[y]/\SqL K H a c/\RVs H b c/\RV H d y/\iy b=p_/\d.canLay0=p_/\d.depth<=100 /\
 (∃e,b[j]?=P3 e/\ir e d=p_)/\(∀m f,m<j->b[m]?=P3 f->ir f d=q_)/\Q (.int (j:Int)) H
def Yx{k:Nat}(N:Room k X.A):Um X "list.index"^a9 X.K:=by
 intro O s P H x vs v us Q I R S h;let#[l,xs,y,b,d,j,rfl,rfl,T,f,U,C,V,dd,#[dj,hj,W],g,q]:=h;cases R;let#[u,rfl,Y]:=S.one;let#[a,r,pl,z]:=I.list T;let#[Z,ra]:=RVs.reads I f r;let#[bs,rb]:=RV.reads I U Y;have hm:=PySem.SeqAt.readsAll_map b a Z C ra;have D:b.length=a.length:=by grind
 have hu:=N.un;have E:min (iQ b) d.depth<=d.depth:=kN _ _
 have i:∀m o,b[m]?=P3 o->∀(h:m<a.toArray.size),PySem.SeqAt.readOf s.heap a.toArray[m]=o:=λm o e h=>by
  rw[←hm,UF]at e;have h':m<a.length:=by simpa using h
  simp_all
 have a0:j<a.length:=by grind
 have hz:=r.length;have a1:=PySem.sizeLine_eq;let#[#[a2,dt,G,sl],n,e,J,L,M]:=pl;simp only at J M L;subst J M L;have p:=PySem.SeqAt.list_indexAt l a.toArray n o_ sl u _ j (by lk) (by lk) (by simp_all) (λm t B=>?_) X.prog X.w X.A (wants (EP X O P Q) X.xe) s #[e,PySem.SeqAt.items_eqAt (vs:=a.toArray) (by lk) rb C V^by lk,#[.int j,H,I.tok _,#[_,rfl],q]]
 .exact jR^jh PySem.F.slot_list_index.plain PySem.F.entry_list_index^PySem.F.slot_list_index.check _ _ _ _ _ _ _ _ #[_,e,rfl] (PySem.F.args_list_index_2 _ _) p
 have c:m<b.length:=by simp_all
 rw[i m b[m] (Go c) t];exact g m b[m] B (Go c)
end
end L2
namespace Dp
open L2
def ZN(d:D)(b:r_ D)(P:D->Prop):Prop:=∃(a:r_ D) (y:D) (j:Nat),d=.lst a/\b=[y]/\Bv^.tup a/\Bv y/\(∃x,a[j]?=P3 x/\Dy x y=p_)/\(∀m x,m<j->a[m]?=P3 x->Dy x y=q_)/\P^.int (j:Int)
def cO{K:Frag}:dH K .sh "list" (a9 K) ZN:=by
 intro U M H d F x G P Q k I l n w q;let#[h,y,j,rfl,rfl,#[o,r,_],#[s,t,u],#[J,b,c],f,w]:=w;let#[v,rfl,z]:=Bk n;let#[a,A,rfl,_,B,C]:=l
 have g:∀(m:Nat) (p:je),(BO h)[m]?=P3 p->∃x,h[m]?=P3 x/\p=toPy x:=λm p e=>by
  rw[B0,UF]at e;let#[x,i,rfl]:=gY.mp e
  grind
 refine#[a,A,v,_,_,j,rfl,rfl,.inl B,C.rv o,z.rv s,r,t,u,#[_,by rw[B0,UF,b];rfl,c],λm p D e=>?_,q _ H (.int j) .refl rfl w];let#[E,i,rfl]:=g m p e;exact f m E D i
end Dp
namespace L2
section
variable {X:Cx}
def bF(K:Frag):V->r_ V->Hp->VK->Prop:=λx e H Q=>∃(a:Ch) (c:r_ V) (y:V) (b:r_ je) (d:je),x=.ref a/\e=[y]/\SqL K H a c/\RVs H b c/\RV H d y/\iy b=p_/\d.canLay0=p_/\d.depth<=100/\Q (.int ((b.countP λz=>ir z d:Nat):Int)) H
def Yy{k:Nat}(t:Room k X.A):Um X "list.count"^bF X.K:=by
 intro B s C H x vs v V Q I D E h;let#[l,W,y,b,d,rfl,rfl,G,c,J,g,L,dd,q]:=h;cases D;let#[u,rfl,M]:=E.one;let#[a,r,pl,z]:=I.list G;let#[N,O]:=RVs.reads I c r;let#[Y,P]:=RV.reads I J M;have R:=PySem.SeqAt.readsAll_map b a N g O;have Z:=t.un;have i:min (iQ b) d.depth<=d.depth:=kN _ _;let#[#[S,dt,j,T],n,e,m,o,p]:=pl;simp only at m p o;subst m p o;have f:=PySem.SeqAt.list_countAt l a.toArray n o_ T u (λy=>ir (PySem.SeqAt.readOf s.heap y) d) X.prog X.w X.A (wants (EP X B C Q) X.xe) s #[e,PySem.SeqAt.items_eqAt (vs:=a.toArray) (by lk) P g L^by lk,?_]
 .exact jR^jh PySem.F.slot_list_count.plain PySem.F.entry_list_count^PySem.F.slot_list_count.check _ _ _ _ _ _ _ _ #[_,e,rfl] (PySem.F.args_list_count_2 _ _) f
 .exists .int _,H,I.tok _,#[_,rfl]
  have U:(b.countP λz=>ir z d)=a.countP λy=>ir (PySem.SeqAt.readOf s.heap y) d:=by
   rw[←R,List.countP_map];rfl
  rw[U]at q;exact q
end
end L2
namespace Dp
open L2
def b_(d:D)(b:r_ D)(P:D->Prop):Prop:=∃(a:r_ D) (y:D),d=.lst a/\b=[y]/\Bv^.tup a/\Bv y/\P^.int ((a.countP λz=>Dy z y:Nat):Int)
def cU{K:Frag}:dH K .sh "list" (bF K) b_:=by
 intro U M H d o x p P Q b r c e w q;let#[s,y,rfl,rfl,#[f,g,_],#[h,i,j],w]:=w;let#[v,rfl,k]:=Bk e;let#[a,l,rfl,_,m,n]:=c;refine#[a,l,v,_,_,rfl,rfl,.inl m,n.rv f,k.rv h,g,i,j,q _ H (.int _) .refl rfl ?_];rw[B0,List.countP_map];exact w
def aN(i:Nat):FJ:=λn a P=>match a[i]? with
 |some (.ex _ _ _ _)=>P q_ n
 |some (.sh .non)=>P p_ n
 |_=>False
def ZT{X:Cx}{i:Nat}{x:Str}{p pos q:Pos}{j}(f:X.N[i]?=P3 x:=by rfl)(g:Pu X.env.scope x:=by first|exact gx rfl|exact iK (gx rfl)|exact iK (iK rfl))(b:(x==("__debug__":Str))=q_:=by decide)
  (c:(x==("__classdict__":Str))=q_:=by decide) (h:behindInMarks .Is^.Constant .none j q=q_:=by rfl):DT X (.Compare (.Name x p) [.Is] [.Constant .none j q] pos)^aN i:=by
 refine#[_,EN NV (De f g b c) SY h,λC M H n k l P Q R w q=>?_];unfold aN at w
 split at w
 .rename_i a m o r b
  let#[d,_]:=R.sl i _ b;exact#[.ref a,getD_some d,rfl,q_,rfl,q q_ H n (Ext.refl _ _) R.feed w]
 .rename_i b
  let#[v,d,e]:=R.sl i _ b;have e:v=.non:=e;subst e;exact#[.non,getD_some d,rfl,p_,rfl,q p_ H n (Ext.refl _ _) R.feed w]
 .exact w.elim
def TJ{X:Cx}{r:R2}(c:IxR X r):IxR X (λx y H Q=>∃H1,View H H1/\r x y H1 λv e=>∃d,View e d/\Q v d):=λa b f s g H x y v u Q I i j #[H1,k,h] l=>
 Aq (c a b f s g H1 x y v u _ (I.view k) i j h l) λu m h=>h.view
def Xt(g h:DW):DW:=λn b P=>g n b λd j=>h j b λe c=>∃a f i x,d=.ob a/\e=.int i/\c.w a=P3^.pl^.lst f/\atI f i=P3 x/\P x c
def Zc{X:Cx}{a b:gI}{pos:Pos}{F G:Kd}{r s:DW}(I:DE X a F r)(g:DE X b G s)(J:HI b:=by intro _ _;rfl):DE X (.Subscript a b pos) .sh^Xt r s:=by
 let#[ta,h,j]:=I;let#[tb,k,l]:=g;refine#[_,DD (TJ ix_list) h k J,λC M H n t y P Q R w q=>?_];refine j C M H n t y _ _ R w λv H1 d K A L N O=>?_;have m:=R.step A L;refine l C M H1 K t y _ _ m O λu f e S T B U #[p,ds,i,x,V,W,Y,Z,pp]=>?_;subst V;subst W
 have ev:=Dg^N.tpOf R.dom R.vM;subst ev;have eu:u=.int i:=U.tpOf m.dom m.vM;subst eu;let#[h0,D,E,h2,h3]:=B.2 p _ Y;have c:Cells M f [p]:=λb g=>by rw[Re.mp g];exact#[h0,.lst D,trivial,E]
 let#[z,hz,o]:=h3.atI Z;exact#[Fw f [p],c.view,p,D,i,z,rfl,rfl,.inl^.inl^c.un Op E,hz,f,c.view.symm,q z f x S (A.trans T) B o pp]
end Dp
set_option maxHeartbeats 400000
namespace Dp
open L2
end Dp
set_option maxHeartbeats 4000000
namespace Nt
open L2 Dp
inductive Pz where
 |dd (d:Dd)|far (x y:Str)
def CK:Pz->D
 |.dd d=>Em d
 |.far x y=>.tup [.str "far",.str x,.str y]
def Gx:Pz->Prop
 |.dd (.come x)=>Bm x
 |.dd (.go x)=>Bm x
 |.dd (.lay x y l)=>(Bm x/\Bm y)/\1<=l/\l<=1000000
 |.dd (.take x y)=>Bm x/\Bm y
 |.far x y=>Bm x/\Bm y
noncomputable def Ab(N:Net):Pz->s_ Str
 |.dd (.come x)=>if x∈N.ps then P3 "Twice" else if N.ps.length=24 then P3 "TooMany" else o_
 |.dd (.go x)=>if x∈N.ps then o_ else P3 "NoPlace"
 |.dd (.lay x y _)=>if x∈N.ps/\y∈N.ps then if x=y then P3 "NoTie" else if N.ts.filter (Ag x y)=[]/\N.ts.length=60 then P3 "TooMany" else o_ else P3 "NoPlace"
 |.dd (.take x y)=>if x∈N.ps/\y∈N.ps then if N.ts.filter (Ag x y)=[]then P3 "NoTie" else o_ else P3 "NoPlace"
 |.far x y=>if x∈N.ps/\y∈N.ps then o_ else P3 "NoPlace"
def BY(C:Ch)(n:Sg)(a:Ch)(t b:Int)(N M:Net)(d:Pz)(P:D->Sg->Prop)(f:PX):Prop:=match Ab N d with
 |some c=>f c [] [] n
 |none=>match d with
  |.dd d=>∀e,Z3 N d e->okN e->e.ps.length<=24->Xg C n a t b M e P
  |.far x y=>∀o,fC M x y o->P (bP o) n
def OI(C:Ch)(n:Sg)(a:Ch)(t b:Int)(N M:Net):Prop:=Xh C n a t b N M/\N.ps.length<=24/\N.ps=M.ps
def Mv(C:Ch):WX:=λc n P d=>∃(a:Ch) (t b:Int) (N M:Net) (x:Str),c=[.sh^.ob a,.sh^.str x]/\Xh C n a t b N M/\Bm x/\(x∈N.ps->P .non n)/\(x∉N.ps->d "NoPlace" [] [] n)
def Ij(C:Ch):WX:=λc n P d=>∃(a:Ch) (t b:Int) (N M:Net) (x y:Str),c=[.sh^.ob a,.sh^.str x,.sh^.str y]/\Xh C n a t b N M/\Bm x/\Bm y/\(x∈N.ps/\y∈N.ps->P (.lst^(N.ts.filter^Ag x y).map Ai) n)/\(¬(x∈N.ps/\y∈N.ps)->d "NoPlace" [] [] n)
def JN(C:Ch):WX:=λd n P c=>∃(a:Ch) (t b:Int) (N M:Net) (x y:Str),d=[.sh^.ob a,.sh^.str x,.sh^.str y]/\Xh C n a t b N M/\Bm x/\Bm y/\(x∈N.ps/\y∈N.ps->(∀u,N.ts.filter^Ag x y=[u]->P (Ai u) n)/\(N.ts.filter^Ag x y=[]->c "NoTie" [] [] n))/\(¬(x∈N.ps/\y∈N.ps)->c "NoPlace" [] [] n)
def WO(C:Ch):WX:=λc n P d=>∃(a:Ch) (t b:Int) (N M:Net) (x:Str),c=[.sh^.ob a,.sh^.str x]/\OI C n a t b N M/\Gx^.dd^.come x/\BY C n a t b N M (.dd^.come x) P d
def ce(C:Ch):WX:=λc n P d=>∃(a:Ch) (t b:Int) (N M:Net) (x:Str),c=[.sh^.ob a,.sh^.str x]/\OI C n a t b N M/\Gx^.dd^.go x/\BY C n a t b N M (.dd^.go x) P d
def Zp(C:Ch):WX:=λc n P d=>∃(a:Ch) (t b:Int) (N M:Net) (x y:Str) (l:Int),c=[.sh^.ob a,.sh^.str x,.sh^.str y,.sh^.int l]/\OI C n a t b N M/\Gx^.dd^.lay x y l/\BY C n a t b N M (.dd^.lay x y l) P d
def WJ(C:Ch):WX:=λc n P d=>∃(a:Ch) (t b:Int) (N M:Net) (x y:Str),c=[.sh^.ob a,.sh^.str x,.sh^.str y]/\OI C n a t b N M/\Gx^.dd^.take x y/\BY C n a t b N M (.dd^.take x y) P d
def Zr(C:Ch):WX:=λc n P d=>∃(a:Ch) (t b:Int) (N M:Net) (x y:Str),c=[.sh^.ob a,.sh^.str x,.sh^.str y]/\OI C n a t b N M/\Gx^.far x y/\BY C n a t b N M (.far x y) P d
def WI(C:Ch):WX:=λc n P e=>∃(a:Ch) (t b:Int) (N M:Net) (d:Pz),c=[.sh^.ob a,.sh^CK d]/\OI C n a t b N M/\Gx d/\BY C n a t b N M d P e
def fE(c:Str):Str:=if c="Twice" then "twice" else if c="TooMany" then "many" else if c="NoPlace" then "place" else "tie"
def MX(o:s_ Str):Str:=match o with|some c=>fE c|none=>"ok"
def Pq:W2:=λb n P=>∃(e:Ch) (a:Str) (c:r_ Str) (d:r_ D),b=[.ex e a c d]/\a∈(["Twice","TooMany","NoPlace","NoTie"]:r_ Str)/\P (.str^fE a) n
def Ii(C:Ch):W2:=λe n P=>∃(a:Ch) (t b:Int) (N M:Net) (d:Pz),e=[.sh^.ob a,.sh^CK d]/\OI C n a t b N M/\Gx d/\BY C n a t b N M d (λ_ c=>P (.str^MX^Ab N d) c) λ_ _ _ c=>P (.str^MX^Ab N d) c
def Ps:W2:=λa n P=>∃x y:Str,a=[.sh^.str x,.sh^.str y]/\P (.tup [.str^lo x y,.str^hi x y]) n
def OG:W2:=λb n P=>∃(N:Net) (ps:r_ Str) (a:r_ Ak) (d:Pz),b=[.sh^Gq (Iv ps)^FI a,.sh^CK d]/\JO N ps a/\Gx d/\P (.str^MX^Ab N d) n
def LX:W2:=λb n P=>∃(N:Net) (ps:r_ Str) (a:r_ Ak),b=[.fd,.sh^Gq (Iv ps)^FI a,.sh^.lst^words26.map .str]/\JO N ps a/\7<=n.n/\∀(d:Pz) (m:Nat),Gx d->n.n<=m+7->P (CK d) #[m,n.w]
def Im(C:Ch):W2:=λe n P=>∃t b w:Int,e=[.fd,.sh^tD t b,.sh^.int w]/\0<=w/\w<=2/\RS t b/\3<=n.n/\∀(a l u:Ch) (N T:Net) (ps:r_ Str) (d:r_ Ak) (c:Sg),n.n<=c.n+3->Xh C c a t b N T->IsT N t b T->c.w l=P3^.pl^Iv ps->c.w u=P3^.pl^FI d->a≠l->a≠u->l≠u->JO N ps d->N.ps.length<=24->(w=2->ps.length=12)->P (.tup [.ob a,Gq (.ob l)^.ob u]) c
def C5:AX:=(BR (JS 1^HL^AL (KJ 0 "Twice")^AL (KJ 0 "TooMany")^AL (KJ 0 "NoPlace") Ap)
 (BR (JS 1^BI cA (Bj 1)^HL^AL (KJ 0 "NoTie")^AL (KJ 0 "NoLine")^AL (KJ 0 "NoPaper") Ap)
 (BR (aK 1 "list" Vj^AL (KJ 0 "NoRow") Ap)
 (BR (DY (aJ (A9^BI (LB p_) (c8 "list" b_ (Bj 1)^AL (wC^D.bl p_) Ap)^wC^D.int 1)^WZ^A9^RE 0) (DX^wC^D.str "none") CT)
 (DX^BI Io (HL^AL (wC^D.str "twice")^AL (wC^D.str "many")^AL (wC^D.str "place")^AL (wC^D.str "tie")^AL (wC^D.str "line")^AL (wC^D.str "paper")^AL (wC^D.str "row") Ap)^c8 "list" ZN (Bj 1)^AL (wC^D.bl p_) Ap)))))
def Pg(C_Keeper:Ch):AX:=(BR (C9 2^BE Mt^AR (Ck 1) Al)
 (BR (C9 3^BI Io (HL^AL (wC^D.int 1)^AL (wC^D.int 0)^AL (wC^D.int 0)^AL (wC^D.int 0) Ap)^BE Fq^AR (Ck 1)^AR (Am^wC^D.int 4) Al)
 (BR (DY (A9^BI (LB q_) (BE Fq^AR (Ck 1)^AR (Am^wC^D.int 16) Al)^wC^D.int 0) (C9 3^wC^D.int 2) CT)
 (BR (X1 (BE (Im C_Keeper)^AR (Ck 1)^AR (Am^AS 2)^AR (Am^AS 3) Al)^Q0 2^Dt (Bz 4)^Dt (Bz 5) Ml)
 (BR (Uu (Le^AL (BI Io (HL^AL (BI Ce (wC^D.int 4)^BE Fq^AR (Ck 1)^AR (Am^wC^D.int 11) Al)^AL (wC^D.int 8)^AL (wC^D.int 5) Ap)^AS 3) Ap) (Bz 6) (BR (C9 7^Er LX^AR (Ck 1)^AR (Am^AS 5)^AR (Am^BE LW Al) Al)
 (BR (DY (Lg (A9^BI (LB q_) (AS 3)^wC^D.int 2)^A9^BI Te (AS 6)^wC^D.int 2) (BR (C9 8^Xt (BI DU (AS 5)^wC^D.str "places")^BE Fq^AR (Ck 1)^AR (Am^wC^D.int 12) Al)
 (C9 7^BI Io (HL^AL (Ee^AL (wC^D.str "lay")^AL (AS 8)^AL (AS 8)^AL (wC^D.int 3) Ap)^AL (Ee^AL (wC^D.str "take")^AL (AS 8)^AL (AS 8) Ap) Ap)^AS 6)) CT)
 (BR (C9 9^JT FZ^AL (Ee^AL (CU C_Keeper "net" (FG C_Keeper) (AS 4) Al)^AL (CU C_Keeper "thin" (Ik C_Keeper) (AS 4) Al) Ap) Ap)
 (BR (C9 10^Er OG^AR (Am^AS 5)^AR (Am^AS 7) Al)
 (BR (DY (A9^BI (LB p_) (BE (Ii C_Keeper)^AR (Am^AS 4)^AR (Am^AS 7) Al)^AS 10) (DX^wC^D.bl q_) CT)
 (BR (DY (Lg (A9^BI (LB q_) (AS 10)^wC^D.str "ok")^A9^BI (LB p_) (BI Io (AS 7)^wC^D.int 0)^wC^D.str "far") (Lf^BE Pt^AR (Am^AS 5)^AR (Am^AS 7) Al)^DY (A9^BI (LB p_) (JT FZ^AL (Ee^AL (CU C_Keeper "net" (FG C_Keeper) (AS 4) Al)^AL (CU C_Keeper "thin" (Ik C_Keeper) (AS 4) Al) Ap) Ap)^AS 9) (DX^wC^D.bl q_) CT)
 (DY (A9^BI (LB p_) (JT FZ^AL (CU C_Keeper "net" (FG C_Keeper) (AS 4) Al) Ap)^JT FZ^AL (Er Il^AR (Am^AS 5) Al) Ap) (DX^wC^D.bl q_) CT))))))))
 (DX^wC^D.bl p_))))))
def Sz(x y:Str):(if decide (cs y<cs x)=p_ then y else x)=lo x y:=by
 rcases jC (x=y)with rfl|h
 .unfold lo;split <;>split <;>rfl
 .exact bT h
def S0(x y:Str):(if decide (cs x<cs y)=p_ then y else x)=hi x y:=by
 rcases jC (x=y)with rfl|h
 .unfold hi;split <;>split <;>rfl
 .exact bU h
def Dv{x y:Str}{u:Ak}(c:cs u.a<cs u.b):UN x y u↔u.a=lo x y/\u.b=hi x y:=by
 rcases jC (x=y)with rfl|h
 .have d:lo x x=x:=by unfold lo;split <;>rfl
  have e:hi x x=x:=by unfold hi;split <;>rfl
  rw[d,e];constructor
  .rintro(⟨a,b⟩|⟨a,b⟩) <;>exact#[a,b]
  .exact λz=>.inl z
 .exact Fl h c
def fK(x:Str):D->Bool
 |.str y=>!(y==x)
 |_=>q_
def Tc(x:Str)(a:r_ Str):(a.map D.str).filter^fK x=(a.filter λy=>decide (y≠x)).map .str:=by
 rw[kg]
 congr 1
 refine jI λy _=>?_;show(!(y==x))=decide (y≠x);rw[decide_not,lU]
def Y0{N:Net}{x y:Str}(a:x∈N.ps)(b:y∈N.ps):lo x y∈N.ps/\hi x y∈N.ps:=by
 unfold lo hi
 split <;>exact#[by assumption,by assumption]
def W5{N:Net}(ok:N.Ok)(x y:Str):N.ts.filter^Ag x y=[]\/∃u,N.ts.filter^Ag x y=[u]:=by
 have d:=ok.trise.filter^Ag x y
 have c:∀v∈N.ts.filter^Ag x y,v.a=lo x y/\v.b=hi x y:=λv f=>by
  let#[g,i]:=gg.mp f;exact(Dv (ok.tin v g).2.2.1).mp^betwB_iff.mp i
 cases e:N.ts.filter^Ag x y with
 |nil=>exact .inl rfl
 | cons v r=>
  refine .inr #[v,?_];cases r with
  |nil=>rfl
  |cons w r=>
   rw[e]at d c;let#[j,k]:=c v Op;let#[l,m]:=c w^T0 _ Op
   rcases(g0.mp d).1 w Op with h|⟨_,h⟩
   .rw[j,l]at h;exact absurd h^A5 _
   .rw[k,m]at h;exact absurd h^A5 _
theorem O6{a:Type}(p:a->Bool):∀l:r_ a,(l.filter p).length+(l.filter λx=>!p x).length=l.length
 |[]=>rfl
 |x::l=>by
  have:=O6 p l
  cases e:p x with
  |true=>rw[jt e,jM (by simp[e]),gG,gG];lk
  |false=>rw[jM (by simp[e]),jt (by simp[e]),gG,gG];lk
def Dr{N:Net}(i:okN N)(v:N.ps.length<=24){d:Dd}(J:Gx^.dd d)(f:Ab N^.dd d=o_):∃K:Net,Z3 N d K/\okN K/\K.ps.length<=24:=by
 have ok:=i.1;have L:∀p:Ak->Bool,(N.ts.filter p).length<=N.ts.length:=λp=>iP _ _;cases d with
 | come x=>
  have f:(if x∈N.ps then P3 "Twice" else if N.ps.length=24 then P3 "TooMany" else o_:s_ Str)=o_:=f
  split at f
  .cases f
  rename_i A
  split at f
  .cases f
  rename_i U
  let#[F,n,B]:=Nq (r:=λx y=>cs x<cs y) (λa b c h g=>kU h g) x ok.rise λy s=>(JZ x y).elim .inl λz=>z.elim (λe=>absurd (e▸s) A) .inr;have X:F.length=N.ps.length+1:=n.length_eq;refine#[#[F,N.ts],#[J,A,n,rfl],#[#[λy s=>?_,B,λt j=>?_,ok.trise],by show F.length<=25;lk,i.2.2],by show F.length<=24;lk]
  .rcases Tk.mp^n.mem_iff.mp s with rfl|z
   .exact J
   .exact ok.names y z
  .let#[D,G,H]:=ok.tin t j
   exact#[n.mem_iff.mpr^T0 _ D,n.mem_iff.mpr^T0 _ G,H]
 | go x=>
  have f:(if x∈N.ps then o_ else P3 "NoPlace":s_ Str)=o_:=f
  split at f
  .rename_i A
   refine#[_,#[A,rfl],#[#[λy s=>ok.names y (gg.mp s).1,ok.rise.filter _,λt j=>?_,ok.trise.filter _],gN (iP _ _) i.2.1,gN (L _) i.2.2],gN (iP _ _) v];let#[n,B]:=gg.mp j;let#[D,G,H]:=ok.tin t n;have O:¬(t.a=x\/t.b=x):=λz=>by rw[atB_iff.mpr z]at B;cases B
   exact#[gg.mpr #[D,decide_eq_true λz=>O^.inl z],gg.mpr #[G,decide_eq_true λz=>O^.inr z],H]
  .cases f
 | lay x y l=>
  have f:(if x∈N.ps/\y∈N.ps then if x=y then P3 "NoTie" else if N.ts.filter (Ag x y)=[]/\N.ts.length=60 then P3 "TooMany" else o_ else P3 "NoPlace":s_ Str)=o_:=f;let#[_,n,B]:=J
  split at f
  .rename_i o
   let#[A,s]:=o
   split at f
   .cases f
   rename_i m
   split at f
   .cases f
   rename_i M
   let#[V,Y]:=W9 m
   have E:∀t∈N.ts.filter λu=>!Ag x y u,t∈N.ts/\¬(t.a=lo x y/\t.b=hi x y):=λt j=>by
    let#[C,I]:=gg.mp j;refine#[C,λz=>?_];rw[betwB_iff.mpr^(Fl m (ok.tin t C).2.2.1).mpr z]at I;cases I
   let#[P,C,I]:=Nq (r:=BF) (λ_ _ _=>Vm) (#[lo x y,hi x y,l]:Ak) (ok.trise.filter λu=>!Ag x y u) λt j=>by
    let#[_,k]:=E t j
    rcases JZ (lo x y) t.a with z|z|z
    .exact .inl^.inl z
    .rcases JZ (hi x y) t.b with w|w|w
     .exact .inl^.inr #[z,w]
     .exact absurd #[z.symm,w.symm] k
     .exact .inr^.inr #[z.symm,w]
    .exact .inr^.inl z
   have lt:P.length<=60:=by
    have D:=C.length_eq;have G:=O6 (Ag x y) N.ts;have H:=i.2.2;rw[gG]at D
    rcases jC (N.ts.filter^Ag x y=[])with z|z
    .have:N.ts.length≠60:=λq=>M #[z,q]
     have:=L λu=>!Ag x y u
     omega
    .have:=List.length_pos_iff.mpr z
     omega
   refine#[#[N.ps,P],#[A,s,m,n,B,rfl,C],#[#[ok.names,ok.rise,λt j=>?_,I],i.2.1,lt],v]
   rcases Tk.mp^C.mem_iff.mp j with rfl|z
   .have:=Y0 A s
    exact#[this.1,this.2,V,n,B]
   .exact ok.tin t (E t z).1
  .cases f
 | take x y=>
  have f:(if x∈N.ps/\y∈N.ps then if N.ts.filter (Ag x y)=[]then P3 "NoTie" else o_ else P3 "NoPlace":s_ Str)=o_:=f
  split at f
  .rename_i o
   split at f
   .cases f
   rename_i W
   let#[u,Q]:=(W5 ok x y).resolve_left W;have R:=gg.mp (show u∈N.ts.filter (Ag x y) by rw[Q];exact Re.mpr rfl);have lt:=(ok.tin u R.1).2.2.1
   have m:x≠y:=by
    rintro rfl
    rcases betwB_iff.mp R.2 with⟨S,T⟩|⟨S,T⟩ <;>rw[S,T]at lt <;>exact A5 _ lt
   exact#[_,#[#[u,Q],o.1,o.2,m,rfl],#[#[ok.names,ok.rise,λt j=>ok.tin t (gg.mp j).1,ok.trise.filter _],i.2.1,gN (L _) i.2.2],v]
  .cases f
def O8{bs:r_ Bool}(h:bs.length<=20):Bv^.tup^bs.map .bl:=by
 refine F8 (B:=1000001) (by cbv) (fines_iff.mpr λd a=>?_) ?_
 .let#[b,_,rfl]:=TM.mp a
  exact trivial
 .have:LZ^bs.map D.bl<=0:=dps_le.mpr λd a=>by
   let#[b,_,rfl]:=TM.mp a;exact Rs _
  show LZ^bs.map D.bl+1<=100;lk
def Lp{C:Ch}{n:Sg}{a:Ch}{t b:Int}{N M:Net}{d:Pz}{P j:D->Sg->Prop}{k f:PX}(h:BY C n a t b N M d P k)(h1:Ab N d=o_->∀x m,P x m->j x m)(l:∀c,Ab N d=P3 c->∀m,k c [] [] m->f c [] [] m):BY C n a t b N M d j f:=by
 unfold BY at h ⊢;cases e:Ab N d with
 |some c=>rw[e]at h;exact l c e n h
 |none=>
  rw[e]at h;cases d with
  |dd d=>exact λp q r s T g i u v w z A B E F=>h1 e _ _^h p q r s T g i u v w z A B E F
  |far x y=>exact λo G=>h1 e _ _^h o G
def Ly{N:Net}{d:Pz}{c:Str}(h:Ab N d=P3 c):c∈(["Twice","TooMany","NoPlace","NoTie"]:r_ Str):=by
 cases d with
 | dd d=>
  cases d with
  |come x=>
   have h:(if x∈N.ps then P3 "Twice" else if N.ps.length=24 then P3 "TooMany" else o_:s_ Str)=P3 c:=h
   split at h
   .cases h;simp
   .split at h <;>cases h;simp
  |go x=>
   have h:(if x∈N.ps then o_ else P3 "NoPlace":s_ Str)=P3 c:=h
   split at h <;>cases h;simp
  | lay x y l=>
   have h:(if x∈N.ps/\y∈N.ps then if x=y then P3 "NoTie" else if N.ts.filter (Ag x y)=[]/\N.ts.length=60 then P3 "TooMany" else o_ else P3 "NoPlace":s_ Str)=P3 c:=h
   split at h
   .split at h
    .cases h;simp
    .split at h <;>cases h;simp
   .cases h;simp
  |take x y=>
   have h:(if x∈N.ps/\y∈N.ps then if N.ts.filter (Ag x y)=[]then P3 "NoTie" else o_ else P3 "NoPlace":s_ Str)=P3 c:=h
   split at h
   .split at h <;>cases h;simp
   .cases h;simp
 |far x y=>
  have h:(if x∈N.ps/\y∈N.ps then o_ else P3 "NoPlace":s_ Str)=P3 c:=h
  split at h <;>cases h;simp
section
variable {ss:r_ Slot}{n:Sg}{Pd:D->Sg->Prop}
def QC(h:Pq ss n Pd):C5 (EE Pd) n (ss++gq 1 .no):=by
 let#[e,a,f,g,rfl,i,p]:=h;have k:=PySem.sizeLine_eq
 have b:∀(j:Nat) (w:Str),j<4->(decide (a="Twice")=(j==0))->decide (a="TooMany")=(j==1)->decide (a="NoPlace")=(j==2)->decide (a="NoTie")=(j==3)->decide (a="NoLine")=q_->decide (a="NoPaper")=q_->decide (a="NoRow")=q_->atI [D.str "twice",.str "many",.str "place",.str "tie",.str "line",.str "paper",.str "row"] (j:Int)=P3^.str w->Pd (.str w) n->C5 (EE Pd) n [.ex e a f g,.no]:=by
  intro j w A l o r s t u v y q;unfold C5;exists z3,z3,(by cbv:6<=sizeLine);exists _,rfl,rfl,_,_,rfl,rfl,(by cbv:6<sizeLine);rw[l,o,r,s,t,u,v];exists rfl,_,_,rfl,rfl,O8 (bs:=[j==0,j==1,j==2,j==3,q_,q_,q_]) (show 7<=20 by cbv),F8 (B:=1000001) (by cbv) trivial (by cbv)
  have c:(DX^BI Io (HL^AL (wC^D.str "twice")^AL (wC^D.str "many")^AL (wC^D.str "place")^AL (wC^D.str "tie")^AL (wC^D.str "line")^AL (wC^D.str "paper")^AL (wC^D.str "row") Ap)^c8 "list" ZN (Bj 1)^AL (wC^D.bl p_) Ap) (EE Pd) n [.ex e a f g,.ow^.lst^[j==0,j==1,j==2,j==3,q_,q_,q_].map .bl]:=by
   exists(by cbv:7<=sizeLine);refine#[rfl,_,_,j,rfl,rfl,O8 (bs:=[j==0,j==1,j==2,j==3,q_,q_,q_]) (show 7<=20 by cbv),F8 (B:=1000001) (by cbv) trivial (by cbv),?_,?_,_,y,q]
   .rcases(show j=0\/j=1\/j=2\/j=3 by lk)with rfl|rfl|rfl|rfl <;>exact#[.bl p_,rfl,rfl]
   .intro m x z d
    rcases(show j=0\/j=1\/j=2\/j=3 by lk)with rfl|rfl|rfl|rfl
    .lk
    .rcases(show m=0 by lk)with rfl;cases d;rfl
    .rcases(show m=0\/m=1 by lk)with rfl|rfl <;>cases d <;>rfl
    .rcases(show m=0\/m=1\/m=2 by lk)with rfl|rfl|rfl <;>cases d <;>rfl
  rcases(show j=0\/j=1\/j=2\/j=3 by lk)with rfl|rfl|rfl|rfl <;>exact c
 simp only[Tk,gO,or_false]at i
 rcases i with rfl|rfl|rfl|rfl
 .exact b 0 "twice" (by cbv) (by decide +kernel) (by decide +kernel) (by decide +kernel) (by decide +kernel) (by decide +kernel) (by decide +kernel) (by decide +kernel) rfl p
 .exact b 1 "many" (by cbv) (by decide +kernel) (by decide +kernel) (by decide +kernel) (by decide +kernel) (by decide +kernel) (by decide +kernel) (by decide +kernel) rfl p
 .exact b 2 "place" (by cbv) (by decide +kernel) (by decide +kernel) (by decide +kernel) (by decide +kernel) (by decide +kernel) (by decide +kernel) (by decide +kernel) rfl p
 .exact b 3 "tie" (by cbv) (by decide +kernel) (by decide +kernel) (by decide +kernel) (by decide +kernel) (by decide +kernel) (by decide +kernel) (by decide +kernel) rfl p
end
def Fb(l:r_ Str):Dy (.lst^l.map .str)^.lst []=decide (l=[]):=by
 cases l with
 |nil=>rfl
 |cons x l=>rw[decide_eq_false^iW _ _];rfl
def O3:Bv^.lst []:=ES λd a=>by cases a
theorem OV(a:r_ Key):∀b:r_ Ak,(Bo (b.map tk) (b.map λu=>.int u.len) a).isSome=p_↔a∈b.map tk
 |[]=>#[(λh=>by cases h),λh=>by cases h]
 | u::b=>by
  show(if tk u=a then P3^D.int u.len else Bo (b.map tk) (b.map λu=>D.int u.len) a).isSome=p_↔_
  by_cases e:tk u=a
  .rw[if_pos e];exact#[λ_=>by rw[←e];exact Op,λ_=>rfl]
  .rw[if_neg e,OV a b,gQ,Tk]
   exact#[.inr,λz=>z.resolve_left λq=>e q.symm]
def W_{N:Net}{d:r_ Ak}(ok:N.Ok)(g:N.ts.Perm d)(x y:Str):(Bo (d.map tk) (d.map λu=>.int u.len) [.inr^lo x y,.inr^hi x y]).isSome=decide (N.ts.filter^Ag x y≠[]):=by
 rw[gi,OV,decide_eq_true_eq];constructor
 .intro h
  let#[u,c,e]:=TM.mp h;have c:=g.mem_iff.mpr c;have j:u.a=lo x y/\u.b=hi x y:=tk_eq (t:=#[lo x y,hi x y,0]).mp e;exact List.ne_nil_of_mem^gg.mpr #[c,betwB_iff.mpr^(Dv (ok.tin u c).2.2.1).mpr j]
 .intro h
  let#[u,f]:=List.exists_mem_of_ne_nil _ h;let#[i,k]:=gg.mp f;have e:=(Dv (ok.tin u i).2.2.1).mp^betwB_iff.mp k;refine TM.mpr #[u,g.mem_iff.mp i,?_];unfold tk;rw[e.1,e.2]
def EQ:Bv^.tup [.str "go",.str "far"]:=DM (ps:=["go","far"]) λp a=>by
 rcases Tk.mp a with rfl|a
 .exact(by decide +kernel:1<=("go":Str).length/\("go":Str).length<=8/\∀c∈cs "go",97<=c/\c<=122)
 .rw[Re.mp a];exact(by decide +kernel:1<=("far":Str).length/\("far":Str).length<=8/\∀c∈cs "far",97<=c/\c<=122)
def G5{s:Str}(h:1<=s.length/\s.length<=8/\∀c∈cs s,97<=c/\c<=122):Bv^.str s:=BK h
def RC{r:Int}(a:0<=r)(h1:r<26):∃w,Bm w/\atI (words26.map D.str) r=P3^.str w:=by
 exists CI r.toNat,HK _^by lk
 have:=AC^Lc r.toNat^by lk
 rwa[show((r.toNat:Nat):Int)=r by lk]at this
abbrev Px:=Str×Str
def E9(p:Px):D:=.tup [.str p.1,.str p.2]
def fm(p q:Px):Prop:=cs p.1<cs q.1\/(p.1=q.1/\cs p.2<cs q.2)
structure Prs (xs:List Str) (ps:List Px):Prop where
 ins:∀p∈ps,p.1∈xs/\p.2∈xs/\cs p.1<cs p.2
 rise:ps.Pairwise fm
def Prs.sub{a:r_ Str}{ps b:r_ Px}(h:Prs a ps)(s:b.Sublist ps):Prs a b:=#[λp c=>h.ins p^s.subset c,List.Pairwise.sublist s h.rise]
def Prs.next{c:r_ Str}(l:rising c){ps:r_ Px}{i:Nat}{x:Str}(j:c[i]?=P3 x)(h:Prs c ps)(k:∀p∈ps,p.1∈c.take i):Prs c (ps++(c.drop (i+1)).map λy=>(x,y))/\∀p∈ps++(c.drop (i+1)).map λy=>(x,y),p.1∈c.take (i+1):=by
 let#[m,ex]:=Uf.mp j;have e:c=c.take i++x::c.drop (i+1):=by rw[←ex,←ig m,nj]
 have d:=l;unfold rising at d;rw[e,kO,g0]at d;let#[_,#[n,o],r]:=d;have s:x∈c:=iU j;refine#[#[λp f=>?_,?_],λp f=>?_]
 .rcases gM.mp f with z|z
  .exact h.ins p z
  .let#[y,g,rfl]:=TM.mp z
   exact#[s,List.mem_of_mem_drop g,n y g]
 .rw[kO]
  refine#[h.rise,kE.mpr^o.imp λ{a b} z=>.inr #[rfl,z],λp f q t=>?_];let#[y,g,rfl]:=TM.mp t;exact .inl^r p.1 (k p f) x Op
 .rw[B9 j]
  rcases gM.mp f with z|z
  .exact iS _^k p z
  .let#[y,g,rfl]:=TM.mp z
   exact gH _ Op
def D5(ps:r_ Px)(k:Nat):Ak:=#[(ps.getD k ("","")).1,(ps.getD k ("","")).2,1+((k % 5:Nat):Int)]
def Cj(ps:r_ Px):r_ Ak:=(gf ps.length).map^D5 ps
def OO{ps:r_ Px}{k:Nat}(h:k<ps.length):(Cj ps)[k]?=P3^D5 ps k:=by
 unfold Cj;rw[UF,List.getElem?_range h];rfl
def Fz(ps:r_ Px):(Cj ps).length=ps.length:=by unfold Cj;rw[Ev,jH]
def HR{ps:r_ Px}{k:Nat}(h:k<ps.length):D5 ps k=#[ps[k].1,ps[k].2,1+((k % 5:Nat):Int)]:=by
 unfold D5;rw[gF,Go h];rfl
def Prs.ok{f:r_ Str}(o:∀x∈f,Bm x)(p:rising f){ps:r_ Px}(h:Prs f ps):(#[f,Cj ps]:Net).Ok:=by
 exists o,p,λt q=>?_
 .let#[k,g,rfl]:=TM.mp q
  have g:=io.mp g;rw[HR g];let#[a,b,c]:=h.ins _^iE g;exact#[a,b,c,by show 1<=1+((k % 5:Nat):Int);lk,by show 1+((k % 5:Nat):Int)<=1000000;lk]
 .refine ji.mpr λi j m n l=>?_
  have d:i<ps.length:=by rw[←Fz ps];exact m
  have e:j<ps.length:=by rw[←Fz ps];exact n
  have r:=XV^(Go m).symm.trans^OO d;have s:=XV^(Go n).symm.trans^OO e;show BF (Cj ps)[i] (Cj ps)[j];rw[r,s,HR d,HR e];exact ji.mp h.rise i j d e l
def Nw{ps:r_ Px}{k:Nat}(h:k<ps.length):atI (ps.map E9) (0+(k:Int))=P3 (E9 ps[k]):=by
 rw[ko];exact AC^by rw[UF,Go h];rfl
def U8{a:r_ Ak}{v:Ak}(h:tk v∉a.map tk):D.dit (Cv (a.map tk)^tk v)^Bg (a.map tk) (a.map λu=>D.int u.len) (tk v)^.int v.len=FI (a++[v]):=by
 have:¬Gc (a.map tk)^tk v=p_:=λz=>h^hasK_iffU.mp z
 unfold Cv Bg FI;rw[if_neg this,if_neg this,gR,gR];rfl
def V5{a c:Type}(f:a->c)(b:r_ a)(lo hi:s_ Int):Dp.cutD (b.map f) lo hi=(Dp.cutD b lo hi).map f:=by
 unfold Dp.cutD
 simp_all
def V4{b:Type}(a:r_ b)(lo hi:s_ Int):(Dp.cutD a lo hi).Sublist a:=(k9 _ _).trans^List.drop_sublist _ _
def V6(b:r_ D)(a k:Nat):(Dp.cutD b (P3 (a:Int))^P3 ((a:Int)+(k:Int))).length<=k:=by
 unfold Dp.cutD;rw[show((a:Int)+(k:Int))=((a+k:Nat):Int) by lk,HT.sIx_nat,HT.sIx_nat,iT];lk
def Yc(a:r_ Str)(x:Str):D->D
 |.int k=>.tup [.str x,.str^a.getD k.toNat ""]
 |_=>.non
def Rk(a:r_ Str)(x:Str)(i:Nat):(DC ((i:Int)+1) (((a.length:Int)) - ((i:Int)+1)).toNat).map^Yc a x=((a.drop (i+1)).map λy=>(x,y)).map E9:=by
 unfold DC;rw[h7,h7];apply lO
 .rw[Ev,jH,Ev,m8];lk
 .intro k b c
  rw[Ev,jH]at b;rw[kP,List.getElem_range,kP,List.getElem_drop];show D.tup [.str x,.str^a.getD ((i:Int)+1+(k:Int)).toNat ""]=D.tup [.str x,.str a[i+1+k]];rw[show((i:Int)+1+(k:Int)).toNat=i+1+k by lk,gF,Go^by lk];rfl
def Y2(ps:r_ Px):D->D
 |.int k=>.str^Dw^D5 ps k.toNat
 |_=>.non
def ao(C:Ch):AX:=(BR (JS 7^GN [o_] (M8^AS 3) (Bz 0) Uq^BI Ce (wC^D.str "place ")^AS 0)
 (BR (aK 7 "list" b9^AL (GN [P3 4,o_] (Le^AL (JT Tf^AL (Bj 4) Ap) Ap) (Bz 1) Uq^BI Ce (BI Ce (BI Ce (BI Ce (BI Ce (wC^D.str "tie ")^BI Io (BI Io (Bj 0)^AS 1)^wC^D.int 0)^wC^D.str " ")^BI Io (BI Io (Bj 0)^AS 1)^wC^D.int 1)^wC^D.str " ")^JT Td^AL (BI Ce (wC^D.int 1)^BI (eR (λ_ j=>0<j) λi j=>D.int (i % j)) (AS 1)^wC^D.int 5) Ap) Ap)
 (BR (C9 8^RI "places" "ties" (RK^JT Nv^AL (AS 3) Ap)^RK RH)
 (BR (Uu (Le^AL (JT Tf^AL (Bj 4) Ap) Ap) (Bz 9)^WW (BI DU (AS 8)^wC^D.str "ties") (BI Io (Bj 4)^AS 9)^BI Ce (wC^D.int 1)^BI (eR (λ_ j=>0<j) λi j=>D.int (i % j)) (AS 9)^wC^D.int 5)
 (DX^Ee^AL (BE (Mu C)^AR (Ep^Bj 7)^AR (Am^AS 1) Al)^AL (AS 8) Ap)))))
def YN(w:Ch->s_ Wc)(d:Dd):Dp.Ef w^Em d=Em d/\EA w^Em d=[]:=by cases d <;>exact#[rfl,rfl]
structure f7 (C:Ch) (t b:Int) (k:Nat) (n:Sg) (a l tt:Ch) (N M:Net) (ps:List Str) (us:List Ak):Prop where
 nn:5*k<=n.n
 kp:Xh C n a t b N M
 tn:IsT N t b M
 wl:n.w l=P3 (.pl^Iv ps)
 wt:n.w tt=P3 (.pl^FI us)
 al:a≠l
 at':a≠tt
 lt:l≠tt
 st:JO N ps us
 l1:N.ps.length+k<=18
 l2:N.ts.length+k<=40
end Nt
set_option maxHeartbeats 1000000
namespace Nt
open L2 Dp
def O4(C:Ch):AX:=(DY (A9^BI (LB p_) (JT FZ^AL (CU C "net" (FG C) (AS 4) Al) Ap)^JT FZ^AL (Er Il^AR (Am^AS 5) Al) Ap) (DX^wC^D.bl q_) CT)
def TC(C:Ch):AX:=(BR (C9 9^JT FZ^AL (Ee^AL (CU C "net" (FG C) (AS 4) Al)^AL (CU C "thin" (Ik C) (AS 4) Al) Ap) Ap)
 (BR (C9 10^Er OG^AR (Am^AS 5)^AR (Am^AS 7) Al)
 (BR (DY (A9^BI (LB p_) (BE (Ii C)^AR (Am^AS 4)^AR (Am^AS 7) Al)^AS 10) (DX^wC^D.bl q_) CT)
 (BR (DY (Lg (A9^BI (LB q_) (AS 10)^wC^D.str "ok")^A9^BI (LB p_) (BI Io (AS 7)^wC^D.int 0)^wC^D.str "far") (Lf^BE Pt^AR (Am^AS 5)^AR (Am^AS 7) Al)^DY (A9^BI (LB p_) (JT FZ^AL (Ee^AL (CU C "net" (FG C) (AS 4) Al)^AL (CU C "thin" (Ik C) (AS 4) Al) Ap) Ap)^AS 9) (DX^wC^D.bl q_) CT)
 (O4 C)))))
def Y5(C:Ch):AX:=(BR (C9 7^Er LX^AR (Ck 1)^AR (Am^AS 5)^AR (Am^BE LW Al) Al)
 (BR (DY (Lg (A9^BI (LB q_) (AS 3)^wC^D.int 2)^A9^BI Te (AS 6)^wC^D.int 2) (BR (C9 8^Xt (BI DU (AS 5)^wC^D.str "places")^BE Fq^AR (Ck 1)^AR (Am^wC^D.int 12) Al)
 (C9 7^BI Io (HL^AL (Ee^AL (wC^D.str "lay")^AL (AS 8)^AL (AS 8)^AL (wC^D.int 3) Ap)^AL (Ee^AL (wC^D.str "take")^AL (AS 8)^AL (AS 8) Ap) Ap)^AS 6)) CT)
 (TC C)))
def F3{N M:Net}(h1:okN N)(a:okN M):Lx^.tup [Bx N,Bx M]:=by
 let#[b,d,e]:=NI h1;let#[c,f,g]:=NI a;refine OW (B:=1000001) (by cbv) #[b,c,trivial] ?_ ?_
 .show max (PU^Bx N)^max (PU^Bx M) 0+1<=100
  omega
 .show OT^Bx N+1+(OT^Bx M+1+0)<=200000
  omega
def To(d:Pz):flat^CK d=p_:=by
 cases d with
 |dd d=>exact V1 d
 |far x y=>rfl
def Rn(w:Ch->s_ Wc)(d:Pz):Dp.Ef w^CK d=CK d/\EA w^CK d=[]:=by
 cases d with
 |dd d=>exact YN w d
 |far x y=>exact#[rfl,rfl]
structure Mw (C:Ch) (t b:Int) (k:Nat) (n:Sg) (a l tt:Ch) (N M:Net) (ps:List Str) (us:List Ak):Prop where
 nn:8*k<=n.n
 kp:Xh C n a t b N M
 tn:IsT N t b M
 wl:n.w l=P3 (.pl^Iv ps)
 wt:n.w tt=P3 (.pl^FI us)
 al:a≠l
 at':a≠tt
 lt:l≠tt
 st:JO N ps us
 l1:N.ps.length<=24
def WQ(t b w:Int)(a l c:Ch)(r:r_ Slot):r_ Slot:=[.no,.fd,.sh^tD t b,.sh^.int w,.sh^.ob a,.sh^Gq (.ob l)^.ob c]++r
def RW{C:Ch}{t b w:Int}{a l i:Ch}{N M:Net}{ps:r_ Str}{G:r_ Ak}{k:Nat}{n:Sg}{W:E2}{Y Z v f:Slot}{d:Pz}(hv:Gx d)
  (I:Mw C t b k n a l i N M ps G) (q:∀(F:Sg) (s O:Net) (g:r_ Str) (h:r_ Ak) (v f:Slot),(Ab N d≠o_->g=ps)->Mw C t b k F a l i s O g h->W.nx F^WQ t b w a l i [Y,.sh^CK d,Z,v,f]):
  TC C W n (WQ t b w a l i [Y,.sh^CK d,Z,v,f]):=by
 have I0:=I;let#[nn,P,a0,Q,R,al,H,lt,st,l1]:=I;have r:=P.1;have J:=P.2.1;have K:=P.2.2.1;have tm:=P.2.2.2;unfold TC;exists a,_,_,rfl,r,by cbv,a,t,b,N,M,rfl,r,a,_,_,rfl,r,by cbv,a,t,b,N,M,rfl,r,z2,_,rfl,F3 J K;generalize hX:Rc^D.tup [Bx N,Bx M]=X;exists[l,i],[.sh^Gq (Iv ps)^FI G,.sh^CK d],?_,?_
 .show [Slot.sh^Dp.Ef n.w^Gq (.ob l)^.ob i,.sh^Dp.Ef n.w^CK d]=_
  rw[(F4 Q R).1,(Rn _ _).1]
 .show EA n.w^Gq (.ob l)^.ob i++(EA n.w^CK d++[])=_
  rw[(F4 Q R).2,(Rn _ _).2];rfl
 exists N,ps,G,d,rfl,st,hv,rfl;rw[KC]
 have m:∀(F:Sg) (s O:Net) (g:r_ Str) (h:r_ Ak) (v f:Slot),(Ab N d≠o_->g=ps)->Mw C t b k F a l i s O g h->O4 C W F^WQ t b w a l i [Y,.sh^CK d,Z,v,f]:=λF s O g h v f e E=>by
  unfold O4;exists a,_,_,rfl,E.kp.1,by cbv,a,t,b,s,O,rfl,E.kp.1,_,rfl,HX E.kp.2.1,[l,i],[.sh^Gq (Iv g)^FI h],?_,?_
  .show [Slot.sh^Dp.Ef F.w^Gq (.ob l)^.ob i]=_
   rw[(F4 E.wl E.wt).1]
  .show EA F.w^Gq (.ob l)^.ob i++[]=_
   rw[(F4 E.wl E.wt).2];rfl
  exists s,g,h,rfl,E.st,IJ s;rw[KC];exists _,rfl,HX E.kp.2.1;refine CP ?_;exact q F s O g h v f e E
 have p:(MX^Ab N d=="ok")=decide (Ab N d=o_):=by
  cases S:Ab N d with
  |none=>rw[decide_eq_true rfl];decide +kernel
  |some c=>
   have:=Ly S
   simp only[Tk,gO,or_false]at this
   rcases this with rfl|rfl|rfl|rfl <;>decide +kernel
 exists a,t,b,N,M,d,rfl,#[P,l1,a0.ps.symm],hv;generalize eo:MX^Ab N d=o at p ⊢;clear eo;unfold BY;cases S:Ab N d with
 |some c=>
  rw[S]at p;refine CP ?_;show if(o=="ok")=p_ then _ else _
  rw[p,decide_eq_false λz=>by cases z];refine BB ?_;exists a,_,_,rfl,r,by cbv,a,t,b,N,M,rfl,r,a,_,_,rfl,r,by cbv,a,t,b,N,M,rfl,r,z2,_,rfl,F3 J K;rw[hX];refine CP ?_;exact m n N M ps G _ _ (λ_=>rfl) I0
 | none=>
  rw[S]at p;rw[decide_eq_true rfl]at p;cases d with
  |far x y=>
   intro u hu;refine CP ?_;show if(o=="ok")=p_ then _ else _
   rw[p];refine BX #[_,AC (j:=0) rfl,?_];exists a,_,_,rfl,r,by cbv,a,t,b,N,M,rfl,r,a,_,_,rfl,r,by cbv,a,t,b,N,M,rfl,r,z2,_,rfl,F3 J K;rw[hX];refine CP ?_;exact m n N M ps G _ _ (λ_=>rfl) I0
  |dd d=>
   intro s dN A lN T U V x1 x2 hT hc hw e1 e2 b3;have a1:=hT.okN A;have a2:a≠x1:=Hy r e1;have a3:a≠x2:=Hy r e2;have a4:l≠x1:=Hy Q e1;have a5:l≠x2:=Hy Q e2;have a6:i≠x1:=Hy R e1;have a7:i≠x2:=Hy R e2;obtain⟨L,B⟩:∃L,L=UM (n.put a^kc C t b s T) x1 x2 U V:=#[_,rfl];rw[←B];have a8:L.n=n.n:=by rw[B];rfl
   have w3:L.w a=P3^kc C t b s T:=by rw[B];exact(A2 a3).trans^(A2 a2).trans (Bs ..)
   have w4:L.w l=P3^.pl^Iv ps:=by rw[B];exact(A2 a5).trans^(A2 a4).trans^(A2 al.symm).trans Q
   have w5:L.w i=P3^.pl^FI G:=by rw[B];exact(A2 a7).trans^(A2 a6).trans^(A2 H.symm).trans R
   refine CP ?_;show if(o=="ok")=p_ then _ else _
   rw[p];refine BX ?_;have a9:∀v f,Pt [.sh^Gq (.ob l)^.ob i,.sh^Em d] L (λ_ n3=>O4 C W n3^WQ t b w a l i [Y,.sh^Em d,Z,v,f]):=λv f=>#[l,i,N,s,ps,G,d,rfl,lt,w4,w5,st,dN,A,λn3 g h b0 v4 v5 b1 b2=>m n3 s T g h v f (λz=>absurd S z) #[by rw[b0,a8];exact nn,#[(b2 _ al H).trans w3,A,a1,tm],hT,v4,v5,al,H,lt,b1,lN]];cases d <;>exact#[_,AC (j:=0) rfl,a9 _ _]
def X5{C:Ch}{t b w:Int}(w2:w=0\/w=1\/w=2){a l s:Ch}{N M:Net}{ps:r_ Str}{F:r_ Ak}{k i:Nat}{n:Sg}{G:E2}{Q R v f:Slot}(S:w=2->i<2->ps.length=12)
  (I:Mw C t b (k+1) n a l s N M ps F) (q:∀(y:Sg) (A B:Net) (g:r_ Str) (o:r_ Ak) (Q R v f:Slot),(w=2->i<2->g.length=12)->Mw C t b k y a l s A B g o->G.nx y^WQ t b w a l s [.sh^.int (0+(i:Int)),Q,R,v,f]):
  Y5 C G n (WQ t b w a l s [.sh^.int (0+(i:Int)),Q,R,v,f]):=by
 have I0:=I;let#[nn,T,U,H,V,al,W,lt,J,l1]:=I;unfold Y5;exists rfl,[l,s],[.fd,.sh^Gq (Iv ps)^FI F,.sh^.lst^words26.map .str],?_,?_
 .show [Slot.fd,.sh^Dp.Ef n.w^Gq (.ob l)^.ob s,.sh^.lst^words26.map .str]=_
  rw[(F4 H V).1]
 .show([]:r_ Ch)++(EA n.w^Gq (.ob l)^.ob s++([]++[]))=_
  rw[(F4 H V).2];rfl
 refine#[N,ps,F,rfl,J,(by show 7<=n.n;lk),λd m hv hm=>#[To d,?_]];have hm:n.n<=m+7:=hm;rw[Sg.back_drop];have I1:∀K:Nat,n.n<=K+8->Mw C t b k #[K,n.w] a l s N M ps F:=λK h=>#[by show 8*k<=K;lk,T,U,H,V,al,W,lt,J,l1];show if(w==2)=p_ then _ else _
 have p:∀D:Slot,(w≠2\/¬i<2)->TC C G #[m,n.w]^WQ t b w a l s [.sh^.int (0+(i:Int)),.sh^CK d,D,v,f]:=λD X=>RW hv (I1 m^by lk) λy A B g o v f e Y=>q y A B g o _ _ _ _ (λh1 h2=>X.elim (λz=>absurd h1 z) λz=>absurd h2 z) Y;refine Dl (λc=>?_) λc=>p _^.inl λz=>c^beq_iff_eq.mpr z;have c:=beq_iff_eq.mp c;show if decide ((0+(i:Int))<2)=p_ then _ else _
 refine Dl (λE=>?_) λE=>p _ (.inr λz=>E^decide_eq_true^by lk);have E:i<2:=by have:=of_decide_eq_true E;lk
 have Z:=S c E;refine Jb ?_;refine#[12,rfl,by cbv,by cbv,(by show 1<=m;lk),λr r0 r1=>?_];let#[x,hx,ex,_]:=Jj (xs:=ps) r0 (by lk);exists l,_,r,_,rfl,rfl,H,ex;have L:Bm x:=T.2.1.1.names x^J.1.mem_iff.mpr hx;have O:x∈N.ps:=J.1.mem_iff.mpr hx;exists(by cbv:4<=sizeLine),z3,z2;have go:∀P:Pz,Gx P->Ab N P≠o_->TC C G #[m - 1,n.w]^WQ t b w a l s [.sh^.int (0+(i:Int)),.sh^CK P,.sh^.str x,v,f]:=λP a0 hr=>RW a0 (I1 (m - 1)^by lk) λy A B g o v f e Y=>q y A B g o _ _ _ _ (λ_ _=>by rw[e hr];exact Z) Y
 rcases(show i=0\/i=1 by lk)with rfl|rfl
 .exact#[_,AC (j:=0) rfl,go (.dd^.lay x x 3) #[#[L,L],by cbv,by cbv]^by rw[show Ab N^.dd^.lay x x 3=P3 "NoTie" from(if_pos #[O,O]).trans (if_pos rfl)];exact λz=>by cases z]
 .refine#[_,AC (j:=1) rfl,go (.dd^.take x x) #[L,L] ?_]
  rw[show Ab N^.dd^.take x x=P3 "NoTie" from(if_pos #[O,O]).trans^if_pos ?_]
  .exact λz=>by cases z
  .refine nW.mpr λu hu z=>?_
   have lt:=(T.2.1.1.tin u hu).2.2.1
   rcases betwB_iff.mp z with⟨e1,e2⟩|⟨e1,e2⟩ <;>rw[e1,e2]at lt <;>exact A5 _ lt
def NN{C:Ch}{f:Sg}(Q:400<=f.n):Pg C {nx:=λ_ _=>False,rt:=λd _=>d=.bl p_} f (.no::.fd::gq 9 .no):=by
 unfold Pg;refine#[rfl,by lk,λt b R bt S=>?_];have U:RS t b:=#[R,by lk,by lk,S];refine#[(by cbv:4<=sizeLine),4,rfl,by cbv,by cbv,(by show 1<=f.n - 1;lk),λr V r4=>?_]
 obtain⟨k,W,p⟩:∃k:Int,atI [D.int 1,.int 0,.int 0,.int 0] r=P3^.int k/\(k=0\/k=1):=by
  rcases(show r=0\/r=1\/r=2\/r=3 by lk)with rfl|rfl|rfl|rfl
  .exact#[1,rfl,.inr rfl]
  .exact#[0,rfl,.inl rfl]
  .exact#[0,rfl,.inl rfl]
  .exact#[0,rfl,.inl rfl]
 exists _,W;refine#[16,rfl,by cbv,by cbv,(by show 1<=f.n - 1 - 1;lk),λX _ _=>?_];have e:∀w:Int,(w=0\/w=1\/w=2)->(BR (X1 (BE (Im C)^AR (Ck 1)^AR (Am^AS 2)^AR (Am^AS 3) Al)^Q0 2^Dt (Bz 4)^Dt (Bz 5) Ml)
 (BR (Uu (Le^AL (BI Io (HL^AL (BI Ce (wC^D.int 4)^BE Fq^AR (Ck 1)^AR (Am^wC^D.int 11) Al)^AL (wC^D.int 8)^AL (wC^D.int 5) Ap)^AS 3) Ap) (Bz 6)^Y5 C)
 (DX^wC^D.bl p_))) {nx:=λ_ _=>False,rt:=λd _=>d=.bl p_} (f - 1 - 1 - 1) [.no,.fd,.sh^tD t b,.sh^.int w,.no,.no,.no,.no,.no,.no,.no]:=λw E=>by
  refine#[t,b,w,rfl,by lk,by lk,U,(by show 3<=f.n - 1 - 1 - 1;lk),λa l u N T j m F G Y Z wl wu al au lu st lp s=>?_];have G:f.n - 1 - 1 - 1<=F.n+3:=G;exists rfl,rfl;refine#[11,rfl,by cbv,by cbv,(by lk),λr V a0=>#[z3,?_]]
  obtain⟨K,eK,lK⟩:∃K:Nat,atI [D.int (4+r),.int 8,.int 5] w=P3^.int (K:Int)/\K<=14:=by
   rcases E with rfl|rfl|rfl
   .exact#[(4+r).toNat,by rw[show(((4+r).toNat:Nat):Int)=4+r by lk];rfl,by lk]
   .exact#[8,rfl,by cbv]
   .exact#[5,rfl,by cbv]
  exists _,eK,_,rfl,#[by lk,by lk];refine DK (all:=DC 0 (K:Int).toNat) (λc n H=>∃N M j m J v x y g,(w=2->c.length<2->j.length=12)/\Mw C t b (14 - c.length) n a l u N M j m/\H=WQ t b w a l u [J,v,x,y,g]) (λ_ _ _=>rfl) ?_ _ [] _ _ rfl #[N,T,j,m,_,_,_,_,_,λz _=>s z,#[?_,Y,Z,wl,wu,al,au,lu,st,lp],rfl]
  .rintro c d L n H nx o ⟨N,M,j,m,J,v,x,y,g,O,I,rfl⟩ h
   let#[rfl,P]:=KY o;rw[gD,gu]at h;generalize c.length=i at P h O I ⊢;have P:i<14:=by have:=jF K;lk
   have I':Mw C t b ((14 - (i+1))+1) n a l u N M j m:=by rw[show 14 - (i+1)+1=14 - i by lk];exact I
   exact X5 E O I' λn' N' M' A B v x y g h3 I2=>h _ _ #[N',M',A,B,_,_,_,_,_,(λz1 z2=>h3 z1^by lk),I2,rfl]
  .show 8*(14 - 0)<=F.n - 1;lk
 show if(X==0)=p_ then _ else _
 refine Dl (λ_=>e 2^.inr (.inr rfl)) λ_=>e k^p.imp id .inl
end Nt
set_option maxHeartbeats 4000000
namespace K69
open L2 Dp Nt
section
variable (P:Program)(w:World)(K:Frag)(mg:Str->s_ Value)(base:Heap)(C:Addr)
abbrev OF:Prop:=Got P w K mg base "steps_of" 1 ["net"] .sh Ub
abbrev Fp:Prop:=Z1 P w K mg base "Keeper" C 1 ["self","times"]^WN C
abbrev Ms:Prop:=Got P w K mg base "_law_next" 1 ["_law_feed_here","_law_many"] .sh Fq
end
def fN{d:gp}{ps:r_ Str}{n:Nat}(c:∀f:Nat->Db,bindArgs d #[(gf n).map f,[]]=pure^ps.zip^(gf n).map f)(a:r_ Db)(h:a.length=n):bindArgs d #[a,[]]=pure^ps.zip a:=by
 have e:a=(gf n).map λi=>a.getD i .none:=by
  apply lO <;>simp_all
 rw[e];exact c _
local macro_rules|`(tactic|walk_at "R")=>`(tactic|(intro _ _ _ _ h;repeat (first|(obtain⟨e,_⟩:=h;subst e;rfl)|(obtain⟨_,h⟩:=h))))
local macro_rules|`(tactic|walk_at "L")=>`(tactic|(first|exact Y3|exact Y4|(intro _ _ _ h;repeat (first|(obtain⟨e,_⟩:=h;subst e;rfl)|(obtain⟨_,h⟩:=h)))))
local macro_rules|`(tactic|walk_at "B")=>`(tactic|(intro _ _ _ _ _ _;exact fN λ_=>rfl))
def Ht(K:Frag)(x:Str)(a:iD):Prop:=∃(f:Ch) (c:Db) (d e:s_ Ch) (g:Array^s_ Db) (kV h i b j:Db),nsIn K mainGlobals x=P3^P3^.ref f/\K.lookup f=P3 #[c,d,.func^fnOf x x (A7 a) (Aa a) (AK a) .none kV h i e b j,g]/\codeIn K b x=p_/\keepIn K^.ref f=p_
def Hn(K:Frag)(x:Str):Prop:=nsIn K mainGlobals x=P3 o_
def Hi(K:Frag)(x:Str)(i:Int):Prop:=∃t,nsIn K mainGlobals x=P3^P3^.int i t
def Ht.mk{K:Frag}{x:Str}{b:iD}{f:Ch}{e:Db}{g h:s_ Ch}{i:Array^s_ Db}{kV j m d n:Db}(a:nsIn K mainGlobals x=P3^P3^.ref f)(l:K.lookup f=P3 #[e,g,.func^fnOf x x (A7 b) (Aa b) (AK b) .none kV j m h d n,i])(c:codeIn K d x=p_)(k:keepIn K^.ref f=p_):Ht K x b:=#[f,e,g,h,i,kV,j,m,d,n,a,l,c,k]
def Hi.mk{K:Frag}{x:Str}{i:Int}{t:Tok}(a:nsIn K mainGlobals x=P3^P3^.int i t):Hi K x i:=#[t,a]
def Hn.mk{K:Frag}{x:Str}(a:nsIn K mainGlobals x=P3 o_):Hn K x:=a
def Hm(K:Frag)(C:Ch)(x q:Str)(a:iD):Prop:=∃(f:Ch) (c:Db) (d e:s_ Ch) (g:Array^s_ Db) (kV h i b j:Db),PySem.W.findIn K (.ref C) x=P3^P3^.ref f/\K.lookup f=P3 #[c,d,.func^fnOf x q (A7 a) (Aa a) (AK a) .none kV h i e b j,g]/\codeIn K b q=p_/\PySem.W.isFn K^.ref f=p_/\keepIn K^.ref f=p_
def Hm.mk{K:Frag}{C:Ch}{x q:Str}{b:iD}{f:Ch}{e:Db}{g h:s_ Ch}{i:Array^s_ Db}{kV j m d o:Db}(a:PySem.W.findIn K (.ref C) x=P3^P3^.ref f)(l:K.lookup f=P3 #[e,g,.func^fnOf x q (A7 b) (Aa b) (AK b) .none kV j m h d o,i])(c:codeIn K d q=p_)(n:PySem.W.isFn K^.ref f=p_)(k:keepIn K^.ref f=p_):Hm K C x q b:=#[f,e,g,h,i,kV,j,m,d,o,a,l,c,n,k]
def Ha(K:Frag)(x y:Str):Prop:=∃f:Ch,nsIn K mainGlobals x=P3^P3^.ref f/\nsIn K mainGlobals y=P3^P3^.ref f
def Ha.mk{K:Frag}{x y:Str}{f:Ch}(a:nsIn K mainGlobals x=P3^P3^.ref f)(b:nsIn K mainGlobals y=P3^P3^.ref f):Ha K x y:=#[f,a,b]
def xc_mk{K:Frag}{i q k:Str}{C U N l:Ch}{bs c sub a:r_ Db}{m d:r_ Str}{n e f:Bool}{g b:s_ Bool}{dd h:s_ Ch}{p r s t v w x y z A:s_ Db}(at_:nsIn K mainGlobals i=P3^P3^.ref C)(j:nsIn K mainGlobals "ThinError"=P3^P3^.ref U)
  (o:K.lookup C=P3^excClassObj i q C N bs (.ref U::[.type "ValueError",.type "Exception",.type "BaseException",.type "object"]) p_ m sub n g dd p r s t v "ValueError.__new__")
  (u:K.lookup U=P3^excClassObj "ThinError" k U l c [.type "ValueError",.type "Exception",.type "BaseException",.type "object"] f d a e b h w x y z A "ValueError.__new__")
  (B:keepIn K^.ref C=p_) (D:PySem.W.findIn K (.ref C) "__getattribute__"=P3^P3^.builtin "BaseException.__getattribute__") (E:PySem.W.findIn K (.ref C) "__getattr__"=P3 o_) (F:PySem.W.findIn K (.ref C) "__setattr__"=P3^P3^.builtin "object.__setattr__") (G:PySem.W.findIn K (.ref C) "__class__"=P3^P3^.builtin "object.__class__")
  (H:PySem.W.findIn K (.ref C) "word"=P3 o_) (I:PySem.W.findIn K (.ref C) "number"=P3 o_) (J:PySem.W.findIn K (.ref C) "row"=P3 o_):XC K i C U:=
 #[#[q,N,bs,m,sub,n,g,dd,p,r,s,t,v,o],#[k,l,c,d,a,e,b,h,w,x,y,z,A,f,u],B,D,E,F,at_,j,G,H,I,J]
def H0(K:Frag)(a:Str):Prop:=∃C U,XC K a C U/\PySem.W.findIn K (.ref C) "__init__"=P3^P3^.builtin "ValueError.__init__"
def H1(K:Frag)(a:Str):Prop:=∃C U,XC K a C U
def H0.mk{K:Frag}{a:Str}{C U:Ch}(c:XC K a C U)(i:PySem.W.findIn K (.ref C) "__init__"=P3^P3^.builtin "ValueError.__init__"):H0 K a:=#[C,U,c,i]
def H1.mk{K:Frag}{a:Str}{C U:Ch}(c:XC K a C U):H1 K a:=#[C,U,c]
def H0.h1{K:Frag}{a:Str}(H:H0 K a):H1 K a:=let #[C,U,c,_]:=H;#[C,U,c]
def H1.xm{K:Frag}{b:Str->s_ Db}{h:gA}{a:Str}(H:H1 K a)(X:K.In h)(G:h.Ns mainGlobals b):∃C U,XC K a C U/\b a=P3^.ref C:=let #[C,U,c]:=H;#[C,U,c,mg_of X G c.at_]
def H1.u{K:Frag}{a:Str->s_ Db}{h:gA}{b:Str}(H:H1 K b)(X:K.In h)(G:h.Ns mainGlobals a):∃U,aB K U/\a "ThinError"=P3^.ref U/\nsIn K mainGlobals "ThinError"=P3^P3^.ref U:=let #[C,U,c]:=H;#[U,c.isU,mg_of X G c.atU,c.atU]
def H0.g{K:Frag}{a:Str->s_ Db}{h:gA}{b:Str}(H:H0 K b)(X:K.In h)(G:h.Ns mainGlobals a):Xi K a b:=let #[C,U,c,i]:=H;#[C,U,c,mg_of X G c.at_,i]
def Yl:∀a n P,WK a n P->Ps a n P:=λ_ _ _ #[x,y,e,_,_,_,p]=>#[x,y,e,p]
structure C0 (K:Frag) (mg:Str->Option Db) (h:gA) (C:Ch):Prop where
 X:K.In h
 G:h.Ns mainGlobals mg
 c_Keeper:nsIn K mainGlobals "Keeper"=P3 (P3^.ref C)
 cl_Keeper:Cls K C
 na_Keeper_times:NoAttr K C "times"
 na_Keeper_whole:NoAttr K C "whole"
 na_Keeper_kept:NoAttr K C "kept"
 mk_Keeper:PySem.W.makesIn K C=p_
 kp_Keeper:keepIn K^.ref C=p_
 h00:Ht K "is_whole" (top 14)
 h01:Ht K "is_number" (top 15)
 h02:Ht K "is_name" (top 16)
 h03:Ht K "rank_of" (top 17)
 h04:Ht K "order_of" (top 18)
 h05:Ht K "steps_of" Ey
 h06:Ht K "only" (top 20)
 h07:Ht K "without" (top 21)
 h08:Ht K "left_out" (top 22)
 h09:Ht K "tie_texts" (top 24)
 h0a:Ht K "shown" (top 25)
 h0b:Ht K "is_length" (top 26)
 h0c:Ht K "place_fault" (top 27)
 h0d:Ht K "is_second_end" (top 28)
 h0e:Ht K "tie_fault" (top 29)
 h0f:Ht K "line_fault" (top 30)
 h0g:Ht K "read_net" (top 31)
 h0h:Ht K "length_of" (top 33)
 h0i:Ht K "nearest_of" (top 34)
 h0j:Ht K "least_ways" (top 35)
 h0k:Ht K "far" (top 36)
 h0l:Ht K "way_of" (top 38)
 h0m:Ht K "is_within" (top 40)
 h0n:Ht K "near_way" (top 41)
 h0o:Ht K "thinned" (top 42)
 h0p:Ht K "taken_up" (top 45)
 h0q:Ht K "_law_feed" D8
 h0r:Ht K "_law_next" Cp
 h0s:Ht K "_law_names" (top 49)
 h0t:Ht K "_law_places" (top 50)
 h0u:Ht K "_law_times" (top 51)
 h0v:Ht K "_law_net_of" (top 52)
 h0w:Ht K "_law_pair" (top 53)
 h0x:Ht K "_law_do" (top 54)
 h0y:Ht K "_law_told" (top 55)
 h0z:Ht K "_law_sort" (top 56)
 h10:Ht K "_law_tried" (top 57)
 h11:Ht K "_law_due" (top 58)
 h12:Ht K "_law_begun" (top 59)
 h13:Ht K "_law_deed" (top 60)
 h14:Ht K "law" HZ
 h15:Hm K C "__init__" "Keeper.__init__" An
 h16:Hm K C "turn_to" "Keeper.turn_to" (DQ 1^top 44)
 h17:Hm K C "come" "Keeper.come" (DQ 5^top 44)
 h18:Hm K C "ask_place" "Keeper.ask_place" (DQ 2^top 44)
 h19:Hm K C "far" "Keeper.far" (DQ 11^top 44)
 h1a:Hm K C "go" "Keeper.go" (DQ 6^top 44)
 h1b:Hm K C "ties_between" "Keeper.ties_between" (DQ 3^top 44)
 h1c:Hm K C "lay" "Keeper.lay" (DQ 7^top 44)
 h1d:Hm K C "tie_between" "Keeper.tie_between" (DQ 4^top 44)
 h1e:Hm K C "take" "Keeper.take" (DQ 8^top 44)
 h1f:Hm K C "net" "Keeper.net" (DQ 9^top 44)
 h1g:Hm K C "thin" "Keeper.thin" (DQ 10^top 44)
 h1h:Hm K C "lines" "Keeper.lines" (DQ 12^top 44)
 a_far_ways:Ha K "far" "far_ways"
 y_NoLine:H1 K "NoLine"
 y_NoPaper:H1 K "NoPaper"
 y_TooMany:H0 K "TooMany"
 y_Twice:H0 K "Twice"
 y_NoPlace:H0 K "NoPlace"
 y_NoTie:H0 K "NoTie"
 y_NoRow:H1 K "NoRow"
 z0:Hn K "ValueError"
 z1:Hn K "all"
 z2:Hn K "bool"
 z3:Hn K "enumerate"
 z4:Hn K "int"
 z5:Hn K "isinstance"
 z6:Hn K "len"
 z7:Hn K "list"
 z8:Hn K "max"
 z9:Hn K "min"
 z10:Hn K "range"
 z11:Hn K "repr"
 z12:Hn K "reversed"
 z13:Hn K "sorted"
 z14:Hn K "str"
 z15:Hn K "tuple"
 z16:Hn K "zip"
 v0:Hi K "MOST_SIGNS" 8
 v1:Hi K "MOST_NUMBER" 1000000
 v2:Hi K "MOST_PLACES" 24
 v3:Hi K "MOST_TIES" 60
def Ctx(P:gC)(w:gJ)(K:Frag)(b:Str->s_ Db)(a h:gA)(C:Ch):Prop:=C0 K b h C
abbrev Ctx.Y{P:gC}{w:gJ}{K:Frag}{b:Str->s_ Db}{a h:gA}{C:Ch}(A:Ctx P w K b a h C)(x:Str)(k:Nat)(ps:r_ Str)(c:Kd)(W:W2):Prop:=Got P w K b a x k ps c W
abbrev Ctx.Z{P:gC}{w:gJ}{K:Frag}{b:Str->s_ Db}{a h:gA}{C:Ch}(A:Ctx P w K b a h C)(x:Str)(k:Nat)(ps:r_ Str)(c:Kd)(W:W2):Prop:=Q6 P w K b a C x k ps c W
abbrev Ctx.YR{P:gC}{w:gJ}{K:Frag}{b:Str->s_ Db}{a h:gA}{C:Ch}(A:Ctx P w K b a h C)(x:Str)(k:Nat)(ps:r_ Str)(c:Kd)(W:WX):Prop:=WS P w K b a x k ps c W
abbrev Ctx.ZR{P:gC}{w:gJ}{K:Frag}{b:Str->s_ Db}{a h:gA}{C:Ch}(A:Ctx P w K b a h C)(x:Str)(k:Nat)(ps:r_ Str)(c:Kd)(W:WX):Prop:=Py P w K b a C x k ps c W
section
variable {P:Program}{w:World}{K:Frag}{mg:Str->s_ Value}{h base:Heap}{x:Str}{st:Stmt}
def Ht.fn(X:K.In h)(G:h.Ns mainGlobals mg)(H:Ht K x st):∃f fd,mg x=P3^.ref f/\Fun K x x st f fd:=by
 let#[f,b,d,e,g,i,j,m,n,o,a,l,c,k]:=H;exact#[f,_,mg_of X G a,IG (st:=st) l c k]
variable {C:Addr}
def C0.T(A:C0 K mg h C):Txt K mg:=#[mg_none_of A.X A.G A.z0,mg_none_of A.X A.G A.z1,mg_none_of A.X A.G A.z2,mg_none_of A.X A.G A.z3,mg_none_of A.X A.G A.z4,mg_none_of A.X A.G A.z5,mg_none_of A.X A.G A.z6,mg_none_of A.X A.G A.z7,mg_none_of A.X A.G A.z8,mg_none_of A.X A.G A.z9,mg_none_of A.X A.G A.z10,mg_none_of A.X A.G A.z11,mg_none_of A.X A.G A.z12,mg_none_of A.X A.G A.z13,mg_none_of A.X A.G A.z14,mg_none_of A.X A.G A.z15,mg_none_of A.X A.G A.z16,(let #[t,e]:=A.v0;#[t,mg_of A.X A.G e]),(let #[t,e]:=A.v1;#[t,mg_of A.X A.G e]),(let #[t,e]:=A.v2;#[t,mg_of A.X A.G e]),(let #[t,e]:=A.v3;#[t,mg_of A.X A.G e]),A.y_NoLine.xm A.X A.G,A.y_NoPaper.xm A.X A.G,A.y_TooMany.h1.xm A.X A.G,A.y_Twice.h1.xm A.X A.G,A.y_NoPlace.h1.xm A.X A.G,A.y_NoTie.h1.xm A.X A.G,A.y_NoRow.xm A.X A.G,A.y_NoLine.u A.X A.G]
def Ctx.got{k:Nat}{ps:r_ Str}{d:Kd}{W:W2}(A:Ctx P w K mg base h C)(H:Ht K x st)
  (ok:∀{f:Ch}{fd:gp},Txt K mg->Fun K x x st f fd->mg x=P3^.ref f->Binds K fd ps []->FnOk P w K mg base Eo k f fd ps^P_ K d W ps.length)
  (i:∀e n P,W e n P->e.length=ps.length:=by walk_at "L") (g:∀(kV a j:Db) (l:s_ Ch) (b o:Db) (c:r_ Db),c.length=ps.length->bindArgs (fnOf x x (A7 st) (Aa st) (AK st) .none kV a j l b o) #[c,[]]=pure^ps.zip c:=by walk_at "B"):Got P w K mg base x k ps d W:=by
 let#[f,fd,m,F]:=H.fn A.X A.G;exact#[f,fd,ok A.T F m^F.binds g,m,F.kp,F.binds g,i]
def Ctx.gotM{q:Str}{k:Nat}{ps:r_ Str}{g:Kd}{W:W2}(A:Ctx P w K mg base h C)(H:Hm K C x q st)
  (ok:∀{f:Ch}{fd:gp},Txt K mg->Fun K x q st f fd->FnOk P w K mg base Eo k f fd ps^P_ K g W ps.length)
  (r:∀i n P,W i n P->i.length=ps.length:=by walk_at "L") (s:∀(j b m:Db) (o:s_ Ch) (d p:Db) (e:r_ Db),e.length=ps.length->bindArgs (fnOf x q (A7 st) (Aa st) (AK st) .none j b m o d p) #[e,[]]=pure^ps.zip e:=by walk_at "B"):Q6 P w K mg base C x k ps g W:=by
 let#[f,t,u,o,v,j,y,m,z,p,a,l,c,n,k]:=H;have F:=IG (st:=st) l c k;exact#[f,_,ok A.T F,#[a,n,k],F.binds s,r]
def Ctx.gotR{k:Nat}{ps:r_ Str}{d:Kd}{W:WX}(A:Ctx P w K mg base h C)(H:Ht K x st)
  (ok:∀{f:Ch}{fd:gp},Txt K mg->Fun K x x st f fd->FnOk P w K mg base (KI P w) k f fd ps^Z7 K d W ps.length)
  (g:∀e n P i,W e n P i->e.length=ps.length:=by walk_at "R") (j:∀(kV a l:Db) (o:s_ Ch) (b p:Db) (c:r_ Db),c.length=ps.length->bindArgs (fnOf x x (A7 st) (Aa st) (AK st) .none kV a l o b p) #[c,[]]=pure^ps.zip c:=by walk_at "B"):WS P w K mg base x k ps d W:=by
 let#[f,fd,m,F]:=H.fn A.X A.G;exact#[f,fd,ok A.T F,m,F.kp,F.binds j,g]
def Ctx.gotMR{q:Str}{k:Nat}{ps:r_ Str}{g:Kd}{W:WX}(A:Ctx P w K mg base h C)(H:Hm K C x q st)
  (ok:∀{f:Ch}{fd:gp},Txt K mg->Fun K x q st f fd->FnOk P w K mg base (KI P w) k f fd ps^Z7 K g W ps.length)
  (r:∀i n P s,W i n P s->i.length=ps.length:=by walk_at "R") (t:∀(j b m:Db) (o:s_ Ch) (d p:Db) (e:r_ Db),e.length=ps.length->bindArgs (fnOf x q (A7 st) (Aa st) (AK st) .none j b m o d p) #[e,[]]=pure^ps.zip e:=by walk_at "B"):Py P w K mg base C x k ps g W:=by
 let#[f,u,v,o,y,j,z,m,B,p,a,l,c,n,k]:=H;have F:=IG (st:=st) l c k;exact#[f,_,ok A.T F,#[a,n,k],F.binds t,r]
def Ctx.gotC{k:Nat}{ps:r_ Str}{W:W2}(A:Ctx P w K mg base h C)
  (ok:∀{f:Ch}{fd:gp},Txt K mg->Fun K "__init__" "Keeper.__init__" An f fd->FnOk P w K mg base Eo k f fd ps^P_ K .sh W ps.length)
  (p:∀g n P,W g n P->g.length=ps.length:=by walk_at "L") (q:∀(i b j:Db) (m:s_ Ch) (d o:Db) (e:r_ Db),e.length=ps.length->bindArgs (fnOf "__init__" "Keeper.__init__" (A7 An) (Aa An) (AK An) .none i b j m d o) #[e,[]]=pure^ps.zip e:=by walk_at "B"):Z1 P w K mg base "Keeper" C k ps W:=by
 let#[f,r,s,m,t,i,u,j,v,o,a,l,c,n,k]:=A.h15;have F:=IG (st:=An) l c k;exact#[f,_,ok A.T F,#[A.mk_Keeper,a,n,A.kp_Keeper],mg_of A.X A.G A.c_Keeper,F.binds q,p]
def Ctx.gk{k:Nat}{ps:r_ Str}{d:Kd}{W:W2}{j:AX}(A:Ctx P w K mg base h C)(H:Ht K x st)(N:r_ Str)
  (l:∀{f:Ch}{a:Db}{A:gX}{b:r_ Env}{s:No}{H:Hp}{E:XK},Txt K mg->N.Nodup->Room k^A.deeper^envOfC x (AK st) s.heap.objs.size f a->Mz (C4 Eo P w K mg base N x (AK st) f a A b s H E).nox d (Aa st) j)
  (m:∀{c n Pd},W c n Pd->j {nx:=λn _=>d=.sh/\Pd .non n,rt:=Pd} n (c++gq (N.length - ps.length) .no)) (S:A8 N ps^AK st:=by constructor <;>first|rfl|decide +kernel) (e:ps.length<=N.length:=by decide) (o:∀c n P,W c n P->c.length=ps.length:=by walk_at "L") (p:∀(kV g q:Db) (r:s_ Ch) (a t:Db) (i:r_ Db),i.length=ps.length->bindArgs (fnOf x x (A7 st) (Aa st) (AK st) .none kV g q r a t) #[i,[]]=pure^ps.zip i:=by walk_at "B"):Got P w K mg base x (k+1) ps d W:=
 A.got H (λT F _ _=>fq F S (l T S.nd) m e) o p
def Ctx.gm{q:Str}{k:Nat}{ps:r_ Str}{d:Kd}{W:W2}{j:AX}(A:Ctx P w K mg base h C)(H:Hm K C x q st)(N:r_ Str)
  (l:∀{f:Ch}{a:Db}{A:gX}{b:r_ Env}{s:No}{H:Hp}{E:XK},Txt K mg->N.Nodup->Room k^A.deeper^envOfC q (AK st) s.heap.objs.size f a->Mz (C4 Eo P w K mg base N q (AK st) f a A b s H E).nox d (Aa st) j)
  (m:∀{c n Pd},W c n Pd->j {nx:=λn _=>d=.sh/\Pd .non n,rt:=Pd} n (c++gq (N.length - ps.length) .no)) (S:A8 N ps^AK st:=by constructor <;>first|rfl|decide +kernel) (e:ps.length<=N.length:=by decide) (o:∀c n P,W c n P->c.length=ps.length:=by walk_at "L") (p:∀(kV g r:Db) (t:s_ Ch) (a u:Db) (i:r_ Db),i.length=ps.length->bindArgs (fnOf x q (A7 st) (Aa st) (AK st) .none kV g r t a u) #[i,[]]=pure^ps.zip i:=by walk_at "B"):Q6 P w K mg base C x (k+1) ps d W:=
 A.gotM H (λT F=>fL F S (l T S.nd) m e) o p
def Ctx.gr{k:Nat}{ps:r_ Str}{e:Kd}{W:WX}{l:PX->AX}(A:Ctx P w K mg base h C)(H:Ht K x st)(N:r_ Str)
  (o:∀{f:Ch}{a:Db}{A:gX}{b:r_ Env}{s:No}{H:Hp}{E:XK}{c:PX}{m:Fm->Prop},Txt K mg->N.Nodup->Room k^A.deeper^envOfC x (AK st) s.heap.objs.size f a->Pss m (C4 (KI P w) P w K mg base N x (AK st) f a A b s H E) c->JP m (C4 (KI P w) P w K mg base N x (AK st) f a A b s H E) e (Aa st)^l c)
  (p:∀{d n Pd c},W d n Pd c->l c {nx:=λn _=>e=.sh/\Pd .non n,rt:=Pd} n (d++gq (N.length - ps.length) .no)) (S:A8 N ps^AK st:=by constructor <;>first|rfl|decide +kernel) (g:ps.length<=N.length:=by decide) (q:∀d n P c,W d n P c->d.length=ps.length:=by walk_at "R") (r:∀(kV i t:Db) (u:s_ Ch) (a v:Db) (j:r_ Db),j.length=ps.length->bindArgs (fnOf x x (A7 st) (Aa st) (AK st) .none kV i t u a v) #[j,[]]=pure^ps.zip j:=by walk_at "B"):WS P w K mg base x (k+1) ps e W:=
 A.gotR H (λT F=>bi F S (o T S.nd) p g) q r
def Ctx.gmr{q:Str}{k:Nat}{ps:r_ Str}{e:Kd}{W:WX}{l:PX->AX}(A:Ctx P w K mg base h C)(H:Hm K C x q st)(N:r_ Str)
  (o:∀{f:Ch}{a:Db}{A:gX}{b:r_ Env}{s:No}{H:Hp}{E:XK}{c:PX}{m:Fm->Prop},Txt K mg->N.Nodup->Room k^A.deeper^envOfC q (AK st) s.heap.objs.size f a->Pss m (C4 (KI P w) P w K mg base N q (AK st) f a A b s H E) c->JP m (C4 (KI P w) P w K mg base N q (AK st) f a A b s H E) e (Aa st)^l c)
  (p:∀{d n Pd c},W d n Pd c->l c {nx:=λn _=>e=.sh/\Pd .non n,rt:=Pd} n (d++gq (N.length - ps.length) .no)) (S:A8 N ps^AK st:=by constructor <;>first|rfl|decide +kernel) (g:ps.length<=N.length:=by decide) (r:∀d n P c,W d n P c->d.length=ps.length:=by walk_at "R") (t:∀(kV i u:Db) (v:s_ Ch) (a y:Db) (j:r_ Db),j.length=ps.length->bindArgs (fnOf x q (A7 st) (Aa st) (AK st) .none kV i u v a y) #[j,[]]=pure^ps.zip j:=by walk_at "B"):Py P w K mg base C x (k+1) ps e W:=
 A.gotMR H (λT F=>bi F S (o T S.nd) p g) r t
end
section
variable {P:Program}{w:World}{K:Frag}{mg:Str->s_ Value}{base:Heap}
variable {h:Heap}{C:Addr}(A:Ctx P w K mg base h C)
include A
def MB:A.Y "is_whole" 1 ["thing"] .sh Zm:=A.gk A.h00 ["thing"] (λT _ b=>(AE^AM^N1 (IM VY (dv 0) rfl T.Gaa rfl T.Gaq (by decide +kernel))^LI^Zb (IM TD (dv 0) rfl T.Gaa rfl T.Gat (by decide +kernel)))) (@λc n e h=>by
 let#[d,rfl,a,q]:=h.out;cases d <;>first|exact q|cases a)
def Kr:A.Y "is_number" 2 ["thing"] .sh WL:=by
 let#[_,a]:=A.T.Gac;exact A.gk A.h01 ["thing"] (λ_ _ b=>(AE^AM^N1 (cg b (MB A)^CO 0 AJ)^LI^Mb Df Fn Df Fn AB (dv 0) (Ds rfl a))) (@λe n f h=>by
 let#[d,rfl,c,q]:=h.out;exists[d],rfl,rfl,c;cases d with
 |int i=>exact UQ (k:=λP=>P _ n) (λ_ h=>h) q
 |_=>exact q)
def Na:A.Y "is_name" 1 ["thing"] .sh cb:=by
 let#[_,f]:=A.T.Gai;exact A.gk A.h02 ["thing"] (λT _ F=>(AD (Af (DTW.dt^Dz (CF^C2 (IM O9 (dv 0) rfl T.Gaa rfl T.Gal (by decide +kernel)))^Cg^CF^Tq Df Fn Df Fn AB (JI T.Gab^dv 0) (Ds rfl f)) (AE^AM Fi) AO)
 (AE^AM (Ac (IW rfl) UZ rfl T.Gap lV (AN (Q9 ["sign"] [o_] (Be^dv 0) (λt=>GH 0 t) CN^Mb Df Fn Df Fn AI (dv 0) AI) AT))))) (@λG n l o=>by
 let#[d,rfl,u,h]:=o.out;clear o;cases d with
 | str x=>
  have b:l (.bl ((decide (1<=x.length)&&decide (x.length<=8))&&(cs x).all λc=>decide (97<=c)&&decide (c<=122))) n:=h;exists _,_,rfl,rfl
  by_cases g:1<=x.length
  .have e:decide ((1:Int)<=(x.length:Int))=p_:=decide_eq_true^by lk
   by_cases q:x.length<=8
   .have i:decide ((x.length:Int)<=8)=p_:=decide_eq_true^by lk
    rw[decide_eq_true g,decide_eq_true q,Bool.true_and,Bool.true_and]at b;show(match (.bl (decide ((1:Int)<=(x.length:Int))):D)with|.bl p_=>_|.bl q_=>_|_=>False);rw[e];show(if(!decide ((x.length:Int)<=8))=p_ then _ else _);rw[i];refine BB #[by rw[Jd];lk,?_];refine BN (λd=>match d with|.str z=>.bl ((!(decide (z.cps.toList<("a":Str).cps.toList)))&&(!(decide (("z":Str).cps.toList<z.cps.toList))))|_=>.non) (λr=>∃s,r=[s]) _ _ _ _ ?_ #[_,rfl] ?_
    .rintro d v r m B ⟨s,rfl⟩ j
     let#[c,H,rfl]:=TM.mp v;exact UQ (P:=λy E=>B y E [.sh^.str #[#[ c]]]) (k:=λP=>P (.bl _) m) (λ_ h=>h)^j _ #[_,rfl]
    .rw[gj]
     unfold Dp.signs;rw[h7];show ZQ [.lst^x.cps.toList.map λc=>.bl ((!(decide ([c]<("a":Str).cps.toList)))&&(!(decide (("z":Str).cps.toList<[c]))))] λz=>l z n;refine Tg (p:=λc=>(!(decide ([c]<("a":Str).cps.toList)))&&(!(decide (("z":Str).cps.toList<[c])))) ?_;rw[show(λc=>(!(decide ([c]<("a":Str).cps.toList)))&&(!(decide (("z":Str).cps.toList<[c]))))=λc=>decide (97<=c)&&decide (c<=122)from funext Ra];exact b
   .have i:decide ((x.length:Int)<=8)=q_:=decide_eq_false^by lk
    rw[decide_eq_true g,decide_eq_false q,Bool.and_false,nt]at b;show(match (.bl (decide ((1:Int)<=(x.length:Int))):D)with|.bl p_=>_|.bl q_=>_|_=>False);rw[e];show(if(!decide ((x.length:Int)<=8))=p_ then _ else _);rw[i];exact BX b
  .have e:decide ((1:Int)<=(x.length:Int))=q_:=decide_eq_false^by lk
   rw[decide_eq_false g,nt,nt]at b;show(match (.bl (decide ((1:Int)<=(x.length:Int))):D)with|.bl p_=>_|.bl q_=>_|_=>False);rw[e];exact BX b
 |ob a=>cases u
 |_=>exact h)
def NZ:A.Y "rank_of" 1 ["tie"] .sh cY:=A.gk A.h03 ["tie"] (λ_ _ a=>(AE^AM^AV^AA (As (dv 0) AB)^AA (As (dv 0) AB)^AA (As (dv 0) AB) AG)) (@λb n c h=>by
 let#[x,y,z,rfl,p]:=h;exact#[_,AC rfl,_,AC rfl,_,AC rfl,z3,p])
def GR:A.Y "order_of" 4 ["ties"] .fr Zn:=A.gk A.h04 ["ties"] (λT _ e=>(AE^AM (T9 (NZ A) (e.mono^by cbv) rfl T.Gag rfl (dv 0)))) (@λB n D h=>by
 let#[d,f,rfl,i,b,p]:=h;refine#[f.map Ai,Wl,i,by rw[Ev];exact b,λx a Q j=>?_,#[λx a=>?_,λx a y k l m o q=>?_],λr s v=>?_]
 .let#[t,_,rfl]:=TM.mp a
  exact#[_,_,_,rfl,j]
 .let#[t,_,rfl]:=TM.mp a
  exact#[Rl t,rfl,iW _ _]
 .let#[t,_,rfl]:=TM.mp a
  let#[u,_,rfl]:=TM.mp k;cases(show P3^Rl t=P3 l from o);cases(show P3^Rl u=P3 m from q);rfl
 .let#[c,z,rfl]:=Wf (g:=Vt) (λ_=>rfl) s
  exact p c z^Sh v)
omit A in
def oG:A8 ["net","steps","place","a","b","length"] ["net"]^AK Ey:=#[rfl,rfl,rfl,by decide +kernel,rfl,by decide +kernel,by decide +kernel]
omit A in
def fj{f:Ch}{fd:gp}(F:Fun K "steps_of" "steps_of" Ey f fd):FnOk P w K mg base Eo 1 f fd ["net"]^P_ K .sh Ub 1:=by
 refine F.ok (k:=0) oG (λvs H Q E h=>h.1) λcdv A outer s H vs Q E hr h=>?_;let#[hl,F0,U,V',M,n,ss,Pd,ra,#[N,rfl,ok,lp,lt,p],q]:=h;let#[dom,fU,uV,vM,fd0,pa]:=ra;cases pa with
 |cons r1 pa=>
 cases pa;let#[v,e1,h1]:=r1.1;cases e1;let#[an,vs,rfl,hn,v1,r,rfl,hp,v2,r2,rfl,ht,e2]:=h1;cases(show r2=[]from e2);let#[ap,us,rfl,hpn,hps]:=hp;let#[at_,ws,rfl,htn,hts]:=ht;have nd:=oG.nd;have hu:=ID hr;have szl:=PySem.sizeLine_eq;have lus:us.length=N.ps.length:=by rw[hps.length,Ev]
 have lws:ws.length=N.ts.length:=by rw[hts.length,Ev]
 refine#[_,Az (Cw (i:=1) nd rfl (gx rfl) Hg)
  (Az (Kf iL rfl (SR^DD ix_tup (pv 0) Ah λ_ _=>rfl) (FQ (i:=2) nd rfl (gx rfl)) (CM (G1 hu (pv 1) (pv 2) Hg rfl)))
  (Az (Kf iL rfl (SR^DD ix_tup (pv 0) Ah λ_ _=>rfl) (SV rfl (FP (FQ (i:=3) nd rfl (gx rfl))^FP (FQ (i:=4) nd rfl (gx rfl))^FP (FQ (i:=5) nd rfl (gx rfl)) Oo))
   (Az (G1 hu (G2 hu (pv 1) (pv 3) λ_ _=>rfl) (pv 4) (pv 5) rfl)^CM (G1 hu (G2 hu (pv 1) (pv 4) λ_ _=>rfl) (pv 3) (pv 5) rfl)))
  (CM^D9^Yh^pv 1))),?_]
 refine λd hd=>?_;have old0:∀b o,H b=P3 o->AY H d (.dK []) b=P3 o:=λb o e=>by rw[AF^AW e hd];exact e
 have SqN:∀H':Hp,(∀b o,H b=P3 o->H' b=P3 o)->SqT K H' an [.ref ap,.ref at_]:=λH' o=>SqT.of^o _ _ hn;have SqP:∀H':Hp,(∀b o,H b=P3 o->H' b=P3 o)->SqT K H' ap us:=λH' o=>SqT.of^o _ _ hpn;have SqW:∀H':Hp,(∀b o,H b=P3 o->H' b=P3 o)->SqT K H' at_ ws:=λH' o=>SqT.of^o _ _ htn;refine#[_,rfl,an,_,0,_,rfl,rfl,SqN _ old0,rfl,ap,rfl,#[_,SqP _ old0],?_];refine PJ (xs:=us) (λi σ H'=>∃(as:r_ (Str×Ch)) (x2 x3 x4 x5:s_ V),σ=[P3^.ref an,P3^.ref d,x2,x3,x4,x5]/\as.map (·.1)=N.ps.take i/\Stp H d as (λ_=>[]) H') ?_ (λi σ H' hi #[as,x2,x3,x4,x5,e,hm,st]=>SqP _ st.old) ?_ ?_
 .exact#[[],_,_,_,_,rfl,rfl,old0,hd,AH,(λx hx=>by cases hx),h8,h8]
 .rintro i x σ H' hx ⟨as,x2,x3,x4,x5,rfl,hm,st⟩
  have hi:i<N.ps.length:=by rw[←lus];exact(Uf.mp hx).1
  let#[x',hx',hAt]:=hps.get (i:=i) (d:=.str N.ps[i]) (by rw[UF,Go hi];rfl);rw[hx]at hx';cases hx';let#[rfl,_]:=hAt;intro q hq;have las:as.length<=i:=by have:=congrArg lC hm;rw[Ev,iT]at this;lk
  have nq:d≠q:=λe=>by rw[←e,st.top]at hq;cases hq
  have las2:(as.map λx=>((.inr x.1:Key),V.ref x.2)).length=as.length:=Ev ..;refine#[_,rfl,_,rfl,d,_,rfl,DPut.k (k:=.inr N.ps[i]) (by rw[AF nq];exact st.top)^by lk,?_];refine#[as++[(N.ps[i],q)],_,_,_,_,rfl,?_,st.more hq ?_ rfl]
  .rw[gR,hm,List.take_succ,Go hi];rfl
  .rw[hm];exact Nd (KZ ok.rise) hi
 .rintro σ H' ⟨as,x2,x3,x4,x5,rfl,hm,st⟩
  rw[lus,lL]at hm;refine#[_,rfl,an,_,1,_,rfl,rfl,SqN _ st.old,rfl,at_,rfl,#[_,SqW _ st.old],?_];refine PJ (xs:=ws) (λi σ H'=>∃(x2 x3 x4 x5:s_ V),σ=[P3^.ref an,P3^.ref d,x2,x3,x4,x5]/\Stp H d as (λp=>(DJ (N.ts.take i) p).map kv) H') #[_,_,_,_,rfl,st] (λi σ H' hi #[x2,x3,x4,x5,e,st]=>SqW _ st.old) ?_ ?_
  .rintro i x σ H' hx ⟨x2,x3,x4,x5,rfl,st⟩
   have hi:i<N.ts.length:=by rw[←lws];exact(Uf.mp hx).1
   let#[x',hx',hAt]:=hts.get (i:=i) (d:=Ai N.ts[i]) (by rw[UF,Go hi];rfl);rw[hx]at hx';cases hx';have hmem:N.ts[i]∈N.ts:=iE hi;have hsnoc:N.ts.take (i+1)=N.ts.take i++[N.ts[i]]:=by rw[List.take_succ,Go hi];rfl
   have hpre:(N.ts.take (i+1)).Pairwise BF:=ok.trise.sublist^k9 _ _;have hlt2:∀s∈N.ts.take (i+1),cs s.a<cs s.b:=λs hs=>(ok.tin s^List.mem_of_mem_take hs).2.2.1;rw[hsnoc]at hpre hlt2;have new:=Tj hpre hlt2;have ltk:(N.ts.take i).length<=1000:=by rw[iT];lk
   generalize N.ts[i]=t at hAt hmem hsnoc new;generalize N.ts.take i=ts at hsnoc new st ltk;let#[m1,m2,m3,_]:=ok.tin t hmem;have hab:t.a≠t.b:=λe=>by rw[e]at m3;exact jn _ m3
   let#[ta,tb,tl]:=t;let#[tt,us3,rfl,htt,hit]:=hAt;let#[va,r3,rfl,#[rfl,_],vb,r4,rfl,#[rfl,_],vl,r5,rfl,rfl,e5]:=hit;cases(show r5=[]from e5);rw[←hm]at m1 m2;let#[#[xa,pa],ha,ea]:=TM.mp m1;let#[#[xb,pb],hb,eb]:=TM.mp m2;have ea':ta=xa:=ea.symm;have eb':tb=xb:=eb.symm;subst ea' eb';clear ea eb;replace hab:ta≠tb:=hab;replace new:tb∉(DJ ts ta).map (·.1)/\ta∉(DJ ts tb).map (·.1):=new;have ga:=DGet.k (k:=.inr ta) st.top;rw[Gy st.nms ha]at ga;have l1:=O1 ts ta;refine#[tt,_,rfl,SqT.of^st.old _ _ htt,rfl,_,_,rfl,_,_,rfl,_,_,rfl,rfl,?_];refine#[_,rfl,_,rfl,_,rfl,d,_,rfl,ga,_,rfl,pa,_,rfl,DPut.k (k:=.inr tb) (st.inn _ ha).2.2 (by show((DJ ts ta).map kv).length<sizeLine;rw[Ev];lk),?_];have st1:=st.put (tb2:=λp=>(DJ ts p++if ta=p then [(tb,tl)]else []).map kv) ha (kvs:=putK ((DJ ts ta).map kv) (.inr tb)^.int tl) (by rw[Og new.1,if_pos rfl]) (λq hq=>by rw[if_neg^gc hq,gZ]);have gb:=DGet.k (k:=.inr tb) st1.top;rw[Gy st1.nms hb]at gb;have l2:=O1 ts tb;have ib:=(st1.inn _ hb).2.2;simp only[if_neg hab,gZ]at ib;refine#[_,rfl,_,rfl,_,rfl,d,_,rfl,gb,_,rfl,pb,_,rfl,DPut.k (k:=.inr ta) ib (by rw[Ev];lk),?_];refine#[_,_,_,_,rfl,st1.put hb ?_ λq hq=>?_]
   .show(DJ (N.ts.take (i+1)) tb).map kv=_
    rw[hsnoc,MD,Og new.2];show((DJ ts tb++((if ta=tb then [(tb,tl)]else [])++if tb=tb then [(ta,tl)]else [])).map kv)=_;rw[if_neg hab,if_pos rfl];rfl
   .show(DJ (N.ts.take (i+1)) q).map kv=_
    rw[hsnoc,MD];show((DJ ts q++((if ta=q then [(tb,tl)]else [])++if tb=q then [(ta,tl)]else [])).map kv)=_;rw[if_neg^gc hq,gZ]
  .rintro σ H' ⟨x2,x3,x4,x5,rfl,st⟩
   rw[lws,lL]at st
   have old:∀(f:Ch->Obj) b o,H b=P3 o->E5 H' (as.map (·.2)) f b=P3 o:=λf b o e=>by
    rw[DR λhm=>by let#[x,hx,e2]:=TM.mp hm;have:=(st.inn x hx).1;rw[e2,e]at this;cases this];exact st.old b o e
   refine#[_,rfl,(as.map fun(x:Str×Ch)=>x.2),λb hb=>?_,λf=>q (.ref d) (E5 H' (as.map fun(x:Str×Ch)=>x.2) f) (D6 N) n (λb o e=>#[o,old f b o e,λ_ _=>rfl,λ_ _=>rfl]) #[λg hg=>?_,λb k hk=>(fd0.2 b k hk).to (λ_ _ z=>z) (λb vs e=>old f b _ e) (λb o e=>#[o,old f b o e]) λu e=>old f b _ e] (show At K M (E5 H' (as.map fun(x:Str×Ch)=>x.2) f) (D6 N)^.ref d from st.at_ dom hm f) p]
   .let#[x,hx,rfl]:=TM.mp hb
    exact#[_,(st.inn x hx).2.2]
   .let#[a,r,cells,hf,hcf,hc,rest]:=fd0.1 g hg
    exact#[a,r,cells,old f _ _ hf,hcf,#[hc.1,old f _ _ hc.2],rest]
def GQ:OF P w K mg base:=A.got A.h05 λ_ F _ _=>fj F
def G4:A.Y "only" 1 ["net","ties"] .sh LV:=A.gk A.h06 ["net","ties"] (λT _ s=>(AE^AM^AV^AA (As (dv 0) AB)^AA (Vo T.Gae (Ac N6 WE rfl T.Gag kW (AN (Ci 1) AT))) AG)) (@λv n B h=>by
 let#[N,z,D,rfl,c,d,p]:=h;refine#[_,AC (j:=0) rfl,z,_,rfl,c,by simp_all,#[λx a=>?_,λx a y e f i k l=>?_],λm o q=>?_]
 .let#[t,_,rfl]:=TM.mp a
  exact#[Gp t,rfl,iW _ _]
 .let#[t,_,rfl]:=TM.mp a
  let#[u,_,rfl]:=TM.mp e;cases(show P3^Gp t=P3 f from k);cases(show P3^Gp u=P3 i from l);rfl
 .let#[b,r,rfl]:=Wf (g:=Vt) (λ_=>rfl) o
  exact#[z2,p b r^VI q])
def Hk:A.Y "without" 2 ["net","ties"] .sh Po:=A.gk A.h07 ["net","ties"] (λ_ _ f=>(AE^AM^cg f (G4 A)^CO 0^AQ (CC^Q9 ["ties","tie"] [P3 1,o_] (Be^As (dv 0) AB) (λi=>GH 1 i) (Eb^BQ (B3 f) EL (dv 1)^Ci 0)^dv 1) AJ)) (@λu n v h=>by
 let#[N,a,rfl,ok,k,p]:=h;have o:=ok.2.2;refine#[_,AC (j:=1) rfl,by show(N.ts.map Ai).length<=10000000;rw[Ev];lk,?_];refine CA (λd=>!((a.map Ai).any λy=>Dy y d)) id (λg=>∃s,g=[.br^.lst^a.map Ai,s]) _ _ _ _ ?_ #[_,rfl] ?_
 .rintro d q g m x z ⟨s,rfl⟩ b e
  let#[t,r,rfl]:=TM.mp q;exists O7 ok.1 r,(ML ok.1 k).2,_,rfl;exact Dl (λc=>b _ #[_,rfl] c) λc=>e _ #[_,rfl]^iI.mpr c
 .rw[gj,kX,MU]
  refine#[N,_,N.ts.filter λt=>decide (t∉a),rfl,rfl,j4 (iP _ _)^by lk,λl b e=>?_];rw[show l=N.ts.filter λt=>decide (t∉a)from Et b e^FF^ok.1.trise.filter _];exact p)
def GS:A.Y "left_out" 5 ["net","thin"] .fr WM:=A.gk A.h08 ["net","thin"] (λ_ _ f=>(AE^AM^cg f (GR A)^By (Q9 ["thin","tie"] [P3 1,o_] (Be^As (dv 0) AB) (λi=>GH 1 i) (Eb^BQ (B3 f) EL (dv 1)^As (dv 0) AB)^dv 1) AJ)) (@λr n u h=>by
 let#[N,M,rfl,ok,a,p]:=h;have k:=ok.2.2;refine#[_,AC (j:=1) rfl,by show(N.ts.map Ai).length<=10000000;rw[Ev];lk,?_];refine CA (λd=>!((M.ts.map Ai).any λy=>Dy y d)) id (λg=>∃s,g=[.sh^Bx M,s]) _ _ _ _ ?_ #[_,rfl] ?_
 .rintro d o g m v x ⟨s,rfl⟩ b e
  let#[t,q,rfl]:=TM.mp o;exists _,AC (j:=1) rfl,O7 ok.1 q,VX a.1,_,rfl;exact Dl (λc=>b _ #[_,rfl] c) λc=>e _ #[_,rfl]^iI.mpr c
 .rw[gj,kX,MU]
  exact#[_,_,rfl,rfl,j4 (iP _ _)^by lk,λl b e=>p l #[b,e]])
def Ks:A.Y "is_length" 3 ["word"] .sh Zq:=by
 let#[_,Gac]:=A.T.Gac;exact A.gk A.h0b ["word"] (λT _ hr=>(AD (Af (DTW.dt^Dz (BQ A6 Bi (dv 0) AI)^Dz (BQ A6 Bi (As (dv 0) AB) AI)^Cg^BQ NW UY (JI T.Gab^dv 0)^JI T.Gab (CQ J0 US rfl T.Gal boot_str (AN (Ds rfl Gac) AT))) (AE^AM Fi) AO)
 (AE^AM^N1 (Ac (IW rfl) UZ rfl T.Gap lV (AN (Q9 ["sign"] [o_] (Be^dv 0) (λnq=>GH 0 nq) CN^LJ Yp cQ (dv 0) AI^by with_unfolding_all rfl) AT))^LI^cg hr (Kr A)^By (CQ J5 UX rfl T.Gaq boot_int (AN (dv 0) AT)) AJ))) (@λss n Pd h=>by
 let#[i,rfl,h1,h2,p]:=h;have szl:=PySem.sizeLine_eq;have hl:=Kz h1 h2;let#[c,r,ec,hc]:=Sr h1
 have e1:(CY i==("":Str))=q_:=by
  rw[beq_eq_false_iff_ne];intro z;rw[z]at ec;cases ec
 have e2:((#[#[ c]]:Str)==("0":Str))=q_:=by
  rw[beq_eq_false_iff_ne];intro z
  have:=congrArg cs z
  rw[show cs ("0":Str)=[48] by decide +kernel]at this;exact hc (lI this).1
 show if(CY i==("":Str))=p_ then _ else _
 rw[e1];refine BB #[c,AC (j:=0) (by show(cs^CY i)[0]?=_;rw[ec];rfl),?_];show if((#[#[ c]]:Str)==("0":Str))=p_ then _ else _
 rw[e2];refine BB #[_,_,rfl,rfl,Oz (by cbv)^by cbv,by rw[W8,szl];decide,_,_,rfl,rfl,?_];show if decide (((g_^toString (1000000:Int)).length:Int)<((CY i).length:Int))=p_ then _ else _
 rw[W8,decide_eq_false^by lk];refine BB #[by rw[Jd];lk,?_];refine BN cC (λρ=>∃s1,ρ=[s1]) _ _ _ _ ?_ #[_,rfl] ?_
 .rintro d hd ρ n' nx ⟨s1,rfl⟩ hnx
  let#[c,hc,rfl]:=TM.mp hd;exact hnx [.sh^.str #[#[ c]]] #[_,rfl]
 .rw[gj]
  unfold Dp.signs;rw[h7];rw[show List.map (cC∘λc=>D.str #[#[ c]]) (CY i).cps.toList=(cs^CY i).map λc=>D.bl (!(iR "0123456789" #[#[ c]] 0 ("0123456789":Str).length 1).isEmpty)from iN λc _=>rfl]
  have hall:((cs^CY i).map λc=>!(iR "0123456789" #[#[ c]] 0 ("0123456789":Str).length 1).isEmpty).all id=p_:=kM.mpr λb hb=>by
   let#[c,hc,rfl]:=TM.mp hb;rw[StrLaws.found_one];refine decide_eq_true ?_;show c∈cs "0123456789";rw[Ze];let#[a,b]:=O0 h1 c hc;simp only[Tk,gO,or_false];lk
  refine#[_,_,rfl,Ib (λc=>!(iR "0123456789" #[#[ c]] 0 ("0123456789":Str).length 1).isEmpty)^cs^CY i,?_];rw[hall];refine#[i,rfl,by lk,by lk,[.int i],rfl,rfl,?_];refine#[rfl,?_];show Pd (.bl (decide (1<=i)&&decide (i<=1000000))) n;rw[decide_eq_true h1,decide_eq_true h2];exact p)
def Hl:A.Y "place_fault" 2 ["words","places","ties"] .sh Xe:=by
 let#[_,Gad]:=A.T.Gad;exact A.gk A.h0c ["words","places","ties"] (λT _ hr=>(AD (Af (DTW.dt^Dz (IK^Ci 2)^Cg^BQ A6 Bi (JI T.Gab^Ci 1) (Ds rfl Gad)) (AE^AM AB) AO)
 (AD (Af (DTW.dt^Dz (BQ (D_ hr) Gj (JI T.Gab^dv 0) AB)^Cg^CF^C2^cg hr (Na A)^By (As (dv 0) AB) AJ) (AE^AM AB) AO)
 (AD (Af (DTW.dt^E_ (IK^Ci 1)^EX^BQ Df Fn (As (dv 0) AB)^As (Ci 1)^T_ AB) (AE^AM AB) AO)
 (AE^AM^Fh (BQ NW UY (JI T.Gab^dv 0) AB) AB Bh))))) (@λss n Pd h=>by
 let#[x,ps,rfl,hl,hx,hlast,p]:=h;refine#[q_,rfl,?_];refine BB #[_,_,rfl,rfl,?_];show if(((ps.map D.str).length:Int)==24)=p_ then _ else _
 rw[show(((ps.map D.str).length:Int)==24)=q_ by rw[beq_eq_false_iff_ne,Ev];lk];refine BB #[_,_,rfl,rfl,?_];refine#[_,AC (j:=1) rfl,[.str x],rfl,rfl,rfl,?_];show if(!(ME^.str x))=p_ then _ else _
 rw[Sw hx];refine BB #[!(ps.map D.str).isEmpty,rfl,?_]
 have fin:(DX^dP (A9^BI (f2 λi j=>D.bl (decide (j<i))) (JT Tf^AL (AS 0) Ap)^wC^D.int 2) (wC^D.int 2)^wC D.non) (EE Pd) n [.sh^.lst [.str "place",.str x],.br^.lst^ps.map .str,.br^.lst []]:=by
  refine#[_,_,rfl,rfl,?_];exact p
 cases e:ps.getLast? with
 |none=>
  have:ps=[]:=mw.mp e
  subst this;exact BB^BB fin
 | some y=>
  have hne:(!(ps.map D.str).isEmpty)=p_:=by
   let#[ys,rfl]:=jj.mp e;simp
  rw[hne];refine BX #[_,AC (j:=1) rfl,1,rfl,_,TB e,?_];show if(!(decide (cs y<cs x)))=p_ then _ else _
  rw[decide_eq_true^hlast y e];exact BB fin)
def F6:A.Y "is_second_end" 1 ["a","b","places","ties"] .sh cW:=A.gk A.h0d ["a","b","places","ties"] (λ_ _ hr=>(AD (Af (DTW.dt^Dz (BQ (B3 hr) EL (dv 1)^Ci 2)^Cg^BQ Df Fn (dv 1)^dv 0) (AE^AM Fi) AO)
 (AE^AM^cE (Vv^Ci 3)^LI^LJ (Yq hr) cR (AV^AA (dv 0)^AA (dv 1) AG) (Jv Rb Mr (As (Ci 3)^T_ AB) G_^Cs AB)^E3 _))) (@λss n Pd h=>by
 let#[t,ps,ts,rfl,hps,hb,hl,hlt,hlast,p]:=h;refine#[BK^hps _ hb,DM hps,_,rfl,?_];rw[bZ hb];show if(!(decide (cs t.a<cs t.b)))=p_ then _ else _
 rw[decide_eq_true hlt];refine BB #[!(ts.map Ai).isEmpty,rfl,?_];cases e:ts.getLast? with
 |none=>
  have:ts=[]:=mw.mp e
  subst this;exact p
 | some s=>
  have hne:(!(ts.map Ai).isEmpty)=p_:=by
   let#[ys,rfl]:=jj.mp e;simp
  rw[hne];refine#[z2,1,rfl,_,S_ e,[.inr t.a,.inr t.b],[.inr s.a,.inr s.b],rfl,rfl,rfl,?_];rw[Tl^hlast s e];exact p)
def Ko:A.Y "tie_fault" 4 ["words","places","ties"] .sh Xd:=by
 let#[_,Gaf]:=A.T.Gaf;exact A.gk A.h0e ["words","places","ties"] (λT _ hr=>(AD (Af (BQ A6 Bi (JI T.Gab^Ci 2) (Ds rfl Gaf)) (AE^AM AB) AO)
 (AD (Af (DTW.dt^Dz (BQ (D_ hr) Gj (JI T.Gab^dv 0) AB)^Cg^BQ (B3 hr) EL (As (dv 0) AB)^Ci 1) (AE^AM AB) AO)
 (AD (Af (DTW.dt^Dz (BQ (D_ hr) Gj (JI T.Gab^dv 0) AB)^Cg^CF^C2^cg hr (F6 A)^By (As (dv 0) AB)^By (As (dv 0) AB)^AQ (CC^Ci 1)^AQ (CC^Ci 2) AJ) (AE^AM AB) AO)
 (AD (Af (DTW.dt^Dz (BQ (D_ hr) Gj (JI T.Gab^dv 0) AB)^Cg^CF^C2^cg hr (Ks A)^By (As (dv 0) AB) AJ) (AE^AM AB) AO)
 (AE^AM^Fh (BQ NW UY (JI T.Gab^dv 0) AB) AB Bh)))))) (@λss n Pd h=>by
 let#[t,ps,ts,rfl,hps,ht,ha,hb,hl,hlt,hlast,p]:=h;refine#[_,_,rfl,rfl,?_];show if(((ts.map Ai).length:Int)==60)=p_ then _ else _
 rw[show(((ts.map Ai).length:Int)==60)=q_ by rw[beq_eq_false_iff_ne,Ev];lk];refine BB #[_,_,rfl,rfl,?_];refine#[_,AC (j:=1) rfl,?_];refine#[BK^hps _ ha,DM hps,_,rfl,?_];rw[bZ ha];refine#[_,_,rfl,rfl,?_];refine#[_,AC (j:=1) rfl,_,AC (j:=2) rfl,t,ps,ts,rfl,hps,hb,hl,ht.2.2.1,hlast,?_];refine BB #[_,_,rfl,rfl,?_];refine#[_,AC (j:=3) rfl,t.len,rfl,ht.2.2.2.1,ht.2.2.2.2,?_];refine BB #[_,_,rfl,rfl,?_];exact p)
def Iy:A.Y "line_fault" 5 ["words","places","ties"] .sh Xf:=A.gk A.h0f ["words","places","ties"] (λ_ _ hr=>(AD (Af (BQ A6 Bi (As (dv 0) AB) AI) (AE^AM^cg hr (Hl A)^CO 0^AQ (CC^Ci 1)^AQ (CC^Ci 2) AJ) AO)
 (AE^AM^Fh (BQ A6 Bi (As (dv 0) AB) AI) (cg hr (Ko A)^CO 0^AQ (CC^Ci 1)^AQ (CC^Ci 2) AJ) AB))) (@λss n Pd h=>by
 have ne:("tie":Str) ≠ "place":=λz=>absurd (congrArg cs z) (by decide +kernel);generalize hw:("place":Str)=w at ne;generalize hv:("tie":Str)=v at ne
 rcases h with⟨x,ps,rfl,h⟩|⟨t,ps,ts,rfl,h⟩
 .rw[hw]
  refine#[_,AC (j:=0) rfl,?_];show if(w==w)=p_ then _ else _
  rw[beq_self_eq_true];exact BX #[x,ps,by rw[hw],h]
 .rw[hv]
  refine#[_,AC (j:=0) rfl,?_];show if(v==w)=p_ then _ else _
  rw[beq_eq_false_iff_ne.mpr ne];refine BB #[_,AC (j:=0) rfl,?_];show if(v==v)=p_ then _ else _
  rw[beq_self_eq_true];exact BX #[t,ps,ts,by rw[hv],h])
def L_:A.Y "read_net" 6 ["lines"] .sh cX:=A.gk A.h0g ["lines","places","ties","row","line","words","fault"] (λT nd hr=>(AD (Ul 1 nd^BC AG)
 (AD (Ul 2 nd^BC AG)
 (AD (Tw iL rfl rfl T.Gao (pv 0) (cD^Ba (GH 3 nd)^Ba (GH 4 nd) Fe) (AD (Dq 5 nd^UH PySem.F.plainAttrs_str PySem.F.slot_str_split PySem.F.type_str_split Sy WC (dv 4)^AN AI AT)
 (AD (Dq 6 nd^cg hr (Iy A)^CO 5^AQ (CC^Ci 1)^AQ (CC^Ci 2) AJ)
 (AD (Af (BQ Ow UU (dv 6) Bh) (AE Tv) AO)
 (AE^Af (BQ A6 Bi (As (dv 5) AB) AI) (AE^Fc 1 QH YJ X7 Bl Ih (pv 1)^AA (As (dv 5) AB) AG)^AE^Fc 2 QH YJ X7 Bl Ih (pv 2)^AA (AV^AA (As (dv 5) AB)^AA (As (dv 5) AB)^AA (CQ J5 UX rfl T.Gaq boot_int (AN (As (dv 5) AB) AT)) AG) AG)))))
 (AE^AM^AV^AA (Vo T.Gae^Ci 1)^AA (Vo T.Gae^Ci 2) AG))))) (@λss n Pd h=>by
 let#[N,rfl,ok,lp,lt,p]:=h;have szl:=PySem.sizeLine_eq;have ll:(Nt.linesOf N).length=N.ps.length+N.ts.length:=by unfold Nt.linesOf;rw[gD,Ev,Ev]
 refine#[z0,z0,_,rfl,?_];refine DK (all:=Bw 0^(Nt.linesOf N).map .str) (λpre m ρ=>m=n/\∃s3 s4 s5 s6,ρ=[.br^.lst^(Nt.linesOf N).map .str,.ow^.lst^(N.ps.take pre.length).map .str,.ow^.lst^(N.ts.take (pre.length - N.ps.length)).map Ai,s3,s4,s5,s6]) ?_ ?_ _ [] _ _ rfl #[rfl,_,_,_,_,by rw[hG,Nat.zero_sub];rfl]
 .rintro m ρ ⟨rfl,s3,s4,s5,s6,rfl⟩
  rw[EW,Ev,ll,jT^by lk,jT^by lk];exact#[z2,p]
 .rintro pre d post m ρ nx hall ⟨rfl,s3,s4,s5,s6,rfl⟩ hnx
  let#[x,hx,rfl]:=Ti hall;rw[gD,gu]at hnx;generalize pre.length=i at hx hnx ⊢;have ne:("tie":Str) ≠ "place":=λz=>absurd (congrArg cs z)^by decide +kernel
  by_cases hi:i<N.ps.length
  .have ey:N.ps[i]?=P3 N.ps[i]:=Go hi
   generalize N.ps[i]=y at ey
   have exy:x=GY y:=by
    unfold Nt.linesOf at hx;rw[i9 (by rw[Ev];exact hi),UF,ey]at hx;exact(XV hx).symm
   subst exy;have hy:Bm y:=ok.names y^iU ey;let#[c1,c2,c3,c4,e]:=L5 hy;have fin:=hnx m [.br^.lst^(Nt.linesOf N).map .str,.ow^.lst ((N.ps.take i).map .str++[.str y]),.ow^.lst [],.sh^.int (i:Int),.sh^.str^GY y,.sh^.lst [.str "place",.str y],.sh .non] #[rfl,_,_,_,_,by rw[B9 ey,gR,show i+1 - N.ps.length=0 by lk];rfl];rw[show i - N.ps.length=0 by lk];refine#[rfl,rfl,rfl,GY y,sp,rfl,rfl,c1,c2,c3,c4,?_];rw[e];refine .inl #[y,N.ps.take i,rfl,by rw[iT];lk,hy,λy' h'=>Od (R:=λx y=>cs x<cs y) ok.rise ey h',?_];generalize("place":Str)=w at fin ⊢;refine#[rfl,_,AC (j:=0) rfl,?_];show if(w==w)=p_ then _ else _
   rw[beq_self_eq_true];exact BX #[_,rfl,rfl,_,AC (j:=1) rfl,_,_,rfl,rfl,by rw[Ev,iT];lk,fin]
  .have hj:i - N.ps.length<N.ts.length:=by
    have:=(Uf.mp hx).1
    omega
   have et:N.ts[i - N.ps.length]?=P3 N.ts[i - N.ps.length]:=Go hj;generalize N.ts[i - N.ps.length]=t at et
   have ext:x=Dw t:=by
    unfold Nt.linesOf at hx;rw[iX (by rw[Ev];lk),Ev,UF,et]at hx;exact(XV hx).symm
   subst ext;have hm:t∈N.ts:=iU et;have ht:=Sn ok hm;let#[ma,mb,_]:=ok.tin t hm;let#[c1,c2,c3,c4,e]:=P5 ht;have fin:=hnx m [.br^.lst^(Nt.linesOf N).map .str,.ow^.lst^N.ps.map .str,.ow^.lst ((N.ts.take (i - N.ps.length)).map Ai++[Ai t]),.sh^.int (i:Int),.sh^.str^Dw t,.sh^.lst [.str "tie",.str t.a,.str t.b,.str^CY t.len],.sh .non] #[rfl,_,_,_,_,by rw[show i+1 - N.ps.length=(i - N.ps.length)+1 by lk,B9 et,gR,jT (show N.ps.length<=i+1 by lk)];rfl];rw[jT (show N.ps.length<=i by lk)];refine#[rfl,rfl,rfl,Dw t,sp,rfl,rfl,c1,c2,c3,c4,?_];rw[e];refine .inr #[t,N.ps,N.ts.take (i - N.ps.length),rfl,ok.names,ht,ma,mb,lp,by rw[iT];lk,λs h'=>Od ok.trise et h',?_];generalize("place":Str)=w at ne ⊢;generalize("tie":Str)=v at ne fin ⊢;refine#[rfl,_,AC (j:=0) rfl,?_];show if(v==w)=p_ then _ else _
   rw[beq_eq_false_iff_ne.mpr ne];exact BB #[_,rfl,rfl,_,AC (j:=1) rfl,_,AC (j:=2) rfl,_,AC (j:=3) rfl,t.len,rfl,by have:=ht.2.2.2.1;lk,by have:=ht.2.2.2.2;lk,z3,_,_,rfl,rfl,by rw[Ev,iT];lk,fin])
def Kp:A.Y "length_of" 2 ["net","thing"] .sh eg:=A.gk A.h0h ["net","thing","steps","length","here","there"] (λT nd hr=>(AD (Af (DTW.dt^Dz (CF^C2 (IM kit_tuple (dv 1) rfl T.Gaa rfl T.Gae (by decide +kernel)))^Cg^BQ A6 Bi (JI T.Gab^dv 1) AB) (AE^AM Bh) AO)
 (AD (Af (CF^C2 (Ac (IW rfl) UZ rfl T.Gap lV (AN (Q9 ["place"] [o_] (Be^dv 1) (λnq=>GH 0 nq) CN (IM O9 (dv 0) rfl T.Gaa rfl T.Gal (by decide +kernel))) AT))) (AE^AM Bh) AO)
 (AD (Dq 2 nd^cg hr (GQ A)^CO 0 AJ)
 (AD (Af (BQ (EO hr) Fo (As (dv 1) AB)^dv 2) (AE^AM Bh) AO)
 (AD (Dq 3 nd AB)
 (AD (FA iL rfl (ZX rfl T.Gau (AA (dv 1)^AA (Jv Rb Mr (dv 1) (Cs AB) G_) AG)) (cD^Ba (GH 4 nd)^Ba (GH 5 nd) Fe) (AD (Af (BQ (EO hr) Fo (dv 5)^Aj hr (dv 2)^dv 4) (AE^AM Bh) AO)
 (AE (Vr (i:=3) nd rfl (gx rfl) (Aj hr (Aj hr (dv 2)^dv 4)^dv 5)))))
 (AE^AM^dv 3)))))))) (@λss n Pd h0=>by
 let#[N,d,rfl,ok,lp,lt,fd,p]:=h0;cases d with
 | tup xs=>
  have hl:=OS xs;have hz:NH xs<=160000:=fd.2.1;have p':Pd (if xs.all ED then Y1 N^strsOf xs else .non) n:=p;refine#[_,_,rfl,rfl,?_];show if((xs.length:Int)==0)=p_ then _ else _
  cases xs with
  |nil=>exact BX p'
  | cons x0 r0=>
   rw[show(((x0::r0).length:Int)==0)=q_ from beq_eq_false_iff_ne.mpr^by rw[gG];lk];refine BB #[by lk,?_];refine BN (λd=>.bl^ED d) (λρ=>∃s,ρ=[s]) _ _ _ _ ?_ #[_,rfl] ?_
   .rintro d hd ρ m nx ⟨s,rfl⟩ hnx
    have:=hnx [.sh d] #[_,rfl]
    have hf:=fines_iff.mp (show II _ _ from fd.1) d hd;cases d <;>first|exact this|exact hf.elim
   rw[gj];refine#[_,_,rfl,Ic ED (x0::r0),?_];rw[Zh];show if(!(x0::r0).all ED)=p_ then _ else _
   cases ha:(x0::r0).all ED with
   |false=>rw[ha]at p';exact BX p'
   | true=>
    rw[ha]at p';let#[ys,e]:=Ls ha;rw[e,HS]at p';cases ys with
    |nil=>cases e
    | cons y r=>
     rw[gQ]at e;cases e;refine BB #[N,rfl,ok,by lk,by lk,?_];refine#[.str y,AC (j:=0) rfl,_,_,.inr y,rfl,rfl,?_];show if(!(BP (N.ps.map .inr) (N.ps.map^Uj N.ts)^.inr y).isSome)=p_ then _ else _
     rw[KL];have p2:Pd (if y∈N.ps then Ef^K6 N.ts y r 0 else .non) n:=p'
     by_cases hy:y∈N.ps
     .rw[if_pos hy]at p2 ⊢
      refine BB #[_,_,(y::r).map .str,r.map .str,rfl,rfl,by show P3^Dp.cutD (D.str y::r.map .str) (P3 1) o_=_;rw[eU];rfl,?_];refine MI ok r y 0 _ _ hy ?_;cases c:K6 N.ts y r 0 with
      |none=>rw[c]at p2;exact p2
      |some l=>rw[c]at p2;exact λ_ _=>p2
     .rw[if_neg hy]at p2 ⊢
      exact BX p2
 |ob a=>exact(show False from fd.1).elim
 |_=>exact p)
def Iw:A.Y "nearest_of" 1 ["waiting","found"] .sh cZ:=A.gk A.h0i ["waiting","found"] (λT _ hr=>(AE^AM^As (Ac (Qz hr) Zk rfl T.Gak boot_min (AN (Q9 ["found","place"] [P3 1,o_] (Be^Ci 0) (λnq=>GH 1 nq) CN^AV^AA (As (Aj hr (Ci 0)^dv 1) AB)^AA (dv 1) AG) AT)) AB)) (@λss n Pd h=>by
 let#[Wt,ks,ds,F,rfl,M,hF,hne,hl,p]:=h;refine#[by show(Wt.map D.str).length<=10000000;rw[Ev];lk,?_]
 have dist:∀x∈Wt,∃d q,F x=P3 (d,q):=λx hx=>by
  cases e:F x with
  |none=>exact absurd e^hF x hx
  |some a=>exact#[a.1,a.2,rfl]
 refine BN (λd=>match d with|.str x=>.tup [.int ((F x).getD (0,o_)).1,.str x]|d=>d) (λρ=>∃s,ρ=[.br^.dic ks ds,s]) _ _ _ _ ?_ #[_,rfl] ?_
 .rintro d hd ρ m nx ⟨s,rfl⟩ hnx
  let#[x,hx,rfl]:=TM.mp hd;let#[dx,q,ex]:=dist x hx;refine#[ks,ds,_,Gw (dx,q),rfl,rfl,by rw[M.at_,ex];rfl,_,AC (j:=0) rfl,(by cbv:2<=sizeLine),?_]
  grind
 rw[gj,h7];refine#[_,rfl,?_,#[λx hx=>?_,λx hx y hy ka kb ea eb=>?_],λx hx hmin=>?_]
 .rw[Ev]
  cases Wt with
  |nil=>exact absurd rfl hne
  |cons a r=>exact Nat.succ_pos _
 .let#[z,_,rfl]:=TM.mp hx
  exact#[_,rfl,iW _ _]
 .let#[z,_,rfl]:=TM.mp hx
  let#[u,_,rfl]:=TM.mp hy;cases(show P3 [lP _,i5 _]=P3 ka from ea);cases(show P3 [lP _,i5 _]=P3 kb from eb);rfl
 .let#[v,hv,rfl]:=TM.mp hx
  refine#[_,AC (j:=1) rfl,p v hv λy hy dv pv dy py ev ey=>?_]
  have:=eV (hmin _ (TM.mpr #[y,hy,rfl]) _ _ rfl rfl)
  rw[ev,ey]at this;exact this)
def Ei:A.Y "least_ways" 2 ["net","start"] .fr Zo:=A.gk A.h0j ["net","start","steps","found","waiting","place","other","step","length"] (λ_ nd hr=>(AD (Dq 2 nd^cg hr (GQ A)^CO 0 AJ)
 (AD (Ul 3 nd^UD (dv 1)^AV^AA AB^AA Bh AG)
 (AD (Ul 4 nd^BC^AA (dv 1) AG)
 (AD (MY iL (IK^Ci 4) (AD (Dq 5 nd^cg hr (Iw A)^AQ (CC^Ci 4)^AQ (CC^Ci 3) AJ)
 (AD (Fc 4 QH PySem.F.slot_list_remove PySem.F.type_list_remove (Jk hr) XZ (pv 4)^AA (dv 5) AG)
 (AE (FA iL rfl (T3^Aj hr (dv 2)^dv 5) (cD^Ba (GH 6 nd)^Ba (GH 7 nd) Fe) (AD (Dq 8 nd^Au Ae Av (As (Aj hr (Ci 3)^dv 5) AB)^dv 7)
 (AE (Af (BQ (EO hr) Fo (dv 6)^Ci 3) (AD (Fc 4 QH YJ X7 Bl Ih (pv 4)^AA (dv 6) AG)
 (AE^PR (i:=3) hr (pv 3) (dv 6)^AV^AA (dv 8)^AA (dv 5) AG))^AE^Af (BQ (D_ hr) Gj (dv 8)^As (Aj hr (Ci 3)^dv 6) AB) (AE^PR (i:=3) hr (pv 3) (dv 6)^AV^AA (dv 8)^AA (dv 5) AG) AO))))))))
 (AE^Vq 3^pv 3)))))) (@λss n Pd h=>by
 let#[N,s,rfl,#[ok,lp,lt],hs,p]:=h;have szl:=PySem.sizeLine_eq;refine#[N,rfl,ok,by lk,by lk,?_];refine#[(by cbv:2<=sizeLine),_,BU s,(by cbv:1<=sizeLine),?_];refine JR (λm n' ρ=>n'=n/\∃(Wt:r_ Str) (ks:r_ Key) (ds:r_ D) (F:Mx) (s5 s6 s7 s8:Slot),ρ=[.sh^Bx N,.sh^.str s,.sh^D6 N,.ow^.dic ks ds,.ow^.lst^Wt.map .str,s5,s6,s7,s8]/\Dmap ks ds Gw F/\Dj N s F Wt/\m+ks.length=N.ps.length+Wt.length) (N.ps.length) #[rfl,[s],[.inr s],[Gw (0,o_)],_,_,_,_,_,rfl,Dmap.one,Dj.init hs,rfl] ?_ ?_
 .rintro m n' ρ N' ⟨rfl,Wt,ks,ds,F,s5,s6,s7,s8,rfl,M,J,hm⟩ hN
  cases Wt with
  |nil=>
   exact#[q_,rfl,_,rfl,p ks ds F M J.told]
  | cons w0 Wr=>
   refine#[p_,rfl,?_];have insW:∀x∈w0::Wr,x∈N.ps:=λx hx=>J.ins x^J.wfound x hx;have wl:=M7 J.nd insW;refine#[w0::Wr,ks,ds,F,rfl,M,J.wfound,iW _ _,by lk,λv hv hmin=>?_]
   obtain⟨dv,pv,ev⟩:∃d q,F v=P3 (d,q):=by
    cases e:F v with
    |none=>exact absurd e^J.wfound v hv
    |some a=>exact#[a.1,a.2,rfl]
   have D0:=J.take hv ev λy hy dy q ey=>hmin y hy dv pv dy q ev ey;have hvp:=insW v hv;have hidx:(w0::Wr).idxOf v<(w0::Wr).length:=List.idxOf_lt_length_of_mem hv;have hget:(w0::Wr)[(w0::Wr).idxOf v]?=P3 v:=by rw[Go hidx,List.getElem_idxOf]
   have ee:((w0::Wr).map D.str).eraseIdx^(w0::Wr).idxOf v=((w0::Wr).erase v).map D.str:=by
    rw[List.erase_eq_eraseIdx_of_idxOf (rfl:(w0::Wr).idxOf v=_),Ju]
   refine#[_,rfl,rfl,_,_,(w0::Wr).idxOf v,rfl,rfl,QY ok insW,BK^ok.names v hvp,#[.str v,by rw[UF,hget];rfl,by show(v==v)=p_;exact beq_self_eq_true v],λk x hk hx=>?_,?_]
   .rw[UF]at hx
    let#[t,ht,rfl]:=gY.mp hx;have hkl:k<(w0::Wr).length:=(Uf.mp ht).1;have hh:=List.not_of_lt_findIdx (p:=λy=>y==v) (xs:=w0::Wr) hk;have e2:(w0::Wr)[k]=t:=(Uf.mp ht).2;have h3:((w0::Wr)[k]==v)=q_:=hh;rw[e2]at h3;exact h3
   rw[ee];refine#[_,_,_,Uj N.ts v,rfl,BU v,P9 hvp,_,_,rfl,λk hk=>?_,?_]
   .let#[q,hq,rfl]:=TM.mp hk
    have:=(ok.names _ (Nf ok hq).1).2.1
    show q.1.length<=sizeLine;lk
   rw[Uo];have el:=List.length_erase_of_mem hv
   have inner:∀(rest seen:r_ (Str×Int)) (Wt:r_ Str) (ks:r_ Key) (ds:r_ D) (F:Mx) (s6 s7 s8:Slot),seen++rest=DJ N.ts v->Dmap ks ds Gw F->Dm N s F Wt v dv seen->m+ks.length=N.ps.length+Wt.length+1->
     B_ (Q0 2^Dt (Bz 6)^Dt (Bz 7) Ml) (BR (C9 8^BI Ce (BI Io (BI DU (Bj 3)^AS 5)^wC^D.int 0)^AS 7)
 (DY (A9^BI (Vi p_) (AS 6)^Bj 3) (BR (aK 4 "list" Vj^AL (AS 6) Ap)
 (RJ 3 (AS 6)^Ee^AL (AS 8)^AL (AS 5) Ap))^DY (A9^BI Te (AS 8)^BI Io (BI DU (Bj 3)^AS 6)^wC^D.int 0) (RJ 3 (AS 6)^Ee^AL (AS 8)^AL (AS 5) Ap) CT)) {EF Pd with nx:=N',ct:=N',bk:=WY 3^EF Pd} (rest.map d_) n' [.sh^Bx N,.sh^.str s,.sh^D6 N,.ow^.dic ks ds,.ow^.lst^Wt.map .str,.sh^.str v,s6,s7,s8]:=by
    intro rest
    induction rest with
    |nil=>
     intro seen Wt ks ds F s6 s7 s8 e M D0 hm;rw[gZ]at e;exact hN (m - 1) n' _ (by have:=M.le D0.ins;lk) #[rfl,Wt,ks,ds,F,_,_,_,_,rfl,M,D0.finish λy l hy=>by rw[e];exact hy,by have:=M.le D0.ins;lk]
    | cons q rest ih=>
     intro seen Wt ks ds F s6 s7 s8 e M D0 hm;let#[y,l]:=q;have he:Ed N v y l:=by show(y,l)∈DJ N.ts v;rw[←e];exact gH _ Op
     have e':(seen++[(y,l)])++rest=DJ N.ts v:=by rw[jf];exact e
     let#[pv,ev]:=D0.here;have kl:=M.le D0.ins;have hyp:=he.ins ok;have insW:∀x∈Wt,x∈N.ps:=λx hx=>D0.ins x^D0.wfound x hx;have wl:=M7 D0.nd insW;refine#[rfl,rfl,?_];refine#[ks,ds,_,Gw (dv,pv),rfl,BU v,by rw[M.at_,ev];rfl,_,AC (j:=0) rfl,?_];refine#[ks,ds,_,rfl,BU y,?_];show if(!(BP ks ds^.inr y).isSome)=p_ then _ else _
     cases ey:F y with
     |none=>
      have hno:=(M.has (x:=y)).1 ey;rw[M.at_,ey];refine BX #[_,rfl,rfl,_,_,rfl,rfl,by rw[Ev];lk,?_];refine#[ks,ds,rfl,(by cbv:2<=sizeLine),_,BU y,by lk,?_]
      have:=ih (seen++[(y,l)]) (Wt++[y]) (CW ks^.inr y) (CV ks ds (.inr y)^Gw (dv+l,P3 v)) _ (.sh^.str y) (.sh^.int l) (.sh^.int (dv+l)) e' (M.put y (dv+l,P3 v)) (D0.find ok he ey)^by rw[L0,if_neg (by rw[hno];decide),gD,gu];lk
      rw[gR]at this;exact this
     | some a=>
      let#[dy,qy]:=a;have hyes:=(M.has (x:=y)).2 (by rw[ey];intro z;cases z);rw[M.at_,ey];refine BB #[ks,ds,_,Gw (dy,qy),rfl,BU y,by rw[M.at_,ey];rfl,_,AC (j:=0) rfl,?_];show if decide (dv+l<dy)=p_ then _ else _
      by_cases c:dv+l<dy
      .rw[decide_eq_true c]
       refine BX #[ks,ds,rfl,(by cbv:2<=sizeLine),_,BU y,by lk,?_];exact ih (seen++[(y,l)]) Wt (CW ks^.inr y) (CV ks ds (.inr y)^Gw (dv+l,P3 v)) _ (.sh^.str y) (.sh^.int l) (.sh^.int (dv+l)) e' (M.put y (dv+l,P3 v)) (D0.nearer ok he ey c)^by rw[L0,if_pos hyes];lk
      .rw[decide_eq_false c]
       exact BB^ih (seen++[(y,l)]) Wt ks ds F (.sh^.str y) (.sh^.int l) (.sh^.int (dv+l)) e' M (D0.skip ey^by lk) hm
   exact inner (DJ N.ts v) [] ((w0::Wr).erase v) ks ds F _ _ _ rfl M D0 (by have:=List.length_pos_of_mem hv;lk)
 .rintro n' ρ P Q hPQ h
  unfold aF Bj at h ⊢
  split at h
  all_goals first
   |exact h.elim
   |(let#[c,hc,h]:=h;exact#[c,hc,hPQ _ _ h]))
def Yu:A.Y "far" 3 ["net","a","b"] .sh cf:=A.gk A.h0k ["net","a","b","found"] (λ_ nd hr=>(AD (Dq 3 nd^cg hr (Ei A)^CO 0^CO 1 AJ)
 (AE^AM^Fh (BQ (Sl hr) cT (dv 2)^dv 3) (As (Aj hr (dv 3)^dv 2) AB) Bh))) (@λss n Pd h=>by
 let#[N,a,b,rfl,okn,ha,hb,p]:=h;refine#[N,a,rfl,okn,ha,λks ds F M T=>?_];refine#[ks,ds,_,rfl,BU b,?_];show if((BP ks ds^.inr b).isSome)=p_ then _ else _
 have hp:=p _^T.far b;cases e:F b with
 |none=>
  rw[M.at_,e];rw[e]at hp;exact BB hp
 |some x=>
  rw[M.at_,e];rw[e]at hp;exact BX #[ks,ds,_,Gw x,rfl,BU b,by rw[M.at_,e];rfl,_,AC (j:=0) rfl,hp])
def Mq:Got P w K mg base "far_ways" 3 ["net","a","b"] .sh cf:=by
 let#[f,a,b]:=A.a_far_ways;let#[f1,fd,ok,m,r]:=Yu A;cases m.symm.trans^mg_of A.X A.G a;exact#[f,fd,ok,mg_of A.X A.G b,r]
def QS:A.Y "way_of" 3 ["net","a","b"] .sh eZ:=A.gk A.h0l ["net","a","b","found","way","place"] (λT nd hr=>(AD (Dq 3 nd^cg hr (Ei A)^CO 0^CO 1 AJ)
 (AD (Af (BQ (EO hr) Fo (dv 2)^dv 3) (AE^AM Bh) AO)
 (AD (Ul 4 nd^BC AG)
 (AD (Dq 5 nd^dv 2)
 (AD (MY iL (BQ Ow UU (dv 5) Bh) (AD (Fc 4 QH YJ X7 Bl Ih (pv 4)^AA (dv 5) AG)
 (AE^Dq 5 nd^As (Aj hr (dv 3)^dv 5) AB)))
 (AE^AM (Qv rfl (Ci 4) rfl T.Gae rfl T.Gas)))))))) (@λss n Pd h=>by
 let#[N,a,b,rfl,okn,ha,hb,p]:=h;have szl:=PySem.sizeLine_eq;have ok:=okn.1;refine#[N,a,rfl,okn,ha,λks ds F M T=>?_];refine#[ks,ds,_,rfl,BU b,?_];show if(!(BP ks ds^.inr b).isSome)=p_ then _ else _
 have hfar:=T.far b;cases eb:F b with
 |none=>
  rw[M.at_,eb];rw[eb]at hfar;exact BX^p o_ hfar
 | some x=>
  let#[db,qb]:=x;rw[M.at_,eb];refine BB #[z0,?_];refine JR (λm n' ρ=>n'=n/\∃(acc:r_ Str) (pl:s_ Str),ρ=[.sh^Bx N,.sh^.str a,.sh^.str b,.sh^.dic ks ds,.ow^.lst^acc.map .str,.sh^bO pl]/\WInv N F b db acc pl/\m=wm F pl) (wm F^P3 b) #[rfl,[],P3 b,rfl,#[.inl #[rfl,rfl],h8,(λx hx=>by cases hx),(λ_ _ _ _ _ x hx=>by cases hx),λy e=>by cases e;rw[eb];intro z;cases z],rfl] ?_ ?_
  .rintro m n' ρ N' ⟨rfl,acc,pl,rfl,J,rfl⟩ hN
   have wl:=M7 J.nd J.ins;have l25:=okn.2.1;cases pl with
   | none=>
    refine#[rfl,_,rfl,?_]
    rcases J.st with⟨_,e⟩|⟨z,r,dz,e1,e2,e3,e4⟩
    .cases e
    .have hz:z=a:=by
      rcases T.prev z dz o_ e2 with⟨_,w⟩|⟨w',dw',q',l,k1,_⟩
      .exact w
      .cases k1
     subst hz;rw[T.start]at e2;cases e2;rw[←List.map_reverse];refine p (P3 acc.reverse) #[db - 0,r,e1,e4,e3,?_,by rw[l_];lk,λx hx=>J.ins x^List.mem_reverse.mp hx];rw[show db - 0=db by lk];exact T.least b db qb eb
   | some y=>
    cases ey:F y with
    |none=>exact absurd ey (J.fnd y rfl)
    |some q=>
     let#[dy,qy]:=q;let#[J2,lt2]:=J.step ok T eb ey;refine#[rfl,?_];refine#[_,rfl,rfl,_,_,rfl,rfl,by rw[Ev];lk,?_];refine#[ks,ds,_,Gw (dy,qy),rfl,BU y,by rw[M.at_,ey];rfl,_,AC (j:=1) rfl,?_];refine hN (wm F qy) _ _ lt2 #[rfl,acc++[y],qy,?_,J2,rfl];rw[gR];rfl
  .rintro n' ρ P Q hPQ h
   unfold A9 BI AS wC Vh at h ⊢
   split at h
   .exact#[h.1,hPQ _ _ h.2]
   .exact h.elim)
def Kq:A.Y "is_within" 1 ["length","times","number"] .sh WH:=A.gk A.h0m ["length","times","number"] (λ_ _ hr=>(AE^AM^LJ Df Fn (Au Kk OB (dv 0)^As (dv 1) AB) (Au Kk OB (dv 2)^As (dv 1) AB)^E3 _)) (@λss n Pd h=>by
 let#[l,t,b,x,rfl,b0,b1,t0,t1,p]:=h;exact#[_,AC rfl,eW (by lk) b1,_,AC rfl,eW (by lk) t1,p])
def MA:A.Y "near_way" 4 ["net","times","tie"] .sh Ue:=A.gk A.h0n ["net","times","tie","way"] (λ_ nd hr=>(AD (Dq 3 nd^cg hr (QS A)^CO 0^By (As (dv 2) AB)^By (As (dv 2) AB) AJ)
 (AD (Af (DTW.dt^Dz (BQ NV Xb (dv 3) Bh)^Cg^CF^C2^cg hr (Kq A)^By (cg hr (Kp A)^CO 0^CO 3 AJ)^CO 1^By (As (dv 2) AB) AJ) (AE^AM Bh) AO)
 (AE^AM^dv 3)))) (@λss n Pd h=>by
 let#[N,u,t,b,rfl,okn,ha,hb,b1,b2,t1,t2,p]:=h;refine#[_,AC (j:=0) rfl,_,AC (j:=1) rfl,N,u.a,u.b,rfl,okn,ha,hb,λo ho=>#[rfl,?_]];cases o with
 |none=>
  refine p o_ (λw e=>by cases e) λ_=>?_;rw[iI];intro z;let#[d,hd,_]:=nearB_iff.mp z;exact ho d hd.1
 | some w=>
  have ho':=ho;let#[d,r,rfl,hl,hw,hd,h30,hin]:=ho'
  have near:Hx N t b u=decide (d*b<=u.len*t):=by
   rw[gi,nearB_iff,decide_eq_true_eq];exact#[fun#[d',hd',h2]=>by rw[Least.unique hd hd'];exact h2,λh2=>#[d,hd,h2]]
  refine#[N,.tup^(u.a::r).map .str,rfl,okn.1,by have:=okn.2.1;lk,okn.2.2,RD okn.1 h30 hin,?_];rw[VW okn.1 (hin _ Op) hw];refine#[_,AC (j:=2) rfl,d,t,b,u.len,rfl,b1,b2,t1,t2,?_]
  by_cases c:d*b<=u.len*t
  .rw[decide_eq_true c]
   exact p (P3 _) (λw e=>by cases e;exact#[ho,by rw[near];exact decide_eq_true c]) λe=>by cases e
  .rw[decide_eq_false c]
   exact p o_ (λw e=>by cases e) λ_=>by rw[near];exact decide_eq_false c)
def NY:A.Y "thinned" 5 ["net","times"] .sh Ua:=A.gk A.h0o ["net","times","kept","tie"] (λ_ nd hr=>(AD (Ul 2 nd^BC AG)
 (AD (FA iL rfl (T4^cg hr (GR A)^By (As (dv 0) AB) AJ) (GH 3 nd) (AE^Af (BQ NV Xb (cg hr (MA A)^By (cg hr (G4 A)^CO 0^AQ (CC^Ci 2) AJ)^CO 1^CO 3 AJ) Bh) (AE^Fc 2 QH YJ X7 Bl Ih (pv 2)^AA (dv 3) AG) AO))
 (AE^AM^cg hr (G4 A)^CO 0^AQ (CC^Ci 2) AJ)))) (@λss n Pd h=>by
 let#[N,t,b,rfl,okn,b1,b2,t1,t2,p]:=h;have ok:=okn.1;have l60:=okn.2.2;have szl:=PySem.sizeLine_eq;refine#[z0,_,AC (j:=1) rfl,_,N.ts,rfl,rfl,by lk,λord o1 o2=>?_];have hol:=o1.length_eq;have ndo:ord.Nodup:=o1.nodup_iff.mpr^Cf ok.trise
 have go:∀(rest done kept:r_ Ak) (s3:Slot),done++rest=ord->(∀u∈kept,u∈done)->kept.Nodup->Dx N t b kept rest=Dx N t b [] ord->
   B_ (Bz 3) (DY (A9^BI (Vh q_) (BE Ue^AR (Am^BE LV^AR (Am^AS 0)^AR (Ep^Bj 2) Al)^AR (Am^AS 1)^AR (Am^AS 3) Al)^wC D.non) (aK 2 "list" Vj^AL (AS 3) Ap) CT) {EE Pd with nx:=DX (BE LV^AR (Am^AS 0)^AR (Ep^Bj 2) Al)^EE Pd} (rest.map Ai) n [.sh^Bx N,.sh^.tup [.int t,.int b],.ow^.lst^kept.map Ai,s3]:=by
  intro rest
  induction rest with
  |nil=>
   intro done kept s3 e h1 h2 h3;rw[gZ]at e;subst e;have hin:∀u∈kept,u∈N.ts:=λu hu=>o1.mem_iff.mp^h1 u hu;have hkl:=sub_len h2 (Cf ok.trise) hin;refine#[N,_,kept,rfl,rfl,by lk,λts' p1 p2=>?_];rw[RY ok hin h2 p1 p2,show kept=Dx N t b [] done from h3];exact p done o1 o2
  | cons u rest ih=>
   intro done kept s3 e h1 h2 h3;have hin:∀v∈kept,v∈N.ts:=λv hv=>o1.mem_iff.mp (by rw[←e];exact iS _^h1 v hv);have hkl:=sub_len h2 (Cf ok.trise) hin;have hu:u∈N.ts:=o1.mem_iff.mp^by rw[←e];exact gH _ Op
   have hud:u∉done:=by
    rw[←e,ic]at ndo;exact λz=>ndo.2.2 u z u Op rfl
   have e':(done++[u])++rest=ord:=by rw[jf];exact e
   let#[m1,m2,_]:=ok.tin u hu;refine#[N,_,kept,rfl,rfl,by lk,λts' p1 p2=>?_];rw[RY ok hin h2 p1 p2];refine#[sub N kept,u,t,b,rfl,OU okn kept,m1,m2,b1,b2,t1,t2,λo hs hn=>#[rfl,?_]];rw[Nl]at h3;cases o with
   |some w=>
    rw[(hs w rfl).2,if_pos rfl]at h3;exact ih (done++[u]) kept _ e' (λv hv=>iS _^h1 v hv) h2 h3
   | none=>
    rw[hn rfl,if_neg^by cbv]at h3;refine#[_,rfl,rfl,_,_,rfl,rfl,by rw[Ev];lk,?_]
    have:=ih (done++[u]) (kept++[u]) (.sh^Ai u) e' (λv hv=>by
     rcases gM.mp hv with hv|hv
     .exact iS _^h1 v hv
     .exact gH _ hv) (by
     rw[ic];exact#[h2,gP.mpr #[gO,h8],λx hx y hy z=>hud^by rw[←Re.mp hy,←z];exact h1 x hx]) h3
    rw[gR]at this;exact this
 exact go ord [] [] _ rfl (λu h=>by cases h) h8 rfl)
omit A in
def Ex:A8 ["self","times"] ["self","times"]^AK An:=by walk_at "s"
def Ez:Fp P w K mg base C:=A.gotC λT F=>fL F Ex (λhr=>(AD (IL A.cl_Keeper A.na_Keeper_times (dv 0)^dv 1)
 (AD (IL A.cl_Keeper A.na_Keeper_whole (dv 0)^AV^AA (AV AG)^AA (AV AG) AG)
 (AE^IL A.cl_Keeper A.na_Keeper_kept (dv 0)^AV^AA (AV AG)^AA (AV AG) AG)))) (@λss n Pd h=>by
 let#[a,t,b,rfl,hw,p]:=h;refine#[rfl,a,[],[],rfl,hw,by cbv,?_];refine#[z0,z0,z2,rfl,a,["times"],[tD t b],rfl,Br _ _ _,by cbv,?_];refine#[z0,z0,z2,rfl,a,["times","whole"],[tD t b,Bx #[[],[]]],rfl,Br _ _ _,by cbv,?_];rw[Kc,Kc];exact#[rfl,p])
def BA:A.Z "turn_to" 6 ["self","net"] .sh^Pp C:=A.gm A.h16 ["self","net","before"] (λ_ nd hr=>(AD (Dq 2 nd^BH A.cl_Keeper A.na_Keeper_kept^dv 0)
 (AD (IL A.cl_Keeper A.na_Keeper_whole (dv 0)^dv 1)
 (AD (IL A.cl_Keeper A.na_Keeper_kept (dv 0)^cg hr (NY A)^CO 1^By (BH A.cl_Keeper A.na_Keeper_times^dv 0) AJ)
 (AE^AM^AV^AA (HF^cg hr (GS A)^By (BH A.cl_Keeper A.na_Keeper_kept^dv 0)^CO 2 AJ)^AA (HF^cg hr (GS A)^CO 2^By (BH A.cl_Keeper A.na_Keeper_kept^dv 0) AJ) AG))))) (@λss n Pd h=>by
 let#[a,t,b,N0,M,N,rfl,hw,ok,ok2,tm,p]:=h;refine#[a,_,_,_,rfl,hw,rfl,?_];refine#[IJ N,a,_,_,rfl,hw,by cbv,?_];refine#[a,_,_,tD t b,rfl,Br _ _ _,rfl,N,t,b,rfl,ok,tm.1,tm.2.1,tm.2.2.1,tm.2.2.2,λord o1 o2=>?_];have hT:IsT N t b^sub N^Dx N t b [] ord:=#[ord,o1,o2,rfl];generalize sub N^Dx N t b [] ord=T at hT;have okT:=hT.okN ok;refine#[IJ T,a,_,_,rfl,Br _ _ _,by cbv,?_];rw[Kc];refine#[a,_,_,Bx T,rfl,Br _ _ _,rfl,T,M,rfl,okT,ok2,λcame hc=>#[E8 came,λl1 h1=>?_]];have n1:l1≠a:=λz=>by rw[z,Br]at h1;cases h1
 refine#[a,_,_,Bx T,rfl,(B2^gc n1).trans^Br _ _ _,rfl,M,T,rfl,ok2,okT,λwent hwt=>#[E8 went,λl2 h2=>#[z2,?_]]];have n2:l2≠l1:=λz=>by rw[z,Br]at h2;cases h2
 rw[B2 n2]at h2;have n3:l2≠a:=λz=>by rw[z,Br]at h2;cases h2
 exact p T came went l1 l2 hT hc hwt (by rw[B2 n1]at h1;exact h1) (by rw[B2 n3]at h2;exact h2)^gc n2)
def L9:A.Y "taken_up" 7 ["lines","times"] .sh^Mu C:=A.gk A.h0p ["lines","times","keeper"] (λ_ nd hr=>(AD (Dq 2 nd (Vx (Ez A) (hr.mono^by cbv) rfl (CO 1 AJ)))
 (AD (EZ^HE A.cl_Keeper (BA A) (hr.mono^by cbv) (dv 2)^By (cg hr (L_ A)^AQ (CC^Ci 0) AJ) AJ)
 (AE^AM^dv 2)))) (@λss n Pd h=>by
 let#[t,b,N,rfl,ok,l24,tm,p]:=h;intro a ha;refine#[a,t,b,rfl,Bs ..,rfl,?_];refine#[a,_,_,rfl,Bs ..,by cbv,N,rfl,ok.1,l24,ok.2.2,?_];refine#[a,t,b,#[[],[]],#[[],[]],N,rfl,Bs ..,ok,dq,tm,λT came went l1 l2 hT hc hw e1 e2 l12=>?_];have al1:a≠l1:=Hy (Bs ..) e1;have al2:a≠l2:=Hy (Bs ..) e2;have old:∀{x:Ch},a≠x->((n.put a^.ins C [] []).put a^kc C t b #[[],[]] #[[],[]]).w x=o_->n.w x=o_:=λ{x} h g=>by rw[A2 h.symm,A2 h.symm]at g;exact g
 refine p a T _ hT ha rfl ((A2 al2).trans^(A2 al1).trans (Bs ..)) λy hy=>?_;have ya:y≠a:=λz=>hy (z▸ha);have y1:y≠l1:=λz=>hy (z▸old al1 e1);have y2:y≠l2:=λz=>hy (z▸old al2 e2);exact(A2 y2).trans^(A2 y1).trans^(A2 ya).trans^(A2 ya).trans^A2 ya)
def BV:Ms P w K mg base:=A.got A.h0r λT F _ _=>VN F T.Gab
def Ej:A.Y "_law_names" 1 [] .sh LW:=A.gk A.h0s ["_law_names_here"] (λ_ nd hr=>(AD (Dq 0 nd^BC^AA AI^AA AI^AA AI^AA AI^AA AI^AA AI^AA AI^AA AI^AA AI^AA AI^AA AI^AA AI^AA AI^AA AI^AA AI^AA AI^AA AI AG)
 (AE^AM^Au Ae Av (dv 0)^BC^AA AI^AA AI^AA AI^AA AI^AA AI^AA AI^AA AI^AA AI^AA AI AG))) (@λss n Pd h=>by
 let#[rfl,p]:=h;exact#[(by cbv:17<=sizeLine),(by cbv:9<=sizeLine),(by cbv:26<=sizeLine),p])
def Ho:A.Y "_law_places" 2 ["_law_feed_here","_law_many"] .sh Ud:=A.gk A.h0t ["_law_feed_here","_law_many","_law_names_here","_law_at","_law_step"] (λT nd hr=>(AD (Dq 2 nd (Jw (Ej A) (hr.mono^by cbv) rfl))
 (AD (Dq 3 nd^cg hr (BV A)^AQ (Bb 0)^By AB AJ)
 (AD (Dq 4 nd^As (BC^AA AB^AA AB^AA AB^AA AB AG)^cg hr (BV A)^AQ (Bb 0)^By AB AJ)
 (AE^AM^Vo T.Gae (Ac IU Pm rfl T.Gag kW (AN (Q9 ["_law_names_here","_law_at","_law_step","_law_k"] [P3 2,P3 3,P3 4,o_] (DI.c (DV rfl T.Gah (AN (dv 1) AT))) (λnq=>GH 3 nq) CN^As (dv 0)^Au Cy Ig (Au Ae Av (dv 1)^Au Kk OB (dv 2)^dv 3) AB) AT))))))) (@λss n Pd h=>by
 let#[m,rfl,hm,hn,p]:=h;refine#[rfl,26,rfl,by cbv,by cbv,by lk,λfirst f0 f1=>?_];obtain⟨f,rfl⟩:∃f:Nat,first=(f:Int):=#[first.toNat,by lk]
 refine#[(by cbv:4<=sizeLine),4,rfl,by cbv,by cbv,(by show 1<=n.n - 1;lk),λw w0 w1=>?_]
 obtain⟨s,hs,es⟩:∃s:Nat,(s=1\/s=3\/s=5\/s=7)/\atI [D.int 1,D.int 3,D.int 5,D.int 7] w=P3^.int (s:Int):=by
  rcases(show w=0\/w=1\/w=2\/w=3 by lk)with rfl|rfl|rfl|rfl
  .exact#[1,.inl rfl,rfl]
  .exact#[3,.inr (.inl rfl),rfl]
  .exact#[5,.inr^.inr (.inl rfl),rfl]
  .exact#[7,.inr^.inr (.inr rfl),rfl]
 refine#[_,es,(m:Int),rfl,#[by lk,by lk],by rw[DB];lk,?_];refine BN (NS f s) (λρ=>∃s',ρ=[.sh^.lst^words26.map .str,.sh^.int f,.sh^.int s,s']) _ _ _ _ ?_ #[_,rfl] ?_
 .rintro d hd ρ n' nx ⟨s',rfl⟩ hnx
  let#[k,hk,rfl]:=Hb hd;have hlt:(f+s*k) % 26<26:=ku _ (by cbv);have hsk:(s:Int)*(0+(k:Int))=((s*k:Nat):Int):=by rw[ko];exact(Int.natCast_mul s k).symm
  refine#[eW (by lk)^by lk,by show(0:Int)<26;decide,.str^CI ((f+s*k) % 26),?_,?_]
  .rw[hsk,show((f:Int)+((s*k:Nat):Int)) % 26=(((f+s*k) % 26:Nat):Int) by lk]
   exact AC^Lc _ hlt
  .have:=hnx [.sh^.lst^words26.map .str,.sh^.int f,.sh^.int s,.sh^.int (0+(k:Int))] #[_,rfl]
   rw[L6]at this;exact this
 .have e:[]++(DC 0 ((m:Int)).toNat).map^NS f s=((gf m).map λk:Nat=>CI ((f+s*k) % 26)).map .str:=by
   unfold DC;rw[gj,h7,h7,jF];refine iN λk _=>?_;exact L6 f s k
  rw[e];refine#[_,_,rfl,IZ _,by rw[Ev,jH];lk,λss' hp hs'=>p ss' ?_ ?_ ?_]
  .rw[hp.length_eq,Ev,jH]
  .intro y hy
   let#[k,_,rfl]:=TM.mp^hp.mem_iff.mp hy;exact HK _^ku _^by cbv
  .refine Cu hs'^hp.nodup_iff.mpr^Ji List.nodup_range λj hj k hk e=>?_
   have e:=P0 _ _ (ku _^by cbv) (ku _^by cbv) e;have hj:=io.mp hj;have hk:=io.mp hk
   rcases hs with rfl|rfl|rfl|rfl <;>lk)
def I_:A.Y "_law_times" 2 ["_law_feed_here"] .sh Mt:=A.gk A.h0u ["_law_feed_here","_law_some"] (λ_ nd hr=>(AD (Dq 1 nd^BC^AA (AV^AA AB^AA AB AG)^AA (AV^AA AB^AA AB AG)^AA (AV^AA AB^AA AB AG)^AA (AV^AA AB^AA AB AG)^AA (AV^AA AB^AA AB AG)^AA (AV^AA AB^AA AB AG)^AA (AV^AA (Au Sk Ig AB AB)^AA AB AG)^AA (AV^AA AB^AA AB AG) AG)
 (AE^AM^As (dv 1)^cg hr (BV A)^AQ (Bb 0)^By AB AJ))) (@λss n Pd h=>by
 let#[rfl,hn,p]:=h;refine#[z2,z2,z2,z2,z2,z2,ft,z2,z2,(by cbv:8<=sizeLine),8,rfl,by cbv,by cbv,hn,λr r0 r1=>?_]
 rcases(show r=0\/r=1\/r=2\/r=3\/r=4\/r=5\/r=6\/r=7 by lk)with rfl|rfl|rfl|rfl|rfl|rfl|rfl|rfl
 .exact#[_,rfl,p 1 1 (by cbv) (by cbv)^by cbv]
 .exact#[_,rfl,p 3 2 (by cbv) (by cbv)^by cbv]
 .exact#[_,rfl,p 2 1 (by cbv) (by cbv)^by cbv]
 .exact#[_,rfl,p 3 1 (by cbv) (by cbv)^by cbv]
 .exact#[_,rfl,p 5 2 (by cbv) (by cbv)^by cbv]
 .exact#[_,rfl,p 1000 999 (by cbv) (by cbv)^by cbv]
 .exact#[_,rfl,p (10 ^ (6:Int).toNat) 1 (by cbv) (by cbv)^by cbv]
 .exact#[_,rfl,p 2 2 (by cbv) (by cbv)^by cbv])
def Hq:A.Y "_law_net_of" 1 ["_law_state"] .sh Il:=A.gk A.h0v ["_law_state","_law_ties"] (λT nd hr=>(AD (Dq 1 nd^Aj hr (dv 0) AI)
 (AE^AM^AV^AA (Vo T.Gae (Ac IU Pm rfl T.Gag kW (AN (Aj hr (dv 0) AI) AT)))^AA (Vo T.Gae^Q9 ["_law_ties","_law_pair_here"] [P3 1,o_] (Be (Ac (IT rfl) Pl rfl T.Gag kW (AN (dv 1) AT))) (λnq=>GH 1 nq) CN^Au Ae Av (dv 1)^AV^AA (Vu hr (dv 0)^dv 1) AG) AG))) (@λss n Pd h=>by
 let#[N,ps,us,rfl,#[hp,hu,okn],p]:=h;have l25:=okn.2.1;have l60:=okn.2.2;have lp:=hp.length_eq;have lu:=hu.length_eq;have nd:(us.map tk).Nodup:=(hu.map tk).nodup_iff.mp^ND okn.1;refine Eh ?_;refine Jb ?_;refine#[_,ps,rfl,IZ _,by lk,λps' h1 h2=>?_];have e:ps'=N.ps:=FR (λa b x y=>absurd y^D1 x) (h1.trans hp.symm) (Cu h2^(h1.trans hp.symm).nodup_iff.mpr^Ka okn.1.rise) okn.1.rise;subst e;let#[s1,s2,s3,s4]:=RZ okn hu;refine#[_,_,rfl,s1,s2,s3,s4,Tb okn.1 hu,λks' h3 h4=>?_];have ek:=Ln okn.1 hu h3 h4;subst ek;refine#[by show((N.ts.map tk).map tupK).length<=10000000;rw[Ev,Ev];lk,?_];refine BN (λd=>match d with|.tup [.str a,.str b]=>.tup [.str a,.str b,(Bo (us.map tk) (us.map λu=>.int u.len) [.inr a,.inr b]).getD .non]|d=>d) (λρ=>∃s,ρ=[.sh^FI us,s]) _ _ _ _ ?_ #[_,rfl] ?_
 .rintro d hd ρ m nx ⟨s,rfl⟩ hnx
  let#[k,hk,rfl]:=TM.mp hd;let#[t,ht,rfl]:=TM.mp hk;have hv:=M_ nd^hu.mem_iff.mp ht
  have:=hnx [.sh^FI us,.sh^.tup [.str t.a,.str t.b]] #[_,rfl]
  refine#[_,_,tk t,_,rfl,rfl,hv,aD,z3,?_];have e:Bo (us.map tk) (us.map λu=>D.int u.len) [.inr t.a,.inr t.b]=P3^.int t.len:=hv;rw[show(tupK^tk t)=.tup [.str t.a,.str t.b]from rfl]at this;simp only[e]at this;exact this
 .rw[gj]
  refine#[z2,?_];rw[h7,h7];refine(congrArg (λX=>Pd (.tup [.tup^N.ps.map .str,.tup X]) n)^iN (g:=Ai) λt ht=>?_).mpr p;have hv:Bo (us.map tk) (us.map λu=>D.int u.len) [.inr t.a,.inr t.b]=P3^.int t.len:=M_ nd^hu.mem_iff.mp ht;show D.tup [.str t.a,.str t.b,(Bo (us.map tk) (us.map λu=>D.int u.len) [.inr t.a,.inr t.b]).getD .non]=Ai t;rw[hv];rfl)
def FU:A.Y "_law_pair" 1 ["_law_a","_law_b"] .sh Ps:=A.gk A.h0w ["_law_a","_law_b"] (λT _ hr=>(AE^AM^AV^AA (Ac (GJ rfl) OC rfl T.Gak boot_min (AN (dv 0)^AN (dv 1) AT))^AA (Ac (GK rfl) OD rfl T.Gar boot_max (AN (dv 0)^AN (dv 1) AT)) AG)) (@λss n Pd h=>by
 let#[x,y,rfl,p]:=h;refine#[x,y,rfl,x,y,rfl,z2,?_];rw[←Sz x y,←S0 x y]at p;exact p)
def Nb:A.Y "_law_do" 2 ["_law_state","_law_deed_here"] .sh Pt:=have oH:=TZ Yl^FU A;A.gk A.h0x ["_law_state","_law_deed_here","_law_pair_here"] (λT nd hr=>(AD (Af (BQ A6 Bi (As (dv 1) AB) AI) (AE^EZ^Pa QH YJ X7 Bl Ih (Aj hr (dv 0) AI)^AA (As (dv 1) AB) AG) AO)
 (AD (Af (BQ A6 Bi (As (dv 1) AB) AI) (AD (EZ^Pa QH PySem.F.slot_list_remove PySem.F.type_list_remove (Jk hr) XZ (Aj hr (dv 0) AI)^AA (As (dv 1) AB) AG)
 (AE (FA iL rfl (T4 (Nz (N7 rfl) WF rfl T.Gan boot_list (AN (Aj hr (dv 0) AI) AT))) (GH 2 nd) (AE^Af (BQ (Kl hr) EL (As (dv 1) AB)^dv 2) (AE^EZ^Pa PySem.F.plainAttrs_dict PySem.F.slot_dict_pop PySem.F.type_dict_pop (O2 hr) UT (Aj hr (dv 0) AI)^AA (dv 2) AG) AO)))) AO)
 (AD (Af (BQ A6 Bi (As (dv 1) AB) AI) (AE^PP hr (Aj hr (dv 0) AI) (cg hr oH^By (As (dv 1) AB)^By (As (dv 1) AB) AJ)^As (dv 1) AB) AO)
 (AE^Af (BQ A6 Bi (As (dv 1) AB) AI) (AE^EZ^Pa PySem.F.plainAttrs_dict PySem.F.slot_dict_pop PySem.F.type_dict_pop (O2 hr) UT (Aj hr (dv 0) AI)^AA (cg hr oH^By (As (dv 1) AB)^By (As (dv 1) AB) AJ) AG) AO))))) (@λss n Pd h=>by
 let#[l,t,N,N',ps,us,d,rfl,hlt,hl,ht,#[hp,hu,okn],hd,ok',p]:=h;have szl:=PySem.sizeLine_eq;have l25:=okn.2.1;have l60:=okn.2.2;have lp:=hp.length_eq;have lu:=hu.length_eq;have nd:(us.map tk).Nodup:=(hu.map tk).nodup_iff.mp^ND okn.1;have ndp:ps.Nodup:=hp.nodup_iff.mp^Ka okn.1.rise;have nps:∀x∈ps,Bm x:=λx hx=>okn.1.names x^hp.mem_iff.mpr hx;cases d with
 |come x=>
  let#[hx,hn,hpp,htt]:=hd;refine#[_,AC (j:=0) rfl,?_];refine Jb ?_;refine#[l,rfl,#[_,hl,rfl],_,AC (j:=1) rfl,rfl,_,hl,_,_,rfl,rfl,by rw[Ev];lk,?_];refine#[Do (Eu ps) rfl,rfl,?_];refine#[_,AC (j:=0) rfl,#[_,AC (j:=0) rfl,#[_,AC (j:=0) rfl,rfl,?_]]];refine p _ (ps++[x]) us rfl (by rw[Br];unfold Iv;rw[gR];rfl) (by rw[B2^gc hlt];exact ht) #[?_,by rw[htt];exact hu,ok'] λb hb _=>B2 hb;exact hpp.trans^(hp.cons x).trans (jd x ps).symm
 | go x=>
  let#[hx,rfl]:=hd;have nx:=okn.1.names x hx;let#[j,j1,j2,j3]:=UO^hp.mem_iff.mp hx;refine#[_,AC (j:=0) rfl,?_];refine#[_,AC (j:=0) rfl,?_];refine Jb ?_;refine#[l,rfl,#[_,hl,rfl],_,AC (j:=1) rfl,rfl,_,hl,_,_,j,rfl,rfl,Cr nps,BK nx,#[.str x,by rw[UF,j1];rfl,by rw[EV,beq_self_eq_true]],λm y hm hy=>?_,?_]
  .rw[UF]at hy
   let#[z,hz,rfl]:=gY.mp hy;rw[EV];exact beq_eq_false_iff_ne.mpr^j2 m z hm hz
  rw[GD];refine#[U9 _,rfl,?_];have htp:((n.put l^.pl^.lst^(ps.eraseIdx j).map .str).w t)=P3^.pl^FI us:=by rw[B2^gc hlt];exact ht
  refine Eh ?_;refine#[[FI us],by show [Ir _^.ob t]=_;rw[G0 htp],_,_,rfl,by rw[Ev,Ev],by rw[Ev];lk,Tb okn.1 hu,NC us,?_];refine GC okn.1 nx (d1:=.non) rfl us [] _ _ (λu h=>hu.mem_iff.mpr h) (by show us.length<=60;lk) nd htp λm' s e1 e2 e3=>?_;refine#[_,AC (j:=0) rfl,#[_,AC (j:=0) rfl,rfl,?_]];refine p m' (ps.eraseIdx j) (us.filter λu=>!Q1 x u) e1 ((e3 l hlt).trans^Br _ _ _) e2 #[?_,hu.filter _,ok'] λb h1 h2=>(e3 b h2).trans^B2 h1;exact(hp.filter _).trans (Fa ndp j3).symm
 |lay x y v=>
  let#[hx,hy,hne,v1,v2,hps,hts]:=hd;let#[us',e1,e2]:=U7 (v:=#[lo x y,hi x y,v]) nd;refine#[_,AC (j:=0) rfl,?_];refine#[_,AC (j:=0) rfl,?_];refine#[_,AC (j:=0) rfl,?_];refine#[_,AC (j:=3) rfl,rfl,?_];refine Eh ?_;refine#[_,AC (j:=1) rfl,_,AC (j:=2) rfl,x,y,rfl,okn.1.names x hx,okn.1.names y hy,hne,?_];refine#[t,tk #[lo x y,hi x y,v],_,_,rfl,rfl,ht,by rw[Ev];lk,?_];refine#[_,AC (j:=0) rfl,rfl,?_];refine p _ ps us' rfl (by rw[B2 hlt];exact hl) (by rw[Br];exact congrArg _^congrArg _ e1) #[by rw[hps];exact hp,?_,ok'] λb _ hb=>B2 hb;refine hts.trans^nL ?_ e2.symm;refine List.Perm.cons _ ?_;refine nL (hu.filter _)^List.Perm.of_eq^jI λu h=>?_;rw[gi,lA,decide_eq_true_eq,iI,Ne,betwB_iff,Fl hne (okn.1.tin u^hu.mem_iff.mpr h).2.2.1,Ne,tk_eq]
 | take x y=>
  let#[#[u,hf],hx,hy,hne,rfl]:=hd;have mu:=gg.mp (show u∈N.ts.filter (Ag x y) by rw[hf];exact Re.mpr rfl);have eu:=(Fl hne (okn.1.tin u mu.1).2.2.1).mp^betwB_iff.mp mu.2;let#[j,j1,_,j3]:=UO^hu.mem_iff.mp mu.1;refine#[_,AC (j:=0) rfl,?_];refine#[_,AC (j:=0) rfl,?_];refine#[_,AC (j:=0) rfl,?_];refine#[_,AC (j:=0) rfl,?_];refine Eh ?_;refine#[t,rfl,#[_,ht,rfl],_,AC (j:=1) rfl,_,AC (j:=2) rfl,x,y,rfl,okn.1.names x hx,okn.1.names y hy,hne,rfl,_,ht,?_];refine#[_,_,_,tk u,j,.int u.len,rfl,rfl,by rw[show tk u=[.inr^lo x y,.inr^hi x y] by unfold tk;rw[eu.1,eu.2]];rfl,by rw[UF,j1];rfl,by rw[UF,j1];rfl,?_];rw[XQ];refine#[ON _,rfl,rfl,?_];refine p _ ps (us.eraseIdx j) rfl (by rw[B2 hlt];exact hl) (Br _ _ _) #[hp,?_,ok'] λb _ hb=>B2 hb;have ndu:us.Nodup:=hu.nodup_iff.mp^Cf okn.1.trise;refine(hu.filter _).trans^nL (List.Perm.of_eq ?_) (Fa ndu j3).symm;refine jI λw hw=>?_;have h1:w∈N.ts:=hu.mem_iff.mpr hw
  have h2:Ag x y w=p_↔w=u:=by
   rw[show(Ag x y w=p_)=(Ag x y w=p_)from rfl];constructor
   .intro z
    have:=gg.mpr #[h1,z]
    rw[hf]at this;exact Re.mp this
   .rintro rfl;exact mu.2
  rw[gi,lA,decide_eq_true_eq,iI,Ne,h2])
def Hu:A.ZR "come" 7 ["self","name"] .sh^WO C:=by
 let#[_,Gad]:=A.T.Gad;exact have GX_TooMany:=A.y_TooMany.g A.X A.G;have GX_Twice:=A.y_Twice.g A.X A.G;A.gmr A.h17 ["self","name"] (λT _ hr hp=>(Ao (C3 (BQ (Kl hr) EL (dv 1)^As (BH A.cl_Keeper A.na_Keeper_whole^dv 0) AB) (BG (B6 (k:=0) hp GX_Twice (hr.mono^by cbv) rfl (AA (Au Ae Av (Au Ae Av AI^dv 1) AI) AG)))^BD AO)
 (Ao (C3 (BQ A6 Bi (JI T.Gab^As (BH A.cl_Keeper A.na_Keeper_whole^dv 0) AB) (Ds rfl Gad)) (BG (B6 (k:=0) hp GX_TooMany (hr.mono^by cbv) rfl (AA AI AG)))^BD AO)
 (BD^AE^AM^HE A.cl_Keeper (BA A) (hr.mono^by cbv) (dv 0)^By (AV^AA (Vo T.Gae (Ac N5 WD rfl T.Gag kW (AN (Au Ae Av (As (BH A.cl_Keeper A.na_Keeper_whole^dv 0) AB)^AV^AA (dv 1) AG) AT)))^AA (As (BH A.cl_Keeper A.na_Keeper_whole^dv 0) AB) AG) AJ)))) (@λss n Pd Pr h=>by
 let#[a,t,b,N,M,x,rfl,#[k,l24,_],hx,p]:=h;have hx:Bm x:=hx;have ok:=k.2.1;have szl:=PySem.sizeLine_eq;have net:=λhr=>Dr ok l24 (d:=.come x) hx hr;unfold BY at p;refine#[a,_,_,_,rfl,k.1,rfl,_,AC (j:=0) rfl,BK hx,GV ok.1,_,rfl,?_];show if((N.ps.map D.str).any λy=>Dy y^.str x)=p_ then _ else _
 rw[HH]
 by_cases hn:x∈N.ps
 .rw[show Ab N^.dd^.come x=P3 "Twice" from if_pos hn]at p
  rw[decide_eq_true hn];have h1:=hx.2.1;have l0:("there is a place ":Str).length=17:=by decide +kernel
  refine BX #[by rw[l0];lk,by rw[len_app,l0,show(" already":Str).length=8 by decide +kernel];lk,(by cbv:1<=100),p]
 rw[decide_eq_false hn];refine BB ?_;refine#[a,_,_,_,rfl,k.1,rfl,_,AC (j:=0) rfl,_,_,rfl,rfl,?_];show if(((N.ps.map D.str).length:Int)==24)=p_ then _ else _
 rw[Ev]
 by_cases h24:N.ps.length=24
 .rw[show Ab N^.dd^.come x=P3 "TooMany" from(if_neg hn).trans^if_pos h24]at p
  rw[show(((N.ps.length:Nat):Int)==24)=p_ from beq_iff_eq.mpr^by lk];exact BX #[(by cbv:1<=100),p]
 rw[show(((N.ps.length:Nat):Int)==24)=q_ from beq_eq_false_iff_ne.mpr^by lk];have er:Ab N^.dd^.come x=o_:=(if_neg hn).trans^if_neg h24;rw[er]at p;let#[N',#[_,_,hp,ht],ok',l']:=net er;have p:=p N' #[hx,hn,hp,ht] ok' l';refine BB ?_;refine#[a,_,_,rfl,k.1,by cbv,?_];refine#[a,_,_,_,rfl,k.1,rfl,_,AC (j:=0) rfl,aD,by show(N.ps.map D.str).length+1<=sizeLine;rw[Ev];lk,N.ps++[x],by rw[gR];rfl,by rw[gD,gu];lk,λss' h1 h2=>?_];refine#[a,_,_,_,rfl,k.1,rfl,_,AC (j:=1) rfl,z2,?_]
 have e:ss'=N'.ps:=by
  have pe:ss'.Perm N'.ps:=h1.trans^(jd x N.ps).trans hp.symm;have nd:ss'.Nodup:=pe.nodup_iff.mpr^Ka ok'.1.rise;exact FR (λa b x y=>absurd y^D1 x) pe (Cu h2 nd) ok'.1.rise
 subst e;refine#[a,t,b,N,M,N',?_,k.1,ok',k.2.2.1,k.2.2.2,p];show [Slot.sh^.ob a,.sh^.tup [.tup^N'.ps.map .str,.tup^N.ts.map Ai]]=_;rw[←ht]
 rfl)
def A1:A.ZR "ask_place" 2 ["self","name"] .sh^Mv C:=have GX_NoPlace:=A.y_NoPlace.g A.X A.G;A.gmr A.h18 ["self","name"] (λ_ _ hr hp=>(BG^C3 (BQ (B3 hr) EL (dv 1)^As (BH A.cl_Keeper A.na_Keeper_whole^dv 0) AB) (BG (B6 (k:=0) hp GX_NoPlace (hr.mono^by cbv) rfl (AA (Au Ae Av AI^dv 1) AG)))^BD AO)) (@λss n Pd Pr h=>by
 let#[a,t,b,N,M,x,rfl,#[hw,ok,ok2,tm],hx,p,pr]:=h;have szl:=PySem.sizeLine_eq;refine#[a,_,_,_,rfl,hw,rfl,_,AC (j:=0) rfl,BK hx,GV ok.1,_,rfl,?_];show if(!((N.ps.map D.str).any λy=>Dy y^.str x))=p_ then _ else _
 rw[HH]
 by_cases c:x∈N.ps
 .rw[decide_eq_true c];exact BB #[rfl,p c]
 .rw[decide_eq_false c]
  refine BX #[?_,(by cbv:1<=100),pr c]
  have:=hx.2.1
  rw[show("there is no place ":Str).length=18 by decide +kernel]
  omega)
def JD:A.ZR "far" 4 ["self","a","b"] .sh^Zr C:=have oI:=Mq A;A.gmr A.h19 ["self","a","b"] (λ_ _ hr hp=>(Ao (EH^A4 hp A.cl_Keeper (A1 A) (hr.mono^by cbv) (dv 0)^CO 1 AJ)
 (Ao (EH^A4 hp A.cl_Keeper (A1 A) (hr.mono^by cbv) (dv 0)^CO 2 AJ)
 (BD^AE^AM^cg hr oI^By (BH A.cl_Keeper A.na_Keeper_kept^dv 0)^CO 1^CO 2 AJ)))) (@λss n Pd Pr h=>by
 let#[a,t,b,N,M,x,y,rfl,#[k,l24,e],hv,p]:=h;have okM:=k.2.2.1;unfold BY at p;have no:¬(x∈N.ps/\y∈N.ps)->Pr "NoPlace" [] [] n:=λm=>by rw[show Ab N^.far x y=P3 "NoPlace" from if_neg m]at p;exact p
 refine#[a,_,_,rfl,k.1,by cbv,a,t,b,N,M,x,rfl,k,hv.1,λhx=>?_,λz=>no λw=>z w.1];refine#[a,_,_,rfl,k.1,by cbv,a,t,b,N,M,y,rfl,k,hv.2,λhy=>?_,λz=>no λw=>z w.2];rw[show Ab N^.far x y=o_ from if_pos #[hx,hy]]at p;exact#[a,_,_,_,rfl,k.1,rfl,M,x,y,rfl,k.2.2.1,e▸hx,e▸hy,p])
def Kx:A.ZR "go" 7 ["self","name"] .sh^ce C:=A.gmr A.h1a ["self","name","places","ties"] (λT nd hr hp=>(Ao (EH^A4 hp A.cl_Keeper (A1 A) (hr.mono^by cbv) (dv 0)^CO 1 AJ)
 (BD (AD (PQ (i:=2) nd rfl (gx rfl) rfl [("name":Str),("place":Str)] [P3 1,o_] (Be^As (BH A.cl_Keeper A.na_Keeper_whole^dv 0) AB) (λ_ _ _ _ _=>(HA (i:=1) (show List.Nodup [("name":Str),("place":Str)] by decide +kernel) rfl (gx rfl))) (λ_ _ _ _ _=>(Eb^BQ Jh Q2 (dv 1)^dv 0)) (λ_ _ _ _ _=>(dv 1)) (by kernel_rfl))
 (AD (PQ (i:=3) nd rfl (gx rfl) rfl [("name":Str),("tie":Str)] [P3 1,o_] (Be^As (BH A.cl_Keeper A.na_Keeper_whole^dv 0) AB) (λ_ _ _ _ _=>(HA (i:=1) (show List.Nodup [("name":Str),("tie":Str)] by decide +kernel) rfl (gx rfl))) (λ_ _ _ _ _=>(Eb^BQ (B3 hr) EL (dv 0)^Jv Rb Mr (dv 1) G_^Cs AB)) (λ_ _ _ _ _=>(dv 1)) (by kernel_rfl))
 (AE^AM^HE A.cl_Keeper (BA A) (hr.mono^by cbv) (dv 0)^By (AV^AA (Vo T.Gae^dv 2)^AA (Vo T.Gae^dv 3) AG) AJ)))))) (@λss n Pd Pr h=>by
 let#[a,t,b,N,M,x,rfl,#[k,l24,_],nx,p]:=h;have nx:Bm x:=nx;have ok:=k.2.1;have l60:=ok.2.2;have net:=λhr=>Dr ok l24 (d:=.go x) nx hr;unfold BY at p;refine#[a,_,_,rfl,k.1,by cbv,a,t,b,N,M,x,rfl,k,nx,λhx=>?_,λhx=>by rw[show Ab N^.dd^.go x=P3 "NoPlace" from if_neg hx]at p;exact p];have er:Ab N^.dd^.go x=o_:=if_pos hx;rw[er]at p;let#[N',dN,ok',l']:=net er;have p:=p N' dN ok' l';let#[_,rfl]:=dN;refine#[a,_,_,_,rfl,k.1,rfl,_,AC (j:=0) rfl,by show(N.ps.map D.str).length<=10000000;rw[Ev];lk,?_];refine CA (fK x) id (λρ=>∃s,ρ=[.sh^.str x,s]) _ _ _ _ ?_ #[_,rfl] ?_
 .rintro d hd ρ m nx sk ⟨s,rfl⟩ h1 h2
  let#[y,hy,rfl]:=TM.mp hd;show if(!(y==x))=p_ then _ else _
  exact Dl (λc=>h1 _ #[_,rfl] c) λc=>h2 _ #[_,rfl]^iI.mpr c
 rw[gj,kX,Tc];refine#[a,_,_,_,rfl,k.1,rfl,_,AC (j:=1) rfl,by show(N.ts.map Ai).length<=10000000;rw[Ev];lk,?_];refine CA (λd=>!Q1 x (Vt d)) id (λρ=>∃s,ρ=[.sh^.str x,s]) _ _ _ _ ?_ #[_,rfl] ?_
 .rintro d hd ρ m nx' sk ⟨s,rfl⟩ h1 h2
  let#[u,hu,rfl]:=TM.mp hd;let#[m1,m2,m3,_]:=ok.1.tin u hu;refine#[BK nx,ER (ok.1.names _ m1)^ok.1.names _ m2,_,rfl,?_]
  have e:([D.str u.a,D.str u.b].any λy=>Dy y^.str x)=Q1 x u:=by
   rw[OM,gi,atB_iff,Bool.or_eq_true,decide_eq_true_eq,decide_eq_true_eq]
  show if(!([D.str u.a,D.str u.b].any λy=>Dy y^.str x))=p_ then _ else _
  rw[e];exact Dl (λc=>h1 _ #[_,rfl] c) λc=>h2 _ #[_,rfl]^iI.mpr c
 rw[gj,kX,kg];refine#[a,_,_,rfl,k.1,by cbv,z2,?_];exact#[a,t,b,N,M,_,rfl,k.1,ok',k.2.2.1,k.2.2.2,p])
def Bu:A.ZR "ties_between" 3 ["self","a","b"] .fr^Ij C:=A.gmr A.h1b ["self","a","b"] (λT _ hr hp=>(Ao (EH^A4 hp A.cl_Keeper (A1 A) (hr.mono^by cbv) (dv 0)^CO 1 AJ)
 (Ao (EH^A4 hp A.cl_Keeper (A1 A) (hr.mono^by cbv) (dv 0)^CO 2 AJ)
 (BD^AE^AM^Q9 ["a","b","tie"] [P3 1,P3 2,o_] (Be^As (BH A.cl_Keeper A.na_Keeper_whole^dv 0) AB) (λnq=>GH 2 nq) (Eb^BQ (Ys hr) cS (Jv Rb Mr (dv 2) G_^Cs AB)^AV^AA (Ac (GJ rfl) OC rfl T.Gak boot_min (AN (dv 0)^AN (dv 1) AT))^AA (Ac (GK rfl) OD rfl T.Gar boot_max (AN (dv 0)^AN (dv 1) AT)) AG)^dv 2)))) (@λss n Pd Pr h=>by
 let#[a,t,b,N,M,x,y,rfl,k,hx,hy,p,pr]:=h;have ok:=k.2.1;have l60:=ok.2.2;refine#[a,_,_,rfl,k.1,by cbv,a,t,b,N,M,x,rfl,k,hx,λmx=>?_,λz=>pr λw=>z w.1];refine#[a,_,_,rfl,k.1,by cbv,a,t,b,N,M,y,rfl,k,hy,λmy=>?_,λz=>pr λw=>z w.2];refine#[a,_,_,_,rfl,k.1,rfl,_,AC (j:=1) rfl,by show(N.ts.map Ai).length<=10000000;rw[Ev];lk,?_];refine CA (λd=>Ag x y^Vt d) id (λρ=>∃s,ρ=[.sh^.str x,.sh^.str y,s]) _ _ _ _ ?_ #[_,rfl] ?_
 .rintro d hd ρ m nx sk ⟨s,rfl⟩ h1 h2
  let#[u,hu,rfl]:=TM.mp hd;let#[m1,m2,m3,_]:=ok.1.tin u hu;refine#[x,y,rfl,x,y,rfl,z2,?_];rw[show(if decide (y.cps.toList<x.cps.toList)=p_ then y else x)=lo x y from Sz x y,show(if decide (x.cps.toList<y.cps.toList)=p_ then y else x)=hi x y from S0 x y];have nn:=Qg hx hy;refine#[ER (ok.1.names _ m1)^ok.1.names _ m2,ER nn.1 nn.2,?_]
  have e:Dy (.tup [.str u.a,.str u.b])^.tup [.str^lo x y,.str^hi x y]=Ag x y u:=by
   rw[gi,Vl,betwB_iff,Dv m3]
  show if Dy (.tup [.str u.a,.str u.b]) (.tup [.str^lo x y,.str^hi x y])=p_ then _ else _
  rw[e];exact Dl (λc=>h1 _ #[_,rfl] c) λc=>h2 _ #[_,rfl]^iI.mpr c
 .rw[gj,kX,kg]
  exact p #[mx,my])
def JC:A.ZR "lay" 7 ["self","a","b","length"] .sh^Zp C:=by
 let#[_,Gaf]:=A.T.Gaf;exact have GX_TooMany:=A.y_TooMany.g A.X A.G;have GX_NoTie:=A.y_NoTie.g A.X A.G;A.gmr A.h1c ["self","a","b","length","ties","others"] (λT nd hr hp=>(Ao (PN (i:=4) nd rfl (gx rfl) (A4 hp A.cl_Keeper (Bu A) (hr.mono^by cbv) (dv 0)^CO 1^CO 2 AJ))
 (Ao (C3 (BQ A6 Bi (dv 1)^dv 2) (BG (B6 (k:=0) hp GX_NoTie (hr.mono^by cbv) rfl (AA AI AG)))^BD AO)
 (Ao (C3 (DTW.dt^E_ (CF^IK^Ci 4)^EX^BQ A6 Bi (JI T.Gab^As (BH A.cl_Keeper A.na_Keeper_whole^dv 0) AB) (Ds rfl Gaf)) (BG (B6 (k:=0) hp GX_TooMany (hr.mono^by cbv) rfl (AA AI AG)))^BD AO)
 (BD (AD (Dq 5 nd^As (cg hr (Hk A)^By (BH A.cl_Keeper A.na_Keeper_whole^dv 0)^AQ (CC^Ci 4) AJ) AB)
 (AE^AM^HE A.cl_Keeper (BA A) (hr.mono^by cbv) (dv 0)^By (cg hr (G4 A)^By (BH A.cl_Keeper A.na_Keeper_whole^dv 0)^AQ (CC^Au Ae Av (dv 5)^AV^AA (AV^AA (Ac (GJ rfl) OC rfl T.Gak boot_min (AN (dv 1)^AN (dv 2) AT))^AA (Ac (GK rfl) OD rfl T.Gar boot_max (AN (dv 1)^AN (dv 2) AT))^AA (dv 3) AG) AG) AJ) AJ))))))) (@λss n Pd Pr h=>by
 let#[a,t,b,N,M,x,y,l,rfl,#[k,l24,_],hv,p]:=h;have ok:=k.2.1;have l60:=ok.2.2;have szl:=PySem.sizeLine_eq;have net:=λhr=>Dr ok l24 (d:=.lay x y l) hv hr;unfold BY at p;refine#[a,_,_,rfl,k.1,by cbv,a,t,b,N,M,x,y,rfl,k,hv.1.1,hv.1.2,λm=>?_,λm=>by rw[show Ab N^.dd^.lay x y l=P3 "NoPlace" from if_neg m]at p;exact p];show if(x==y)=p_ then _ else _
 by_cases hne:x=y
 .rw[show Ab N^.dd^.lay x y l=P3 "NoTie" from(if_pos m).trans^if_pos hne]at p
  rw[beq_iff_eq.mpr hne];exact BX #[(by cbv:1<=100),p]
 rw[show(x==y)=q_ from beq_eq_false_iff_ne.mpr hne];refine BB ?_
 have next:Ab N^.dd^.lay x y l=o_->BR (C9 5^BI Io (BE Po^AR (Am^Xw C "whole"^AS 0)^AR (Ep^Bj 4) Al)^wC^D.int 1) (DX^CU C "turn_to" (Pp C) (AS 0)^AR (Am^BE LV^AR (Am^Xw C "whole"^AS 0)^AR (Ep^BI Ce (AS 5)^Ee^AL (Ee^AL (JT XJ^AL (AS 1)^AL (AS 2) Ap)^AL (JT XM^AL (AS 1)^AL (AS 2) Ap)^AL (AS 3) Ap) Ap) Al) Al) (EE Pd) n [.sh^.ob a,.sh^.str x,.sh^.str y,.sh^.int l,.sh^.lst^(N.ts.filter^Ag x y).map Ai,.no]:=λer=>by
  rw[er]at p;let#[N',dN,ok',l']:=net er;have p:=p N' dN ok' l';let#[hx,hy,hne,l1,l2,hps,hts]:=dN;refine#[a,_,_,_,rfl,k.1,rfl,N,N.ts.filter^Ag x y,rfl,ok,λu hu=>(gg.mp hu).1,_,AC (j:=1) rfl,?_]
  have ef:(N.ts.filter λu=>decide (u∉N.ts.filter^Ag x y))=N.ts.filter λu=>!Ag x y u:=jI λu hu=>by
   rw[decide_not,Bool.not_inj_iff,gi,decide_eq_true_eq,gg];exact#[λz=>z.2,λz=>#[hu,z]]
  rw[ef];refine#[a,_,_,rfl,k.1,by cbv,a,_,_,_,rfl,k.1,rfl,x,y,rfl,x,y,rfl,z3,aD,?_];have lf:=iP (λu=>!Ag x y u) N.ts;refine#[by rw[Ev];show(N.ts.filter λu=>!Ag x y u).length+1<=sizeLine;lk,N,_,(N.ts.filter λu=>!Ag x y u)++[#[lo x y,hi x y,l]],rfl,?_,by rw[gD,gu];lk,λts' h1 h2=>?_]
  .rw[show(if decide (y.cps.toList<x.cps.toList)=p_ then y else x)=lo x y from Sz x y,show(if decide (x.cps.toList<y.cps.toList)=p_ then y else x)=hi x y from S0 x y,gR]
   rfl
  .have e:ts'=N'.ts:=Et (h1.trans^(jd _ _).trans hts.symm) h2^FF ok'.1.trise
   subst e;rw[←hps];exact#[a,t,b,N,M,N',rfl,k.1,ok',k.2.2.1,k.2.2.2,p]
 cases hl:N.ts.filter^Ag x y with
 | nil=>
  rw[hl]at next;refine#[q_,rfl,a,_,_,_,rfl,k.1,rfl,_,AC (j:=1) rfl,_,_,rfl,rfl,?_];show if(((N.ts.map Ai).length:Int)==60)=p_ then _ else _
  rw[Ev]
  by_cases h60:N.ts.length=60
  .rw[show Ab N^.dd^.lay x y l=P3 "TooMany" from(if_pos m).trans^(if_neg hne).trans^if_pos #[hl,h60]]at p
   rw[show(((N.ts.length:Nat):Int)==60)=p_ from beq_iff_eq.mpr^by lk];exact BX #[(by cbv:1<=100),p]
  .rw[show(((N.ts.length:Nat):Int)==60)=q_ from beq_eq_false_iff_ne.mpr^by lk]
   exact BB (next ((if_pos m).trans^(if_neg hne).trans^if_neg λz=>h60 z.2))
 |cons d r=>
  rw[hl]at next;exact#[p_,rfl,next ((if_pos m).trans^(if_neg hne).trans^if_neg λz=>by rw[hl]at z;cases z.1)])
def D3:A.ZR "tie_between" 4 ["self","a","b"] .sh^JN C:=have GX_NoTie:=A.y_NoTie.g A.X A.G;A.gmr A.h1d ["self","a","b","ties"] (λ_ nd hr hp=>(Ao (PN (i:=3) nd rfl (gx rfl) (A4 hp A.cl_Keeper (Bu A) (hr.mono^by cbv) (dv 0)^CO 1^CO 2 AJ))
 (Ao (C3 (CF^IK^Ci 3) (BG (B6 (k:=0) hp GX_NoTie (hr.mono^by cbv) rfl (AA (Au Ae Av (Au Ae Av (Au Ae Av AI^dv 1) AI)^dv 2) AG)))^BD AO)
 (BD^AE^AM^As (Ci 3) AB)))) (@λss n Pd Pr h=>by
 let#[a,t,b,N,M,x,y,rfl,k,hx,hy,p,pr]:=h;have szl:=PySem.sizeLine_eq;refine#[a,_,_,rfl,k.1,by cbv,a,t,b,N,M,x,y,rfl,k,hx,hy,λm=>?_,pr];let#[p1,p2]:=p m
 rcases W5 k.2.1.1 x y with e|⟨u,e⟩
 .rw[e]
  have h1:=hx.2.1;have h2:=hy.2.1;have l0:("there is no tie between ":Str).length=24:=by decide +kernel
  have l1:(" and ":Str).length=5:=by decide +kernel
  have l2:(("there is no tie between ":Str)++x).length=24+x.length:=by rw[len_app,l0]
  have l3:(("there is no tie between ":Str)++x++(" and ":Str)).length=24+x.length+5:=by rw[len_app,l2,l1]
  exact#[q_,rfl,by rw[l0];lk,by rw[l2,l1];lk,by rw[l3];lk,(by cbv:1<=100),p2 e]
 .rw[e]
  exact#[p_,rfl,_,AC (j:=0) rfl,p1 u e])
def Hs:A.ZR "take" 7 ["self","a","b"] .sh^WJ C:=A.gmr A.h1e ["self","a","b"] (λ_ _ hr hp=>(BG^EY^T6 A.cl_Keeper (BA A) (hr.mono^by cbv) (dv 0)^Pb (T8 (Hk A) (hr.mono^by cbv) rfl (Pb (Za^BH A.cl_Keeper A.na_Keeper_whole^dv 0)^V2 (T7^A4 hp A.cl_Keeper (D3 A) (hr.mono^by cbv) (dv 0)^CO 1^CO 2 AJ)^Pc AJ))^Pc AJ)) (@λss n Pd Pr h=>by
 let#[a,t,b,N,M,x,y,rfl,#[k,l24,_],hv,p]:=h;have ok:=k.2.1;have net:=λhr=>Dr ok l24 (d:=.take x y) hv hr;unfold BY at p;refine#[a,_,_,rfl,k.1,by cbv,a,_,_,_,rfl,k.1,rfl,a,_,_,rfl,k.1,by cbv,a,t,b,N,M,x,y,rfl,k,hv.1,hv.2,λm=>#[λu hu=>#[aD,?_],λhf=>by rw[show Ab N^.dd^.take x y=P3 "NoTie" from(if_pos m).trans^if_pos hf]at p;exact p],λm=>by rw[show Ab N^.dd^.take x y=P3 "NoPlace" from if_neg m]at p;exact p];have er:Ab N^.dd^.take x y=o_:=(if_pos m).trans (if_neg^by rw[hu];exact iW _ _);rw[er]at p;let#[N',dN,ok',l']:=net er;have p:=p N' dN ok' l';let#[_,hx,hy,hne,rfl]:=dN;have mu:u∈N.ts:=(gg.mp (by rw[hu];exact Re.mpr rfl:u∈N.ts.filter^Ag x y)).1;refine#[N,[u],rfl,ok,λv hv=>by rw[Re.mp hv];exact mu,?_]
 have ef:(N.ts.filter λv=>decide (v∉[u]))=N.ts.filter λu=>!Ag x y u:=jI λv hv=>by
  rw[decide_not,Bool.not_inj_iff,gi,decide_eq_true_eq,←hu,gg];exact#[λz=>z.2,λz=>#[hv,z]]
 rw[ef];exact#[a,t,b,N,M,_,rfl,k.1,ok',k.2.2.1,k.2.2.2,p])
def Kt:A.YR "_law_told" 8 ["_law_keeper","_law_deed_here"] .sh^WI C:=A.gr A.h0y ["_law_keeper","_law_deed_here"] (λ_ _ hr hp=>(Ao (C3 (BQ A6 Bi (As (dv 1) AB) AI) (BG^EY^A4 hp A.cl_Keeper (Hu A) (hr.mono^by cbv) (dv 0)^By (As (dv 1) AB) AJ)^BD AO)
 (Ao (C3 (BQ A6 Bi (As (dv 1) AB) AI) (BG^EY^A4 hp A.cl_Keeper (Kx A) (hr.mono^by cbv) (dv 0)^By (As (dv 1) AB) AJ)^BD AO)
 (Ao (C3 (BQ A6 Bi (As (dv 1) AB) AI) (BG^EY^A4 hp A.cl_Keeper (JC A) (hr.mono^by cbv) (dv 0)^By (As (dv 1) AB)^By (As (dv 1) AB)^By (As (dv 1) AB) AJ)^BD AO)
 (Ao (C3 (BQ A6 Bi (As (dv 1) AB) AI) (BG^EY^A4 hp A.cl_Keeper (Hs A) (hr.mono^by cbv) (dv 0)^By (As (dv 1) AB)^By (As (dv 1) AB) AJ)^BD AO)
 (BG^EY^A4 hp A.cl_Keeper (JD A) (hr.mono^by cbv) (dv 0)^By (As (dv 1) AB)^By (As (dv 1) AB) AJ)))))) (@λss n Pd Pr h=>by
 let#[a,t,b,N,M,d,rfl,k,hv,p]:=h;have wa:=k.1.1;cases d with
 | dd d=>
  cases d with
  |come x=>
   refine#[_,AC (j:=0) rfl,?_];exact#[a,_,_,rfl,wa,by cbv,_,AC (j:=1) rfl,a,t,b,N,M,x,rfl,k,hv,p]
  |go x=>
   refine#[_,AC (j:=0) rfl,?_];refine#[_,AC (j:=0) rfl,?_];exact#[a,_,_,rfl,wa,by cbv,_,AC (j:=1) rfl,a,t,b,N,M,x,rfl,k,hv,p]
  |lay x y l=>
   refine#[_,AC (j:=0) rfl,?_];refine#[_,AC (j:=0) rfl,?_];refine#[_,AC (j:=0) rfl,?_];exact#[a,_,_,rfl,wa,by cbv,_,AC (j:=1) rfl,_,AC (j:=2) rfl,_,AC (j:=3) rfl,a,t,b,N,M,x,y,l,rfl,k,hv,p]
  |take x y=>
   refine#[_,AC (j:=0) rfl,?_];refine#[_,AC (j:=0) rfl,?_];refine#[_,AC (j:=0) rfl,?_];refine#[_,AC (j:=0) rfl,?_];exact#[a,_,_,rfl,wa,by cbv,_,AC (j:=1) rfl,_,AC (j:=2) rfl,a,t,b,N,M,x,y,rfl,k,hv,p]
 |far x y=>
  refine#[_,AC (j:=0) rfl,?_];refine#[_,AC (j:=0) rfl,?_];refine#[_,AC (j:=0) rfl,?_];refine#[_,AC (j:=0) rfl,?_];exact#[a,_,_,rfl,wa,by cbv,_,AC (j:=1) rfl,_,AC (j:=2) rfl,a,t,b,N,M,x,y,rfl,k,hv,p])
def Ku:A.Y "_law_sort" 1 ["_law_caught"] .sh Pq:=by
 let#[C_NoLine,U_NoLine,xc_NoLine,xm_NoLine]:=A.T.x_NoLine;let#[C_NoPaper,U_NoPaper,xc_NoPaper,xm_NoPaper]:=A.T.x_NoPaper;let#[C_NoPlace,U_NoPlace,xc_NoPlace,xm_NoPlace]:=A.T.x_NoPlace;let#[C_NoRow,U_NoRow,xc_NoRow,xm_NoRow]:=A.T.x_NoRow;let#[C_NoTie,U_NoTie,xc_NoTie,xm_NoTie]:=A.T.x_NoTie;let#[C_TooMany,U_TooMany,xc_TooMany,xm_TooMany]:=A.T.x_TooMany;let#[C_Twice,U_Twice,xc_Twice,xm_Twice]:=A.T.x_Twice;exact A.gk A.h0z ["_law_caught","_law_some"] (λT nd hr=>(AD (Ul 1 nd^BC^AA (FC (i:=0) (by cbv) xc_Twice rfl xm_Twice rfl T.Gaa)^AA (FC (i:=0) (by cbv) xc_TooMany rfl xm_TooMany rfl T.Gaa)^AA (FC (i:=0) (by cbv) xc_NoPlace rfl xm_NoPlace rfl T.Gaa) AG)
 (AD (Ul 1 nd^Au Ox KG (Ci 1)^BC^AA (FC (i:=0) (by cbv) xc_NoTie rfl xm_NoTie rfl T.Gaa)^AA (FC (i:=0) (by cbv) xc_NoLine rfl xm_NoLine rfl T.Gaa)^AA (FC (i:=0) (by cbv) xc_NoPaper rfl xm_NoPaper rfl T.Gaa) AG)
 (AD (Fc 1 QH YJ X7 Bl Ih (pv 1)^AA (FC (i:=0) (by cbv) xc_NoRow rfl xm_NoRow rfl T.Gaa) AG)
 (AD (Af (DTW.dt^Dz (BQ Jh Q2 (UH QH PySem.F.slot_list_count PySem.F.type_list_count (Yy hr) cU (Ci 1)^AN Fi AT) AB)^Cg^CF^C2 (Vy (i:=0) rfl T.Gam rfl T.Gaa)) (AE^AM AI) AO)
 (AE^AM^As (BC^AA AI^AA AI^AA AI^AA AI^AA AI^AA AI^AA AI AG)^UH QH PySem.F.slot_list_index PySem.F.type_list_index (Yx hr) cO (Ci 1)^AN Fi AT)))))) QC
def Iz:A.Y "_law_tried" 9 ["_law_keeper","_law_deed_here"] .sh^Ii C:=by
 let#[C_ThinError,xi_ThinError,xm_ThinError,xk_ThinError]:=A.T.x_ThinError;exact A.gk A.h10 ["_law_keeper","_law_deed_here","_law_caught","e"] (λ_ nd hr=>(AD (Dq 2 nd Bh)
 (AD (ZV rfl rfl (λ_ _ h=>h) (Tr^Ts (T5 (Kt A) (hr.mono^by cbv) rfl (CO 0^CO 1 AJ)))
 (Vs (i:=3) nd rfl rfl rfl xm_ThinError xk_ThinError (gx #[rfl,xi_ThinError]) rfl rfl (λa=>(AE (Tt (i:=3) (j:=2) nd rfl (gx rfl))))
 ZY))
 (AE^AM^Fh (ZT (i:=2)) AI^cg hr (Ku A)^AQ (cH 2) AJ)))) (@λss n Pd h=>by
 let#[a,t,b,N,M,d,rfl,k,hv,p]:=h;refine#[a,t,b,N,M,d,rfl,k,hv,Lp p (λhc x m q=>by rw[hc]at q;exact q) λc hc m q=>?_];rw[hc]at q;show if c="ThinError"\/("ThinError":Str)="ThinError" then _ else _
 rw[if_pos (.inr rfl)];intro e;exact#[e,c,[],[],rfl,Ly hc,q])
def MC:A.Y "_law_due" 2 ["_law_state","_law_deed_here"] .sh OG:=A.gk A.h11 ["_law_state","_law_deed_here","_law_places_here","_law_ties","_law_joined"] (λT nd hr=>(AD (Tx (AV^AA (Aj hr (dv 0) AI)^AA (Aj hr (dv 0) AI) AG)^cD^Ba (GH 2 nd)^Ba (GH 3 nd) Fe)
 (AD (Af (BQ A6 Bi (As (dv 1) AB) AI) (AD (Af (BQ (Kl hr) EL (As (dv 1) AB)^dv 2) (AE^AM AI) AO)
 (AE^AM^Fh (BQ A6 Bi (JI T.Gab^dv 2) AB) AI AI)) AO)
 (AD (Af (BQ (Ym hr) cM (Q9 ["_law_places_here","_law_name"] [P3 2,o_] (Be^Jv Rb Mr (dv 1) (Cs AB)^Cs AB) (λnq=>GH 1 nq) (Eb^BQ (B3 hr) EL (dv 1)^dv 0)^dv 1)^BC AG) (AE^AM AI) AO)
 (AD (Af (BQ (Kl hr) EL (As (dv 1) AB)^AV^AA AI^AA AI AG) (AE^AM AI) AO)
 (AD (Dq 4 nd^LJ (Sl hr) cJ (cg hr (FU A)^By (As (dv 1) AB)^By (As (dv 1) AB) AJ) (dv 3)^by with_unfolding_all rfl)
 (AD (Af (BQ A6 Bi (As (dv 1) AB) AI) (AE^AM^Fh (C2^dv 4) AI AI) AO)
 (AD (Af (BQ A6 Bi (As (dv 1) AB)^As (dv 1) AB) (AE^AM AI) AO)
 (AE^AM^Fh (DTW.dt^E_ (CF^C2^dv 4)^EX^BQ A6 Bi (Ac J1 UV rfl T.Gab PySem.boot_len (AN (dv 3) AT)) AB) AI AI))))))))) (@λss n Pd h=>by
 let#[N,ps,us,d,rfl,#[hp,hu,okn],hv,p]:=h;have l60:=okn.2.2;have lp:=hp.length_eq;have lu:=hu.length_eq;have nps:∀x∈ps,Bm x:=λx hx=>okn.1.names x^hp.mem_iff.mpr hx;have inP:∀x,x∈ps↔x∈N.ps:=λx=>hp.mem_iff.symm
 have key:∀(qs:r_ Str) (Q:r_ D->Sg->Prop),(∀q∈qs,Bm q)->Q ((qs.filter λx=>decide (x∉ps)).map .str) n->GW (Bz 1) (A9^BI (ZP p_) (AS 1)^AS 0) (AS 1) Q (qs.map .str) [] n [.sh^Iv ps,.no]:=λqs Q hq q=>by
  refine CA (λd=>!((ps.map D.str).any λy=>Dy y d)) id (λρ=>∃s,ρ=[.sh^Iv ps,s]) _ _ _ _ ?_ #[_,rfl] ?_
  .rintro d hd ρ m nx sk ⟨s,rfl⟩ h1 h2
   let#[x,hx,rfl]:=TM.mp hd;refine#[BK^hq x hx,Cr nps,_,rfl,?_];exact Dl (λc=>h1 _ #[_,rfl] c) λc=>h2 _ #[_,rfl]^iI.mpr c
  .rw[gj,kX,show(qs.map D.str).filter (λd=>!((ps.map D.str).any λy=>Dy y d))=(qs.filter λx=>decide (x∉ps)).map D.str by
    rw[kg]
    congr 1
    refine jI λx _=>?_;show(!((ps.map D.str).any λy=>Dy y^.str x))=decide (x∉ps);rw[HH,decide_not]]
   exact q
 have lay0:∀qs:r_ Str,(∀q∈qs,Bm q)->Bv^.lst^(qs.filter λx=>decide (x∉ps)).map .str:=λqs hq=>Cr λx hx=>hq x (gg.mp hx).1
 have two:∀x y:Str,decide ([x,y].filter (λx=>decide (x∉ps))=[])=decide (x∈N.ps/\y∈N.ps):=λx y=>by
  rw[decide_eq_decide,nW];constructor
  .intro h
   exact#[(inP x).mp^kd λz=>h x (by simp)^decide_eq_true z,(inP y).mp^kd λz=>h y (by simp)^decide_eq_true z]
  .rintro⟨h1,h2⟩ z hz
   rcases Tk.mp hz with rfl|hz
   .simp[(inP z).mpr h1]
   .rw[Re.mp hz];simp[(inP y).mpr h2]
 refine Jb ?_;refine Eh ?_;cases d with
 | dd d=>
  cases d with
  | come x=>
   have hv:Bm x:=hv;refine#[z2,rfl,rfl,_,AC (j:=0) rfl,?_];refine#[_,AC (j:=1) rfl,BK hv,Cr nps,_,rfl,?_];show if((ps.map D.str).any λy=>Dy y^.str x)=p_ then _ else _
   rw[HH]
   by_cases c:x∈N.ps
   .rw[show Ab N^.dd^.come x=P3 "Twice" from if_pos c]at p
    rw[decide_eq_true^(inP x).mpr c];exact BX p
   rw[decide_eq_false λz=>c^(inP x).mp z];refine BB #[_,_,rfl,rfl,?_];show if(((ps.map D.str).length:Int)==24)=p_ then _ else _
   rw[Ev]
   by_cases c2:N.ps.length=24
   .rw[show Ab N^.dd^.come x=P3 "TooMany" from(if_neg c).trans^if_pos c2]at p
    rw[show(((ps.length:Nat):Int)==24)=p_ from beq_iff_eq.mpr^by lk];exact BX p
   .rw[show Ab N^.dd^.come x=o_ from(if_neg c).trans^if_neg c2]at p
    rw[show(((ps.length:Nat):Int)==24)=q_ from beq_eq_false_iff_ne.mpr^by lk];exact BB p
  | go x=>
   have hv:Bm x:=hv;have h1:∀q∈[x],Bm q:=λq hq=>by rw[Re.mp hq];exact hv
   refine#[z2,rfl,rfl,_,AC (j:=0) rfl,?_];refine#[(by cbv:1<=10000000),key [x] _ h1 #[z0,lay0 [x] h1,O3,?_]];show if(!(Dy (.lst^([x].filter λx=>decide (x∉ps)).map .str)^.lst []))=p_ then _ else _
   rw[Fb]
   by_cases c:x∈N.ps
   .rw[show Ab N^.dd^.go x=o_ from if_pos c]at p
    rw[decide_eq_true (show [x].filter (λx=>decide (x∉ps))=[]from by simp[(inP x).mpr c])];exact BB #[_,AC (j:=0) rfl,z2,G5 (by decide +kernel),EQ,_,rfl,p]
   .rw[show Ab N^.dd^.go x=P3 "NoPlace" from if_neg c]at p
    rw[decide_eq_false (show ¬[x].filter (λx=>decide (x∉ps))=[]from by have c':x∉ps:=λz=>c^(inP x).mp z;simp[c'])];exact BX p
  | lay x y l=>
   have h1:∀q∈[x,y],Bm q:=λq hq=>by
    rcases Tk.mp hq with rfl|hq
    .exact hv.1.1
    .rw[Re.mp hq];exact hv.1.2
   refine#[z2,rfl,rfl,_,AC (j:=0) rfl,?_];refine#[(by cbv:2<=10000000),key [x,y] _ h1 #[z0,lay0 [x,y] h1,O3,?_]];show if(!(Dy (.lst^([x,y].filter λx=>decide (x∉ps)).map .str)^.lst []))=p_ then _ else _
   rw[Fb,two]
   by_cases c:x∈N.ps/\y∈N.ps
   .rw[decide_eq_true c]
    refine BB #[_,AC (j:=0) rfl,z2,G5 (by decide +kernel),EQ,_,rfl,?_];refine#[_,AC (j:=1) rfl,_,AC (j:=2) rfl,x,y,rfl,?_];refine#[_,_,_,rfl,rfl,?_];have eh:=W_ okn.1 hu x y;refine#[_,AC (j:=0) rfl,?_];refine#[_,AC (j:=1) rfl,_,AC (j:=2) rfl,?_];show if(x==y)=p_ then _ else _
    by_cases hne:x=y
    .rw[show Ab N^.dd^.lay x y l=P3 "NoTie" from(if_pos c).trans^if_pos hne]at p
     rw[beq_iff_eq.mpr hne];exact BX p
    rw[show(x==y)=q_ from beq_eq_false_iff_ne.mpr hne];refine BB ?_;show if(!(Bo (us.map tk) (us.map λu=>.int u.len) [.inr^lo x y,.inr^hi x y]).isSome)=p_ then _ else _
    rw[eh]
    by_cases h0:N.ts.filter^Ag x y=[]
    .rw[decide_eq_false λz=>z h0]
     refine BX #[_,_,rfl,by rw[Ev,Ev],?_];show if(((us.map tk).length:Int)==60)=p_ then _ else _
     rw[Ev]
     by_cases h6:N.ts.length=60
     .rw[show Ab N^.dd^.lay x y l=P3 "TooMany" from(if_pos c).trans^(if_neg hne).trans^if_pos #[h0,h6]]at p
      rw[show(((us.length:Nat):Int)==60)=p_ from beq_iff_eq.mpr^by lk];exact BX p
     .rw[show Ab N^.dd^.lay x y l=o_ from(if_pos c).trans^(if_neg hne).trans^if_neg λz=>h6 z.2]at p
      rw[show(((us.length:Nat):Int)==60)=q_ from beq_eq_false_iff_ne.mpr^by lk];exact BB p
    .rw[show Ab N^.dd^.lay x y l=o_ from(if_pos c).trans^(if_neg hne).trans^if_neg λz=>h0 z.1]at p
     rw[decide_eq_true h0];exact BB p
   .rw[show Ab N^.dd^.lay x y l=P3 "NoPlace" from if_neg c]at p
    rw[decide_eq_false c];exact BX p
  | take x y=>
   have h1:∀q∈[x,y],Bm q:=λq hq=>by
    rcases Tk.mp hq with rfl|hq
    .exact hv.1
    .rw[Re.mp hq];exact hv.2
   refine#[z2,rfl,rfl,_,AC (j:=0) rfl,?_];refine#[(by cbv:2<=10000000),key [x,y] _ h1 #[z0,lay0 [x,y] h1,O3,?_]];show if(!(Dy (.lst^([x,y].filter λx=>decide (x∉ps)).map .str)^.lst []))=p_ then _ else _
   rw[Fb,two]
   by_cases c:x∈N.ps/\y∈N.ps
   .rw[decide_eq_true c]
    refine BB #[_,AC (j:=0) rfl,z2,G5 (by decide +kernel),EQ,_,rfl,?_];refine#[_,AC (j:=1) rfl,_,AC (j:=2) rfl,x,y,rfl,?_];refine#[_,_,_,rfl,rfl,?_];refine#[_,AC (j:=0) rfl,?_];show if(Bo (us.map tk) (us.map λu=>.int u.len) [.inr^lo x y,.inr^hi x y]).isSome=p_ then _ else _
    rw[W_ okn.1 hu x y]
    by_cases h0:N.ts.filter^Ag x y=[]
    .rw[show Ab N^.dd^.take x y=P3 "NoTie" from(if_pos c).trans^if_pos h0]at p
     rw[decide_eq_false λz=>z h0];exact BB p
    .rw[show Ab N^.dd^.take x y=o_ from(if_pos c).trans^if_neg h0]at p
     rw[decide_eq_true h0];exact BX p
   .rw[show Ab N^.dd^.take x y=P3 "NoPlace" from if_neg c]at p
    rw[decide_eq_false c];exact BX p
 | far x y=>
  have h1:∀q∈[x,y],Bm q:=λq hq=>by
   rcases Tk.mp hq with rfl|hq
   .exact hv.1
   .rw[Re.mp hq];exact hv.2
  refine#[z2,rfl,rfl,_,AC (j:=0) rfl,?_];refine#[(by cbv:2<=10000000),key [x,y] _ h1 #[z0,lay0 [x,y] h1,O3,?_]];show if(!(Dy (.lst^([x,y].filter λx=>decide (x∉ps)).map .str)^.lst []))=p_ then _ else _
  rw[Fb,two]
  by_cases c:x∈N.ps/\y∈N.ps
  .rw[show Ab N^.far x y=o_ from if_pos c]at p
   rw[decide_eq_true c];exact BB #[_,AC (j:=0) rfl,z2,G5 (by decide +kernel),EQ,_,rfl,p]
  .rw[show Ab N^.far x y=P3 "NoPlace" from if_neg c]at p
   rw[decide_eq_false c];exact BX p)
def JA:A.Y "_law_begun" 8 ["_law_feed_here","_law_times_here","_law_way"] .sh^Im C:=A.gk A.h12 ["_law_feed_here","_law_times_here","_law_way","_law_places_here","_law_pairs","_law_a","_law_at","_law_lines","_law_state","_law_k"] (λT nd hr=>(AD (Dq 3 nd^cg hr (Ho A)^AQ (Bb 0)^By (As (BC^AA AB^AA AB^AA AB AG)^dv 2) AJ)
 (AD (Ul 4 nd^BC AG)
 (AD (FA iL rfl (DV rfl T.Gah (AN (JI T.Gab^dv 3) AT)) (GH 5 nd) (AE^Fc 4 QH PySem.F.slot_list_extend PySem.F.type_list_extend Jl Xc (pv 4)^AA (Q9 ["_law_places_here","_law_a","_law_b"] [P3 3,P3 5,o_] (DI.c (Qu rfl T.Gah (AN (Au Ae Av (dv 5) AB)^AN (JI T.Gab^dv 3) AT))) (λnq=>GH 2 nq) CN^AV^AA (As (dv 0)^dv 1)^AA (As (dv 0)^dv 2) AG) AG))
 (AD (Dq 6 nd^cg hr (BV A)^AQ (Bb 0)^By AB AJ)
 (AD (Ul 4 nd^Jv sl_list cL (Ci 4) (Cs^dv 6)^Cs^Au Ae Av (dv 6)^As (BC^AA AB^AA AB^AA AB AG)^dv 2)
 (AD (Tu (i:=7) nd rfl (gx rfl) rfl [("_law_name":Str)] [o_] (Be^dv 3) (λ_ _ _ _ _=>(HA (i:=0) (show List.Nodup [("_law_name":Str)] by decide +kernel) rfl (gx rfl))) (λ_ _ _ _ _=>CN) (λ_ _ _ _ _=>(Au Ae Av AI^dv 0)) (by kernel_rfl))
 (AD (Fc 7 QH PySem.F.slot_list_extend PySem.F.type_list_extend Jl Xc (pv 7)^AA (Q9 ["_law_pairs","_law_k"] [P3 4,o_] (DI.c (DV rfl T.Gah (AN (JI T.Gab^Ci 4) AT))) (λnq=>GH 1 nq) CN^Au Ae Av (Au Ae Av (Au Ae Av (Au Ae Av (Au Ae Av AI^As (As (Ci 0)^dv 1) AB) AI)^As (As (Ci 0)^dv 1) AB) AI) (CQ J0 US rfl T.Gal boot_str (AN (Au Ae Av AB^Au Cy Ig (dv 1) AB) AT))) AG)
 (AD (Dq 8 nd^UC (HF (CQ Fk WG rfl T.Gan boot_list (AN (dv 3) AT)))^HF UB)
 (AD (FA iL rfl (DV rfl T.Gah (AN (JI T.Gab^Ci 4) AT)) (GH 9 nd) (AE^PP hr (Aj hr (dv 8) AI) (As (Ci 4)^dv 9)^Au Ae Av AB^Au Cy Ig (dv 9) AB))
 (AE^AM^AV^AA (cg hr (L9 A)^AQ (CC^Ci 7)^CO 1 AJ)^AA (dv 8) AG))))))))))) (@λss n Pd h=>by
 let#[t,b,w,rfl,w0,w2,tm,hn,p]:=h;have szl:=PySem.sizeLine_eq
 obtain⟨m,em,lm,hw2⟩:∃m:Nat,atI [D.int 5,.int 24,.int 12] w=P3^.int (m:Int)/\m<=24/\(w=2->m=12):=by
  rcases(show w=0\/w=1\/w=2 by lk)with rfl|rfl|rfl
  .exact#[5,rfl,by cbv,λz=>by lk]
  .exact#[24,rfl,by cbv,λz=>by lk]
  .exact#[12,rfl,by cbv,λ_=>rfl]
 obtain⟨K,eK,lK⟩:∃K:Nat,atI [D.int 3,.int 5,.int 60] w=P3^.int (K:Int)/\K<=60:=by
  rcases(show w=0\/w=1\/w=2 by lk)with rfl|rfl|rfl
  .exact#[3,rfl,by cbv]
  .exact#[5,rfl,by cbv]
  .exact#[60,rfl,by cbv]
 refine#[z3,_,em,m,rfl,by lk,by lk,λxs lx hx hr=>#[z0,?_]];have xl:(xs.map D.str).length=xs.length:=Ev ..;refine#[_,_,rfl,rfl,_,rfl,#[by lk,by lk],?_];refine DK (all:=DC 0 ((xs.map D.str).length:Int).toNat) (λpre m' ρ=>∃(ps:r_ Px) (s5:Slot),m'=n - 2/\ρ=[.fd,.sh^tD t b,.sh^.int w,.sh^.tup^xs.map .str,.ow^.lst^ps.map E9,s5,.no,.no,.no,.no]/\Prs xs ps/\(∀p∈ps,p.1∈xs.take pre.length)/\ps.length<=24*pre.length) ?_ ?_ _ [] _ _ rfl #[[],_,rfl,rfl,#[(λp hp=>by cases hp),.nil],(λp hp=>by cases hp),gK _]
 .rintro m' ρ ⟨ps,s5,rfl,rfl,hps,_,lps⟩
  rw[DB]at lps;refine#[7,rfl,by cbv,by cbv,(by show 1<=n.n - 2;lk),λat' a0 a7=>?_];obtain⟨A,rfl⟩:∃A:Nat,at'=(A:Int):=#[at'.toNat,by lk];refine#[z3,_,eK,?_];show ao C (EE Pd) (n - 2 - 1) [.fd,.sh^tD t b,.sh^.int w,.sh^.tup^xs.map .str,.ow^.lst^Dp.cutD (ps.map E9) (P3 (A:Int))^P3 ((A:Int)+(K:Int)),s5,.sh^.int (A:Int),.no,.no,.no];have lc:=V6 (ps.map E9) A K;rw[V5]at lc ⊢;have hq:=hps.sub^V4 ps (P3 (A:Int))^P3 ((A:Int)+(K:Int));generalize Dp.cutD ps (P3 (A:Int))^P3 ((A:Int)+(K:Int))=qs at hq lc ⊢;rw[Ev]at lc;have ok:=hq.ok hx hr;have okN0:okN #[xs,Cj qs]:=#[ok,by show xs.length<=25;lk,by show(Cj qs).length<=60;rw[Fz];lk];have ql:(qs.map E9).length=qs.length:=Ev ..;unfold ao;refine#[by show(xs.map D.str).length<=10000000;rw[Ev];lk,?_];refine BN dk (λρ=>∃s1,ρ=[s1]) _ _ _ _ ?_ #[_,rfl] ?_
  .rintro d hd ρ n' nx ⟨s1,rfl⟩ hnx
   let#[x,hxm,rfl]:=TM.mp hd;have fin:=hnx [.sh^.str x] #[_,rfl];rw[show dk^.str x=.str^GY x from rfl,←S7]at fin;exact#[Qh^hx x hxm,fin]
  refine#[_,rfl,rfl,_,_,rfl,rfl,((qs.map E9).length:Int),rfl,#[by lk,by lk],by rw[DB];lk,?_];refine BN (Y2 qs) (λρ=>∃s1,ρ=[.br^.lst^qs.map E9,s1]) _ _ _ _ ?_ #[_,rfl] ?_
  .rintro d hd ρ n' nx ⟨s1,rfl⟩ hnx
   let#[k,hk,rfl]:=Hb hd;have hk:k<qs.length:=by lk
   have hT:Lo^D5 qs k:=Sn ok^iU^OO hk;have et:=HR hk;let#[ha,hb,_,h1,h2]:=hT;have la:=K0 ha;have lb:=K0 hb;have ln:=Kz h1 h2;have fin:=hnx [.br^.lst^qs.map E9,.sh^.int (0+(k:Int))] #[_,rfl];rw[show Y2 qs^.int (0+(k:Int))=.str (Dw^D5 qs k) by show D.str^Dw^D5 qs (0+(k:Int)).toNat=_;rw[show(0+(k:Int)).toNat=k by lk],←P6]at fin;have el:1+(0+(k:Int)) % 5=(D5 qs k).len:=by show 1+(0+(k:Int)) % 5=1+((k % 5:Nat):Int);lk
   have e0:atI [D.str qs[k].1,.str qs[k].2] ((0:Nat):Int)=P3^.str (D5 qs k).a:=by rw[et];rfl
   have e1:atI [D.str qs[k].1,.str qs[k].2] ((1:Nat):Int)=P3^.str (D5 qs k).b:=by rw[et];rfl
   generalize D5 qs k=u at ha hb h1 h2 la lb ln fin el e0 e1;have k1:("tie ":Str).length=4:=by decide +kernel
   have k2:sp.length=1:=by decide +kernel
   have l1:(("tie ":Str)++u.a).length=4+u.a.length:=by rw[len_app,k1]
   have l2:(("tie ":Str)++u.a++sp).length=4+u.a.length+1:=by rw[len_app,l1,k2]
   have l3:(("tie ":Str)++u.a++sp++u.b).length=4+u.a.length+1+u.b.length:=by rw[len_app,l2]
   have l4:(("tie ":Str)++u.a++sp++u.b++sp).length=4+u.a.length+1+u.b.length+1:=by rw[len_app,l3,k2]
   have k2':(" ":Str).length=1:=k2;have ln':(g_^toString u.len).length<=7:=ln;refine#[_,Nw hk,_,e0,by rw[k1];lk,by rw[l1,k2'];lk,_,Nw hk,_,e1,by show(("tie ":Str)++u.a++sp).length+_<=_;rw[l2];lk,by show(("tie ":Str)++u.a++sp++u.b).length+_<=_;rw[l3,k2'];lk,by show(0:Int)<5;decide,?_];rw[←el]at h1 h2 ln' fin;exact#[Oz h1 h2,by rw[szl];lk,by show(("tie ":Str)++u.a++sp++u.b++sp).length+_<=_;rw[l4];lk,fin]
  have e:(Nt.linesOf #[xs,Cj qs]).map D.str=([]++(xs.map D.str).map dk)++([]++(DC 0 ((qs.map E9).length:Int).toNat).map^Y2 qs):=by
   unfold Nt.linesOf Cj DC;rw[gR,h7,h7,h7,h7,h7,gj,gj,ql]
   congr 1
   refine iN λk _=>?_;show D.str^Dw^D5 qs k=D.str^Dw^D5 qs (0+(k:Int)).toNat;rw[show(0+(k:Int)).toNat=k by lk]
  refine#[_,_,rfl,rfl,?_,?_]
  .rw[←gD,←e,Ev]
   unfold Nt.linesOf;rw[gD,Ev,Ev];show xs.length+(Cj qs).length<=sizeLine;rw[Fz];lk
  rw[←e];refine#[Eu xs,λl hl=>#[rfl,λu hu=>?_]];have lu:l≠u:=Hy (Bs ..) hu;generalize en1:((n - 2 - 1).put l^.pl^.lst^xs.map .str).put u^.pl^.dit [] []=n1;have n1n:n1.n=n.n - 2 - 1:=by rw[←en1];rfl
  have w1:n1.w l=P3^.pl^Iv xs:=by rw[←en1];exact(A2 lu).trans (Bs ..)
  have w2':n1.w u=P3^.pl^FI []:=by rw[←en1];exact Bs ..
  refine#[_,_,rfl,rfl,((qs.map E9).length:Int),rfl,#[by lk,by lk],?_];refine DK (all:=DC 0 ((qs.map E9).length:Int).toNat) (λpre m' ρ=>∃s9:Slot,m'.n=n1.n/\m'.w l=P3^.pl^Iv xs/\m'.w u=P3^.pl^FI^(Cj qs).take pre.length/\ρ=[.fd,.sh^tD t b,.sh^.int w,.sh^.tup^xs.map .str,.ow^.lst^qs.map E9,s5,.sh^.int (A:Int),.ow^.lst^(Nt.linesOf #[xs,Cj qs]).map .str,.sh^Gq (.ob l)^.ob u,s9]) ?_ ?_ _ [] _ _ rfl #[_,rfl,w1,w2',rfl]
  .rintro m' ρ ⟨s9,mn,v1,v2,rfl⟩
   rw[DB,show((qs.map E9).length:Int).toNat=(Cj qs).length by rw[Fz];lk,lL]at v2;refine#[t,b,#[xs,Cj qs],rfl,okN0,by show xs.length<=24;lk,tm,λa T n' hT ha nn' wa oth=>#[z2,?_]];have la:l≠a:=Hy v1 ha;have ua:u≠a:=Hy v2 ha;exact p a l u #[xs,Cj qs] T xs (Cj qs) n' (by lk) #[wa,okN0,hT.okN okN0,tm] hT ((oth l^by rw[v1];exact λz=>by cases z).trans v1) ((oth u^by rw[v2];exact λz=>by cases z).trans v2) la.symm ua.symm lu #[.refl _,.refl _,okN0] (by show xs.length<=24;lk) λz=>by rw[lx];exact hw2 z
  .rintro pre d post m' ρ nx hall ⟨s9,mn,v1,v2,rfl⟩ hnx
   let#[rfl,hk]:=KY hall;rw[gD,gu]at hnx;generalize pre.length=i at hk hnx v2 ⊢;have hk:i<qs.length:=by lk
   have ht:=OO hk;have et:=HR hk;refine#[by show(0:Int)<5;decide,rfl,?_];refine Eh ?_;have tl:((Cj qs).take i).length<=60:=by rw[iT,Fz];lk
   refine#[_,Nw hk,u,tk^D5 qs i,_,_,rfl,by rw[et];rfl,v2,by rw[Ev];lk,?_]
   have nk:tk^D5 qs i∉((Cj qs).take i).map tk:=λz=>by
    have nd:=ND ok;have e2:=B9 ht;have s2:((Cj qs).take (i+1)).Sublist^Cj qs:=k9 _ _;have nd2:=(s2.map tk).nodup nd;rw[e2,gR,ic]at nd2;exact nd2.2.2 _ z _ (Re.mpr rfl) rfl
   have el:1+(0+(i:Int)) % 5=(D5 qs i).len:=by show 1+(0+(i:Int)) % 5=1+((i % 5:Nat):Int);lk
   refine hnx _ _ #[_,mn,(A2 lu).trans v1,(Bs ..).trans ?_,rfl];rw[el,U8 nk,B9 ht]
 .rintro pre d post m' ρ nx hall ⟨ps,s5,rfl,rfl,hps,hpt,lps⟩ hnx
  let#[rfl,hk]:=KY hall;rw[gD,gu]at hnx;generalize pre.length=i at hk hnx hpt lps ⊢;have hk:i<xs.length:=by lk
  have ex:xs[i]?=P3 xs[i]:=Go hk;have eat:atI (xs.map D.str) (0+(i:Int))=P3 (.str xs[i]):=by rw[ko];exact AC^by rw[UF,ex];rfl
  generalize xs[i]=x at ex eat
  refine#[_,rfl,rfl,_,_,rfl,rfl,(0+(i:Int))+1,((xs.map D.str).length:Int),rfl,#[by lk,by lk,by lk,by lk],by rw[DB];lk,?_];rw[xl,ko];rw[ko]at eat
  refine BN (Yc xs x) (λρ=>∃s1,ρ=[.sh^.tup^xs.map .str,.sh^.int (i:Int),s1]) _ _ _ _ ?_ #[_,rfl] ?_
  .rintro d hd ρ n' nx' ⟨s1,rfl⟩ hnx'
   let#[k,hk2,rfl]:=Hb hd;have hk3:i+1+k<xs.length:=by lk
   have:=hnx' [.sh^.tup^xs.map .str,.sh^.int (i:Int),.sh^.int ((i:Int)+1+(k:Int))] #[_,rfl]
   rw[show Yc xs x^.int ((i:Int)+1+(k:Int))=.tup [.str x,.str xs[i+1+k]] by
    show D.tup [.str x,.str^xs.getD ((i:Int)+1+(k:Int)).toNat ""]=_;rw[show((i:Int)+1+(k:Int)).toNat=i+1+k by lk,gF,Go hk3];rfl]at this
   refine#[_,eat,_,?_,z2,this];have e:=AC (xs:=xs.map D.str) (j:=i+1+k) (v:=.str xs[i+1+k])^by rw[UF,Go hk3];rfl
   rwa[show(((i+1+k:Nat)):Int)=(i:Int)+1+(k:Int) by lk]at e
  let#[q1,q2]:=hps.next hr ex hpt;rw[gj,Rk];have dl:((xs.drop (i+1)).map λy=>(x,y)).length<=24:=by rw[Ev,m8];lk
  refine#[_,_,rfl,rfl,by rw[Ev,Ev];lk,?_];refine hnx _ _ #[ps++(xs.drop (i+1)).map λy=>(x,y),.sh^.int (i:Int),rfl,?_,q1,q2,by rw[gD];lk];rw[gR];rfl)
def Kw:A.Y "_law_deed" 2 ["_law_feed_here","_law_state","_law_pool"] .sh LX:=have oJ:=BV A;A.gk A.h13 ["_law_feed_here","_law_state","_law_pool","_law_some","_law_a","_law_b","_law_way","_law_pair_here"] (λT nd hr=>(AD (Dq 3 nd^Au Ae Av (Aj hr (dv 1) AI)^BC^AA (As (dv 2)^cg hr oJ^AQ (Bb 0)^By AB AJ) AG)
 (AD (Dq 4 nd^As (dv 3)^cg hr oJ^AQ (Bb 0)^By (JI T.Gab^dv 3) AJ)
 (AD (Dq 5 nd^As (dv 3)^cg hr oJ^AQ (Bb 0)^By (JI T.Gab^dv 3) AJ)
 (AD (Dq 6 nd^cg hr oJ^AQ (Bb 0)^By AB AJ)
 (AD (Af (BQ (D_ hr) Gj (dv 6) AB) (AE^AM^AV^AA AI^AA (As (dv 2)^cg hr oJ^AQ (Bb 0)^By AB AJ) AG) AO)
 (AD (Af (BQ A6 Bi (dv 6) AB) (AE^AM^AV^AA AI^AA (dv 4) AG) AO)
 (AD (Af (BQ A6 Bi (dv 6) AB) (AE^AM^AV^AA AI^AA (dv 4)^AA (dv 5) AG) AO)
 (AD (Af (DTW.dt^E_ (BQ (D_ hr) Gj (dv 6) AB)^E_ (BQ (Yn hr) cN (Aj hr (dv 1) AI) UE)^EX^BQ A6 Bi (cg hr oJ^AQ (Bb 0)^By AB AJ) AB) (AD (Dq 7 nd^As (Ac (IT rfl) Pl rfl T.Gag kW (AN (Aj hr (dv 1) AI) AT))^cg hr oJ^AQ (Bb 0)^By (Ac J1 UV rfl T.Gab PySem.boot_len (AN (Aj hr (dv 1) AI) AT)) AJ)
 (AE^AM^As (BC^AA (AV^AA AI^AA (As (dv 7) AB)^AA (As (dv 7) AB) AG)^AA (AV^AA AI^AA (As (dv 7) AB)^AA (As (dv 7) AB)^AA (Au Ae Av AB^cg hr oJ^AQ (Bb 0)^By AB AJ) AG) AG)^Au VJ Zj (dv 6) AB)) AO)
 (AE^AM^Fh (BQ A6 Bi (dv 6) AB) (AV^AA AI^AA (dv 4)^AA (dv 5) AG)^AV^AA AI^AA (dv 4)^AA (dv 5)^AA (Au Ae Av AB^cg hr oJ^AQ (Bb 0)^By AB AJ) AG)))))))))) (@λss n Pd h=>by
 let#[N,ps,us,rfl,#[hp,hu,okn],hn,p]:=h;have l25:=okn.2.1;have l60:=okn.2.2;have lp:=hp.length_eq;have lu:=hu.length_eq;have szl:=PySem.sizeLine_eq;have nps:∀x∈ps,Bm x:=λx hx=>okn.1.names x^hp.mem_iff.mpr hx;refine Jb ?_;refine#[26,rfl,by cbv,by cbv,by lk,λr0 r00 r01=>?_];let#[w,nw,ew]:=RC r00 r01;refine#[_,ew,aD,by rw[Ev];show ps.length+1<=sizeLine;lk,?_];have ll:(ps.map D.str++[D.str w]).length=ps.length+1:=by rw[gD,Ev];rfl
 have nm:∀r:Int,0<=r->r<((ps.length+1:Nat):Int)->∃x,Bm x/\atI (ps.map D.str++[D.str w]) r=P3^.str x:=λr h0 h1=>by
  let#[x,hx,ex,_]:=Jj (xs:=ps++[w]) h0 (by rw[gD];exact h1);rw[gR]at ex;refine#[x,?_,ex]
  rcases gM.mp hx with z|z
  .exact nps x z
  .rw[Re.mp z];exact nw
 refine#[_,_,rfl,rfl,((ps.map D.str++[D.str w]).length:Int),rfl,by rw[ll];lk,by rw[ll];lk,(by show 1<=n.n - 1;lk),λra a0 a1=>?_];rw[ll]at a1;let#[a,na,ea]:=nm ra a0 a1;refine#[_,ea,?_];refine#[_,_,rfl,rfl,((ps.map D.str++[D.str w]).length:Int),rfl,by rw[ll];lk,by rw[ll];lk,(by show 1<=n.n - 1 - 1;lk),λrb b0 b1=>?_];rw[ll]at b1;let#[b,nb,eb]:=nm rb b0 b1;refine#[_,eb,?_];refine#[9,rfl,by cbv,by cbv,(by show 1<=n.n - 1 - 1 - 1;lk),λway w0 w9=>?_];generalize ps.map D.str++[D.str w]=SM;show if decide (way<2)=p_ then _ else _
 refine Dl (λ_=>?_) λc2=>?_
 .refine#[26,rfl,by cbv,by cbv,(by show 1<=n.n - 1 - 1 - 1 - 1;lk),λr r0 r1=>?_]
  let#[v,nv,ev]:=RC r0 r1;exact#[_,ev,z2,p (.dd^.come v) (n.n - 1 - 1 - 1 - 1 - 1) nv^by lk]
 have c2:=of_decide_eq_false^iI.mpr c2;show if(way==2)=p_ then _ else _
 refine Dl (λ_=>#[z2,p (.dd^.go a) (n.n - 1 - 1 - 1 - 1) na^by lk]) λc3=>?_;have c3:way≠2:=λz=>c3^beq_iff_eq.mpr z;show if(way==3)=p_ then _ else _
 refine Dl (λ_=>#[z3,p (.far a b) (n.n - 1 - 1 - 1 - 1) #[na,nb]^by lk]) λc4=>?_;have c4:way≠3:=λz=>c4^beq_iff_eq.mpr z
 have rest:∀m:Nat,n.n<=m+5->1<=m->(DX^dP (A9^BI (LB q_) (AS 6)^wC^D.int 6) (Ee^AL (wC^D.str "take")^AL (AS 4)^AL (AS 5) Ap)^Ee^AL (wC^D.str "lay")^AL (AS 4)^AL (AS 5)^AL (BI Ce (wC^D.int 1)^BE Fq^AR (Ck 0)^AR (Am^wC^D.int 9) Al) Ap) (EE Pd) #[m,n.w] [.fd,.sh^Gq (Iv ps)^FI us,.sh^.lst^words26.map .str,.sh^.lst SM,.sh^.str a,.sh^.str b,.sh^.int way,.no]:=λm hm m1=>by
  show if(way==6)=p_ then _ else _
  refine Dl (λ_=>#[z3,p (.dd^.take a b) m #[na,nb]^by lk]) λ_=>?_;exact#[9,rfl,by cbv,by cbv,m1,λr r0 r1=>#[(by cbv:4<=sizeLine),p (.dd^.lay a b (1+r)) (m - 1) #[#[na,nb],by lk,by lk]^by lk]]
 show if decide (way<6)=p_ then _ else _
 refine Dl (λc6=>?_) λ_=>rest (n.n - 1 - 1 - 1 - 1) (by lk) (by lk);have c6:=of_decide_eq_true c6;refine Eh ?_;refine#[_,_,rfl,by rw[Ev,Ev],rfl,?_];show if(!decide ((us.map tk).length=0))=p_ then _ else _
 rw[Ev]
 by_cases e0:us.length=0
 .rw[decide_eq_true e0];exact BB^rest (n.n - 1 - 1 - 1 - 1) (by lk)^by lk
 rw[decide_eq_false e0];refine BX #[2,rfl,by cbv,by cbv,(by show 1<=n.n - 1 - 1 - 1 - 1;lk),λq q0 q1=>?_];show if(q==0)=p_ then _ else _
 refine Dl (λ_=>?_) λ_=>rest (n.n - 1 - 1 - 1 - 1 - 1) (by lk) (by lk);let#[s1,s2,s3,s4]:=RZ okn hu;refine Eh ?_;refine#[_,_,rfl,s1,s2,s3,s4,Tb okn.1 hu,λks' h3 h4=>?_];have ek:=Ln okn.1 hu h3 h4;subst ek;refine Eh ?_;refine#[_,_,rfl,by rw[Ev,Ev],((us.map tk).length:Int),rfl,by rw[Ev];lk,by rw[Ev];lk,(by show 1<=n.n - 1 - 1 - 1 - 1 - 1;lk),λr r0 r1=>?_];rw[Ev]at r1;have hr:r.toNat<N.ts.length:=by lk
 refine#[tupK (tk N.ts[r.toNat]),?_,?_]
 .have:=AC (xs:=(N.ts.map tk).map tupK) (j:=r.toNat) (v:=tupK (tk N.ts[r.toNat]))^by rw[UF,UF,Go hr];rfl
  rwa[show((r.toNat:Nat):Int)=r by lk]at this
 have hm:N.ts[r.toNat]∈N.ts:=iE _;generalize N.ts[r.toNat]=u at hm;let#[m1,m2,_]:=okn.1.tin u hm;have n1:=okn.1.names _ m1;have n2:=okn.1.names _ m2;refine#[_,AC (j:=1) rfl,_,AC (j:=0) rfl,z3,_,AC (j:=1) rfl,_,AC (j:=0) rfl,9,rfl,by cbv,by cbv,(by show 1<=n.n - 1 - 1 - 1 - 1 - 1 - 1;lk),λv v0 v1=>#[(by cbv:4<=sizeLine),z2,?_]]
 rcases(show way=4\/way=5 by lk)with rfl|rfl
 .exact#[_,AC (j:=0) rfl,p (.dd^.take u.b u.a) (n.n - 1 - 1 - 1 - 1 - 1 - 1 - 1) #[n2,n1]^by lk]
 .exact#[_,AC (j:=1) rfl,p (.dd^.lay u.b u.a (1+v)) (n.n - 1 - 1 - 1 - 1 - 1 - 1 - 1) #[#[n2,n1],by lk,by lk]^by lk])
def JB:A.Z "net" 1 ["self"] .sh^FG C:=A.gm A.h1f ["self"] (λ_ _ hr=>(AE^AM^BH A.cl_Keeper A.na_Keeper_whole^dv 0)) (@λss n Pd h=>by
 let#[a,t,b,N,M,rfl,hw,p]:=h;exact#[a,_,_,_,rfl,hw,rfl,p])
def Hr:A.Z "thin" 1 ["self"] .sh^Ik C:=A.gm A.h1g ["self"] (λ_ _ hr=>(AE^AM^BH A.cl_Keeper A.na_Keeper_kept^dv 0)) (@λss n Pd h=>by
 let#[a,t,b,N,M,rfl,hw,p]:=h;exact#[a,_,_,_,rfl,hw,rfl,p])
end
section
variable {P:Program}{w:World}{K:Frag}{mg:Str->s_ Value}{base:Heap}
def KU:A8 ["_law_script"] ["_law_script"]^AK D8:=by constructor <;>first|rfl|decide +kernel
def Kv{f:Ch}{fd:gp}(T:Txt K mg)(F:Fun K "_law_feed" "_law_feed" D8 f fd):FnOk P w K mg base Eo 1 f fd ["_law_script"]^KQ K:=by
 refine F.ok KU (λvs H Q E h=>?_) λcdv A outer s H vs Q E hr h=>?_
 .let#[a,ns,rfl,_]:=h
  rfl
 .let#[a,ns,rfl,#[hl,hS],q]:=h
  refine#[_,CM^D9^Kj^Aw (F5 Fk rfl T.Gan boot_list (Aw (L7 sl_list (pv 0) Om^Ol Ah) Bt))^Aw Ah^Aw Ah Bt,?_];refine#[_,rfl,63,rfl,a,_,rfl,hS,λp hp=>#[p,_,rfl,.inl^SqL.of AH,λc hc=>#[by show 3<=sizeLine;decide,λg hg=>?_]]];rw[cI hl]at hg ⊢;have ncg:c≠g:=λz=>by rw[←z,AH]at hg;cases hg
  exact q c g _ ncg (by rw[AF ncg,AH]) AH
def oK:A8 ["_law_script","_law_feed_here","_law_times_here","_law_way","_law_keeper","_law_state","_law_k","_law_deed_here","_law_place","_law_ahead","_law_due_here"] ["_law_script"]^AK HZ:=by walk_at "s"
def Yt{h:gA}{C_Keeper f ff:Ch}{fd fdf:gp}(A:Ctx P w K mg base h C_Keeper)(Gf:FnOk P w K mg base Eo 1 ff fdf ["_law_script"]^KQ K)(mf:mg "_law_feed"=P3^.ref ff)(kf:keepIn K^.ref ff=p_)(bf:Binds K fdf ["_law_script"] [])(F:Fun K "law" "law" HZ f fd):FnOk P w K mg base Eo 10 f fd ["_law_script"]^Lw K:=by
 have oM:=JB A;have oN:=Hr A;have oO:=JA A;have oP:=Kw A;have oQ:=Nb A;have oR:=MC A;have oS:=Ej A;have oU:=Hq A;have oJ:=BV A;have oV:=I_ A;have oW:=Iz A;have T:=A.T
 exact bj (n0:=3000) F oK rfl (by cbv) (λcdv A0 outer s H E hr=>Cw (i:=1) oK.nd rfl (gx rfl) (G3 Gf (hr.mono^by cbv) rfl mf kf bf .nil FS (Aw (pv 0) Bt)))
  (λcdv A0 outer s H E hr=>(AD (Dq 2 oK.nd^cg hr oV^AQ (Bb 1) AJ)
 (AD (Dq 3 oK.nd^As (BC^AA AB^AA AB^AA AB^AA AB AG)^cg hr oJ^AQ (Bb 1)^By AB AJ)
 (AD (Af (BQ A6 Bi (cg hr oJ^AQ (Bb 1)^By AB AJ) AB) (AE^Dq 3 oK.nd AB) AO)
 (AD (Tx (cg hr oO^AQ (Bb 1)^CO 2^CO 3 AJ)^cD^Ba (GH 4 oK.nd)^Ba (GH 5 oK.nd) Fe)
 (AD (FA iL rfl (DV rfl T.Gah (AN (As (BC^AA (Au Ae Av AB^cg hr oJ^AQ (Bb 1)^By AB AJ)^AA AB^AA AB AG)^dv 3) AT)) (GH 6 oK.nd) (AD (Dq 7 oK.nd (IN oP (hr.mono^by cbv) rfl (AQ (Bb 1)^CO 5^By (Jw oS (hr.mono^by cbv) rfl) AJ)))
 (AD (Af (DTW.dt^E_ (BQ A6 Bi (dv 3) AB)^EX^BQ (D_ hr) Gj (dv 6) AB) (AD (Dq 8 oK.nd^Zc (Aj hr (dv 5) AI)^cg hr oJ^AQ (Bb 1)^By AB AJ)
 (AE^Dq 7 oK.nd^As (BC^AA (AV^AA AI^AA (dv 8)^AA (dv 8)^AA AB AG)^AA (AV^AA AI^AA (dv 8)^AA (dv 8) AG) AG)^dv 6)) AO)
 (AD (Dq 9 oK.nd (Ac (Ec hr) LS rfl T.Gaj boot_repr (AN (AV^AA (EI A.cl_Keeper oM (hr.mono^by cbv)^dv 4)^AA (EI A.cl_Keeper oN (hr.mono^by cbv)^dv 4) AG) AT)))
 (AD (Dq 10 oK.nd (IN oR (hr.mono^by cbv) rfl (CO 5^CO 7 AJ)))
 (AD (Af (BQ Jh Q2 (cg hr oW^CO 4^CO 7 AJ)^dv 10) (AE^AM Fi) AO)
 (AD (Af (DTW.dt^E_ (BQ A6 Bi (dv 10) AI)^EX^BQ Jh Q2 (As (dv 7) AB) AI) (AE^EZ^cg hr oQ^CO 5^CO 7 AJ)^AE^Af (BQ Jh Q2 (Ac (Ec hr) LS rfl T.Gaj boot_repr (AN (AV^AA (EI A.cl_Keeper oM (hr.mono^by cbv)^dv 4)^AA (EI A.cl_Keeper oN (hr.mono^by cbv)^dv 4) AG) AT))^dv 9) (AE^AM Fi) AO)
 (AE^Af (BQ Jh Q2 (Ac (Ec hr) LS rfl T.Gaj boot_repr (AN (EI A.cl_Keeper oM (hr.mono^by cbv)^dv 4) AT)) (Ac (Ec hr) LS rfl T.Gaj boot_repr (AN (IN oU (hr.mono^by cbv) rfl (CO 5 AJ)) AT))) (AE^AM Fi) AO))))))))
 (AE^AM Fi))))))) (NN^by cbv)
end
local macro_rules|`(tactic|walk_at "B")=>`(tactic|(intro _ _ _ _ _ _;exact fN λ_=>rfl))
def all_mk{l:PySem.W.OpenLaw}{w:gJ}{K:Frag}{h:gA}{mg:Str->s_ Db}{fa C_Keeper:Ch}(hfa:mg "law"=P3^.ref fa)(A:C0 K mg h C_Keeper):∃fd:gp,(∀(s:No) (v:Db),mz s fd #[[v],[]] [("_law_script",v)])/\∀base:gA,K.In base->base.Ns mainGlobals mg->FnOk l.prog w K mg base Eo 10 fa fd ["_law_script"]^Lw K:=by
 let#[ff,ffd,mf,Ff]:=A.h0q.fn A.X A.G;have bf:=Ff.binds (ps:=["_law_script"]) (by walk_at "B");let#[f,oc,od,an,sl,kV,dc,pm,cd,ct,a,l',c,k]:=A.h14;cases hfa.symm.trans^mg_of A.X A.G a;exact#[fnOf "law" "law" (A7 HZ) (Aa HZ) (AK HZ) .none kV dc pm an cd ct,λs v=>.of_eq rfl,λbase _ _=>Yt A (Kv A.T Ff) mf Ff.kp bf^IG (st:=HZ) l' c k]
def walk{l:PySem.W.OpenLaw}{q:gC}{loose:r_ Str}{XP:(Str->s_ Db)->gA->Prop}{YP:gJ->gA->Prop}{d:DefRec}{K:Params->Frag}(hn:l.most=P3 63)(hdf:d.params.defaults=[])
  (hY:∀(w:gJ) (h:gA),YP w h->(K w.params).In h)
  (F:∀(w:gJ) (mg:Str->s_ Db) (fa:Ch) (h:gA),(K w.params).In h->h.Ns mainGlobals mg->mg d.name=P3^.ref fa->
   ∃fd:gp,(∀(s:No) (u:Db),mz s fd #[[u],[]] [("_law_script",u)])/\∀base:gA,(K w.params).In base->base.Ns mainGlobals mg->FnOk l.prog w (K w.params) mg base Eo 10 fa fd ["_law_script"]^Lw^K w.params):
  PySem.W.WalkO q loose XP YP l.row.toRowW d [] (λf vs=>PySem.call f vs):=
 L2.OK (n:=63) (k:=10) (x:="_law_script") (CX:=λ_=>Eo) (sp:=λw=>Lw^K w.params) hn (by cbv) hdf #[rfl,by cbv,by cbv,rfl] hY F (λ_ _ a ns hl _ hS=>#[a,ns,rfl,#[hl,hS],λ_=>rfl]) λ_ _ _ _ _ z=>z
end K69
end _p
namespace PySem.W.Fast
theorem tw6194274052086546495:True:=⟨⟩
theorem tw12710174352417139407:True:=⟨⟩
theorem tw18155175202734707976:True:=⟨⟩
theorem tw15425841674862474257:True:=⟨⟩
theorem tw20785473932192882:True:=⟨⟩
theorem tw488079979193216641:True:=⟨⟩
theorem tw4069834513949922809:True:=⟨⟩
theorem tw8930618227058636424:True:=⟨⟩
theorem tw127746990549109982:True:=⟨⟩
theorem tw5596159795569057232:True:=⟨⟩
theorem tw1222497210392163707:True:=⟨⟩
theorem tw128361947828235953:True:=⟨⟩
theorem tw7565594789810905084:True:=⟨⟩
theorem tw9620028489368294283:True:=⟨⟩
theorem tw9727397776862486812:True:=⟨⟩
theorem tw2355089206217695742:True:=⟨⟩
theorem tw6467214771079988768:True:=⟨⟩
theorem tw8387984695852404740:True:=⟨⟩
theorem tw4489834760688530217:True:=⟨⟩
theorem tw13554635154529422843:True:=⟨⟩
theorem tw12609915160894939391:True:=⟨⟩
theorem tw17741473504603432174:True:=⟨⟩
theorem tw9244354862800861540:True:=⟨⟩
theorem tw12242191858551465895:True:=⟨⟩
theorem tw15639898336256556947:True:=⟨⟩
theorem tw6741347327237440062:True:=⟨⟩
theorem tw2507208802438414647:True:=⟨⟩
theorem tw7444489880850159538:True:=⟨⟩
theorem tw7576450581401079299:True:=⟨⟩
theorem tw6565526400081705115:True:=⟨⟩
theorem tw6205411434737325750:True:=⟨⟩
theorem tw7593066342475948614:True:=⟨⟩
theorem tw17508457486739807724:True:=⟨⟩
theorem tw6869211840287951643:True:=⟨⟩
theorem tw3198873625276548478:True:=⟨⟩
theorem tw641994871823166039:True:=⟨⟩
theorem tw6299190640094152377:True:=⟨⟩
theorem tw16975126906111900966:True:=⟨⟩
theorem tw1240052314284349426:True:=⟨⟩
theorem tw14380933213175225409:True:=⟨⟩
theorem tw268374098533497009:True:=⟨⟩
theorem tw11475295002597106402:True:=⟨⟩
theorem tw17230394476802174162:True:=⟨⟩
theorem tw13483380967604636141:True:=⟨⟩
theorem tw397889699297928599:True:=⟨⟩
theorem tw1774229642093103917:True:=⟨⟩
theorem tw2082969235113298724:True:=⟨⟩
theorem tw2897631899184078699:True:=⟨⟩
theorem tw2835653463267178010:True:=⟨⟩
theorem tw13736005442614047589:True:=⟨⟩
theorem tw6877720210215066267:True:=⟨⟩
theorem tw8235806757959655741:True:=⟨⟩
theorem tw17565816330864809626:True:=⟨⟩
theorem tw9299659005963495770:True:=⟨⟩
theorem tw2832592857994298640:True:=⟨⟩
theorem tw6405159487326805254:True:=⟨⟩
theorem tw12619089092812350758:True:=⟨⟩
theorem tw10005758926712454971:True:=⟨⟩
theorem tw2114832245794776833:True:=⟨⟩
theorem tw2032688295462599198:True:=⟨⟩
theorem tw13849840759084408887:True:=⟨⟩
theorem tw17776180668410591355:True:=⟨⟩
theorem tw13748744640921339111:True:=⟨⟩
theorem tw17525307821590762044:True:=⟨⟩
theorem tw1178888519692354026:True:=⟨⟩
theorem tw16087827268942156627:True:=⟨⟩
theorem tw174342481741792975:True:=⟨⟩
theorem tw2017316116739280760:True:=⟨⟩
theorem tw10636827249312661163:True:=⟨⟩
theorem tw8440131038678501281:True:=⟨⟩
theorem tw13076163451312334585:True:=⟨⟩
theorem tw4275996840299259685:True:=⟨⟩
theorem tw1750075821343258682:True:=⟨⟩
theorem tw15874333265112199086:True:=⟨⟩
theorem tw15996565023554705221:True:=⟨⟩
theorem tw14680246011103607831:True:=⟨⟩
theorem tw3908034753356402846:True:=⟨⟩
theorem tw7498038973563208536:True:=⟨⟩
theorem tw917608736584766591:True:=⟨⟩
theorem tw15452229412084791237:True:=⟨⟩
theorem tw8402885175656473500:True:=⟨⟩
theorem tw11737362924585407260:True:=⟨⟩
theorem tw15847211962481822415:True:=⟨⟩
theorem tw5330590092625186067:True:=⟨⟩
theorem tw7337146979326757222:True:=⟨⟩
theorem tw5302968668661037976:True:=⟨⟩
theorem tw5535200093656484:True:=⟨⟩
theorem tw10336220379858205343:True:=⟨⟩
theorem tw9040491915495515816:True:=⟨⟩
theorem tw937662423386330301:True:=⟨⟩
theorem tw17812492293753393722:True:=⟨⟩
theorem tw1181657411049001926:True:=⟨⟩
theorem tw15968659678000439341:True:=⟨⟩
theorem tw14875299598926950630:True:=⟨⟩
theorem tw11967540620797158413:True:=⟨⟩
theorem tw16855994315205433063:True:=⟨⟩
theorem tw3542202757148715377:True:=⟨⟩
theorem tw1374382794836513718:True:=⟨⟩
theorem tw11718336231456601943:True:=⟨⟩
theorem tw1406536706089053600:True:=⟨⟩
theorem tw13777150637926114695:True:=⟨⟩
theorem tw9730652314116358235:True:=⟨⟩
theorem tw11768847198709507826:True:=⟨⟩
theorem tw6828089548577062993:True:=⟨⟩
theorem tw6109184831952504151:True:=⟨⟩
theorem tw13430305397059851220:True:=⟨⟩
theorem tw10756509352377116551:True:=⟨⟩
theorem tw9514963007008516891:True:=⟨⟩
theorem tw7451757384174741272:True:=⟨⟩
theorem tw16411540696776942927:True:=⟨⟩
theorem tw15864072471746797286:True:=⟨⟩
theorem tw269519103657457471:True:=⟨⟩
theorem tw1141084406463546985:True:=⟨⟩
theorem tw17065873922855649633:True:=⟨⟩
theorem tw10811762595455483273:True:=⟨⟩
theorem tw8774065099150313982:True:=⟨⟩
theorem tw8676141576995152754:True:=⟨⟩
theorem tw17245342348649569559:True:=⟨⟩
theorem tw18089727237434112917:True:=⟨⟩
theorem tw18111867414855180839:True:=⟨⟩
theorem tw7504986229082054941:True:=⟨⟩
theorem tw1784385157263208143:True:=⟨⟩
theorem tw7683104551746364424:True:=⟨⟩
theorem tw15132831815794447041:True:=⟨⟩
theorem tw8348633361173127500:True:=⟨⟩
theorem tw10282622972170760765:True:=⟨⟩
theorem tw16357400555219492315:True:=⟨⟩
theorem tw9597237540023012391:True:=⟨⟩
theorem tw8272287282540314406:True:=⟨⟩
theorem tw13193075719070530107:True:=⟨⟩
theorem tw839567184585111958:True:=⟨⟩
theorem tw11312288033603510632:True:=⟨⟩
theorem tw6228766642232390465:True:=⟨⟩
theorem tw16348777997177877032:True:=⟨⟩
theorem tw4898539297978152676:True:=⟨⟩
theorem tw3315407211753774463:True:=⟨⟩
theorem tw10734326317352556890:True:=⟨⟩
theorem tw17320506029229203668:True:=⟨⟩
theorem tw16274465523839012550:True:=⟨⟩
theorem tw4156938271841042371:True:=⟨⟩
theorem tw180761090062599280:True:=⟨⟩
theorem tw4647419103959121887:True:=⟨⟩
theorem tw17996228082163976787:True:=⟨⟩
theorem tw4961772161152170667:True:=⟨⟩
theorem tw1026897084192845938:True:=⟨⟩
theorem tw3612287920560482713:True:=⟨⟩
theorem tw15797049130290697330:True:=⟨⟩
theorem tw15230424503764082318:True:=⟨⟩
theorem tw13650598064333978907:True:=⟨⟩
theorem tw7112254042644005096:True:=⟨⟩
theorem tw5946881375118470226:True:=⟨⟩
theorem tw4010983738648719154:True:=⟨⟩
theorem tw11911907222846407077:True:=⟨⟩
theorem tw5304958687332558228:True:=⟨⟩
theorem tw18050914312148252997:True:=⟨⟩
theorem tw16207444371880053281:True:=⟨⟩
theorem tw5875293664691375942:True:=⟨⟩
theorem tw10680658690734285190:True:=⟨⟩
theorem tw15657186165150788831:True:=⟨⟩
theorem tw11735873814604111794:True:=⟨⟩
theorem tw486910664103535289:True:=⟨⟩
theorem tw5224850220078054694:True:=⟨⟩
theorem tw5864259578651064031:True:=⟨⟩
theorem tw3836667547289530381:True:=⟨⟩
theorem tw14988511474340588933:True:=⟨⟩
theorem tw12778451481364591355:True:=⟨⟩
theorem tw6890680314105424766:True:=⟨⟩
theorem tw18415595169144060491:True:=⟨⟩
theorem tw1942878996867637848:True:=⟨⟩
theorem tw11255478100275764019:True:=⟨⟩
theorem tw6907573698044100556:True:=⟨⟩
theorem tw12600428839709853662:True:=⟨⟩
theorem tw8716217297788797049:True:=⟨⟩
theorem tw11021559326468071582:True:=⟨⟩
theorem tw205343746578513896:True:=⟨⟩
theorem tw2691208486568241485:True:=⟨⟩
theorem tw16652766276816158791:True:=⟨⟩
theorem tw10988765450384881641:True:=⟨⟩
theorem tw6962496123962453543:True:=⟨⟩
theorem tw7330602594865302311:True:=⟨⟩
theorem tw6212547025203853892:True:=⟨⟩
theorem tw1116395086886970928:True:=⟨⟩
theorem tw11774525622072244205:True:=⟨⟩
theorem tw8220456745697699271:True:=⟨⟩
theorem tw5947647645728613732:True:=⟨⟩
theorem tw13476472217683733167:True:=⟨⟩
theorem tw9680302084701760847:True:=⟨⟩
theorem tw10790145135260137659:True:=⟨⟩
theorem tw6751052876768426070:True:=⟨⟩
theorem tw17089056802195008890:True:=⟨⟩
theorem tw5475871743880203641:True:=⟨⟩
theorem tw10304697348747604296:True:=⟨⟩
theorem tw4786374104399034110:True:=⟨⟩
theorem tw4330865976232148125:True:=⟨⟩
theorem tw6590604134270928931:True:=⟨⟩
theorem tw2084558545684668774:True:=⟨⟩
theorem tw15313567178136118659:True:=⟨⟩
theorem tw2079556126029586110:True:=⟨⟩
theorem tw14915125447286248722:True:=⟨⟩
theorem tw9684069228766809930:True:=⟨⟩
theorem tw16094256188651876514:True:=⟨⟩
theorem tw15363341800000199295:True:=⟨⟩
theorem tw17744348043125148568:True:=⟨⟩
theorem tw11354361179508642425:True:=⟨⟩
theorem tw17319999063772663936:True:=⟨⟩
theorem tw2759826477387062864:True:=⟨⟩
theorem tw6792268928050572061:True:=⟨⟩
theorem tw13153915848995802800:True:=⟨⟩
theorem tw3405645154067533877:True:=⟨⟩
theorem tw9504116450480992047:True:=⟨⟩
theorem tw7855825481155202700:True:=⟨⟩
theorem tw8443700410928235481:True:=⟨⟩
theorem tw513398371549173187:True:=⟨⟩
theorem tw13193501228890042087:True:=⟨⟩
theorem tw3870220876380449445:True:=⟨⟩
theorem tw12451678110372195924:True:=⟨⟩
theorem tw18317177804856838171:True:=⟨⟩
theorem tw12808733529822838250:True:=⟨⟩
theorem tw4455094617382000993:True:=⟨⟩
theorem tw15776942940412821517:True:=⟨⟩
theorem tw15476274772762510529:True:=⟨⟩
theorem tw16875618589217052523:True:=⟨⟩
theorem tw8915545503498566777:True:=⟨⟩
theorem tw157105383478906696:True:=⟨⟩
theorem tw1391934090547543919:True:=⟨⟩
theorem tw18271494956392446218:True:=⟨⟩
theorem tw15800705985873851690:True:=⟨⟩
theorem tw2945984679091774564:True:=⟨⟩
theorem tw5405069258843548380:True:=⟨⟩
theorem tw17999510847403743881:True:=⟨⟩
theorem tw3754378180662600544:True:=⟨⟩
theorem tw5523830243135080245:True:=⟨⟩
theorem tw4569204363271534773:True:=⟨⟩
theorem tw11926533070776324383:True:=⟨⟩
theorem tw13091116389981986021:True:=⟨⟩
theorem tw12129678391131796440:True:=⟨⟩
theorem tw5659692452273711159:True:=⟨⟩
theorem tw5992744629074590660:True:=⟨⟩
theorem tw8533778194815408089:True:=⟨⟩
theorem tw7251969677000691282:True:=⟨⟩
theorem tw3627077296850462933:True:=⟨⟩
theorem tw17993789429235968450:True:=⟨⟩
theorem tw16987675803989193474:True:=⟨⟩
theorem tw12786803841470274899:True:=⟨⟩
theorem tw16119607556542341220:True:=⟨⟩
theorem tw15917625496567976553:True:=⟨⟩
theorem tw13468502938992056383:True:=⟨⟩
theorem tw9673533038825421638:True:=⟨⟩
theorem tw382907020539677543:True:=⟨⟩
theorem tw11927721277547433019:True:=⟨⟩
end PySem.W.Fast
open _p
open PySem.W
set_option maxRecDepth 100000 in
set_option maxHeartbeats 0 in
theorem PySem.Challenge.cw_thinnet_k69_deeds_refused_holds : PySem.Challenge.rw_thinnet_k69_deeds_refused.Holds := by
 w_on;o_law;k_head;(case hw=>w_witness2)
 k_fill
 refine K69.walk (l:=PySem.Challenge.rw_thinnet_k69_deeds_refused) rfl rfl (λw h Y=>PySem.W.kIn_of Y) ?F
 case F =>
  intro w mg fa h KX G hmg
  refine' K69.all_mk (h:=h) hmg (K69.C0.mk KX G ?cK (L2.Cls.mk ?pg ?hd ?po ?sa) ?_ ?_ ?_ ?_ ?_ ?_ ?_ ?_ ?_ ?_ ?_ ?_ ?_ ?_ ?_ ?_ ?_ ?_ ?_ ?_ ?_ ?_ ?_ ?_ ?_ ?_ ?_ ?_ ?_ ?_ ?_ ?_ ?_ ?_ ?_ ?_ ?_ ?_ ?_ ?_ ?_ ?_ ?_ ?_ ?_ ?_ ?_ ?_ ?_ ?_ ?_ ?_ ?_ ?_ ?_ ?_ ?_ ?_ ?_ ?_ ?_ ?_ ?_ ?_ ?_ ?_ ?_ ?_ ?_ ?_ ?_ ?_ ?_ ?_ ?_ ?_ ?_ ?_ ?_ ?_ ?_ ?_ ?_ ?_ ?_ ?_ ?_ ?_)
  case cK=>k_is
  case pg=>k_is
  case hd=>k_is
  case po=>k_is
  case sa=>k_is
  all_goals first
   | (refine' K69.Ht.mk ?a ?l ?c ?k;(case a=>k_is);(case l=>k_is);(case c=>k_is);(case k=>k_is))
   | (refine' K69.Hm.mk ?a ?l ?c ?n ?k;(case a=>k_is);(case l=>k_is);(case c=>k_is);(case n=>k_is);(case k=>k_is))
   | (refine' K69.Hn.mk ?a;(case a=>k_is))
   | (refine' K69.H0.mk ?c ?i;(case c=>(refine' K69.xc_mk ?at_ ?atU ?o ?u ?kp ?ga ?gt ?sa ?ca ?nw ?nn ?nr;(case at_=>k_is);(case atU=>k_is);(case o=>k_is);(case u=>k_is);(case kp=>k_is);(case ga=>k_is);(case gt=>k_is);(case sa=>k_is);(case ca=>k_is);(case nw=>k_is);(case nn=>k_is);(case nr=>k_is)));(case i=>k_is))
   | (refine' K69.H1.mk ?c;(case c=>(refine' K69.xc_mk ?at_ ?atU ?o ?u ?kp ?ga ?gt ?sa ?ca ?nw ?nn ?nr;(case at_=>k_is);(case atU=>k_is);(case o=>k_is);(case u=>k_is);(case kp=>k_is);(case ga=>k_is);(case gt=>k_is);(case sa=>k_is);(case ca=>k_is);(case nw=>k_is);(case nn=>k_is);(case nr=>k_is))))
   | (refine' K69.Hi.mk ?a;(case a=>k_is))
   | (refine' K69.Ha.mk ?a ?b;(case a=>k_is);(case b=>k_is))
   | (unfold L2.NoAttr;k_is)
   | k_is
#print axioms PySem.Challenge.cw_thinnet_k69_deeds_refused_holds

import PyProof.Rows.All
import Wide.All
import OpenK.AllK
import Wide.FinOn
import Lean
import PyProof.EqAt
import PyProof.EqKinds
import PyProof.TupleCall
import PyProof.StationsW
import PyProof.PassesOwn
import PyProof.RulesAs
import PyProof.ExcClass3
import PyProof.Rows.CatchOwn
import OpenK.KMake
import OpenK.KWalk
import PyProof.InstStoreFacts
import PyProof.ExcBaseAll.ValueError
import PyProof.RangeIter
import OpenK.KRaise
import PyProof.NsDelKeeps
import KE.KIsAll
import PyProof.P3In
import PyProof.NeData
import PyProof.CompUse
import PyProof.ReprLen
import KE.KSortTup
import PyProof.SumAny
import PyProof.Rows.SeqCalls
import KE.KRevIter
import PyProof.TupleOfGen
import PyProof.CollectIter
import PyProof.Draws
import PyProof.EnumMake
import KE.KEqDict
import KE.KDictSum
import PyProof.ConsumeS
import PyProof.WalkInts
import KE.KIntText
import PyProof.Rows.FStr
import PyProof.StrBlockH
import PyProof.MeetsStr2
import PyProof.StrLawsTight
import PyProof.Rows.StrItems
import PyProof.Rows.StrSplitAre
import PyProof.StrLawsOcc
import PyProof.Rows.ReprOcc
import PySem.Challenge.RW_thinnet_k68_whole_what_turns
open PySem.W (Frag nsIn keepIn fnOf codeIn mg_of mg_none_of)
set_option Elab.async false
set_option linter.all false
set_option maxRecDepth 100000
open Array renaming length_toList->i8,getElem?_eq_getElem->k9,getElem?_toList->lg,getElem?_eq_some_iff->oJ,getElem?_eq_none->o9
open Array.Perm renaming refl->oy
open Bool renaming false_ne_true->iS,and_eq_true->ik,eq_iff_iff->i6,eq_false_iff->jB,false_eq_true->jD,not_eq_true'->lX,beq_eq_decide_eq->nB,false_and->pH
open Classical renaming byContradiction->jf,propDecidable->kQ,em->lF
open False renaming elim->jL
open ForInStep renaming yield->lQ
open Int renaming toNat_natCast->ku,emod_lt_of_pos->mQ,emod_eq_of_lt->mh,emod_nonneg->nP,le_refl->o_
open List renaming length_map->Ev,getElem?_eq_getElem->Go,mem_cons_self->On,mem_singleton->Re,mem_map->Rs,mem_cons_of_mem->TM,replicate->Tk,mem_cons->UF,getElem?_eq_some_iff->Uf,getElem?_map->XV,size_toArray->f8,mem_append->iP,length_append->iT,mem_append_right->iV,nodup_cons->iW,mem_filter->iY,map_cons->iZ,getD_eq_getElem?_getD->ia,not_mem_nil->ig,length_cons->ij,toArray->im,map_append->iq,nil_append->iw,length_filter_le->iz,range->i4,pairwise_cons->i7,append_nil->jA,length_singleton->jC,Nodup->jG,nodup_nil->jI,length_nil->jN,getElem_mem->jQ,getElem?_append_right->jY,mem_append_left->jZ,map_map->jb,cons_ne_nil->jd,nodup_append->jh,map_congr_left->jr,drop_eq_getElem_cons->jt,length_zip->jw,zip_cons_cons->jy,zipWith->j4,mem_of_getElem?->j6,perm_ext_iff_of_nodup->kB,perm_append_singleton->kC,length_take->kE,mem_flatMap->kF,mem_range->kG,getElem?_append_left->kI,flatMap_cons->kN,filter_congr->kO,filter_cons_of_neg->kR,mem_map_of_mem->kW,any_eq_true->kZ,take_of_length_le->kg,append_assoc->k6,mem_iff_getElem->k8,getLast?_eq_some_iff->k_,map_id->lB,lt_irrefl->lD,lookup_cons->lE,filter_eq_self->lH,length_eq_zero_iff->lJ,filter_cons_of_pos->lK,lookup->lT,pairwise_map->lY,mem_iff_getElem?->li,getElem?_eq_none->lj,all_eq_true->lw,mem_of_mem_take->l7,lt_trans->l8,of_mem_zip->l9,length_set->mB,pairwise_iff_getElem->mC,getElem?_zip_eq_some->mE,filter_map->mF,getElem?_replicate->mV,getElem?_cons_succ->mW,reverse_cons->mY,length_range->md,length->mi,filter_eq_nil_iff->mq,take_length->m6,singleton_append->m9,forIn_cons->nJ,pairwise_append->nR,length_reverse->nY,zip_nil_right->nt,take_sublist->oK,zip_nil_left->oO,ext_getElem?->oP,mem_of_find?_eq_some->oU,getElem?_eq_none_iff->oV,getLast?_eq_none_iff->oX,drop_length->og,ext_getElem->om,getElem_map->on,pairwise_singleton->ot,filter_nil->oz,getElem?_set_self->o4,length_replicate->pB,forIn_nil->pC,getElem?_zipWith->pD,take_append_drop->pI
open List.Pairwise renaming sublist->lm,nil->pP
open List.Perm renaming trans->o0,swap->pG
open List.cons renaming inj->my
open Nat renaming le_refl->Sc,ne_of_lt->ge,le_trans->iU,zero_le->iX,lt_of_lt_of_le->ir,le_succ->jP,lt_irrefl->jU,lt_succ_of_lt->jp,lt_of_le_of_lt->kH,lt_succ_self->kX,toDigits->kn,toDigits_of_lt_base->lL,succ_le_succ->lr,ne_of_gt->mG,not_lt->mS,mod_lt->mU,le_succ_of_le->me,le_of_lt->nF,le_of_eq->nH,sub_self->nS,toDigits_append_toDigits->nj,isDigit_of_mem_toDigits->oC,min_le_right->oh
open Ne renaming symm->i_
open Option renaming map_eq_some_iff->io,isSome_map->oM
open Option.some renaming inj->eq
open Or renaming inl->ZB,inr->kT
open PyProof.Rows renaming slot_tuple_getitem->jS,callWith_type1->jk,boot_tuple->kh,listUpdate_at->kr,get?_update_seq->lR,boot_sorted->lV,AllBare->mR,boot_all->nC,listItems_at->nQ,seqEpoch_at->nk,boot_min->oq,lt_int->o5
open PyProof.Rows.KeyOrd renaming kle_refl->ju,kle_of_klt->mZ,kle_trans->m7,kle_antisymm->pM
open PySem renaming Addr->Ch,wpAny_bind->Cn,Value->Db,Shared->No,wpAny_pure->Op,Heap->iQ,Program->ic,Expr->ie,Stmt->ii,World->ip,Around->i5,sizeLine_eq->i9,FuncData->jK,wpAny_loadPart'->jO,wpAny_callSpecial?_slot->jR,wpAny_mono->jT,wpAny_truthy_bool->jV,wpAny_holding->jX,wpAny_pyIter_tuple->ja,wpAny_newObj_type->jg,wpAny_field->jj,wpAny_Call_Name_kw->jl,wpAny_call_entry->jm,wpAny_seqItems->jn,wpAny_pyIter_list->jq,codeAny_builtin->jv,IsPair->jz,wpAny_dictEntries->j9,plainId_quiet->kA,Builtin->kM,wpAny_typeNameOfWhole_keyiter->kP,NameKind->kY,Scope->kd,wpAny_letGo->ke,wpAny_setField_rec->kj,wpAny_passesOwn->ko,typeIs_str->k7,Keyword->lC,wpAny_typeNameOf_keyiter->lG,wpAny_getItem_str_slice->lI,DictEntry->lO,tupleKind_room_in1->lP,wpAny_updateSeq->lS,IsZip->lW,codeAny_mono->mI,wpAny_typeOf->mJ,PyData->mN,wpAny_rule->mT,richCompare_meets_room->mo,wpAny_attempt->mx,wpAny_isInstance->mz,wpAny_notOrdered_dict->m_,wpAny_execs_nil->nG,IsPart->nI,post_val_or_str->nL,wpAny_updateSeq_pair->nN,wpAny_dictEpoch->nU,wpAny_setField->ng,wpAny_tryCatch->nh,wpAny_onRaise->oG,wpAny_newList->oI,PlainAttrs->oR,call_meets->oS,BindsTo->oY,noFill_tuple_add->oZ,PassesOwn->ou,wpAny_specialOf->ox,wpAny_of_eq->o7
open PySem.Around renaming under_plainId->kJ
open PySem.AutoSeq1 renaming sub_tuple_tuple->oi
open PySem.Builtin.Builtins renaming bindParams->n8
open PySem.Builtin.Dict renaming showsAll->nA,dictSlotArgs->oW,samePairs->pA,takeOut->pL
open PySem.Builtin.Dict_items renaming ownsTuple->ni
open PySem.Builtin.List renaming listExtendWith->km,listTooLong->mM,listLengthHint->n9,listSameRef->oo
open PySem.Builtin.Slice renaming slicePlaces->l_,sliceAdjust->oQ
open PySem.Builtin.SmallTypes renaming nextOf->je,ownedTupleIsFree->j7,ownedTupleHandOut->mP
open PySem.Builtin.Str renaming occurrences->jW
open PySem.Builtin.Tuple renaming tupleExact->mL,tupleCompareSizes->nE,tupleItemsOf->oF,tupleIsExact->oH
open PySem.Calls renaming spliced_cons->mH,spliced_nil->mX,callWith_builtin->mj,Name_function_global->oE,evalArgs_plain->pJ
open PySem.Expr renaming Call->n_
open PySem.F renaming slot_dict_keyiterator_next->j8,slot_tuple_iterator_next->kq,slot_zip_next->nO,args_dict_keyiterator_next_1->nW,entry_dict_keyiterator_next->nX,args_tuple_iterator_next_1->nZ,entry_tuple_iterator_next->n6,called_tuple->pF
open PySem.Heap renaming get?_push_of_some->FM,get?_push_size->TW,lt_size->T0,get?_update_other->iO,size_push->jM,get?_update_self->ji,SameBut->ki,IsTuple->oj,ExtBut->o6,IsList->o8
open PySem.Heap.SameBut renaming update->kU
open PySem.NameKind renaming free->jJ,cell->mr
open PySem.Obj renaming mapSeq->jF,data_mapFields->mO
open PySem.PassesOwn renaming never->jc
open PySem.PyData renaming depthAll->j_,canLayAll0->kz,hasDict->lZ,eqv->lz,hasDictAll->oN,leavesShortAll->pE
open PySem.SeqAt.EqAt renaming int_str->pN,str_int->pO
open PySem.Shared renaming heap->lU
open PySem.Str renaming ofString->jH,join->kL
open PySem.Value renaming ref->iR,none->iu,type->jE,str->lA,bool->lM,notImplemented->pK
open Sum renaming inr->jx,inl->m8
open Sum.inr renaming inj->jo
open True renaming intro->j5
open PySem PySem.Spec PyProof.Rows
local macro_rules | `(tactic| walk_at "s")=>`(tactic| (constructor <;> first | rfl | decide +kernel))
namespace _p

local macro_rules|`(tactic|let#[$x,*]:=$e)=>open Lean Parser Tactic in do
 let q k a:=mkNode ``rcasesPatLo #[mkNode ``rcasesPatMed #[mkNullNode #[mkNode k a]],mkNullNode]
 let p:Syntax:=(← `(term|⟨$x,*⟩)).raw.rewriteBottomUp fun s=>if s.isIdent then q ``rcasesPat.one #[s] else if s.getKind= ``Term.hole then q ``rcasesPat.ignore s.getArgs else if s.getKind= ``Term.anonymousCtor||s.getKind= `«term#[_,]» then q ``rcasesPat.tuple s.getArgs else s
 let m:TSyntax ``rcasesPatMed:=⟨p[0]⟩
 `(tactic|obtain $m:rcasesPatMed:=$e)
local macro_rules|`(tactic|exists $x,*)=>`(tactic|refine⟨$x,*, ?_⟩)
local macro_rules|`(tactic|lk)=>`(tactic|first|lia|omega)
local macro_rules|`(tactic|cbv)=>`(tactic|decide)
local macro_rules|`($f^$x)=>if f.raw.getTrailingSize>0 then Lean.Macro.throwUnsupported else match f with|`($g $a*)=>`($g $a* $x)|_=>`($f $x)
local macro_rules|`(#[%$t $y,*])=>if t.getTrailingSize>0||y.getElems.size=0 then Lean.Macro.throwUnsupported else `(⟨$y,*⟩)
open Option renaming some->P3,none->r_
open Bool renaming true->s_,false->t_
abbrev u_(a:Type u):=List a
abbrev v_(a:Type u):=Option a
namespace L2
abbrev Key:=Sum Int Str
def MP:Key->Db->Bool
 |.inl k,v=>Value.isInt k v
 |.inr x,v=>Value.isStrOf x v
def gO(w:ip):Key->Int
 |.inl k=>hashInt k
 |.inr x=>hashStr w x
theorem BP:∀{k:Key}{v:Db},MP k v=s_->(∃i t,k=m8 i/\v=Value.int i t)\/(∃x t,k=jx x/\v=lA x t)
 |.inl i,v,h=>by
  let#[t,e]:=Value.isInt_shape h;exact .inl #[i,t,rfl,e]
 |.inr x,v,h=>by
  let#[t,e]:=Value.isStrOf_shape h;exact .inr #[x,t,rfl,e]
def Uv(i:Int)(t:Tok):MP (.inl i)^.int i t=s_:=by simp[MP,Value.isInt]
def Uu(x:Str)(t:Tok):MP (.inr x)^.str x t=s_:=by simp[MP,Value.isStrOf]
def cO(a b:Int):decide ((m8 a:Key)=m8 b)=(a==b):=by
 grind
def cL(a b:Str):decide ((jx a:Key)=jx b)=decide (a=b):=by
 grind
def cN(a:Int)(b:Str):decide ((m8 a:Key)=jx b)=t_:=decide_eq_false λq=>nomatch q
def cM(a:Str)(b:Int):decide ((jx a:Key)=m8 b)=t_:=decide_eq_false λq=>nomatch q
def BI(prog:ic)(w:ip):PySem.KeyKind prog w Key where
 is:=MP
 hash:=gO w
 inj:=λv a b ha hb=>by
  rcases BP ha with⟨i,t,rfl,rfl⟩|⟨x,t,rfl,rfl⟩
  .rcases BP hb with⟨j,u,rfl,e⟩|⟨y,u,rfl,e⟩
   .injection e with e1 _;rw[e1]
   .exact nomatch e
  .rcases BP hb with⟨j,u,rfl,e⟩|⟨y,u,rfl,e⟩
   .exact nomatch e
   .injection e with e1 _;rw[e1]
 byValue:=λk v h=>by
  rcases BP h with⟨i,t,rfl,rfl⟩|⟨x,t,rfl,rfl⟩ <;>rfl
 pyHash:=λhv h=>by
  rcases BP hv with⟨i,t,rfl,rfl⟩|⟨x,t,rfl,rfl⟩
  .exact wpAny_pyHash_int h
  .exact wpAny_pyHash_str h
 eqBool:=λhu hv h=>by
  rcases BP hu with⟨i,t,rfl,rfl⟩|⟨x,t,rfl,rfl⟩
  .rcases BP hv with⟨j,u,rfl,rfl⟩|⟨y,u,rfl,rfl⟩
   .rw[cO]at h;exact wpAny_eqBool_int h
   .rw[cN]at h;exact pN i t y u _ _ _ _ h
  .rcases BP hv with⟨j,u,rfl,rfl⟩|⟨y,u,rfl,rfl⟩
   .rw[cM]at h;exact pO x t j u _ _ _ _ h
   .rw[cL]at h;exact wpAny_eqBool_str h
 «strs»:=λk x t v h=>by
  rcases BP h with⟨i,u,rfl,e⟩|⟨y,u,rfl,e⟩
  .exact nomatch e
  .injection e with e1 _
   subst e1
   cases v <;>rfl
def Pa(prog:ic)(w:ip)(i:Int)(t:Tok):(BI prog w).is (.inl i)^.int i t=s_:=Uv i t
def PZ(prog:ic)(w:ip)(x:Str)(t:Tok):(BI prog w).is (.inr x)^.str x t=s_:=Uu x t
inductive V where
 |non|bl (b:Bool)|int (i:Int)|str (x:Str)|byt (b:Array UInt8)|flt (b:UInt64)|ref (a:Ch)|ty (n:String)
 deriving DecidableEq
def RelV:V->Db->Prop
 |.non,u=>u=iu
 |.bl b,u=>u=lM b
 |.int i,u=>∃t,u=Value.int i t
 |.str x,u=>∃t,u=lA x t
 |.byt b,u=>∃t,u=Value.bytes b t
 |.flt b,u=>∃t,u=Value.float b t
 |.ref a,u=>u=iR a
 |.ty n,u=>u=jE n
abbrev Vals:u_ V->u_ Db->Prop:=Paired RelV
def Vals.length{xs:u_ V}{us:u_ Db}(r:Vals xs us):xs.length=us.length:=Paired.length r
theorem Vals.get:∀{xs:u_ V}{us:u_ Db}{i:Nat}{x:V},Vals xs us->xs[i]?=P3 x->∃u,us[i]?=P3 u/\RelV x u
 |_,_,_,_,.nil,e=>by simp at e
 |_,_,0,_,.cons r _,e=>by simp_all
 |_,_,i+1,x,.cons _ t,e=>by
  let#[u,h1,h2]:=Vals.get t^by simpa using e
  simp_all
theorem Vals.set{x:V}{u:Db}(r:RelV x u):∀{xs:u_ V}{us:u_ Db} (i:Nat),Vals xs us->Vals (xs.set i x)^us.set i u
 |_,_,_,.nil=>.nil
 |_,_,0,.cons _ t=>.cons r t
 |_,_,i+1,.cons q t=>.cons q^Vals.set r i t
theorem Vals.append:∀{xs ys:u_ V}{us ws:u_ Db},Vals xs us->Vals ys ws->Vals (xs++ys) (us++ws)
 |_,_,_,_,.nil,s=>s
 |_,_,_,_,.cons r t,s=>.cons r^Vals.append t s
theorem Vals.take:∀{xs:u_ V}{us:u_ Db} (n:Nat),Vals xs us->Vals (xs.take n)^us.take n
 |_,_,0,_=>.nil
 |_,_,_+1,.nil=>.nil
 |_,_,n+1,.cons r t=>.cons r^Vals.take n t
theorem Vals.drop:∀{xs:u_ V}{us:u_ Db} (n:Nat),Vals xs us->Vals (xs.drop n)^us.drop n
 |_,_,0,r=>r
 |_,_,_+1,.nil=>.nil
 |_,_,n+1,.cons _ t=>Vals.drop n t
def RelO:v_ V->v_ Db->Prop
 |some v,P3 u=>RelV v u
 |none,r_=>True
 |_,_=>False
def KV{κ:Type}:u_ (κ×V)->u_ (κ×Db)->Prop:=Paired fun(p:κ×V) (q:κ×Db)=>p.1=q.1/\RelV p.2 q.2
def kV:Key->V
 |.inl i=>.int i
 |.inr x=>.str x
inductive HO where
 |lst (xs:List V)
 |tup (xs:List V)
 |dK (kvs:List (Key×V))|dT (kvs:List (List Key×V))
 |set (S:Int->Bool) (n:Nat)
 |ins (C dx:Ch) (fs:List (Str×V))
 |own (x:Ch)
 |xd (fs:List (Str×V))
 |met (f x:Ch)
 |rng (lo hi:Int)
 |frz (o:Obj) (u:HO)
 |tbl (ps:Array Db)
 |ext (φ:iQ->Prop)
 |vol (u:HO)
abbrev Hp:=Ch->v_ HO
def Av(H:Hp)(a:Ch)(o:HO):Hp:=λb=>if b=a then P3 o else H b
def AQ{H:Hp}{a:Ch}{o:HO}:Av H a o a=P3 o:=by unfold Av;grind
def AO{H:Hp}{a b:Ch}{o:HO}(h:b≠a):Av H a o b=H b:=by unfold Av;rw[if_neg h]
def aP{H:Hp}{a b:Ch}{o u:HO}(h:H a=P3 o)(h':H b=P3 u)(d:o≠u):a≠b:=by
 grind
def An{H:Hp}{a b:Ch}{o:HO}(h:H a=P3 o)(h':H b=r_):a≠b:=by
 grind
def IsTupN(h:iQ)(a:Ch)(items:Array Db):Prop:=∃o,h.get? a=P3 o/\o.cls=.type "tuple"/\∃n,o.data=.seq items n/\o.dict=r_/\o.slots=#[]
def IsTupN.tup{h:iQ}{a:Ch}{items:Array Db}(x:IsTupN h a items):IsTup h a items:=let #[o,h1,h2,n,h3,_]:=x;#[o,h1,h2,n,h3]
def IsTupN.new(h:iQ)(items:Array Db):IsTupN (h.push {cls:=.type "tuple",data:=.seq items}) h.objs.size items:=#[_,TW _ rfl,rfl,_,rfl,rfl,rfl]
section
variable (P:Program)(w:World)
def ObjOk(H:Hp)(h:iQ)(a:Ch):HO->Prop
 |.lst xs=>xs.length<=sizeLine/\∃(its:u_ Db) (n:Nat),Vals xs its/\h.get? a=P3 {cls:=.type "list",data:=.seq its.toArray n}
 |.tup xs=>xs.length<=sizeLine/\∃its:u_ Db,Vals xs its/\IsTupN h a its.toArray
 |.dK kvs=>kvs.length<=sizeLine/\(a==sysModules)=t_/\∃vs,KV kvs vs/\h.DictOf (BI P w) a vs
 | .dT kvs=>kvs.length<=sizeLine/\(a==sysModules)=t_/\∃xs:u_ (u_ Key×Ch×Db),
   Paired (fun(p:u_ Key×V) (q:u_ Key×Ch×Db)=>p.1=q.1/\H q.2.1=P3^.tup^p.1.map kV/\RelV p.2 q.2.2) kvs xs /\
   ∃o es ep,h.get? a=P3 o/\o.ExactDict/\o.data=.dict es ep/\es.toList=xs.map^entryOfKey^tupleKind^BI P w/\(xs.map (·.1)).Nodup
 |.set S n=>h.SetOf (intKind P w) a S n
 | .ins C dx fs=>H dx=P3^.own a/\fs.length<=1000/\dx≠a/\h.get? a=P3^PySem.W.instObj C dx /\
   ∃mA,h.Ns1 dx mA/\(∀f,RelO (fs.lookup f)^mA f)/\PySem.Within mA (fs.map (·.1))
 |.own _=>∃o,h.get? a=P3 o
 |.xd fs=>∃mA,h.Ns1 a mA/\∀f,RelO (fs.lookup f)^mA f
 |.rng lo hi=>∃t u v,h.get? a=P3 {cls:=.type "range",data:=.fields #[ .int lo t,.int hi u,.int 1 v]}
 |.frz o u=>h.get? a=P3 o/\ObjOk H h a u
 |.tbl ps=>h.get? a=P3 {cls:=.none,data:=.fields ps}
 |.met f x=>h.get? a=P3^PySem.W.methodObj (.ref f)^.ref x
 |.vol u=>ObjOk H h a u
 |.ext φ=>φ h/\(∃o,h.get? a=P3 o)/\∀h1 h2:iQ,φ h1->(∀o,h1.get? a=P3 o->h2.get? a=P3 o)->φ h2
def HOk(H:Hp)(h:iQ):Prop:=∀a o,H a=P3 o->ObjOk P w H h a o
end
section
variable {P:Program}{w:World}{H H':Hp}{h h':Heap}{a:Addr}{o:HO}
def ObjOk.lt(x:ObjOk P w H h a o):a<h.objs.size:=by
 induction o with
 |lst xs=>let#[_,_,_,_,e]:=x;exact T0 e
 |tup xs=>let#[_,_,_,p]:=x;exact p.tup.lt
 |dK kvs=>let#[_,_,_,_,o,_,_,e,_]:=x;exact T0 e
 |dT kvs=>let#[_,_,_,_,o,_,_,e,_]:=x;exact T0 e
 |set S n=>let#[o,_,_,_,e,_]:=x;exact T0 e
 |ins C dx fs=>let#[_,_,_,e,_]:=x;exact T0 e
 |own y=>let#[_,e]:=x;exact T0 e
 |xd fs=>let#[_,#[_,_,_,e,_],_]:=x;exact T0 e
 |rng lo hi=>let#[_,_,_,e]:=x;exact T0 e
 |vol u ih=>exact ih x
 |frz ob u ih=>let#[e,_]:=x;exact T0 e
 |tbl ps=>exact T0 (show h.get? a=P3 _ from x)
 |met f y=>exact T0 (show h.get? a=P3 _ from x)
 |ext φ=>let#[_,#[_,e],_]:=x;exact T0 e
theorem Paired.mapP{α β:Type}{F G:α->β->Prop}:∀{l₁:u_ α}{l₂:u_ β},Paired F l₁ l₂->(∀a b,F a b->G a b)->Paired G l₁ l₂
 |_,_,.nil,_=>.nil
 |_,_,.cons r t,f=>.cons (f _ _ r)^Paired.mapP t f
def Paired.imp'{α β:Type}{F G:α->β->Prop}(f:∀a b,F a b->G a b){l₁:u_ α}{l₂:u_ β}(r:Paired F l₁ l₂):Paired G l₁ l₂:=Paired.mapP r f
def ObjOk.stay(x:ObjOk P w H h a o)(k:∀b u,(b=a\/H b=P3^.own a)->h.get? b=P3 u->h'.get? b=P3 u)
  (ho:∀b,H b=P3^.own a->H' b=P3^.own a) (ht:∀b xs,H b=P3^.tup xs->H' b=P3^.tup xs):ObjOk P w H' h' a o:=by
 induction o with
 |lst xs=>let#[z,its,n,r,e]:=x;exact#[z,its,n,r,k _ _ (.inl rfl) e]
 |tup xs=>let#[z,its,r,ob,e,c]:=x;exact#[z,its,r,ob,k _ _ (.inl rfl) e,c]
 |dK kvs=>let#[z,y,vs,r,ob,es,ep,e,c]:=x;exact#[z,y,vs,r,ob,es,ep,k _ _ (.inl rfl) e,c]
 |dT kvs=>
  let#[z,y,xs,r,ob,es,ep,e,c]:=x;exact#[z,y,xs,Paired.mapP r λp q z=>#[z.1,ht _ _ z.2.1,z.2.2],ob,es,ep,k _ _ (.inl rfl) e,c]
 |set S n=>let#[ob,es,ep,t,e,c]:=x;exact#[ob,es,ep,t,k _ _ (.inl rfl) e,c]
 |ins C dx fs=>
  let#[d,z,ne,e,mA,#[od,es,ep,e2,c],r]:=x;exact#[ho _ d,z,ne,k _ _ (.inl rfl) e,mA,#[od,es,ep,k _ _ (.inr d) e2,c],r]
 |own y=>let#[ob,e]:=x;exact#[ob,k _ _ (.inl rfl) e]
 |xd fs=>let#[mA,#[od,es,ep,e,c],r]:=x;exact#[mA,#[od,es,ep,k _ _ (.inl rfl) e,c],r]
 |rng lo hi=>let#[t,u,v,e]:=x;exact#[t,u,v,k _ _ (.inl rfl) e]
 |vol u ih=>exact ih x
 |frz ob u ih=>let#[e,q]:=x;exact#[k _ _ (.inl rfl) e,ih q]
 |tbl ps=>
  have e:h.get? a=P3 {cls:=.none,data:=.fields ps}:=x;show h'.get? a=P3 {cls:=.none,data:=.fields ps};exact k a _ (.inl rfl) e
 |met f y=>
  have e:h.get? a=P3^PySem.W.methodObj (.ref f)^.ref y:=x;show h'.get? a=P3^PySem.W.methodObj (.ref f)^.ref y;exact k a _ (.inl rfl) e
 |ext φ=>let#[p,#[o,e],st]:=x;exact#[st _ _ p λo q=>k _ _ (.inl rfl) q,#[o,k _ _ (.inl rfl) e],st]
def HOk.lt(x:HOk P w H h)(e:H a=P3 o):a<h.objs.size:=(x a o e).lt
def HOk.fresh(x:HOk P w H h)(e:h.objs.size<=a):H a=r_:=by
 cases q:H a with
 |none=>rfl
 |some u=>exact absurd (ir (x.lt q) e)^jU _
def HOk.kept(x:HOk P w H h)(k:∀b u,h.get? b=P3 u->h'.get? b=P3 u):HOk P w H h':=λa o e=>
 (x a o e).stay (λb u _ q=>k b u q) (λ_ q=>q) λ_ _ q=>q
def HOk.laid(x:HOk P w H h)(k:∀b u,h.get? b=P3 u->h'.get? b=P3 u)(hp:h.objs.size<=a)(new:ObjOk P w (Av H a o) h' a o):HOk P w (Av H a o) h':=λb u e=>by
 have hn:=x.fresh hp
 by_cases hb:b=a
 .subst hb;rw[AQ]at e;grind
 .rw[AO hb]at e
  exact(x b u e).stay (λc v _ q=>k c v q) (λc q=>by rw[AO^An q hn];exact q) λc xs q=>by rw[AO^An q hn];exact q
end
def Rd(H:Hp)(a:Ch)(u:HO):Prop:=H a=P3 u\/∃o,H a=P3^.frz o u
def Rd.ok{P:ic}{w:ip}{H:Hp}{h:iQ}{a:Ch}{u:HO}(r:Rd H a u)(x:HOk P w H h):ObjOk P w H h a u:=by
 rcases r with r|⟨o,r⟩
 .exact x a u r
 .let#[_,q]:=x a _ r
  exact q
def fh:v_ HO->Prop
 |some (.lst _)=>True
 |some (.dK _)=>True
 |some (.dT _)=>True
 |some (.set _ _)=>True
 |some (.vol _)=>True
 |some (.ext _)=>True
 |_=>False
section
variable {P:Program}{w:World}{H:Hp}{h h':Heap}{x e:Addr}{o':HO}
def HOk.write(ok:HOk P w H h)(mu:fh^H x)(he:e=x\/H e=P3^.own x)(k:∀b u,b≠e->h.get? b=P3 u->h'.get? b=P3 u)(heo:∃u,h'.get? e=P3 u)
  (new:ObjOk P w (Av H x o') h' x o'):HOk P w (Av H x o') h':=λb u q=>by
 have nown:∀c y,H c=P3^.own y->c≠x:=λc y r z=>by subst z;rw[r]at mu;exact mu
 have ntup:∀c xs,H c=P3^.tup xs->c≠x:=λc xs r z=>by subst z;rw[r]at mu;exact mu
 by_cases hb:b=x
 .subst hb;rw[AQ]at q;cases q;exact new
 .rw[AO hb]at q
  by_cases hbe:b=e
  .have q':H b=P3^.own x:=by
    grind
   rw[q]at q';cases q'
   let#[v,hv]:=heo;exact#[v,by rw[hbe];exact hv]
  .refine(ok b u q).stay (λc v hc r=>k c v ?_ r) (λc r=>by rw[AO^nown c b r];exact r) λc xs r=>by rw[AO^ntup c xs r];exact r
   grind
end
structure Un (fs ex:List Ch) (H H':Hp) (h h':iQ):Prop where
 keep:∀b o,h.get? b=P3 o->H b=r_->b∉fs->b∉ex->h'.get? b=P3 o
 slot:∀b o,h.get? b=P3 o->H b=r_->b∈fs->b∉ex->∃sl,h'.get? b=P3 {o with slots:=sl}
 free:∀b o,h.get? b=P3 o->H b=r_->b∉ex->H' b=r_
 there:∀b o,h.get? b=P3 o->b∉ex->∃o',h'.get? b=P3 o'
 tups:∀b xs,H b=P3^.tup xs->H' b=P3 (.tup xs)
 frzs:∀b o u,H b=P3^.frz o u->H' b=P3 (.frz o u)
 tbls:∀b ps,H b=P3^.tbl ps->∃more,H' b=P3^.tbl (ps++more)
section
variable {fs ex:u_ Addr}{H H1:Hp}{h h1 h':Heap}{a x e:Addr}{o:HO}
def Un.any(u:Un fs ex H H1 h h1){b:Ch}{ob:Obj}(q:h.get? b=P3 ob)(n:H b=r_)(hx:b∉ex):∃sl,h1.get? b=P3 {ob with slots:=sl}:=by
 by_cases hb:b∈fs
 .exact u.slot b ob q n hb hx
 .exact#[_,u.keep b ob q n hb hx]
def Un.kept(k:∀b u,h.get? b=P3 u->h'.get? b=P3 u):Un fs ex H H h h':=
 #[λb ob q _ _ _=>k b ob q,λb ob q _ _ _=>#[_,k b ob q],λ_ _ _ n _=>n,λb ob q _=>#[ob,k b ob q],λ_ _ q=>q,λ_ _ _ q=>q,λ_ ps q=>#[#[],by rw[q];simp]]
def Un.refl:Un fs ex H H h h:=Un.kept λ_ _ q=>q
def Un.laid(k:∀b u,h.get? b=P3 u->h'.get? b=P3 u)(hp:h.objs.size<=a)(hn:H a=r_):Un fs ex H (Av H a o) h h' where
 keep:=λb u q _ _ _=>k b u q
 slot:=λb u q _ _ _=>#[_,k b u q]
 free:=λb u q n _=>by rw[AO^ge^ir (T0 q) hp];exact n
 there:=λb u q _=>#[u,k b u q]
 tups:=λb xs q=>by rw[AO^An q hn];exact q
 frzs:=λb u xs q=>by rw[AO^An q hn];exact q
 tbls:=λb ps q=>#[#[],by rw[AO^An q hn,q];simp]
def Un.write(mu:fh^H x)(he:e=x\/H e=P3^.own x)(k:∀b u,b≠e->h.get? b=P3 u->h'.get? b=P3 u)(heo:∃u,h'.get? e=P3 u):Un fs ex H (Av H x o) h h':=by
 have hx:∀b,H b=r_->b≠x:=λb n z=>by subst z;rw[n]at mu;exact mu
 have hb:∀b,H b=r_->b≠e:=λb n z=>by
  grind
 have hm:∀b u,H b=P3 u->¬fh^P3 u->b≠x:=λb u q nm z=>by grind
 refine#[λb u q n _ _=>k b u (hb b n) q,λb u q n _ _=>#[u.slots,k b u (hb b n) q],λb u q n _=>by rw[AO^hx b n];exact n,λb u q _=>?_,
  λb xs q=>by rw[AO^hm b _ q λz=>z];exact q,λb u xs q=>by rw[AO^hm b _ q λz=>z];exact q,λb ps q=>#[#[],by rw[AO^hm b _ q λz=>z,q];simp]]
 by_cases hbe:b=e
 .simp_all
 .exact#[u,k b u hbe q]
end
def h_(h:iQ)(H:Hp):u_ Ch:=(i4 h.objs.size).filter λa=>(H a).isSome
def Nn(h:iQ)(H:Hp):iQ:=PySem.W.hideAll h^h_ h H
def Uz(h:iQ)(H:Hp):(Nn h H).objs.size=h.objs.size:=PySem.W.hideAll_size _ _
def Xa{h:iQ}{H:Hp}{b:Ch}{o:Obj}(e:h.get? b=P3 o)(n:H b=r_):(Nn h H).get? b=P3 o:=
 PySem.W.hideAll_get _ e λhm=>by
  have q:=(iY.mp hm).2
  grind
def ZE{h:iQ}{H:Hp}{b:Ch}{o:Obj}(e:(Nn h H).get? b=P3 o):h.get? b=P3 o/\H b=r_:=by
 have e':=PySem.W.of_hideAll _ e;refine#[e',?_];cases q:H b with
 |none=>rfl
 |some x=>
  have z:(Nn h H).get? b=r_:=PySem.W.hideAll_none _^iY.mpr #[kG.mpr^T0 e',by simp[q]]
  grind
structure Mod (K:Frag) (mg:Str->Option Db) (base:iQ):Prop where
 kin:K.In base
 glob:base.Ns mainGlobals mg
 blt:∃mb,base.Ns builtinsNs mb/\∀x:Str,x ≠ "__name__"->mb x=bootBuiltins x
 nolimit:base.NoLimit
/-- the context:a def's body (or a comprehension's block) running. base:fixed through the whole law;s₀,H₀:the entry;outer:the frames whose slots others may change (a def's callers);stack:all frames that run;
   ex:iterators that were made ahead of the entry and are walked here^a comprehension's;fn:the names whose cells were made at the entry (a def:all;a comprehension's block:its own);calm:not within an except suite;pn:zF that every state bears;xe:what is wanted of an exception that leaves the code -/
structure Cx where
 prog:ic
 w:ip
 K:Frag
 mg:Str->Option Db
 base:iQ
 A:i5
 N:List Str
 s₀:No
 H₀:Hp
 env:Env
 outer:List Env
 stack:List Env
 ex:List Ch
 fn:Str->Bool
 calm:Bool
 pn:List (Ch×Obj)
 xe:Db->No->Prop
def TC(l:u_ Env):u_ Ch:=l.filterMap (·.frame)
abbrev Cx.fs(X:Cx):u_ Ch:=TC X.outer
def c8(sc:kd)(x:Str):Prop:=sc.names.lookup x=P3 .local\/sc.names.lookup x=P3 .cell\/sc.names.lookup x=P3 .free
def Loc(sc:kd)(x:Str):Prop:=sc.names.lookup x=P3 .local\/sc.names.lookup x=P3 .cell
def Look(env:Env)(h:iQ)(m:Str->v_ Db)(x:Str)(u:Db):Prop:=
 (env.kindOf x=P3 .local/\m x=P3 u)\/((env.kindOf x=P3 .cell\/env.kindOf x=P3 .free)/\∃c,env.cells.lookup x=P3 c/\h.IsCell c^P3 u)
structure Cx.Ok (X:Cx):Prop where
 mod:Mod X.K X.mg X.base
 kind:X.env.scope.kind=.function
 glob:X.env.globals=mainGlobals
 blt:X.env.builtins=builtinsNs
 above:X.s₀.heap.objs.size<=X.env.locals
 inj:∀x y c,X.env.cells.lookup x=P3 c->X.env.cells.lookup y=P3 c->x=y
 has:∀x,(X.env.kindOf x=P3 .cell\/X.env.kindOf x=P3 .free)->∃c,X.env.cells.lookup x=P3 c
 cab:∀x c,X.fn x=s_->X.env.cells.lookup x=P3 c->X.s₀.heap.objs.size<=c
 hd:X.calm=s_->X.A.handled=r_
 frames:X.A.frames=P3 X.stack
 stk:X.stack=X.outer\/(X.stack=X.env::X.outer/\X.env.frame=P3 X.env.locals)
 exf:∀b∈X.ex,b≠X.env.locals/\∀x c,X.env.cells.lookup x=P3 c->c≠b
 bs:∀b o,X.base.get? b=P3 o->X.s₀.heap.get? b=P3 o/\X.H₀ b=r_
 bsz:X.base.objs.size<=X.s₀.heap.objs.size
 noex:∀b o,X.base.get? b=P3 o->b∉X.ex
 exfs:∀b∈X.ex,b∉X.fs
 funs:X.s₀.heap.FunFrames X.base X.outer
 frf:∀b∈X.fs,X.H₀ b=r_
structure Inv (X:Cx) (zF:List (Ch×Obj)) (Z:List^Option V) (H:Hp) (s:No):Prop where
 ok:X.Ok
 os:s.os=X.s₀.os
 bare:mR s.gens
 base:Un X.fs X.ex X.H₀ H X.s₀.heap s.heap
 loc:∃m,s.heap.Ns X.env.locals m/\∀(i:Nat) (x:Str) (v:V),X.N[i]?=P3 x->Z[i]?=P3^P3 v->c8 X.env.scope x->∃u,RelV v u/\Look X.env s.heap m x u
 cell:∀x c,X.env.cells.lookup x=P3 c->∃v,s.heap.IsCell c v
 free:H X.env.locals=r_
 freeC:∀x c,X.env.cells.lookup x=P3 c->H c=r_
 pin:∀p∈X.pn++zF,s.heap.get? p.1=P3 p.2/\H p.1=r_/\p.1≠X.env.locals/\p.1∉X.fs/\∀v,p.2.data≠.cell v
 hok:HOk X.prog X.w H s.heap
 len:Z.length=X.N.length
section
variable {X:Cx}{zF:u_ (Addr×Obj)}{Z:u_^v_ V}{H H':Hp}{s:Shared}{h':Heap}
def Cx.Ok.nofr(ok:X.Ok){b:Ch}{o:Obj}(e:X.base.get? b=P3 o):b∉X.fs:=λhb=>by
 have:=(ok.funs.mem hb).1
 grind
def Inv.bs(I:Inv X zF Z H s):∀b o,X.base.get? b=P3 o->s.heap.get? b=P3 o/\H b=r_:=λb o e=>
 #[I.base.keep b o (I.ok.bs b o e).1 (I.ok.bs b o e).2 (I.ok.nofr e)^I.ok.noex b o e,I.base.free b o (I.ok.bs b o e).1 (I.ok.bs b o e).2 (I.ok.noex b o e)]
def Inv.bk(I:Inv X zF Z H s):∀b o,X.base.get? b=P3 o->s.heap.get? b=P3 o:=λb o e=>(I.bs b o e).1
def Inv.mod(I:Inv X zF Z H s):Mod X.K X.mg X.base:=I.ok.mod
def Inv.kIn(I:Inv X zF Z H s):X.K.In s.heap:=I.ok.mod.kin.keeps I.bk
def Inv.lt(I:Inv X zF Z H s):X.env.locals<s.heap.objs.size:=let #[_,hn,_]:=I.loc;hn.lt
def Inv.sz(I:Inv X zF Z H s):X.s₀.heap.objs.size<=s.heap.objs.size:=iU I.ok.above^nF I.lt
def Inv.nofs(I:Inv X zF Z H s){a:Ch}(h:s.heap.objs.size<=a):a∉X.fs:=λhb=>by
 let#[_,o,ho,_]:=I.ok.funs.mem hb;exact absurd (ir (T0 ho)^iU I.sz h)^jU _
def Inv.cne(I:Inv X zF Z H s):∀x c,X.env.cells.lookup x=P3 c->c≠X.env.locals:=λx c e z=>by
 let#[v,o,ho,hd]:=I.cell x c e;let#[m,#[o',es,ep,ho',hd',_],_]:=I.loc
 grind
def Inv.funs(I:Inv X zF Z H s):s.heap.FunFrames X.base X.outer:=by
 have all:∀(l:u_ _),(∀b∈TC l,b∈X.fs)->X.s₀.heap.FunFrames X.base l->s.heap.FunFrames X.base l:=by
  intro l
  induction l with
  |nil=>intro _ _;trivial
  |cons env r ih=>
   intro hs hl;let#[hk,#[L,o,hf,hn,ho,hd],hr]:=hl;have hL:=hs L (by unfold TC;simp_all);let#[sl,e]:=I.base.slot L o ho (I.ok.frf L hL) hL λz=>I.ok.exfs L z hL;exact#[hk,#[L,_,hf,hn,e,hd],ih (λb hb=>hs b^by unfold TC;rw[List.filterMap_cons,hf];exact TM _ hb) hr]
 exact all _ (λ_ hb=>hb) I.ok.funs
def Inv.stack(I:Inv X zF Z H s):s.heap.FunFrames X.base X.stack:=by
 rcases I.ok.stk with e|⟨e,hf⟩
 .rw[e];exact I.funs
 .rw[e]
  let#[m,hn,_]:=I.loc;exact .cons (by rw[I.ok.kind];decide) hf hn (Heap.get?_none_of_le^iU I.ok.bsz I.ok.above) I.funs
def Inv.stkSub(I:Inv X zF Z H s):∀b∈TC X.stack,b∈X.env.locals::X.fs:=λb hb=>by
 rcases I.ok.stk with e|⟨e,hf⟩
 .grind
 .rw[e]at hb
  unfold TC at hb;rw[List.filterMap_cons,hf]at hb;exact hb
def Inv.stkFree(I:Inv X zF Z H s):∀b∈TC X.stack,H b=r_:=λb hb=>by
 rcases UF.mp^I.stkSub b hb with e|hb
 .rw[e];exact I.free
 .let#[_,o,ho,_]:=I.ok.funs.mem hb
  exact I.base.free b o ho (I.ok.frf b hb) λz=>I.ok.exfs b z hb
def Inv.step{g':Array GenState}{t':Nat}{d':Drawn}{ch:u_ Ch}(I:Inv X zF Z H s)
  (hch:∀b∈ch,(b∈X.ex\/X.s₀.heap.objs.size<=b)/\b≠X.env.locals/\(∀x c,X.env.cells.lookup x=P3 c->c≠b)/\∀p∈X.pn++zF,p.1≠b)
  (keep:∀b o,b≠X.env.locals->b∉X.fs->b∉ch->s.heap.get? b=P3 o->H b=r_->h'.get? b=P3 o)
  (slot:∀b o,b≠X.env.locals->b∈X.fs->b∉ch->s.heap.get? b=P3 o->H b=r_->∃sl,h'.get? b=P3 {o with slots:=sl}) (free:∀b o,b∉ch->s.heap.get? b=P3 o->H b=r_->H' b=r_)
  (there:∀b o,b∉ch->s.heap.get? b=P3 o->∃o',h'.get? b=P3 o')
  (tups:∀b xs,H b=P3^.tup xs->H' b=P3^.tup xs) (frzs:∀b o u,H b=P3^.frz o u->H' b=P3^.frz o u) (tbls:∀b ps,H b=P3^.tbl ps->∃more,H' b=P3^.tbl (ps++more))
  (ns:∀m,s.heap.Ns X.env.locals m->h'.Ns X.env.locals m) (hok:HOk X.prog X.w H' h') (hg:mR g'):
  Inv X zF Z H' {s with heap:=h',gens:=g',drawn:=d',toks:=t'}:=by
 have neL:∀b o,X.s₀.heap.get? b=P3 o->b≠X.env.locals:=λb o e=>ge^ir (T0 e) I.ok.above
 have neC:∀b o,X.s₀.heap.get? b=P3 o->b∉X.ex->b∉ch:=λb o e hx hb=>by
  rcases(hch b hb).1 with z|z
  .exact hx z
  .exact absurd (ir (T0 e) z)^jU _
 have cellK:∀x c,X.env.cells.lookup x=P3 c->∀v,s.heap.IsCell c v->h'.IsCell c v:=λx c e v #[o,ho,hd]=>by
  have nch:c∉ch:=λz=>(hch c z).2.2.1 x c e rfl
  by_cases hc:c∈X.fs
  .let#[sl,q]:=slot c o (I.cne x c e) hc nch ho^I.freeC x c e
   exact#[_,q,hd]
  .exact#[o,keep c o (I.cne x c e) hc nch ho^I.freeC x c e,hd]
 refine#[I.ok,I.os,hg,#[λb o e n hb hx=>?_,λb o e n hb hx=>?_,λb o e n hx=>?_,λb o e hx=>?_,λb xs e=>tups b xs^I.base.tups b xs e,λb o xs e=>frzs b o xs^I.base.frzs b o xs e,λb ps e=>?_],?_,λx c e=>?_,?_,λx c e=>?_,λp hp=>?_,hok,I.len]
 .exact keep b o (neL b o e) hb (neC b o e hx) (I.base.keep b o e n hb hx)^I.base.free b o e n hx
 .let#[sl,e1]:=I.base.slot b o e n hb hx
  let#[sl',e2]:=slot b _ (neL b o e) hb (neC b o e hx) e1^I.base.free b o e n hx;exact#[sl',e2]
 .let#[o',e1]:=I.base.there b o e hx
  exact free b o' (neC b o e hx) e1^I.base.free b o e n hx
 .let#[o',e1]:=I.base.there b o e hx
  exact there b o' (neC b o e hx) e1
 .let#[m1,e1]:=I.base.tbls b ps e
  let#[m2,e2]:=tbls b _ e1;exact#[m1++m2,by rw[e2,Array.append_assoc]]
 .let#[m,hn,hl]:=I.loc
  refine#[m,ns m hn,λi x v e1 e2 e3=>?_];let#[u,r,l]:=hl i x v e1 e2 e3;refine#[u,r,?_]
  rcases l with l|⟨k,c,e,z⟩
  .exact .inl l
  .exact .inr #[k,c,e,cellK x c e _ z]
 .let#[v,z]:=I.cell x c e
  exact#[v,cellK x c e v z]
 .let#[m,#[o,_,_,ho,_],_]:=I.loc
  exact free _ o (λz=>(hch _ z).2.1 rfl) ho I.free
 .let#[v,o,ho,hd]:=I.cell x c e
  exact free c o (λz=>(hch c z).2.2.1 x c e rfl) ho^I.freeC x c e
 .let#[e,n,ne,nf,d]:=I.pin p hp
  have nch:p.1∉ch:=λz=>(hch p.1 z).2.2.2 p hp rfl;exact#[keep p.1 p.2 ne nf nch e n,free p.1 p.2 nch e n,ne,nf,d]
def Inv.un{t':Nat}(I:Inv X zF Z H s)(u:Un X.fs [] H H' s.heap h')(hok:HOk X.prog X.w H' h'):Inv X zF Z H' {s with heap:=h',toks:=t'}:=by
 let#[m,#[o,es,ep,ho,r],_]:=id I.loc;let#[sl,hL]:=u.any ho I.free^by simp
 exact I.step (ch:=[]) (λ_ z=>nomatch z) (λb o _ hb _ e n=>u.keep b o e n hb^by simp) (λb o _ hb _ e n=>u.slot b o e n hb^by simp) (λb o _ e n=>u.free b o e n^by simp) (λb o _ e=>u.there b o e^by simp) u.tups u.frzs u.tbls (λm' hm=>by
  let#[o',es',ep',ho',r']:=hm;rw[ho]at ho';cases ho'
  exact#[_,_,_,hL,r']) hok I.bare
def Inv.call{g':Array GenState}{t':Nat}{d':Drawn}{ch:u_ Ch}(I:Inv X zF Z H s)(u:Un (TC X.stack) ch H H' s.heap h')(hok:HOk X.prog X.w H' h')(hg:mR g')
  (hch:∀b∈ch,(b∈X.ex\/X.s₀.heap.objs.size<=b)/\b≠X.env.locals/\(∀x c,X.env.cells.lookup x=P3 c->c≠b)/\∀p∈X.pn++zF,p.1≠b):
  Inv X zF Z H' {s with heap:=h',gens:=g',drawn:=d',toks:=t'}:=by
 let#[m,#[o,es,ep,ho,r],_]:=id I.loc;let#[sl,hL]:=u.any ho I.free λz=>(hch _ z).2.1 rfl
 exact I.step hch (λb o hL hb hc e n=>u.keep b o e n (λz=>(UF.mp^I.stkSub b z).elim hL hb) hc) (λb o _ _ hc e n=>u.any e n hc) (λb o hc e n=>u.free b o e n hc) (λb o hc e=>u.there b o e hc) u.tups u.frzs u.tbls (λm' hm=>by
  let#[o',es',ep',ho',r']:=hm;rw[ho]at ho';cases ho'
  exact#[_,_,_,hL,r']) hok hg
def Inv.turned{t':Nat}{it:Ch}(I:Inv X zF Z H s)(k:∀b o,b≠it->s.heap.get? b=P3 o->h'.get? b=P3 o)(hn:H it=r_)(hL:it≠X.env.locals)
  (h1:it∈X.ex\/X.s₀.heap.objs.size<=it) (h2:∀x c,X.env.cells.lookup x=P3 c->c≠it) (h3:∀p∈X.pn++zF,p.1≠it):Inv X zF Z H {s with heap:=h',toks:=t'}:=by
 have nit:∀b u,H b=P3 u->b≠it:=λb u e z=>by grind
 refine I.step (g':=s.gens) (d':=s.drawn) (ch:=[it]) (λb hb=>?_) (λb o _ _ hc e _=>k b o (λz=>hc^by simp[z]) e) (λb o _ _ hc e _=>#[o.slots,k b o (λz=>hc^by simp[z]) e]) (λ_ _ _ _ n=>n)
  (λb o hc e=>#[o,k b o (λz=>hc^by simp[z]) e]) (λ_ _ e=>e) (λ_ _ _ e=>e) (λb ps e=>#[#[],by rw[e];simp]) (λm hm=>?_) (λb u e=>?_) I.bare
 .have e:b=it:=by simpa using hb
  subst e;exact#[h1,hL,h2,h3]
 .let#[o,es,ep,ho,r]:=hm
  exact#[o,es,ep,k _ o (i_ hL) ho,r]
 .refine(I.hok b u e).stay (λc v hc q=>k c v ?_ q) (λ_ q=>q) λ_ _ q=>q
  grind
def Inv.tok(I:Inv X zF Z H s)(t:Nat):Inv X zF Z H {s with toks:=t}:=I.un Un.refl I.hok
def Inv.kept{t':Nat}(I:Inv X zF Z H s)(k:∀b u,s.heap.get? b=P3 u->h'.get? b=P3 u):Inv X zF Z H {s with heap:=h',toks:=t'}:=I.un (Un.kept k)^I.hok.kept k
def Inv.laid{a:Ch}{o:HO}{t':Nat}(I:Inv X zF Z H s)(k:∀b u,s.heap.get? b=P3 u->h'.get? b=P3 u)(hp:s.heap.objs.size<=a)(new:ObjOk X.prog X.w (Av H a o) h' a o):
  Inv X zF Z (Av H a o) {s with heap:=h',toks:=t'}:=I.un (Un.laid k hp^I.hok.fresh hp)^I.hok.laid k hp new
def Inv.write{x e:Ch}{o:HO}{t':Nat}(I:Inv X zF Z H s)(mu:fh^H x)(he:e=x\/H e=P3^.own x)(k:∀b u,b≠e->s.heap.get? b=P3 u->h'.get? b=P3 u)(heo:∃u,h'.get? e=P3 u)
  (new:ObjOk X.prog X.w (Av H x o) h' x o):Inv X zF Z (Av H x o) {s with heap:=h',toks:=t'}:=I.un (Un.write mu he k heo)^I.hok.write mu he k heo new
def Inv.pins_of{pins':u_ (Ch×Obj)}(I:Inv X zF Z H s)(h:∀p∈pins',s.heap.get? p.1=P3 p.2/\H p.1=r_/\p.1≠X.env.locals/\p.1∉X.fs/\∀v,p.2.data≠.cell v):Inv X pins' Z H s:=
 #[I.ok,I.os,I.bare,I.base,I.loc,I.cell,I.free,I.freeC,λp hp=>(iP.mp hp).elim (λz=>I.pin p^jZ _ z)^h p,I.hok,I.len]
def PV{N:u_ Str}(hN:N.Nodup){i j:Nat}{x:Str}(a:N[i]?=P3 x)(b:N[j]?=P3 x):i=j:=by
 let#[h1,e1]:=Uf.mp a;let#[h2,e2]:=Uf.mp b;exact(List.getElem_inj hN).mp^e1.trans e2.symm
def L7{M:Model}{A:i5}{E:Db->No->Prop}{i:Nat}{x:Str}{v:V}{u:Db}{Q:Unit->No->Prop}(I:Inv X zF Z H s)(hN:X.N.Nodup)(hi:X.N[i]?=P3 x)(hx:Loc X.env.scope x)(r:RelV v u)
  (h:∀s',Inv X zF (Z.set i^P3 v) H s'->(∃a,ki a s.heap s'.heap/\(a=X.env.locals\/X.env.cells.lookup x=P3 a))->Q () s') (hf:X.fn x=s_\/X.env.scope.names.lookup x=P3 .local:=by first|exact .inl rfl|exact .inr rfl|assumption):wpAny M A (storeName X.env x u) Q E s:=by
 let#[m,hn,hl]:=id I.loc;have hcls:(X.env.scope.kind==.class||(X.env.scope.kind==.module&&X.env.locals !=X.env.globals))=t_:=by rw[I.ok.kind];rfl
 have hiσ:i<Z.length:=by rw[I.len];exact(Uf.mp hi).1
 have cne:=I.cne
 have tracked:∀{a:Ch}{h':iQ},(∃o,s.heap.get? a=P3 o/\H a=r_)->ki a s.heap h'->HOk X.prog X.w H h':=λ{a h'} ha hs b ob e=>by
  let#[_,_,hfree]:=ha;refine(I.hok b ob e).stay (λc w' hc q=>(hs.2 c ?_).trans q) (λ_ q=>q) λ_ _ q=>q;rintro rfl
  rcases hc with rfl|hc
  .rw[hfree]at e;cases e
  .rw[hfree]at hc;cases hc
 rcases hx with hk|hk
 .refine wpAny_storeName_local hk hn (λh' hn' hs=>?_) hcls
  let#[oL,_,_,hoL,_]:=id hn;refine h _ #[I.ok,I.os,I.bare,#[λb o e n hb hx=>?_,λb o e n hb hx=>?_,I.base.free,λb o e hx=>?_,I.base.tups,I.base.frzs,I.base.tbls],#[_,hn',λj y v' e1 e2 e3=>?_],λy c e=>?_,I.free,I.freeC,λp hp=>?_,tracked #[oL,hoL,I.free] hs,by simpa using I.len] #[_,hs,.inl rfl]
  .exact(hs.2 b^ge^ir (T0 e) I.ok.above).trans^I.base.keep b o e n hb hx
  .let#[sl,e1]:=I.base.slot b o e n hb hx
   exact#[sl,(hs.2 b^ge^ir (T0 e) I.ok.above).trans e1]
  .let#[o',e1]:=I.base.there b o e hx
   exact#[o',(hs.2 b^ge^ir (T0 e) I.ok.above).trans e1]
  .by_cases hj:j=i
   .subst hj
    rw[hi]at e1;cases e1
    rw[o4 hiσ]at e2;cases e2;exact#[u,r,.inl #[hk,by simp]]
   .rw[List.getElem?_set_ne^i_ hj]at e2
    let#[u',r',q]:=hl j y v' e1 e2 e3;refine#[u',r',?_]
    rcases q with⟨k,e⟩|⟨k,c,e,z⟩
    .refine .inl #[k,?_]
     have:y≠x:=λe=>hj^PV hN e1 (e▸hi)
     simp[this,e]
    .exact .inr #[k,c,e,z.sameBut hs^cne y c e]
  .let#[w',z]:=I.cell y c e
   exact#[w',z.sameBut hs^cne y c e]
  .let#[e,n,ne,nf,d]:=I.pin p hp
   exact#[(hs.2 p.1 ne).trans e,n,ne,nf,d]
 .have hfn:X.fn x=s_:=by
   rcases hf with z|z
   .exact z
   .rw[z]at hk;cases hk
  let#[c,hc]:=I.ok.has x^.inl hk;let#[w',z]:=I.cell x c hc;refine wpAny_storeName_cell I.ok.kind hk hc z λh' hc' hs=>?_;let#[oc,hoc,hocd]:=id z;refine h {s with heap:=h'} #[I.ok,I.os,I.bare,#[λb o e n hb hx=>?_,λb o e n hb hx=>?_,I.base.free,λb o e hx=>?_,I.base.tups,I.base.frzs,I.base.tbls],#[m,hn.sameBut hs^i_^cne x c hc,λj y v' e1 e2 e3=>?_],λy c' e=>?_,I.free,I.freeC,λp hp=>?_,tracked #[oc,hoc,I.freeC x c hc] hs,by simpa using I.len] #[c,hs,.inr hc]
  .exact(hs.2 b^ge^ir (T0 e)^I.ok.cab x c hfn hc).trans^I.base.keep b o e n hb hx
  .let#[sl,e1]:=I.base.slot b o e n hb hx
   exact#[sl,(hs.2 b^ge^ir (T0 e)^I.ok.cab x c hfn hc).trans e1]
  .let#[o',e1]:=I.base.there b o e hx
   exact#[o',(hs.2 b^ge^ir (T0 e)^I.ok.cab x c hfn hc).trans e1]
  .by_cases hj:j=i
   .subst hj
    rw[hi]at e1;cases e1
    rw[o4 hiσ]at e2;cases e2;exact#[u,r,.inr #[.inl hk,c,hc,hc']]
   .rw[List.getElem?_set_ne^i_ hj]at e2
    let#[u',r',q]:=hl j y v' e1 e2 e3;refine#[u',r',?_]
    rcases q with q|⟨k,c',e,z'⟩
    .exact .inl q
    .refine .inr #[k,c',e,z'.sameBut hs ?_]
     rintro rfl;exact hj^PV hN e1 (I.ok.inj _ _ _ e hc▸hi)
  .by_cases hcc:c'=c
   .subst hcc;exact#[_,hc']
   .let#[w2,z2]:=I.cell y c' e
    exact#[w2,z2.sameBut hs hcc]
  .let#[e,n,ne,nf,d]:=I.pin p hp
   refine#[(hs.2 p.1 ?_).trans e,n,ne,nf,d];intro q;rw[q,hoc]at e;have q':oc=p.2:=eq e;exact d w'^by rw[←q'];exact hocd
def Jj{M:Model}{A:i5}{E:Db->No->Prop}{i:Nat}{x:Str}{v:V}{u:Db}{Q:Unit->No->Prop}(I:Inv X zF Z H s)(hN:X.N.Nodup)(hi:X.N[i]?=P3 x)(hx:Loc X.env.scope x)(r:RelV v u)
  (h:∀s',Inv X zF (Z.set i^P3 v) H s'->Q () s') (hf:X.fn x=s_\/X.env.scope.names.lookup x=P3 .local:=by first|exact .inl rfl|exact .inr rfl|assumption):wpAny M A (storeName X.env x u) Q E s:=
 L7 I hN hi hx r (λs' I' _=>h s' I') hf
def Inv.call'{s':No}{ch:u_ Ch}(I:Inv X zF Z H s)(ho:s'.os=s.os)(u:Un (TC X.stack) ch H H' s.heap s'.heap)(hok:HOk X.prog X.w H' s'.heap)(hg:mR s'.gens)
  (hch:∀b∈ch,(b∈X.ex\/X.s₀.heap.objs.size<=b)/\b≠X.env.locals/\(∀x c,X.env.cells.lookup x=P3 c->c≠b)/\∀p∈X.pn++zF,p.1≠b):Inv X zF Z H' s':=by
 let#[h',g',d',t',o']:=s';subst ho;exact I.call u hok hg hch
end
abbrev XK:=Db->v_ Ch->Hp->Prop
abbrev St:=u_^v_ V
abbrev VK:=V->Hp->Prop
abbrev TE:=St->Hp->VK->Prop
abbrev TT:=St->Hp->(Bool->Hp->Prop)->Prop
abbrev TA:=St->Hp->(u_ V->Hp->Prop)->Prop
structure Ends where
 nx:St->Hp->Prop
 rt:VK
 bk:St->Hp->Prop:=λ_ _=>False
 ct:St->Hp->Prop:=λ_ _=>False
abbrev TS:=Ends->St->Hp->Prop
def EP(X:Cx)(zF:u_ (Ch×Obj))(Z:St)(Q:VK)(u:Db)(s':No):Prop:=∃v H',Inv X zF Z H' s'/\RelV v u/\Q v H'
def TP(X:Cx)(zF:u_ (Ch×Obj))(Z:St)(Q:Bool->Hp->Prop)(b:Bool)(s':No):Prop:=∃H',Inv X zF Z H' s'/\Q b H'
def AP(X:Cx)(zF:u_ (Ch×Obj))(Z:St)(Q:u_ V->Hp->Prop)(us:u_ Db)(s':No):Prop:=∃vs H',Inv X zF Z H' s'/\Vals vs us/\Q vs H'
def SP(X:Cx)(zF:u_ (Ch×Obj))(D:Ends)(f:Flow)(s':No):Prop:=
 match f with
 |.next=>∃zZ H',Inv X zF zZ H' s'/\D.nx zZ H'
 |.brk=>∃zZ H',Inv X zF zZ H' s'/\D.bk zZ H'
 |.cont=>∃zZ H',Inv X zF zZ H' s'/\D.ct zZ H'
 |.ret u=>∃v zZ H',Inv X zF zZ H' s'/\RelV v u/\D.rt v H'
def PE(X:Cx)(e:ie)(t:TE):Prop:=
 ∀(zF:u_ (Ch×Obj)) (s:No) (Z:St) (H:Hp) (Q:VK),Inv X zF Z H s->t Z H Q->wpAny (model X.prog X.w) X.A (eval e X.env) (EP X zF Z Q) X.xe s
def PT(X:Cx)(e:ie)(t:TT):Prop:=
 ∀(zF:u_ (Ch×Obj)) (s:No) (Z:St) (H:Hp) (Q:Bool->Hp->Prop),Inv X zF Z H s->t Z H Q->wpAny (model X.prog X.w) X.A (isTrue e X.env^eval e X.env) (TP X zF Z Q) X.xe s
def PW(X:Cx)(e:ie)(t:TT):Prop:=
 ∀(whole:Sem Db) (zF:u_ (Ch×Obj)) (s:No) (Z:St) (H:Hp) (Q:Bool->Hp->Prop),Inv X zF Z H s->t Z H Q->wpAny (model X.prog X.w) X.A (isTrue e X.env whole) (TP X zF Z Q) X.xe s
def PW.pt{X:Cx}{e:ie}{t:TT}(h:PW X e t):PT X e t:=h _
def PA(X:Cx)(es:u_ ie)(t:TA):Prop:=
 ∀(pos:Pos) (zF:u_ (Ch×Obj)) (s:No) (Z:St) (H:Hp) (Q:u_ V->Hp->Prop),Inv X zF Z H s->t Z H Q->wpAny (model X.prog X.w) X.A (spliced^backTo pos^starEach es X.env) (AP X zF Z Q) X.xe s
def PS(X:Cx)(st:ii)(t:TS):Prop:=
 ∀(zF:u_ (Ch×Obj)) (s:No) (Z:St) (H:Hp) (D:Ends),Inv X zF Z H s->t D Z H->wpAny (model X.prog X.w) X.A (exec st X.env) (SP X zF D) X.xe s
def PSs(X:Cx)(st:u_ ii)(t:TS):Prop:=
 ∀(zF:u_ (Ch×Obj)) (s:No) (Z:St) (H:Hp) (D:Ends),Inv X zF Z H s->t D Z H->wpAny (model X.prog X.w) X.A (execs st X.env) (SP X zF D) X.xe s
def BG{α:Type}{t:Sem α}{Q Q':α->No->Prop}{M:Model}{A:i5}{E:Db->No->Prop}{s:No}(h:wpAny M A t Q E s)(hQ:∀a s,Q a s->Q' a s):wpAny M A t Q' E s:=jT h hQ λ_ _ x=>x
section
variable {X:Cx}
def B9(i:Nat):TE:=λZ H Q=>∃v,Z[i]?=P3^P3 v/\Q v H
def tC(v:V):TE:=λ_ H Q=>Q v H
def NO{i:Nat}{x:Str}{pos:Pos}(hN:X.N[i]?=P3 x)(hv:c8 X.env.scope x)(hd:(x==("__debug__":Str))=t_:=by decide)(hcd:(x==("__classdict__":Str))=t_:=by decide):PE X (.Name x pos)^B9 i:=by
 intro zF s Z H Q I h;let#[v,e,h]:=h;let#[m,hn,hl]:=I.loc;let#[u,r,l]:=hl i x v hN e hv;have fin:EP X _ Z Q u s:=#[v,H,I,r,h]
 rcases l with⟨hk,hm⟩|⟨hk,c,hc,hcell⟩
 .exact wpAny_Name (wpAny_loadName_local I.ok.kind hk hn hm fin) hd
 .rcases hk with hk|hk
  .exact wpAny_Name (wpAny_loadName_cell I.ok.kind hk hc hcell fin) hd
  .exact wpAny_Name (wpAny_loadName_free I.ok.kind hk hc hcell fin hcd) hd
def A3{i j pos}:PE X (.Constant (.int i) j pos)^tC^.int i:=λ_ _ _ H _ I h=>wpAny_Constant_int #[.int i,H,I.tok _,#[_,rfl],h]
def eX{b j pos}:PE X (.Constant (.bool b) j pos)^tC^.bl b:=λ_ _ _ H _ I h=>Constant_bool #[.bl b,H,I,rfl,h]
def bu{j pos}:PE X (.Constant .none j pos)^tC .non:=λ_ _ _ H _ I h=>Constant_none #[.non,H,I,rfl,h]
def RC{x j pos}:PE X (.Constant (.str x) j pos)^tC^.str x:=λ_ _ _ H _ I h=>Calls.Constant_str #[.str x,H,I.tok _,#[_,rfl],h]
def Gl(X:Cx)(x:Str):Prop:=X.env.kindOf x=P3 .globalImplicit
def Gc{E:Db->No->Prop}{zF:u_ (Ch×Obj)}{s:No}{Z:St}{H:Hp}{x:Str}{u:Db}{pos:Pos}{Q:Db->No->Prop}(I:Inv X zF Z H s)(hg:Gl X x)(hm:X.mg x=P3 u)(h:Q u s)
  (hd:(x==("__debug__":Str))=t_:=by decide):wpAny (model X.prog X.w) X.A (eval (.Name x pos) X.env) Q E s:=
 oE I.ok.kind hg (Calls.loadGlobal_global (by rw[I.ok.glob];exact I.mod.glob.keeps I.bk) hm h) hd
def EB{E:Db->No->Prop}{zF:u_ (Ch×Obj)}{s:No}{Z:St}{H:Hp}{x:Str}{u:Db}{pos:Pos}{Q:Db->No->Prop}(I:Inv X zF Z H s)(hg:Gl X x)(hm:X.mg x=r_)(hv:bootBuiltins x=P3 u)(h:Q u s)
  (hn:x ≠ "__name__":=by decide) (hd:(x==("__debug__":Str))=t_:=by decide):wpAny (model X.prog X.w) X.A (eval (.Name x pos) X.env) Q E s:=by
 let#[mb,h1,h2]:=I.mod.blt;exact oE I.ok.kind hg (Calls.loadGlobal_builtin (by rw[I.ok.glob];exact I.mod.glob.keeps I.bk) hm (by rw[I.ok.blt];exact h1.keeps I.bk) ((h2 x hn).trans hv) h) hd
def Y5{x:Str}{v:V}{u:Db}{pos:Pos}(hg:Gl X x)(hm:X.mg x=P3 u)(r:RelV v u)(hd:(x==("__debug__":Str))=t_:=by decide):PE X (.Name x pos)^tC v:=
 λ_ _ _ H _ I h=>Gc I hg hm #[v,H,I,r,h] hd
def Y8{x:Str}{v:V}{u:Db}{pos:Pos}(hg:Gl X x)(hm:X.mg x=r_)(hv:bootBuiltins x=P3 u)(r:RelV v u)(hn:x ≠ "__name__":=by decide)(hd:(x==("__debug__":Str))=t_:=by decide):PE X (.Name x pos)^tC v:=
 λ_ _ _ H _ I h=>EB I hg hm hv #[v,H,I,r,h] hn hd
variable {a b:Expr}{ta tb:TE}{pos:Pos}
def tB(t:TE):TT:=λZ H Q=>t Z H λx H1=>∃c,x=.bl c/\Q c H1
def bh{e:ie}{t:TE}(h:PE X e t)(he:∀whole,isTrue e X.env whole=(do let v ←whole;standAt e.pos;holding [v]^truthy v):=by intro _;rfl):PT X e^tB t:=by
 intro zF s Z H Q I hw;refine isTrue_plain (BG (h _ s Z H _ I hw) λv s1 #[x,H1,I1,r1,q1]=>?_)^he _;let#[d,rfl,q]:=q1;cases r1;exact jV #[H1,I1,q]
variable {tA tB':TT}{rest:u_ Expr}
def d7(t u:TT):TT:=λZ H Q=>t Z H λc H1=>if c=s_ then u Z H1 Q else Q t_ H1
def iC(t u:TT):TT:=λZ H Q=>t Z H λc H1=>if c=s_ then Q s_ H1 else u Z H1 Q
def gC(t:TT):TT:=λZ H Q=>t Z H λc H1=>Q (!c) H1
def Sk(ha:PT X a tA):PW X (.BoolOp .And [a] pos) tA:=by
 intro wh zF s Z H Q I h;refine isTrue_and^BG (ha _ s Z H Q I h) λc s1 e=>?_;cases c with
 |true=>exact isTrue_and_nil e
 |false=>exact e
def bg(ha:PT X a tA):PW X (.BoolOp .Or [a] pos) tA:=by
 intro wh zF s Z H Q I h;refine isTrue_or^BG (ha _ s Z H Q I h) λc s1 e=>?_;cases c with
 |false=>exact isTrue_or_nil e
 |true=>exact e
def WQ(ha:PT X a tA)(hb:PW X (.BoolOp .And (b::rest) pos) tB'):PW X (.BoolOp .And (a::b::rest) pos)^d7 tA tB':=by
 intro wh zF s Z H Q I h;refine isTrue_and^BG (ha _ s Z H _ I h) λc s1 #[H1,I1,q1]=>?_;cases c with
 |true=>exact hb wh _ s1 Z H1 Q I1 q1
 |false=>assumption
def eU(ha:PT X a tA)(hb:PW X (.BoolOp .Or (b::rest) pos) tB'):PW X (.BoolOp .Or (a::b::rest) pos)^iC tA tB':=by
 intro wh zF s Z H Q I h;refine isTrue_or^BG (ha _ s Z H _ I h) λc s1 #[H1,I1,q1]=>?_;cases c with
 |true=>assumption
 |false=>exact hb wh _ s1 Z H1 Q I1 q1
def bi(ha:PT X a tA):PT X (.UnaryOp .Not a pos)^gC tA:=λzF s Z H Q I h=>isTrue_not^ha _ s Z H _ I h
def d6(ta tb:TE):TE:=λZ H Q=>ta Z H λx H1=>∃c,x=.bl c/\if c=s_ then tb Z H1 Q else Q (.bl t_) H1
def gB(ta tb:TE):TE:=λZ H Q=>ta Z H λx H1=>∃c,x=.bl c/\if c=s_ then Q (.bl s_) H1 else tb Z H1 Q
def df(ta:TE):TE:=λZ H Q=>ta Z H λx H1=>∃c,x=.bl c/\Q (.bl (!c)) H1
def bz(ha:PE X a ta)(hb:PE X (.BoolOp .And (b::rest) pos) tb):PE X (.BoolOp .And (a::b::rest) pos)^d6 ta tb:=by
 intro zF s Z H Q I h;refine BoolOp_and^BG (ha _ s Z H _ I h) λv s1 #[x,H1,I1,r1,q1]=>?_;let#[c,rfl,q1]:=q1;cases r1;refine jV ?_;cases c with
 |true=>exact hb _ s1 Z H1 Q I1 q1
 |false=>exact#[.bl _,H1,I1,rfl,q1]
def eW(ha:PE X a ta)(hb:PE X (.BoolOp .Or (b::rest) pos) tb):PE X (.BoolOp .Or (a::b::rest) pos)^gB ta tb:=by
 intro zF s Z H Q I h;refine BoolOp_or^BG (ha _ s Z H _ I h) λv s1 #[x,H1,I1,r1,q1]=>?_;let#[c,rfl,q1]:=q1;cases r1;refine jV ?_;cases c with
 |false=>exact hb _ s1 Z H1 Q I1 q1
 |true=>exact#[.bl _,H1,I1,rfl,q1]
def bq(ha:PE X a ta):PE X (.UnaryOp .Not a pos)^df ta:=by
 intro zF s Z H Q I h;refine UnaryOp_^BG (ha _ s Z H _ I h) λv s1 #[x,H1,I1,r1,q1]=>?_;let#[c,rfl,q1]:=q1;cases r1;exact not_of^jV #[.bl _,H1,I1,rfl,q1]
def iD(t:TT)(ta tb:TE):TE:=λZ H Q=>t Z H λc H1=>if c=s_ then ta Z H1 Q else tb Z H1 Q
def PM{c:ie}(hc:PT X c tA)(ha:PE X a ta)(hb:PE X b tb):PE X (.IfExp c a b pos)^iD tA ta tb:=by
 intro zF s Z H Q I h;refine wpAny_IfExp^BG (hc _ s Z H _ I h) λd s1 #[H1,I1,q1]=>?_;cases d with
 |true=>exact ha _ s1 Z H1 Q I1 q1
 |false=>exact hb _ s1 Z H1 Q I1 q1
end
def SqL(K:Frag)(H:Hp)(a:Ch)(xs:u_ V):Prop:=
 Rd H a (.lst xs) \/
  ∃(o:Obj) (its:Array Db) (n:Nat),K.lookup a=P3 o/\o.cls=.type "list"/\o.dict=r_/\o.data=.seq its n/\its.size<=sizeLine/\Vals xs its.toList
def SqT(K:Frag)(H:Hp)(a:Ch)(xs:u_ V):Prop:=
 Rd H a (.tup xs) \/
  ∃(o:Obj) (its:Array Db) (n:Nat),K.lookup a=P3 o/\o.cls=.type "tuple"/\o.data=.seq its n/\its.size<=sizeLine/\Vals xs its.toList
def gj:Db->v_ V
 |.none=>P3 .non
 |.bool b=>P3^.bl b
 |.int i _=>P3^.int i
 |.str x _=>P3^.str x
 |.bytes b _=>P3^.byt b
 |.float b _=>P3^.flt b
 |.ref a=>P3^.ref a
 |.type n=>P3^.ty n
 |_=>r_
def RelV.abs{x:V}{u:Db}(r:RelV x u):gj u=P3 x:=by
 cases x with
 |non=>cases r;rfl
 |bl _=>cases r;rfl
 |int _=>let#[t,rfl]:=r;rfl
 |str _=>let#[t,rfl]:=r;rfl
 |byt _=>let#[t,rfl]:=r;rfl
 |flt _=>let#[t,rfl]:=r;rfl
 |ref _=>cases r;rfl
 |ty _=>cases r;rfl
def RelV.inj{x y:V}{u:Db}(r:RelV x u)(q:RelV y u):x=y:=eq^r.abs.symm.trans q.abs
theorem Vals.inj:∀{xs ys:u_ V}{us:u_ Db},Vals xs us->Vals ys us->xs=ys
 |_,_,_,.nil,.nil=>rfl
 |_,_,_,.cons r t,.cons r' t'=>by rw[r.inj r',Vals.inj t t']
section
variable {X:Cx}{zF:u_ (Addr×Obj)}{Z:St}{H:Hp}{s:Shared}{a:Addr}{xs ys:u_ V}
def SqL.of{K:Frag}(h:H a=P3^.lst xs):SqL K H a xs:=.inl^.inl h
def SqT.of{K:Frag}(h:H a=P3^.tup xs):SqT K H a xs:=.inl^.inl h
def Inv.list(I:Inv X zF Z H s)(h:SqL X.K H a xs):∃its:u_ Db,Vals xs its/\PlainL s.heap a its.toArray/\xs.length<=sizeLine:=by
 rcases h with h|⟨o,its,n,hk,hc,hd,hs,hz,r⟩
 .let#[z,its,n,r,e]:=h.ok I.hok
  exact#[_,r,#[_,n,e,rfl,rfl,rfl],z]
 .refine#[_,r,#[o,n,I.kIn a o hk,hc,hd,by lk],?_]
  have e:=r.length
  grind
def Inv.tuple(I:Inv X zF Z H s)(h:SqT X.K H a xs):∃its:u_ Db,Vals xs its/\IsTup s.heap a its.toArray/\xs.length<=sizeLine:=by
 rcases h with h|⟨o,its,n,hk,hc,hs,hz,r⟩
 .let#[z,its,r,p]:=h.ok I.hok
  exact#[_,r,p.tup,z]
 .refine#[_,r,#[o,I.kIn a o hk,hc,n,by lk],?_]
  have e:=r.length
  grind
def Inv.list_inj(I:Inv X zF Z H s)(h:SqL X.K H a xs)(h':SqL X.K H a ys):xs=ys:=by
 let#[its,r,#[o,n,e,_,_,d],_]:=I.list h;let#[its',r',#[o',n',e',_,_,d'],_]:=I.list h'
 have:its=its':=by grind
 subst this;exact r.inj r'
def Inv.tuple_inj(I:Inv X zF Z H s)(h:SqT X.K H a xs)(h':SqT X.K H a ys):xs=ys:=by
 let#[its,r,#[o,e,_,n,d],_]:=I.tuple h;let#[its',r',#[o',e',_,n',d'],_]:=I.tuple h'
 have:its=its':=by grind
 subst this;exact r.inj r'
end
abbrev Cx.wish(X:Cx)(E:Db->No->Prop):Cx:={X with xe:=E}
abbrev Cx.nox(X:Cx):Cx:=X.wish λ_ _=>False
def Cx.Ok.wish{X:Cx}(ok:X.Ok)(E:Db->No->Prop):(X.wish E).Ok:=
 #[ok.mod,ok.kind,ok.glob,ok.blt,ok.above,ok.inj,ok.has,ok.cab,ok.hd,ok.frames,ok.stk,ok.exf,ok.bs,ok.bsz,ok.noex,ok.exfs,ok.funs,ok.frf]
def Cx.Ok.unwish{X:Cx}{E:Db->No->Prop}(ok:(X.wish E).Ok):X.Ok:=
 #[ok.mod,ok.kind,ok.glob,ok.blt,ok.above,ok.inj,ok.has,ok.cab,ok.hd,ok.frames,ok.stk,ok.exf,ok.bs,ok.bsz,ok.noex,ok.exfs,ok.funs,ok.frf]
section
variable {X:Cx}{zF:u_ (Addr×Obj)}{Z:St}{H:Hp}{s:Shared}{E:Value->Shared->Prop}
def Inv.wish(I:Inv X zF Z H s)(E:Db->No->Prop):Inv (X.wish E) zF Z H s:=#[I.ok.wish E,I.os,I.bare,I.base,I.loc,I.cell,I.free,I.freeC,I.pin,I.hok,I.len]
def Inv.unwish(I:Inv (X.wish E) zF Z H s):Inv X zF Z H s:=#[I.ok.unwish,I.os,I.bare,I.base,I.loc,I.cell,I.free,I.freeC,I.pin,I.hok,I.len]
def SP.unwish{D:Ends}{f:Flow}{s':No}(h:SP (X.wish E) zF D f s'):SP X zF D f s':=by
 cases f with
 |next=>let#[zZ,H',I,q]:=h;exact#[_,H',I.unwish,q]
 |brk=>let#[zZ,H',I,q]:=h;exact#[_,H',I.unwish,q]
 |cont=>let#[zZ,H',I,q]:=h;exact#[_,H',I.unwish,q]
 |ret u=>let#[v,zZ,H',I,r,q]:=h;exact#[v,_,H',I.unwish,r,q]
def PSs.nox{st:u_ ii}{t:TS}(h:PSs X.nox st t):PSs X st t:=λzF s Z H D I hw=>
 jT (h _ s Z H D (I.wish _) hw) (λ_ _ q=>q.unwish) λ_ _ z=>jL z
end
section
variable {X:Cx}{st:Stmt}{rest:u_ Stmt}{t u:TS}{e:Expr}{te:TE}{pos:Pos}
def Z4:TS:=λD Z H=>D.nx Z H
def T3(t u:TS):TS:=λD Z H=>t {D with nx:=u D} Z H
def NL:PSs X [] Z4:=λ_ _ Z H _ I h=>nG #[Z,H,I,h]
def BR(h1:PS X st t)(h2:PSs X rest u):PSs X (st::rest)^T3 t u:=by
 intro zF s Z H D I h;refine wpAny_execs_cons^BG (h1 _ s Z H _ I h) λf s1 q=>?_;cases f with
 |next=>
  let#[zZ,H',I',q]:=q;exact h2 _ s1 _ H' D I' q
 |ret v=>exact q
 |brk=>exact q
 |cont=>exact q
def DM(h1:PS X st t):PSs X [st] t:=by
 intro zF s Z H D I h;refine wpAny_execs_cons^BG (h1 _ s Z H D I h) λf s1 q=>?_;cases f with
 |next=>exact nG q
 |ret v=>exact q
 |brk=>exact q
 |cont=>exact q
def Inv.quiet{zF:u_ (Ch×Obj)}{Z:St}{H:Hp}{s:No}(I:Inv X zF Z H s):interactive X.env=t_:=by simp[interactive,I.ok.kind]
def di(te:TE):TS:=λD Z H=>te Z H λ_ H1=>D.nx Z H1
def Sq(he:PE X e te)(hs:swapsWith e r_ pos.line X.env=pure t_:=by rfl):PS X (.Expr e pos)^di te:=λzF s Z H D I h=>wpAny_Expr_any (BG (he _ s Z H _ I h) λv s1 #[x,H1,I1,r1,q1]=>#[Z,H1,I1,q1]) I.quiet hs
def Yi(te:TE):TS:=λD Z H=>te Z H D.rt
def Fv(he:PE X e te):PS X (.Return (P3 e) pos)^Yi te:=λzF s Z H D I h=>wpAny_Return_some^BG (he _ s Z H _ I h) λv s1 #[x,H1,I1,r1,q1]=>#[x,Z,H1,I1,r1,q1]
def dh(c:TT)(t u:TS):TS:=λD Z H=>c Z H λb H1=>if b=s_ then t D Z H1 else u D Z H1
def WW{c:ie}{a b:u_ ii}{tc:TT}(hc:PT X c tc)(ha:PSs X a t)(hb:PSs X b u):PS X (.If c a b pos)^dh tc t u:=by
 intro zF s Z H D I h;refine wpAny_If^BG (hc _ s Z H _ I h) λd s1 #[H1,I1,q1]=>?_;cases d with
 |true=>exact ha _ s1 Z H1 D I1 q1
 |false=>exact hb _ s1 Z H1 D I1 q1
end
abbrev TG:=V->St->Hp->(St->Hp->Prop)->Prop
abbrev c_:=u_ V->St->Hp->(St->Hp->Prop)->Prop
def PG(X:Cx)(target:ie)(t:TG):Prop:=
 ∀(zF:u_ (Ch×Obj)) (s:No) (Z:St) (H:Hp) (v:V) (u:Db) (Q:St->Hp->Prop),Inv X zF Z H s->RelV v u->t v Z H Q->
  wpAny (model X.prog X.w) X.A (assign target X.env u) (λ_ s'=>∃zZ H',Inv X zF zZ H' s'/\Q zZ H') X.xe s
def fe(X:Cx)(ts:u_ ie)(t:c_):Prop:=
 ∀(zF:u_ (Ch×Obj)) (s:No) (Z:St) (H:Hp) (vs:u_ V) (us:u_ Db) (Q:St->Hp->Prop),Inv X zF Z H s->Vals vs us->t vs Z H Q->
  wpAny (model X.prog X.w) X.A (assignInOrder ((assignEach ts X.env).map (·.2)) us) (λ_ s'=>∃zZ H',Inv X zF zZ H' s'/\Q zZ H') X.xe s
abbrev c9:=V->V->V->Hp->(Hp->Prop)->Prop
def fb(X:Cx)(t:c9):Prop:=
 ∀(zF:u_ (Ch×Obj)) (s:No) (Z:St) (H:Hp) (o i v:V) (ov iv u:Db) (Q:Hp->Prop),Inv X zF Z H s->RelV o ov->RelV i iv->RelV v u->t o i v H Q->
  wpAny (model X.prog X.w) X.A (setItem ov iv u) (λ_ s'=>∃H',Inv X zF Z H' s'/\Q H') X.xe s
abbrev ft:=V->V->Hp->VK->Prop
def hG(X:Cx)(op:Operator)(t:ft):Prop:=
 ∀(zF:u_ (Ch×Obj)) (s:No) (Z:St) (H:Hp) (x y:V) (v u:Db) (Q:VK),Inv X zF Z H s->RelV x v->RelV y u->t x y H Q->
  wpAny (model X.prog X.w) X.A (inplaceOp op v u) (EP X zF Z Q) X.xe s
section
variable {X:Cx}{pos:Pos}
def IU(i:Nat):TG:=λv Z H Q=>Q (Z.set i^P3 v) H
def GV{i:Nat}{x:Str}(hN:X.N.Nodup)(hi:X.N[i]?=P3 x)(hx:Loc X.env.scope x)(hf:X.fn x=s_\/X.env.scope.names.lookup x=P3 .local:=by first|exact .inl rfl|exact .inr rfl|assumption):PG X (.Name x pos)^IU i:=λzF s Z H v u Q I r h=>wpAny_assign_Name^Jj I hN hi hx r (λs' I'=>#[_,H,I',h]) hf
def gX:c_:=λvs Z H Q=>vs=[]/\Q Z H
def fF(t:TG)(u:c_):c_:=λvs Z H Q=>∃v r,vs=v::r/\t v Z H λzZ H'=>u r zZ H' Q
def Sv:fe X [] gX:=by
 intro zF s Z H vs us Q I r h;let#[e,h]:=h;exact assignInOrder_nil #[Z,H,I,h]
def GU{e:ie}{es:u_ ie}{t:TG}{u:c_}(h1:PG X e t)(h2:fe X es u)
  (hs:(assignEach (e::es) X.env).map (·.2)=assign e X.env::(assignEach es X.env).map (·.2):=by rfl):fe X (e::es)^fF t u:=by
 intro zF s Z H vs us Q I r h;let#[v,vr,e1,h]:=h;subst e1;cases r with
 |cons r rr=>
  rw[hs];exact assignInOrder_cons^BG (h1 _ s Z H _ _ _ I r h) λ_ s1 #[_,H1,I1,q1]=>h2 _ s1 _ H1 _ _ Q I1 rr q1
def gW(K:Frag)(n:Nat)(t:c_):TG:=λv Z H Q=>∃a xs,v=.ref a/\SqT K H a xs/\xs.length=n/\t xs Z H Q
def Wg{es:u_ ie}{k:Nat}{t:c_}{n:Nat}(hc:X.calm=s_)(h:fe X es t)
  (hn:(assignEach es X.env).length=n:=by rfl) (hst:(assignEach es X.env).findIdx? (·.1)=r_:=by rfl):PG X (.Tuple es k pos)^gW X.K n t:=by
 intro zF s Z H v u Q I r hw;let#[a,xs,e1,hq,hl,hw]:=hw;subst e1;cases r;let#[its,rv,ht,hz]:=I.tuple hq;exact assign_Tuple_tuple (I.ok.hd hc) ht (by simp[hn,←hl,rv.length]) hst λh' hx=>h _ _ Z H xs _ Q (I.kept λb o e=>hx b o (ge^T0 e) e) (by lk) hw
def fE(to ti:TE)(t:c9):TG:=λv Z H Q=>to Z H λo H1=>ti Z H1 λi H2=>t o i v H2 λH3=>Q Z H3
def RB{o i:ie}{to ti:TE}{t:c9}(ho:PE X o to)(hi:PE X i ti)(hs:fb X t)
  (ha:∀v,assign (.Subscript o i pos) X.env v=(do
   let ov ←holding [v]^eval o X.env
   let iv ←holding [v,ov] (eval i X.env)
   standAt pos
   holding [v,ov,iv] (setItem ov iv v)
   release [v,ov,iv] []):=by intro _;rfl):PG X (.Subscript o i pos)^fE to ti t:=λzF s Z H v u Q I r h=>Cn^jX^BG (ho _ s Z H _ I h) λov s1 #[x,H1,I1,r1,q1]=>Cn^jX^BG (hi _ s1 Z H1 _ I1 q1) λiv s2 #[y,H2,I2,r2,q2]=>Cn^wpAny_standAt^Cn^jX^BG (hs _ s2 Z H2 x y v ov iv u _ I2 r1 r2 r q2) λ_ s3 #[H3,I3,q3]=>wpAny_release #[Z,H3,I3,q3]
def Ow(te:TE)(g:TG):TS:=λD Z H=>te Z H λx H1=>g x Z H1 D.nx
def NN{tg e:ie}{te:TE}{g:TG}(he:PE X e te)(hg:PG X tg g)(hs:swapsWithSole [tg] e pos.line X.env=pure t_:=by rfl)(hw:swappedStores [tg] e X.env=pure r_:=by rfl)
  (h1:(assignEach [tg] X.env).map (·.2)=[assign tg X.env]:=by rfl):PS X (.Assign [tg] e pos)^Ow te g:=by
 intro zF s Z H D I h;refine wpAny_Assign_stores (BG (he _ s Z H _ I h) λv s1 #[x,H1,I1,r1,q1]=>?_) hs hw;rw[h1];exact BG (hg _ s1 Z H1 x v _ I1 r1 q1) λ_ s2 q=>q
def Ec{i:Nat}{x:Str}{e:ie}{te:TE}{pos':Pos}(hN:X.N.Nodup)(hi:X.N[i]?=P3 x)(hx:Loc X.env.scope x)(he:PE X e te)(hs:swapsWith e (P3^.Name x pos') pos.line X.env=pure t_:=by rfl)(hf:X.fn x=s_\/X.env.scope.names.lookup x=P3 .local:=by first|exact .inl rfl|exact .inr rfl|assumption):
  PS X (.Assign [.Name x pos'] e pos) (Ow te^IU i):=λzF s Z H D I h=>wpAny_Assign_Name (BG (he _ s Z H _ I h) λv s1 #[y,H1,I1,r1,q1]=>Jj I1 hN hi hx r1 (λs2 I2=>#[_,H1,I2,q1]) hf) hs
def gI(i:Nat)(te:TE)(ti:ft):TS:=λD Z H=>∃x,Z[i]?=P3^P3 x/\te Z H λy H1=>ti x y H1 λz H2=>D.nx (Z.set i^P3 z) H2
def bn{i:Nat}{x:Str}{e:ie}{te:TE}{op:Operator}{ti:ft}{pos':Pos}(hN:X.N.Nodup)(hi:X.N[i]?=P3 x)(hx:Loc X.env.scope x)(he:PE X e te)(ho:hG X op ti)(hf:X.fn x=s_\/X.env.scope.names.lookup x=P3 .local:=by first|exact .inl rfl|exact .inr rfl|assumption):
  PS X (.AugAssign (.Name x pos') op e pos) (gI i te ti):=by
 intro zF s Z H D I h;let#[v,e1,h]:=h;let#[m,hn,hl]:=I.loc;have vis:c8 X.env.scope x:=by rcases hx with k|k;exact .inl k;exact .inr^.inl k
 let#[u,r,l]:=hl i x v hi e1 vis;refine wpAny_AugAssign_Name ?_
 have go:wpAny (model X.prog X.w) X.A (eval e X.env) (λw s₂=>wpAny (model X.prog X.w) X.A (inplaceOp op u w) (λr s₃=>wpAny (model X.prog X.w) X.A (storeName X.env x r) (λ_=>SP X zF D .next) X.xe s₃) X.xe s₂) X.xe s:=by
  refine BG (he zF s Z H _ I h) λw s1 #[y,H1,I1,r1,q1]=>?_;refine BG (ho zF s1 Z H1 v y u w _ I1 r r1 q1) λz s2 #[zv,H2,I2,r2,q2]=>?_;exact Jj I2 hN hi hx r2 (λs3 I3=>#[_,H2,I3,q2]) hf
 rcases l with⟨hk,hm⟩|⟨hk,c,hc,hcell⟩
 .exact wpAny_loadName_local I.ok.kind hk hn hm go
 .rcases hk with hk|hk
  .exact wpAny_loadName_cell I.ok.kind hk hc hcell go
  .rcases hx with k|k
   .have:X.env.scope.names.lookup x=P3 .free:=hk
    rw[k]at this;cases this
   .have:X.env.scope.names.lookup x=P3 .free:=hk
    rw[k]at this;cases this
def iH(f:Int->Int->Int):ft:=λx y H Q=>∃i j,x=.int i/\y=.int j/\Q (.int^f i j) H
def cU:hG X .Add (iH λi j=>i+j):=by
 intro zF s Z H x y v u Q I r1 r2 h;let#[i,j,e1,e2,q]:=h;subst e1;subst e2
 let#[t,rfl]:=r1;let#[t',rfl]:=r2;exact iadd_int #[.int _,H,I.tok _,#[_,rfl],q]
end
section
variable {X:Cx}{pos:Pos}
def bL(c:TT)(tb:TS):TS:=λD Z H=>∃W:Nat->St->Hp->Prop,(∃m,W m Z H)/\∀m Z H,W m Z H->
 c Z H λb H1=>if b=s_ then ∃N:St->Hp->Prop,(∀zZ H',N zZ H'->∃m',m'<m/\W m' zZ H')/\tb {D with nx:=N,ct:=N,bk:=D.nx} Z H1 else D.nx Z H1
def WV{c:ie}{body:u_ ii}{tc:TT}{tb:TS}(hp:ou (model X.prog X.w) X.A X.env X.xe)(hc:PT X c tc)(hb:PSs X body tb):PS X (.While c body [] pos)^bL tc tb:=by
 intro zF s Z H D I h;let#[W,#[m0,w0],turn]:=h;refine wpAny_While^codeAny_whileLoop (λn s'=>∃zZ H',Inv X zF zZ H' s'/\W n zZ H') ?_ m0 #[Z,H,I,w0];rintro n s1 ⟨zJ,H1,I1,w1⟩;refine ko hp^BG (hc zF s1 zJ H1 _ I1^turn n zJ H1 w1) λb s2 #[H2,I2,q2]=>?_;cases b with
 | true=>
  let#[N,hN,q2]:=q2;rw[if_pos rfl];refine ko hp^BG (hb zF s2 zJ H2 _ I2 q2) λf s3 q3=>?_;cases f with
  |next=>
   let#[zV,H3,I3,n3]:=q3;let#[m',hm,w3]:=hN zV H3 n3;exact#[m',hm,zV,H3,I3,w3]
  |cont=>
   let#[zV,H3,I3,n3]:=q3;let#[m',hm,w3]:=hN zV H3 n3;exact#[m',hm,zV,H3,I3,w3]
  |brk=>exact q3
  |ret v=>exact q3
 |false=>
  rw[if_neg iS];exact nG #[zJ,H2,I2,q2]
end
structure It where
 go:Nat->Hp->Prop
 yld:Nat->Hp->V->Hp->Prop
 stop:Nat->Hp->Prop
def HB(X:Cx)(zF:u_ (Ch×Obj))(H:Hp)(b:Ch):Prop:=
 H b=r_/\b≠X.env.locals/\b∉X.fs/\(b∈X.ex\/X.s₀.heap.objs.size<=b)/\(∀x c,X.env.cells.lookup x=P3 c->c≠b)/\∀p∈X.pn++zF,p.1≠b
def Inv.fpOk{X:Cx}{zF:u_ (Ch×Obj)}{Z:St}{H H':Hp}{s:No}{b:Ch}(I:Inv X zF Z H s)(hb:s.heap.objs.size<=b)(hn:H' b=r_):HB X zF H' b:=by
 refine#[hn,mG^ir I.lt hb,I.nofs hb,.inr^iU I.sz hb,λx c e z=>?_,λp hp z=>?_]
 .let#[v,q]:=I.cell x c e
  exact absurd (ir q.lt^by rw[z];exact hb)^jU _
 .exact absurd (ir (T0 (I.pin p hp).1)^by rw[z];exact hb)^jU _
structure Turn (P:ic) (w:ip) (K:Frag) (tg:ie) (J:It) (fp:List Ch) (it:Ch) (tn:Nat->iQ->Prop):Prop where
 mem:it∈fp
 obj:∀i h,tn i h->∀b∈fp,∃o,h.get? b=P3 o/\∀v,o.data≠.cell v
 keep:∀i h h',tn i h->(∀b∈fp,∀o,h.get? b=P3 o->h'.get? b=P3 o)->tn i h'
 item:∀(X:Cx),X.prog=P->X.w=w->X.K=K->X.calm=s_->∀(i:Nat) (zF:List (Ch×Obj)) (s:No) (Z:St) (H:Hp) (E:Db->No->Prop),Inv X zF Z H s->(∀b∈fp,HB X zF H b)->tn i s.heap->J.go i H->
  wpAny (model P w) X.A (pyNext^.ref it) (λr s1=>∃u,r=P3 u /\
   wpAny (model P w) X.A (letOwnedTupleGo tg (.ref it) u) (λ_ s2=>∃x H',Inv X zF Z H' s2/\RelV x u/\J.yld i H x H'/\tn (i+1) s2.heap/\∀b∈fp,H' b=r_) E s1) E s
 done:∀(X:Cx),X.prog=P->X.w=w->X.K=K->X.calm=s_->∀(i:Nat) (zF:List (Ch×Obj)) (s:No) (Z:St) (H:Hp) (E:Db->No->Prop),Inv X zF Z H s->(∀b∈fp,HB X zF H b)->tn i s.heap->J.stop i H->
  wpAny (model P w) X.A (pyNext^.ref it) (λr s1=>r=r_/\Inv X zF Z H s1) E s
 self:∀(A:i5) (i:Nat) (s:No) (Q:Db->No->Prop) (E:Db->No->Prop),tn i s.heap->Q (.ref it) s->wpAny (model P w) A (pyIter^.ref it) Q E s
abbrev TI:=St->Hp->(It->Hp->Prop)->Prop
def hU(X:Cx)(zF:u_ (Ch×Obj))(Z:St)(tg:ie)(R:It->Hp->Prop)(itv:Db)(s2:No):Prop:=
 ∃(it:Ch) (fp:u_ Ch) (tn:Nat->iQ->Prop) (J:It) (H':Hp),itv=.ref it/\Inv X zF Z H' s2/\Turn X.prog X.w X.K tg J fp it tn/\tn 0 s2.heap/\(∀b∈fp,HB X zF H' b)/\R J H'
def PI(X:Cx)(tg iter:ie)(wi:TI):Prop:=
 ∀(zF:u_ (Ch×Obj)) (s:No) (Z:St) (H:Hp) (R:It->Hp->Prop),Inv X zF Z H s->wi Z H R->
  wpAny (model X.prog X.w) X.A (eval iter X.env) (λv s1=>wpAny (model X.prog X.w) X.A (pyIter v) (hU X zF Z tg R) X.xe s1) X.xe s
def S_ {M:Model}{A:i5}{E:Db → No → Prop}{s:No}{tg:ie}{it:Ch}{u:Db}{o:Obj}{n:String}{vs:Array Db}{Q:Unit → No → Prop} (ho:s.heap.get? it=P3 o) (hc:o.cls=.type n) (hd:o.data=.fields vs)
    (hn:["enumerate","zip","dict_itemiterator","dict_reverseitemiterator","odict_iterator","itertools.zip_longest","itertools.pairwise"].contains n=t_) (hQ:Q () s):wpAny M A (letOwnedTupleGo tg (.ref it) u) Q E s:=by
  unfold letOwnedTupleGo
  cases tg <;>first
    |exact Op hQ
    |(cases u <;>first
        |exact Op hQ
        | (refine Cn^wpAny_load ho ?_
           rw[hc,hd];show wpAny M A (if(["enumerate","zip","dict_itemiterator","dict_reverseitemiterator","odict_iterator","itertools.zip_longest","itertools.pairwise"].contains n && vs[0]?==P3^rawInt _)=s_ then _ else _) Q E s;rw[if_neg^by grind];exact Op hQ))
def gq(K:Frag)(a:Ch):It:=
 #[λi H=>∃xs x,SqL K H a xs/\xs[i]?=P3 x,λi H x H'=>H'=H/\∀xs,SqL K H a xs->xs[i]?=P3 x,λi H=>∃xs,SqL K H a xs/\xs.length<=i]
def dC(K:Frag)(a:Ch):It:=
 #[λi H=>∃xs x,SqT K H a xs/\xs[i]?=P3 x,λi H x H'=>H'=H/\∀xs,SqT K H a xs->xs[i]?=P3 x,λi H=>∃xs,SqT K H a xs/\xs.length<=i]
def fv(lo:Int)(n:Nat):It:=#[λi _=>i<n,λi H x H'=>H'=H/\x=.int (lo+i),λi _=>n<=i]
def Tx{P:ic}{w:ip}{K:Frag}{tg:ie}(a it:Ch):Turn P w K tg (gq K a) [it] it (λi h=>h.IsListIter it a i) where
 mem:=by simp
 obj:=λi h st b hb=>by
  have e:b=it:=by simpa using hb
  subst e;let#[o,e,c,d]:=st;exact#[o,e,λv z=>by rw[d]at z;cases z]
 keep:=λi h h' st k=>st.at λo e=>k it (by simp) o e
 item:=by
  intro X hP hw hK hc i zF s Z H E I hf st hg;subst hP hw hK;let#[xs,x,hq,hx]:=hg;let#[its,rv,p,hz]:=I.list hq;let#[u,hu,ru]:=rv.get hx;let#[f0,f1,f2,f3,f4,f5]:=hf it (by simp);refine wpAny_pyNext_list_item st p.isList (x:=u) (by simpa using hu) λh' st' sb=>?_;have I1:Inv X zF Z H {s with heap:=h'}:=I.turned (t':=s.toks) (λb o hb e=>(sb.2 b hb).trans e) f0 f1 f3 f4 f5;let#[o,e,c,d]:=id st';exact#[u,rfl,S_ (s:={s with heap:=h'}) e c d (by cbv) #[x,H,I1,ru,#[rfl,λys hy=>by rw[I.list_inj hy hq];exact hx],st',λb hb=>(hf b hb).1]]
 done:=by
  intro X hP hw hK hc i zF s Z H E I hf st hg;subst hP hw hK;let#[xs,hq,hx]:=hg;let#[its,rv,p,hz]:=I.list hq;let#[f0,f1,f2,f3,f4,f5]:=hf it (by simp);have hl:=rv.length;exact wpAny_pyNext_list_end (I.ok.hd hc) st p.isList (by simp;lk) λh' eb=>#[rfl,I.turned (t':=s.toks) (λb o hb e=>eb b o hb e) f0 f1 f3 f4 f5]
 self:=λ_ _ _ _ _ st h=>wpAny_pyIter_listiter st h
def Je{P:ic}{w:ip}{K:Frag}{tg:ie}(a it:Ch):Turn P w K tg (dC K a) [it] it (λi h=>h.IsTupleIter it a i) where
 mem:=by simp
 obj:=λi h st b hb=>by
  have e:b=it:=by simpa using hb
  subst e;let#[o,e,c,d]:=st;exact#[o,e,λv z=>by rw[d]at z;cases z]
 keep:=λi h h' st k=>st.at λo e=>k it (by simp) o e
 item:=by
  intro X hP hw hK hc i zF s Z H E I hf st hg;subst hP hw hK;let#[xs,x,hq,hx]:=hg;let#[its,rv,p,hz]:=I.tuple hq;let#[u,hu,ru]:=rv.get hx;let#[f0,f1,f2,f3,f4,f5]:=hf it (by simp);refine wpAny_pyNext_tuple_item st (show s.heap.IsTuple a its.toArray from p) (x:=u) (by simpa using hu) λh' st' sb=>?_;have I1:Inv X zF Z H {s with heap:=h'}:=I.turned (t':=s.toks) (λb o hb e=>(sb.2 b hb).trans e) f0 f1 f3 f4 f5;let#[o,e,c,d]:=id st';exact#[u,rfl,S_ (s:={s with heap:=h'}) e c d (by cbv) #[x,H,I1,ru,#[rfl,λys hy=>by rw[I.tuple_inj hy hq];exact hx],st',λb hb=>(hf b hb).1]]
 done:=by
  intro X hP hw hK hc i zF s Z H E I hf st hg;subst hP hw hK;let#[xs,hq,hx]:=hg;let#[its,rv,p,hz]:=I.tuple hq;let#[f0,f1,f2,f3,f4,f5]:=hf it (by simp);have hl:=rv.length;exact wpAny_pyNext_tuple_end (I.ok.hd hc) st (show s.heap.IsTuple a its.toArray from p) (by simp;lk) λh' eb=>#[rfl,I.turned (t':=s.toks) (λb o hb e=>eb b o hb e) f0 f1 f3 f4 f5]
 self:=λ_ _ _ _ _ st h=>wpAny_pyIter_tupleiter st h
def Qo{P:ic}{w:ip}{K:Frag}{tg:ie}(it:Ch)(lo:Int)(n:Nat):Turn P w K tg (fv lo n) [it] it (λi h=>IsRangeIter h it (lo+(i:Nat)*1) ((n:Int) - (i:Nat)) 1) where
 mem:=by simp
 obj:=λi h st b hb=>by
  simp_all
 keep:=λi h h' st k=>k it (by simp) _ st
 item:=by
  intro X hP hw hK hc i zF s Z H E I hf st hg;subst hP hw hK;let#[f0,f1,f2,f3,f4,f5]:=hf it (by simp);have W:=Walks.range (prog:=X.prog) (w:=X.w) (I.ok.hd hc) it lo 1 n;refine W.item i s _ _ hg st λv h' tk hv st' kk=>?_;let#[t,rfl]:=hv;have I1:Inv X zF Z H {s with heap:=h',toks:=tk}:=I.turned (λb o hb e=>kk b o (by simpa using hb) e) f0 f1 f3 f4 f5;refine#[_,rfl,S_ (s:={s with heap:=h',toks:=tk}) (n:="range_iterator") st' rfl rfl (by cbv) #[.int (lo+i),H,I1,#[t,?_],#[rfl,rfl],st',λb hb=>(hf b hb).1]];rw[Int.mul_one]
 done:=by
  intro X hP hw hK hc i zF s Z H E I hf st hg;subst hP hw hK;let#[f0,f1,f2,f3,f4,f5]:=hf it (by simp);exact wpAny_pyNext_range_end (I.ok.hd hc) st (by have:n<=i:=hg;lk) λh' eb=>#[rfl,I.turned (t':=s.toks) (λb o hb e=>eb b o hb e) f0 f1 f3 f4 f5]
 self:=λ_ _ _ _ _ st h=>wpAny_pyIter_rangeiter st h
section
variable {X:Cx}{tg:Expr}
def gT(K:Frag)(tl:TE):TI:=λZ H R=>tl Z H λx H1=>∃a,x=.ref a/\(∃xs,SqT K H1 a xs)/\R (dC K a) H1
def Wd{l:ie}{tl:TE}(hl:PE X l tl):PI X tg l^gT X.K tl:=by
 intro zF s Z H R I h;refine BG (hl _ s Z H _ I h) λv s1 #[x,H1,I1,r1,q1]=>?_;let#[a,e,#[xs,hq],q]:=q1;subst e;cases r1;let#[its,rv,p,hz]:=I1.tuple hq;refine ja (p) ?_;refine#[_,_,_,_,H1,rfl,I1.kept λb o e=>FM _ e,Je a _,#[_,TW _ rfl,rfl,rfl],λb hb=>?_,q];have e:b=s1.heap.objs.size:=by grind
 subst e;exact I1.fpOk (Sc _)^I1.hok.fresh^Sc _
def WE{zF:u_ (Ch×Obj)}{Z:St}{H:Hp}{s:No}{R:It->Hp->Prop}{E:Db->No->Prop}{lo hi:Int}{t u v:Tok}{tk:Nat}(I:Inv X zF Z H s)(h1:-(2 ^ 62)<=lo)(h2:lo<2 ^ 62)(h3:-(2 ^ 62)<=hi)(h4:hi<2 ^ 62)
  (q:R (fv lo (hi - lo).toNat) H):wpAny (model X.prog X.w) X.A (pyIter^.ref s.heap.objs.size) (hU X zF Z tg R) E {s with heap:=s.heap.push {cls:=.type "range",data:=.fields #[ .int lo t,.int hi u,.int 1 v]},toks:=tk}:=by
 refine wpAny_pyIter_range (IsRange.new ..) (small_one h1 h2 h3 h4) ?_;have I1:Inv X zF Z H {s with heap:=s.heap.push {cls:=.type "range",data:=.fields #[ .int lo t,.int hi u,.int 1 v]},toks:=tk}:=I.kept λb o e=>FM _ e
 refine#[(s.heap.push {cls:=.type "range",data:=.fields #[ .int lo t,.int hi u,.int 1 v]}).objs.size,[(s.heap.push {cls:=.type "range",data:=.fields #[ .int lo t,.int hi u,.int 1 v]}).objs.size],_,_,H,rfl,
  I1.kept (t':=tk) λb o e=>FM _ e,Qo _ lo (hi - lo).toNat,?_,λb hb=>?_,q]
 .have e1:lo+((0:Nat):Int)*1=lo:=by simp
  have e2:(((hi - lo).toNat:Nat):Int) - ((0:Nat):Int)=Builtin.Range.rangeSize lo hi 1:=by rw[rangeSize_one];grind
  show IsRangeIter _ _ (lo+((0:Nat):Int)*1) ((((hi - lo).toNat:Nat):Int) - ((0:Nat):Int)) 1;rw[e1,e2];exact TW _ rfl
 .have e:b=(s.heap.push {cls:=.type "range",data:=.fields #[ .int lo t,.int hi u,.int 1 v]}).objs.size:=by simpa using hb
  subst e;exact I1.fpOk (Sc _)^I1.hok.fresh^Sc _
def fC(ta:TA):TI:=λZ H R=>ta Z H λvs H1=>∃j:Int,vs=[.int j]/\-(2 ^ 62)<=j/\j<2 ^ 62/\R (fv 0 j.toNat) H1
def UQ{a:ie}{ta:TA}{p pos:Pos}(hg:Gl X "range")(hm:X.mg "range"=r_)(ha:PA X [a] ta)(hs:starEach [a] X.env=[(t_,eval a X.env)]:=by rfl):PI X tg (.Call (.Name "range" p) [a] [] pos)^fC ta:=by
 intro zF s Z H R I h;refine Call_^EB I hg hm boot_range (jk (BG (ha _ _ s Z H _ I h) λus s1 #[vs,H1,I1,r1,q1]=>?_) hs rfl);let#[j,e,q1,q2,q]:=q1;subst e;cases r1 with
 |cons r rr=>
  cases rr;let#[t,rfl]:=r;exact call_range_1^WE I1 (by lk) (by lk) q1 q2^by simpa using q
def gF(wi:TI)(g:TG)(tb:TS):TS:=λD Z H=>wi Z H λJ H1=>∃W:Nat->Nat->St->Hp->Prop,(∃m,W 0 m Z H1)/\∀i m Z H,W i m Z H->
 (J.stop i H/\D.nx Z H)\/(J.go i H/\∃N:St->Hp->Prop,(∀zZ H',N zZ H'->∃m',m'<m/\W (i+1) m' zZ H')/\∀x H',J.yld i H x H'->g x Z H' λzM H2=>tb {D with nx:=N,ct:=N,bk:=D.nx} zM H2)
def KG(fp:u_ Ch)(h:iQ):u_ (Ch×Obj):=fp.filterMap λb=>(h.get? b).map λo=>(b,o)
def D_{fp:u_ Ch}{h:iQ}{b:Ch}{o:Obj}(hb:b∈fp)(e:h.get? b=P3 o):(b,o)∈KG fp h:=List.mem_filterMap.mpr #[b,hb,by rw[e];rfl]
def Ua{fp:u_ Ch}{h:iQ}{p:Ch×Obj}(hp:p∈KG fp h):p.1∈fp/\h.get? p.1=P3 p.2:=by
 let#[b,hb,e]:=List.mem_filterMap.mp hp;cases q:h.get? b with
 |none=>grind
 |some o=>
  rw[q]at e;have e':=eq e;subst e'
  simp_all
def Inv.pinned{zF:u_ (Ch×Obj)}{Z:St}{H:Hp}{s:No}{fp:u_ Ch}(I:Inv X zF Z H s)(hf:∀b∈fp,HB X zF H b)(ho:∀b∈fp,∃o,s.heap.get? b=P3 o/\∀v,o.data≠.cell v):Inv X (zF++KG fp s.heap) Z H s:=
 I.pins_of λp hp=>(iP.mp hp).elim (λz=>I.pin p^iV _ z) λz=>by
  let#[hb,e]:=Ua z;let#[f0,f1,f2,_]:=hf _ hb;let#[o,e',d]:=ho _ hb
  grind
def Inv.unpinned{zF pl:u_ (Ch×Obj)}{Z:St}{H:Hp}{s:No}(I:Inv X (zF++pl) Z H s):Inv X zF Z H s:=I.pins_of λp hp=>I.pin p^iV _^jZ _ hp
def NM{iter:ie}{body:u_ ii}{wi:TI}{g:TG}{tb:TS}{pos:Pos}(hp:ou (model X.prog X.w) X.A X.env X.xe)(hc:X.calm=s_)(hi:PI X tg iter wi)(hg:PG X tg g)(hb:PSs X body tb)
  (hs:∀x,foldedSetIterable iter X.env x=pure x:=by intro _;rfl):PS X (.For tg iter body [] pos)^gF wi g tb:=by
 intro zF s Z H D I h;refine wpAny_For (BG (hi zF s Z H _ I h) λv s1 h1=>BG h1 λitv s2 h2=>?_) hs;let#[it,fp,tn,J,H2,e,I2,T,st2,f2,W,#[m0,w0],turn]:=h2;subst e;have stat:∀{H':Hp},(∀b∈fp,H' b=r_)->∀b∈fp,HB X zF H' b:=λhn b hb=>#[hn b hb,(f2 b hb).2];refine codeAny_forLoop_any (λn s'=>∃i zZ H',Inv X zF zZ H' s'/\tn i s'.heap/\(∀b∈fp,H' b=r_)/\W i n zZ H') ?_ m0 #[0,Z,H2,I2,st2,λb hb=>(f2 b hb).1,w0];rintro n s3 ⟨i,zV,H3,I3,st3,fr3,w3⟩
 rcases turn i n zV H3 w3 with⟨stop,qn⟩|⟨go,N,hN,step⟩
 .refine ko hp^BG (T.done X rfl rfl rfl hc i zF s3 zV H3 X.xe I3 (stat fr3) st3 stop) λr s4 #[hr,I4]=>?_
  subst hr;exact nG #[zV,H3,I4,qn]
 .refine ko hp^BG (T.item X rfl rfl rfl hc i zF s3 zV H3 X.xe I3 (stat fr3) st3 go) λr s4 #[u,hr,h4]=>?_
  subst hr;refine ko hp^BG h4 λ_ s5 #[x,H5,I5,r5,y5,st5,fr5]=>?_;have I5':=I5.pinned (stat fr5)^T.obj _ _ st5;refine ko hp^BG (hg _ s5 zV H5 x u _ I5' r5^step x H5 y5) λ_ s6 #[σ6,H6,I6,q6]=>?_;refine ko hp^BG (hb _ s6 σ6 H6 _ I6 q6) λf s7 q7=>?_
  have again:∀{zN:St}{H7:Hp},Inv X (zF++KG fp s5.heap) zN H7 s7->N zN H7->∃m,m<n/\∃i zZ H',Inv X zF zZ H' s7/\tn i s7.heap/\(∀b∈fp,H' b=r_)/\W i m zZ H':=λ{zN H7} I7 n7=>by
   let#[m',hm,w7]:=hN zN H7 n7;refine#[m',hm,i+1,zN,H7,I7.unpinned,T.keep _ _ _ st5 λb hb o e=>(I7.pin (b,o)^iV _^iV _^D_ hb e).1,λb hb=>?_,w7];let#[o,e,d]:=T.obj _ _ st5 b hb;exact(I7.pin (b,o)^iV _^iV _^D_ hb e).2.1
  cases f with
  |next=>let#[zN,H7,I7,n7]:=q7;exact again I7 n7
  |cont=>let#[zN,H7,I7,n7]:=q7;exact again I7 n7
  |brk=>let#[zN,H7,I7,q7]:=q7;exact#[zN,H7,I7.unpinned,q7]
  |ret v=>let#[x7,zN,H7,I7,r7,q7]:=q7;exact#[x7,zN,H7,I7.unpinned,r7,q7]
end
def TD{K:Frag}{a:Ch}{xs:u_ V}{g:TG}{tb:TS}{D:Ends}{Z:St}{H:Hp}(Pv:Nat->St->Hp->Prop)(h0:Pv 0 Z H)(hl:∀i Z H,i<=xs.length->Pv i Z H->SqT K H a xs)
  (hs:∀i x Z H,xs[i]?=P3 x->Pv i Z H->g x Z H λzM H2=>tb {D with nx:=Pv (i+1),ct:=Pv (i+1),bk:=D.nx} zM H2) (hd:∀Z H,Pv xs.length Z H->D.nx Z H):
  ∃W:Nat->Nat->St->Hp->Prop,(∃m,W 0 m Z H)/\∀i m Z H,W i m Z H->
   ((dC K a).stop i H/\D.nx Z H)\/((dC K a).go i H/\∃N:St->Hp->Prop,(∀zZ H',N zZ H'->∃m',m'<m/\W (i+1) m' zZ H')/\∀x H',(dC K a).yld i H x H'->g x Z H' λzM H2=>tb {D with nx:=N,ct:=N,bk:=D.nx} zM H2):=by
 refine#[λi m Z H=>m=xs.length - i/\i<=xs.length/\Pv i Z H,#[xs.length,by simp,iX _,h0],?_];rintro i m Z H ⟨rfl,hi,p⟩;have q:=hl i Z H hi p
 by_cases hlt:i<xs.length
 .refine .inr #[#[xs,xs[i],q,by simp],_,λzZ H' p'=>#[_,by lk,rfl,hlt,p'],λx H' y=>?_]
  let#[e,y]:=y;subst e;exact hs i x Z _ (y xs q) p
 .have e:i=xs.length:=by lk
  subst e;exact .inl #[#[xs,q,Sc _],hd Z H p]
abbrev R2:=V->V->Hp->VK->Prop
def OpR(X:Cx)(f:Db->Db->Sem Db)(r:R2):Prop:=
 ∀(zF:u_ (Ch×Obj)) (s:No) (Z:St) (H:Hp) (x y:V) (v u:Db) (Q:VK),Inv X zF Z H s->RelV x v->RelV y u->r x y H Q->
  wpAny (model X.prog X.w) X.A (f v u) (EP X zF Z Q) X.xe s
def gk(X:Cx)(f:Db->Sem Db)(r:V->Hp->VK->Prop):Prop:=
 ∀(zF:u_ (Ch×Obj)) (s:No) (Z:St) (H:Hp) (x:V) (v:Db) (Q:VK),Inv X zF Z H s->RelV x v->r x H Q->
  wpAny (model X.prog X.w) X.A (f v) (EP X zF Z Q) X.xe s
def CallR(X:Cx)(f:Db)(r:u_ V->Hp->VK->Prop):Prop:=
 ∀(zF:u_ (Ch×Obj)) (s:No) (Z:St) (H:Hp) (xs:u_ V) (us:u_ Db) (Q:VK),Inv X zF Z H s->Vals xs us->r xs H Q->
  wpAny (model X.prog X.w) X.A (call f us) (EP X zF Z Q) X.xe s
def gl(X:Cx)(r:V->Hp->(Bool->Hp->Prop)->Prop):Prop:=
 ∀(zF:u_ (Ch×Obj)) (s:No) (Z:St) (H:Hp) (x:V) (v:Db) (Q:Bool->Hp->Prop),Inv X zF Z H s->RelV x v->r x H Q->
  wpAny (model X.prog X.w) X.A (truthy v) (TP X zF Z Q) X.xe s
def Dg(r:R2)(ta tb:TE):TE:=λZ H Q=>ta Z H λx H1=>tb Z H1 λy H2=>r x y H2 Q
def iA(r:V->Hp->VK->Prop)(ta:TE):TE:=λZ H Q=>ta Z H λx H1=>r x H1 Q
def rI(C:Int->Int->Prop)(g:Int->Int->V):R2:=λx y H Q=>∃i j,x=.int i/\y=.int j/\C i j/\Q (g i j) H
def Iq(g:Int->Int->V):R2:=λx y H Q=>∃i j,x=.int i/\y=.int j/\Q (g i j) H
def rU(g:Int->V):V->Hp->VK->Prop:=λx H Q=>∃i,x=.int i/\Q (g i) H
section
variable {X:Cx}{a b:Expr}{ta tb:TE}{pos:Pos}
def cn(ha:PE X a ta)(hb:PE X b tb){zF:u_ (Ch×Obj)}{s:No}{Z:St}{H:Hp}{R:V->V->Hp->Prop}(I:Inv X zF Z H s)
  (h:ta Z H λx H1=>tb Z H1 λy H2=>R x y H2) {Q:Db->No->Prop}{f:Db->Db->Sem Db}
  (hf:∀v u s2 x y H2,Inv X zF Z H2 s2->RelV x v->RelV y u->R x y H2->wpAny (model X.prog X.w) X.A (f v u) Q X.xe s2):
  wpAny (model X.prog X.w) X.A (eval a X.env) (λv s₁=>wpAny (model X.prog X.w) X.A (eval b X.env) (λu s₂=>wpAny (model X.prog X.w) X.A (f v u) Q X.xe s₂) X.xe s₁) X.xe s:=BG (ha _ s Z H _ I h) λv s1 #[x,H1,I1,r1,q1]=>BG (hb _ s1 Z H1 _ I1 q1) λu s2 #[y,H2,I2,r2,q2]=>hf v u s2 x y H2 I2 r1 r2 q2
def Bz{op:Operator}{r:R2}(ho:OpR X (binaryOp op) r)(ha:PE X a ta)(hb:PE X b tb):PE X (.BinOp a op b pos)^Dg r ta tb:=λzF s Z H Q I h=>wpAny_BinOp^cn ha hb I h λv u s2 x y H2 I2 rx ry q=>ho _ s2 Z H2 x y v u Q I2 rx ry q
def eV{op:UnaryOp}{r:V->Hp->VK->Prop}(ho:gk X (unaryOp op) r)(ha:PE X a ta):PE X (.UnaryOp op a pos)^iA r ta:=λzF s Z H Q I h=>UnaryOp_^BG (ha _ s Z H _ I h) λv s1 #[x,H1,I1,r1,q1]=>ho _ s1 Z H1 x v Q I1 r1 q1
def fo{f:Db->Db->Sem Db}{C:Int->Int->Prop}{g:Int->Int->Int}
  (rule:∀(i j:Int) (t u:Tok) (s:No) (Q:Db->No->Prop) (E:Db->No->Prop),C i j->Q (.int (g i j) s.toks) {s with toks:=s.toks+1}->wpAny (model X.prog X.w) X.A (f (.int i t)^.int j u) Q E s):
  OpR X f (rI C λi j=>.int^g i j):=by
 intro zF s Z H x y v u Q I rx ry h;let#[i,j,rfl,rfl,hc,q]:=h;let#[t,rfl]:=rx;let#[t',rfl]:=ry;exact rule i j t t' s _ _ hc #[.int _,H,I.tok _,#[_,rfl],q]
def ej{f:Db->Db->Sem Db}{g:Int->Int->Int}
  (rule:∀(i j:Int) (t u:Tok) (s:No) (Q:Db->No->Prop) (E:Db->No->Prop),Q (.int (g i j) s.toks) {s with toks:=s.toks+1}->wpAny (model X.prog X.w) X.A (f (.int i t)^.int j u) Q E s):
  OpR X f (Iq λi j=>.int^g i j):=by
 intro zF s Z H x y v u Q I rx ry h;let#[i,j,rfl,rfl,q]:=h;let#[t,rfl]:=rx;let#[t',rfl]:=ry;exact rule i j t t' s _ _ #[.int _,H,I.tok _,#[_,rfl],q]
def ZC{f:Db->Db->Sem Db}{g:Int->Int->Bool}
  (rule:∀(i j:Int) (t u:Tok) (s:No) (Q:Db->No->Prop) (E:Db->No->Prop),Q (.bool^g i j) s->wpAny (model X.prog X.w) X.A (f (.int i t)^.int j u) Q E s):
  OpR X f (Iq λi j=>.bl^g i j):=by
 intro zF s Z H x y v u Q I rx ry h;let#[i,j,rfl,rfl,q]:=h;let#[t,rfl]:=rx;let#[t',rfl]:=ry;exact rule i j t t' s _ _ #[.bl _,H,I,rfl,q]
def YX(i j:Int):Prop:=0<j/\j<1073741824
def YW(i j:Int):Prop:=0<=j/\j<=1000000/\i.natAbs<2 ^ 64
def CMul(i j:Int):Prop:=(-(2 ^ 64)<i/\i<2 ^ 64)\/(-(2 ^ 64)<j/\j<2 ^ 64)
def CMul.ok{i j:Int}(h:CMul i j):IntMulOk i j:=by
 rcases h with⟨h1,h2⟩|⟨h1,h2⟩
 .exact .of_left^intBits_le_64 h1 h2
 .exact .of_right^intBits_le_64 h1 h2
def op_add:OpR X (binaryOp .Add) (Iq λi j=>.int (i+j)):=ej λ_ _ _ _ _ _ _ q=>add_int q
def op_sub:OpR X (binaryOp .Sub) (Iq λi j=>.int (i - j)):=ej λ_ _ _ _ _ _ _ q=>sub_int q
def op_mul:OpR X (binaryOp .Mult) (rI CMul λi j=>.int (i*j)):=fo λ_ _ _ _ _ _ _ hc q=>mul_int q hc.ok
def JG:OpR X (binaryOp .FloorDiv) (rI YX λi j=>.int (i / j)):=fo λi j _ _ _ _ _ hc q=>by
 have h1:=hc.1;have h2:=hc.2;exact floordiv_int (by lk) (by grind)^.inl^PyProof.noPylong_small^by lk
def C6:OpR X (binaryOp .Mod) (rI (λ_ j=>0<j) λi j=>.int (i % j)):=fo λi j _ _ _ _ _ hc q=>mod_int' (by lk)^by rw[Int.fmod_eq_emod_of_nonneg i^by lk];exact q
def RE:OpR X (binaryOp .Pow) (rI YW λi j=>.int (i ^ j.toNat)):=fo λ_ _ _ _ _ _ _ hc q=>pow_int_small hc.1 hc.2.1 hc.2.2 q
def h9{f:Db->Sem Db}{g:Int->Int}
  (rule:∀(i:Int) (t:Tok) (s:No) (Q:Db->No->Prop) (E:Db->No->Prop),Q (.int (g i) s.toks) {s with toks:=s.toks+1}->wpAny (model X.prog X.w) X.A (f^.int i t) Q E s):
  gk X f (rU λi=>.int^g i):=by
 intro zF s Z H x v Q I rx h;let#[i,rfl,q]:=h;let#[t,rfl]:=rx;exact rule i t s _ _ #[.int _,H,I.tok _,#[_,rfl],q]
def bC:gk X (unaryOp .USub) (rU λi=>.int (-i)):=h9 λ_ _ _ _ _ q=>neg_int q
end
def d8:V->V->Bool
 |.non,.non=>s_|.non,.int _=>s_|.int _,.non=>s_|.non,.bl _=>s_|.bl _,.non=>s_|.non,.str _=>s_|.str _,.non=>s_
 |.int _,.int _=>s_|.bl _,.bl _=>s_|.str _,.str _=>s_|.byt _,.byt _=>s_
 |.int _,.str _=>s_|.str _,.int _=>s_|.bl _,.str _=>s_|.str _,.bl _=>s_
 |_,_=>t_
def gz:R2:=λx y H Q=>d8 x y=s_/\Q (.bl (decide (x=y))) H
def gw:R2:=λx y H Q=>d8 x y=s_/\Q (.bl (!decide (x=y))) H
def JR{i j:Int}:decide (V.int i=V.int j)=(i==j):=by
 rw[i6];simp
def N1{i j:Bool}:decide (V.bl i=V.bl j)=(i==j):=by
 rw[i6];simp
def JQ{i j:Str}:decide (V.str i=V.str j)=(i==j):=by
 rw[i6];simp
def TV{i j:Array UInt8}:decide (V.byt i=V.byt j)=(i.toList==j.toList):=by
 rw[i6]
 simp_all
section
variable {X:Cx}{a b c:Expr}{ta tb tc:TE}{pos:Pos}
def A1{zF:u_ (Ch×Obj)}{Z:St}{H:Hp}{s:No}{Q:VK}{k k':Bool}(I:Inv X zF Z H s)(q:Q (.bl k) H)(e:k=k'):EP X zF Z Q (.bool k') s:=by
 subst e;exact#[.bl k,H,I,rfl,q]
def B0:OpR X (compareOp .Eq) gz:=by
 intro zF s Z H x y v u Q I rx ry h;let#[hs,q]:=h;cases x with
 |non=>
  cases rx;cases y with
  |non=>cases ry;exact PySem.EqNone.eq_none_none^A1 I q^by simp
  |bl j=>cases ry;exact PySem.EqNone.eq_none_bool^A1 I q^by simp
  |int j=>let#[t',rfl]:=ry;exact PySem.EqNone.eq_none_int^A1 I q^by simp
  |str j=>let#[t',rfl]:=ry;exact PySem.EqNone.eq_none_str^A1 I q^by simp
  |_=>exact absurd (show t_=s_ from hs) iS
 |bl i=>
  cases rx;cases y with
  |non=>cases ry;exact PySem.EqNone.eq_bool_none^A1 I q^by simp
  |bl j=>cases ry;exact eq_bool^A1 I q N1
  |str j=>let#[t',rfl]:=ry;exact PySem.EqMixed.eq_bool_str^A1 I q^by simp
  |_=>exact absurd (show t_=s_ from hs) iS
 |int i=>
  let#[t,rfl]:=rx;cases y with
  |non=>cases ry;exact PySem.EqNone.eq_int_none^A1 I q^by simp
  |int j=>let#[t',rfl]:=ry;exact eq_int^A1 I q JR
  |str j=>let#[t',rfl]:=ry;exact PySem.EqMixed.eq_int_str^A1 I q^by simp
  |_=>exact absurd (show t_=s_ from hs) iS
 |str i=>
  let#[t,rfl]:=rx;cases y with
  |non=>cases ry;exact PySem.EqNone.eq_str_none^A1 I q^by simp
  |bl j=>cases ry;exact PySem.EqMixed.eq_str_bool^A1 I q^by simp
  |int j=>let#[t',rfl]:=ry;exact PySem.EqMixed.eq_str_int^A1 I q^by simp
  |str j=>let#[t',rfl]:=ry;exact eq_str^A1 I q JQ
  |_=>exact absurd (show t_=s_ from hs) iS
 |byt i=>
  let#[t,rfl]:=rx;cases y with
  |byt j=>let#[t',rfl]:=ry;exact PySem.W.eq_bytes^A1 I q TV
  |_=>exact absurd (show t_=s_ from hs) iS
 |_=>cases y <;>exact absurd (show t_=s_ from hs) iS
def Ws:OpR X (compareOp .NotEq) gw:=by
 intro zF s Z H x y v u Q I rx ry h;let#[hs,q]:=h;cases x with
 |non=>
  cases rx;cases y with
  |non=>cases ry;exact PySem.EqNone.ne_none_none^A1 I q^by simp
  |bl j=>cases ry;exact PySem.EqNone.ne_none_bool^A1 I q^by simp
  |int j=>let#[t',rfl]:=ry;exact PySem.EqNone.ne_none_int^A1 I q^by simp
  |str j=>let#[t',rfl]:=ry;exact PySem.EqNone.ne_none_str^A1 I q^by simp
  |_=>exact absurd (show t_=s_ from hs) iS
 |bl i=>
  cases rx;cases y with
  |non=>cases ry;exact PySem.EqNone.ne_bool_none^A1 I q^by simp
  |bl j=>cases ry;exact ne_bool^A1 I q^congrArg not N1
  |str j=>let#[t',rfl]:=ry;exact PySem.EqMixed.ne_bool_str^A1 I q^by simp
  |_=>exact absurd (show t_=s_ from hs) iS
 |int i=>
  let#[t,rfl]:=rx;cases y with
  |non=>cases ry;exact PySem.EqNone.ne_int_none^A1 I q^by simp
  |int j=>let#[t',rfl]:=ry;exact ne_int^A1 I q^congrArg not JR
  |str j=>let#[t',rfl]:=ry;exact PySem.EqMixed.ne_int_str^A1 I q^by simp
  |_=>exact absurd (show t_=s_ from hs) iS
 |str i=>
  let#[t,rfl]:=rx;cases y with
  |non=>cases ry;exact PySem.EqNone.ne_str_none^A1 I q^by simp
  |bl j=>cases ry;exact PySem.EqMixed.ne_str_bool^A1 I q^by simp
  |int j=>let#[t',rfl]:=ry;exact PySem.EqMixed.ne_str_int^A1 I q^by simp
  |str j=>let#[t',rfl]:=ry;exact ne_str^A1 I q^congrArg not JQ
  |_=>exact absurd (show t_=s_ from hs) iS
 |byt i=>
  let#[t,rfl]:=rx;cases y with
  |byt j=>let#[t',rfl]:=ry;exact PySem.W.ne_bytes^A1 I q^congrArg not TV
  |_=>exact absurd (show t_=s_ from hs) iS
 |_=>cases y <;>exact absurd (show t_=s_ from hs) iS
def op_lt:OpR X (compareOp .Lt) (Iq λi j=>.bl (decide (i<j))):=ZC λ_ _ _ _ _ _ _ q=>o5 q
def op_le:OpR X (compareOp .LtE) (Iq λi j=>.bl (decide (i<=j))):=ZC λ_ _ _ _ _ _ _ q=>le_int q
def aM:OpR X (compareOp .Gt) (Iq λi j=>.bl (decide (j<i))):=ZC λ_ _ _ _ _ _ _ q=>gt_int q
def eh:OpR X (compareOp .GtE) (Iq λi j=>.bl (decide (j<=i))):=ZC λ_ _ _ _ _ _ _ q=>ge_int q
def UW:OpR X (compareOp .Lt) (λx y H Q=>∃i j,x=.str i/\y=.str j/\Q (.bl (decide (i.cps.toList<j.cps.toList))) H):=by
 intro zF s Z H x y v u Q I rx ry h;let#[i,j,rfl,rfl,q]:=h;let#[t,rfl]:=rx;let#[t',rfl]:=ry;exact lt_str (A1 I q rfl)
def UY:OpR X (compareOp .In) (λx y H Q=>∃i j,x=.str i/\y=.str j/\Q (.bl (!(jW j i 0 j.length 1).isEmpty)) H):=by
 intro zF s Z H x y v u Q I rx ry h;let#[i,j,rfl,rfl,q]:=h;let#[t,rfl]:=rx;let#[t',rfl]:=ry;exact in_str (A1 I q rfl)
def Wu:OpR X (compareOp .Is) (λx y H Q=>y=.non/\Q (.bl (decide (x=.non))) H):=by
 intro zF s Z H x y v u Q I rx ry h;let#[rfl,q]:=h;cases ry;refine is_none_gen^A1 I q ?_
 cases x <;>first
  |omega
  |(let#[t,rfl]:=rx;rfl)
def Sz:OpR X (compareOp .IsNot) (λx y H Q=>y=.non/\Q (.bl (!decide (x=.non))) H):=by
 intro zF s Z H x y v u Q I rx ry h;let#[rfl,q]:=h;cases ry;refine isnot_none_gen^A1 I q ?_
 cases x <;>first
  |omega
  |(let#[t,rfl]:=rx;rfl)
def OpR.or{f:Db->Db->Sem Db}{r r':R2}(h:OpR X f r)(h':OpR X f r'):OpR X f (λx y H Q=>r x y H Q\/r' x y H Q):=by
 intro zF s Z H x y v u Q I rx ry q
 rcases q with q|q
 .exact h _ s Z H x y v u Q I rx ry q
 .exact h' _ s Z H x y v u Q I rx ry q
def Ah(b:ie){op:CmpOp}(h:op≠.In:=by decide)(h2:op≠.NotIn:=by decide):behindInMarks op b=t_:=by
 have e1:(op==CmpOp.In)=t_:=by grind
 have e2:(op==CmpOp.NotIn)=t_:=by grind
 cases b <;>simp[behindInMarks,e1,e2]
def Y7{op:CmpOp}{r:R2}(ho:OpR X (compareOp op) r)(ha:PE X a ta)(hb:PE X b tb)(hm:behindInMarks op b=t_):PE X (.Compare a [op] [b] pos)^Dg r ta tb:=λzF s Z H Q I h=>wpAny_Compare1 (cn ha hb I h λv u s2 x y H2 I2 rx ry q=>ho _ s2 Z H2 x y v u Q I2 rx ry q) hm
def SQ(t:TE):TT:=λZ H Q=>t Z H λx H'=>∃k,x=.bl k/\Q k H'
def GR{op:CmpOp}{r:R2}(ho:OpR X (compareOp op) r)(ha:PE X a ta)(hb:PE X b tb)(hm:behindInMarks op b=t_):PT X (.Compare a [op] [b] pos)^SQ^Dg r ta tb:=by
 intro zF s Z H Q I h
 refine wpAny_isTrue_Compare1 (BG (ha _ s Z H _ I h) λv s1 #[x,H1,I1,r1,q1]=>BG (hb _ s1 Z H1 _ I1 q1) λu s2 #[y,H2,I2,r2,q2]=>
  BG (ho _ s2 Z H2 x y v u _ I2 r1 r2 q2) λc s3 #[z,H3,I3,r3,k,e,q3]=>?_) hm
 subst e;cases r3;exact jV #[H3,I3,q3]
def Qt(r r':R2)(ta tb tc:TE):TE:=λZ H Q=>ta Z H λx H1=>tb Z H1 λy H2=>r x y H2 λz H3=>∃k,z=.bl k /\
 (if k=s_ then tc Z H3 λw' H4=>r' y w' H4 Q else Q (.bl t_) H3)
def Wl{op op':CmpOp}{r r':R2}(ho:OpR X (compareOp op) r)(ho':OpR X (compareOp op') r')(ha:PE X a ta)(hb:PE X b tb)(hc:PE X c tc)
  (hm:lastMarks [op,op'] [b,c]=t_:=by with_unfolding_all rfl):PE X (.Compare a [op,op'] [b,c] pos)^Qt r r' ta tb tc:=by
 intro zF s Z H Q I h
 refine Compare_chain (BG (ha _ s Z H _ I h) λv s1 #[x,H1,I1,r1,q1]=>chain_link (BG (hb _ s1 Z H1 _ I1 q1) λu s2 #[y,H2,I2,r2,q2]=>
  BG (ho _ s2 Z H2 x y v u _ I2 r1 r2 q2) λd s3 #[z,H3,I3,r3,k,e,q3]=>?_)) hm
 subst e;cases r3;refine jV ?_;cases k with
 |false=>exact ite_ff #[.bl _,H3,I3,rfl,q3]
 |true=>exact ite_tt^chain_last^BG (hc _ s3 Z H3 _ I3 q3) λw' s4 #[z',H4,I4,r4,q4]=>ho' _ s4 Z H4 y z' u w' Q I4 r2 r4 q4
def WU{op op':CmpOp}{r r':R2}(ho:OpR X (compareOp op) r)(ho':OpR X (compareOp op') r')(ha:PE X a ta)(hb:PE X b tb)(hc:PE X c tc)
  (hm:lastMarks [op,op'] [b,c]=t_:=by with_unfolding_all rfl):PT X (.Compare a [op,op'] [b,c] pos)^SQ^Qt r r' ta tb tc:=by
 intro zF s Z H Q I h
 refine isTrue_chain (BG (ha _ s Z H _ I h) λv s1 #[x,H1,I1,r1,q1]=>test_link (BG (hb _ s1 Z H1 _ I1 q1) λu s2 #[y,H2,I2,r2,q2]=>
  BG (ho _ s2 Z H2 x y v u _ I2 r1 r2 q2) λd s3 #[z,H3,I3,r3,k,e,q3]=>?_)) hm
 subst e;cases r3;refine jV ?_;cases k with
 |false=>
  let#[k',e',q']:=q3;cases e';exact ite_ff #[H3,I3,q']
 |true=>
  refine ite_tt^test_last^BG (hc _ s3 Z H3 _ I3 q3) λw' s4 #[z',H4,I4,r4,q4]=>BG (ho' _ s4 Z H4 y z' u w' _ I4 r2 r4 q4) λd' s5 #[z2,H5,I5,r5,k2,e2,q5]=>?_;subst e2;cases r5;exact jV #[H5,I5,q5]
def Zu(K:Frag)(x:V)(H:Hp)(k:Bool):Prop:=
 match x with
 |.non=>k=t_
 |.bl b=>k=b
 |.int i=>k=(i !=0)
 |.str y=>y.length<=sizeLine/\k=((y.length:Int) !=0)
 |.byt y=>y.size<=sizeLine/\k=((y.size:Int) !=0)
 |.ref p=>(∃xs,SqL K H p xs/\k=!xs.isEmpty)\/(∃xs,SqT K H p xs/\k=!xs.isEmpty)\/∃kvs,H p=P3^.dK kvs/\k=!kvs.isEmpty
 |_=>False
def RS{κ:Type}{kvs:u_ (κ×V)}{vs:u_ (κ×Db)}(r:KV kvs vs):(!vs.isEmpty)=!kvs.isEmpty:=by
 cases r <;>rfl
def Kf{xs:u_ V}{its:u_ Db}(r:Vals xs its):(!its.toArray.isEmpty)=!xs.isEmpty:=by
 cases r <;>simp
def HU:(sizeLine:Nat)<2 ^ 63:=by cbv
def Vm:gl X (λx H Q=>∃k,Zu X.K x H k/\Q k H):=by
 intro zF s Z H x v Q I rx h;let#[k,e,q]:=h;have hl:=HU;have hs:sizeLine=16777216:=i9;cases x with
 |non=>
  cases rx;have e':k=t_:=e;subst e';exact truthy_none #[H,I,q]
 |bl b=>
  cases rx;have e':k=b:=e;subst e';exact jV #[H,I,q]
 |int i=>
  let#[t,rfl]:=rx;have e':k=(i !=0):=e;subst e';exact PySem.P.truthy_int #[H,I,q]
 |str y=>
  let#[t,rfl]:=rx;obtain⟨hy,e'⟩:y.length<=sizeLine/\k=((y.length:Int) !=0):=e;subst e';exact PySem.P.truthy_str (by lk) #[H,I.tok _,q]
 |byt y=>
  let#[t,rfl]:=rx;obtain⟨hy,e'⟩:y.size<=sizeLine/\k=((y.size:Int) !=0):=e;subst e';exact PySem.W.truthy_bytes (by lk) #[H,I.tok _,q]
 | ref p=>
  cases rx;have e':(∃xs,SqL X.K H p xs/\k=!xs.isEmpty)\/(∃xs,SqT X.K H p xs/\k=!xs.isEmpty)\/∃kvs,H p=P3^.dK kvs/\k=!kvs.isEmpty:=e
  rcases e' with⟨xs,hx,e'⟩|⟨xs,hx,e'⟩|⟨kvs,hx,e'⟩
  .subst e'
   let#[its,r,pl,hz]:=I.list hx;have hlen:=r.length;exact wpAny_truthy_list pl.isList (by simp only[f8];lk) #[H,I.tok _,by rw[Kf r];exact q]
  .subst e'
   let#[its,r,pl,hz]:=I.tuple hx;have hlen:=r.length;exact truthy_tuple pl (by simp only[f8];lk) #[H,I.tok _,by rw[Kf r];exact q]
  .subst e'
   obtain⟨hz,hS,vs,r,m⟩:kvs.length<=sizeLine/\(p==sysModules)=t_/\∃vs,KV kvs vs/\s.heap.DictOf (BI X.prog X.w) p vs:=I.hok p _ hx;have hlen:kvs.length=vs.length:=Paired.length r;exact wpAny_truthy_dict hS m (by lk) #[H,I.tok _,by rw[RS r];exact q]
 |_=>exact(show False from e).elim
def WT(ha:PE X a ta)(he:∀whole,isTrue a X.env whole=(do let v ←whole;standAt a.pos;holding [v]^truthy v)):
  PT X a (λZ H Q=>ta Z H λx H'=>∃k,Zu X.K x H' k/\Q k H'):=λzF s Z H Q I h=>isTrue_plain (BG (ha _ s Z H _ I h) λv s1 #[x,H1,I1,r1,q1]=>Vm _ s1 Z H1 x v Q I1 r1 q1)^he _
def RF:OpR X (binaryOp .Add) (λx y H Q=>∃i j,x=.str i/\y=.str j/\i.length+j.length<=sizeLine/\Q (.str (i++j)) H):=by
 intro zF s Z H x y v u Q I rx ry h;let#[i,j,rfl,rfl,hz,q]:=h;let#[t,rfl]:=rx;let#[t',rfl]:=ry;exact add_str (λt' tk=>#[.str _,H,I.tok _,#[_,rfl],q]) hz
def vals1{x:V}{us:u_ Db}(r:Vals [x] us):∃u,us=[u]/\RelV x u:=by
 cases r with
 |cons r1 r2=>cases r2;grind
def vals2{x y:V}{us:u_ Db}(r:Vals [x,y] us):∃u w',us=[u,w']/\RelV x u/\RelV y w':=by
 cases r with
 |cons r1 r2=>
  cases r2 with
  |cons r3 r4=>cases r4;exact#[_,_,rfl,r1,r3]
def U9(hc:X.calm=s_):CallR X (.builtin "max") (λxs H Q=>∃i j,xs=[.int i,.int j]/\Q (.int (if j > i then j else i)) H):=by
 intro zF s Z H xs us Q I r h;let#[i,j,rfl,q]:=h;let#[u,w',rfl,#[t,rfl],#[t',rfl]]:=vals2 r;refine max_two_ints (I.ok.hd hc) λh' tk k=>#[_,H,I.kept k,?_,q]
 by_cases hj:j > i
 .rw[if_pos hj,if_pos hj];exact#[_,rfl]
 .rw[if_neg hj,if_neg hj];exact#[_,rfl]
def U8(hc:X.calm=s_):CallR X (.builtin "min") (λxs H Q=>∃i j,xs=[.int i,.int j]/\Q (.int (if j<i then j else i)) H):=by
 intro zF s Z H xs us Q I r h;let#[i,j,rfl,q]:=h;let#[u,w',rfl,#[t,rfl],#[t',rfl]]:=vals2 r;refine min_two_ints (I.ok.hd hc) λh' tk k=>#[_,H,I.kept k,?_,q]
 by_cases hj:j<i
 .rw[if_pos hj,if_pos hj];exact#[_,rfl]
 .rw[if_neg hj,if_neg hj];exact#[_,rfl]
def N8:CallR X (.type "str") (λxs H Q=>∃i,xs=[.int i]/\i.natAbs.log2<1920/\Q (.str^toString i) H):=by
 intro zF s Z H xs us Q I r h;let#[i,rfl,hz,q]:=h;let#[u,rfl,t,rfl]:=vals1 r;exact PySem.P.str_of_int hz #[.str _,H,I.tok _,#[_,rfl],q]
def dB(K:Frag)(x:V)(H:Hp)(n:Nat):Prop:=
 match x with
 |.str y=>y.length<=sizeLine/\n=y.length
 |.byt y=>y.size<=sizeLine/\n=y.size
 |.ref p=>(∃xs,SqL K H p xs/\n=xs.length)\/∃xs,SqT K H p xs/\n=xs.length
 |_=>False
def As:CallR X (.builtin "len") (λxs H Q=>∃x n,xs=[x]/\dB X.K x H n/\Q (.int n) H):=by
 intro zF s Z H xs us Q I r h;let#[x,n,rfl,e,q]:=h;let#[u,rfl,rx]:=vals1 r;have hl:=HU;have hs:sizeLine=16777216:=i9;cases x with
 |str y=>
  let#[t,rfl]:=rx;obtain⟨hy,e'⟩:y.length<=sizeLine/\n=y.length:=e;subst e';exact len_str (by lk) #[.int _,H,I.tok _,#[_,rfl],q]
 |byt y=>
  let#[t,rfl]:=rx;obtain⟨hy,e'⟩:y.size<=sizeLine/\n=y.size:=e;subst e';exact PySem.W.len_bytes (by lk) #[.int _,H,I.tok _,#[_,rfl],q]
 | ref p=>
  cases rx;have e':(∃xs,SqL X.K H p xs/\n=xs.length)\/∃xs,SqT X.K H p xs/\n=xs.length:=e
  rcases e' with⟨xs,hx,e'⟩|⟨xs,hx,e'⟩
  .subst e'
   let#[its,r',pl,hz]:=I.list hx;have hlen:=r'.length;exact Calls.call_len_list pl.isList (by simp only[f8];lk) #[.int xs.length,H,I.tok _,#[_,by simp only[f8];rw[hlen]],q]
  .subst e'
   let#[its,r',pl,hz]:=I.tuple hx;have hlen:=r'.length;exact len_tuple pl (by simp only[f8];lk) #[.int xs.length,H,I.tok _,#[_,by simp only[f8];rw[hlen]],q]
 |_=>exact(show False from e).elim
end
structure ObjM (h:iQ) (x dx C:Ch) (mA:Str->Option Db):Prop where
 obj:h.get? x=P3 (PySem.W.instObj C dx)
 ns:h.Ns1 dx mA
 ne:dx≠x
def Uq{h:iQ}{dx:Ch}{mA:Str->v_ Db}(n:h.Ns1 dx mA):∃od,h.get? dx=P3 od/\∀name,PySem.W.lookIn name od=P3^mA name:=by
 let#[o,es,ep,ho,hd,hk,_,hm]:=n;refine#[o,ho,λname=>?_];have e:=hm name;unfold nsFind findBy at e;unfold PySem.W.lookIn;rw[hd]
 dsimp only
 split
 .simp_all
 .have a:es.toList.any (·.refKey)=t_:=by
   rw[List.any_eq_false];intro y hy;let#[z,t,hkey]:=hk y^Array.mem_toList_iff.mp hy;simp[DictEntry.refKey,hkey]
  grind
def ObjM.look{h:iQ}{x dx C:Ch}{mA:Str->v_ Db}(I:ObjM h x dx C mA):∃od,PySem.W.InstAt h x (PySem.W.instObj C dx) C^P3 od/\∀name,PySem.W.lookIn name od=P3^mA name:=
 let #[od,ho,hl]:=Uq I.ns
 #[od,#[I.obj,rfl,rfl,ho],hl]
section
variable {prog:Program}{w:World}{A:Around}{E:Value->Shared->Prop}{s:Shared}{K:Frag}{x dx C f:Addr}{mA:Str->v_ Value}{name:Str}{v:Value}
def ZO{expr:Bool}{Q:Db->No->Prop}(X:K.In s.heap)(I:ObjM s.heap x dx C mA)(hg:PySem.W.plainGet K C name=s_)(hh:PySem.W.hasDictIn K C=s_)
  (ha:PySem.W.findIn K (.ref C) name=P3 r_) (hv:mA name=P3 v) (hv':PySem.W.handedIn v=s_) (h:Q v {s with toks:=s.toks+1}):
  wpAny (model prog w) A (getAttr (.ref x) name expr) Q E s:=by
 let#[od,J,hl]:=I.look;exact PySem.W.get_value X J (PySem.W.plainGet_of hg).1 (PySem.W.findObj_own hh ha rfl (by rw[hl,hv])) hv' h
def Xb{pl:Sem Bool}{Q:Db×u_ Db->No->Prop}(X:K.In s.heap)(I:ObjM s.heap x dx C mA)(hg:PySem.W.plainGet K C name=s_)
  (hf:PySem.W.findIn K (.ref C) name=P3^P3^.ref f) (ht:PySem.W.isFn K^.ref f=s_) (hv:mA name=r_) (h:Q (.ref f,[.ref x]) s):
  wpAny (model prog w) A (getMethod (.ref x) name pl) Q E s:=by
 let#[od,J,hl]:=I.look;exact PySem.W.method_fn X J (PySem.W.plainGet_of hg).1 (PySem.W.plainGet_of hg).2 hf (beq_iff_eq.mp ht) (by show(PySem.W.lookIn _ od).map _=P3 _;grind) h
def Ym{ns:u_ Str}{Q:Unit->No->Prop}(X:K.In s.heap)(I:ObjM s.heap x dx C mA)
  (hs:PySem.W.findIn K (.ref C) "__setattr__"=P3^P3^.builtin "object.__setattr__") (hp:PySem.W.plainOver K C=s_) (ht:PySem.W.takerIn K C name=P3 r_) (hh:PySem.W.hasDictIn K C=s_)
  (hw:PySem.Within mA ns) (hsz:ns.length<=sizeLine)
  (h:∀h',ObjM h' x dx C (λy=>if y=name then P3 v else mA y)->ki dx s.heap h'->Q () {s with heap:=h',toks:=s.toks+2}):
  wpAny (model prog w) A (setAttr (.ref x) name v) Q E s:=by
 let#[od,J,hl]:=I.look;refine PySem.W.set_plain X J hs^PySem.W.osa_open (s:={s with toks:=s.toks+1}) (r:=r_) X J hp ht λb=>?_;let#[cd,hc,hd']:=PySem.W.any_some hh;have hx:=I.obj;refine Cn^Op^Cn^Cn^wpAny_loadPart hx^Cn^PySem.W.Looks.here (s:={s with toks:=s.toks+1}) (PySem.W.looks_clsIn X hc) ?_;rw[hd'];refine Op (a:=P3 dx)^Cn^Op^Cn ?_;refine wpAny_nsSet1 (s:={s with toks:=s.toks+1}) I.ns λh' hn2 hs2=>?_;let#[oD,esD,epD,hoD,hdD,hcD]:=hn2.count^PySem.Within.cons name v hw;refine Cn^wpAny_lookBehind hoD (by rw[hdD];exact pastItsLine_dict^iU hcD^by grind) ?_;exact Op^h _ #[(hs2.2 _^i_ I.ne).trans I.obj,hn2,I.ne] hs2
def W9{R:Result->No->Prop}{vs:u_ Db}{kw:u_ (Str×Db)}(X:K.In s.heap)(hm:PySem.W.makesIn K C=s_)
  (hi:PySem.W.findIn K (.ref C) "__init__"=P3^P3^.ref f) (hf:PySem.W.typeIn K^.ref f=P3^.type "function")
  (h:codeAny (model prog w) (A.under^.builtin "type.__call__" #[.ref C::vs,kw]) (.call (.ref f) #[.ref (s.heap.objs.size+1)::vs,kw]) (PySem.W.InitBack (s.heap.objs.size+1) R)
   {s with heap:=(s.heap.push PySem.W.emptyDict).push^PySem.W.instObj C s.heap.objs.size}):
  codeAny (model prog w) A (.call (.ref C) #[vs,kw]) R s:=PySem.W.make_core (PySem.W.makes_of X hm) (PySem.W.looks_findIn X hi) (λself=>PySem.W.bind_fn X _ hf) (.inl rfl) h
end
def D7(f:Str)(v:V):u_ (Str×V)->u_ (Str×V)
 |[]=>[(f,v)]
 |(g,x)::r=>if g=f then(g,v)::r else(g,x)::D7 f v r
theorem IN(f g:Str)(v:V):∀fs:u_ (Str×V),(D7 f v fs).lookup g=if g=f then P3 v else fs.lookup g
 |[]=>by
  show lT g [(f,v)]=_
  by_cases h:g=f
  .simp_all
  simp_all
 | (k,x)::r=>by
  have ih:=IN f g v r;rw[show D7 f v ((k,x)::r)=(if k=f then(k,v)::r else(k,x)::D7 f v r)from rfl]
  by_cases hk:k=f
  .rw[if_pos hk]
   by_cases h:g=k
   .simp_all
   .have hb:(g==k)=t_:=beq_eq_false_iff_ne.mpr h
    simp only[lT,hb,if_neg λe:g=f=>h^e.trans hk.symm]
  .rw[if_neg hk]
   by_cases h:g=k
   .simp_all
   .have hb:(g==k)=t_:=beq_eq_false_iff_ne.mpr h
    simp only[lT,hb];exact ih
theorem HV(f:Str)(v:V):∀fs:u_ (Str×V),f∈(D7 f v fs).map (·.1)/\∀g,g∈fs.map (·.1)->g∈(D7 f v fs).map (·.1)
 |[]=>#[by simp[D7],λg h=>by simp at h]
 |(k,x)::r=>by
  let#[i1,i2]:=HV f v r;rw[show D7 f v _=(if k=f then(k,v)::r else(k,x)::D7 f v r)from rfl]
  grind
theorem IQ(f:Str)(v:V):∀fs:u_ (Str×V),(D7 f v fs).length<=fs.length+1
 |[]=>by simp[D7]
 |(k,x)::r=>by
  have ih:=IQ f v r;rw[show D7 f v _=(if k=f then(k,v)::r else(k,x)::D7 f v r)from rfl]
  grind
def RelO.some_of{v:V}{o:v_ Db}(r:RelO (P3 v) o):∃u,o=P3 u/\RelV v u:=by
 cases o with
 |none=>exact(r).elim
 |some u=>exact#[u,rfl,r]
def RelO.none_of{o:v_ Db}(r:RelO r_ o):o=r_:=by
 cases o with
 |none=>rfl
 |some u=>exact(r).elim
def U0{v:V}{u:Db}(r:RelV v u):PySem.W.handedIn u=s_:=by
 cases v with
 |non=>cases(r);rfl
 |bl b=>cases(r);rfl
 |int i=>let#[t,e]:=(r);cases e;rfl
 |str x=>let#[t,e]:=(r);cases e;rfl
 |byt b=>let#[t,e]:=(r);cases e;rfl
 |flt b=>let#[t,e]:=(r);cases e;rfl
 |ref a=>cases(r);rfl
 |ty n=>cases(r);rfl
section
variable {P:Program}{w:World}{H:Hp}{h:Heap}{a C dx:Addr}{fs:u_ (Str×V)}
def JJ(hok:HOk P w H h)(e:H a=P3^.vol^.ins C dx fs):∃mA,ObjM h a dx C mA/\(∀f,RelO (fs.lookup f)^mA f)/\PySem.Within mA (fs.map (·.1))/\fs.length<=1000/\H dx=P3^.own a:=by
 let#[d,z,ne,ob,mA,n,r,q]:=(hok a _ e);exact#[mA,#[ob,n,ne],r,q,z,d]
end
structure Cls (K:Frag) (C:Ch):Prop where
 pg:PySem.W.plainGet K C Str.empty=s_
 hd:PySem.W.hasDictIn K C=s_
 po:PySem.W.plainOver K C=s_
 sa:PySem.W.findIn K (.ref C) "__setattr__"=P3^P3^.builtin "object.__setattr__"
def Cls.get{K:Frag}{C:Ch}(c:Cls K C)(f:Str):PySem.W.plainGet K C f=s_:=c.pg
def NoAttr(K:Frag)(C:Ch)(f:Str):Prop:=PySem.W.findIn K (.ref C) f=P3 r_
def NoAttr.taker{K:Frag}{C:Ch}{f:Str}(n:NoAttr K C f):PySem.W.takerIn K C f=P3 r_:=by
 unfold PySem.W.takerIn;rw[n];rfl
structure iM (K:Frag) (C:Ch) (f:Str) (v:V) (u:Db):Prop where
 at_:PySem.W.findIn K (.ref C) f=P3 (P3 u)
 rel:RelV v u
 get:PySem.W.specialIn K u "__get__"=P3 r_
 cp:PySem.W.copiedNames.contains f=t_
structure Zw (K:Frag) (C:Ch) (m:Str) (f:Ch):Prop where
 at_:PySem.W.findIn K (.ref C) m=P3 (P3^.ref f)
 fn:PySem.W.isFn K^.ref f=s_
 kp:keepIn K^.ref f=s_
section
variable {X:Cx}{zF:u_ (Addr×Obj)}{Z:St}{H:Hp}{s:Shared}{a C dx:Addr}{fs:u_ (Str×V)}{f:Str}{v:V}{A:Around}{E:Value->Shared->Prop}
def RX{b:Bool}{Q:Db->No->Prop}(I:Inv X zF Z H s)(e:H a=P3^.vol^.ins C dx fs)(c:Cls X.K C)(n:NoAttr X.K C f)(l:fs.lookup f=P3 v)
  (h:∀u s',Inv X zF Z H s'->RelV v u->Q u s'):wpAny (model X.prog X.w) A (getAttr (.ref a) f b) Q E s:=by
 let#[mA,O,r,_,_,_]:=JJ I.hok e;let#[u,hu,ru]:=RelO.some_of (v:=v) (o:=mA f) (by grind);exact ZO I.kIn O (c.get f) c.hd n hu (U0 ru)^h u _ (I.tok _) ru
def Kj{m:Str}{g:Ch}{pl:Sem Bool}{Q:Db×u_ Db->No->Prop}(I:Inv X zF Z H s)(e:H a=P3^.vol^.ins C dx fs)(c:Cls X.K C)(k:Zw X.K C m g)(l:fs.lookup m=r_)
  (h:Q (.ref g,[.ref a]) s):wpAny (model X.prog X.w) A (getMethod (.ref a) m pl) Q E s:=by
 let#[mA,O,r,_,_,_]:=JJ I.hok e;exact Xb I.kIn O (c.get m) k.at_ k.fn (RelO.none_of^by grind) h
def Qw{y:V}{u:Db}{Q:Unit->No->Prop}(I:Inv X zF Z H s)(e:H a=P3^.vol^.ins C dx fs)(c:Cls X.K C)(n:NoAttr X.K C f)(hl:fs.length<1000)(ry:RelV y u)
  (h:∀s',Inv X zF Z (Av H a^.vol^.ins C dx^D7 f y fs) s'->Q () s'):wpAny (model X.prog X.w) A (setAttr (.ref a) f u) Q E s:=by
 let#[mA,O,r,wi,_,ho]:=JJ I.hok e;have hz:(fs.map (·.1)).length<=sizeLine:=by rw[Ev,i9];lk
 refine Ym I.kIn O c.sa c.po n.taker c.hd wi hz λh' O' sb=>h _ ?_;have hd:∃o,h'.get? dx=P3 o:=let #[o,_,_,e',_]:=O'.ns;#[o,e']
 refine I.write (x:=a) (e:=dx) (by rw[e];exact j5) (.inr ho) (λb q hb z=>(sb.2 b hb).trans z) hd ?_;refine#[by rw[AO O.ne];exact ho,?_,O.ne,O'.obj,_,O'.ns,λg=>?_,λg hg=>?_]
 .have:=IQ f y fs;lk
 .show RelO ((D7 f y fs).lookup g) (if g=f then P3 u else mA g)
  rw[IN]
  by_cases q:g=f
  .rw[if_pos q,if_pos q];exact ry
  .rw[if_neg q,if_neg q];exact r g
 .by_cases q:g=f
  .rw[q];exact(HV f y fs).1
  .refine(HV f y fs).2 g^wi g λz=>hg ?_
   show(if g=f then P3 u else mA g)=r_;rw[if_neg q];exact z
def Inv.made(I:Inv X zF Z H s):Inv X zF Z (Av (Av H s.heap.objs.size^.own (s.heap.objs.size+1)) (s.heap.objs.size+1)^.vol^.ins C s.heap.objs.size [])
  {s with heap:=(s.heap.push PySem.W.emptyDict).push^PySem.W.instObj C s.heap.objs.size}:=by
 have e1:(s.heap.push PySem.W.emptyDict).get? s.heap.objs.size=P3 PySem.W.emptyDict:=TW s.heap rfl
 have e2:((s.heap.push PySem.W.emptyDict).push^PySem.W.instObj C s.heap.objs.size).get? (s.heap.objs.size+1)=P3^PySem.W.instObj C s.heap.objs.size:=by
  have:=TW (s.heap.push PySem.W.emptyDict) (o:=PySem.W.instObj C s.heap.objs.size) rfl
  rwa[jM]at this
 have e3:(s.heap.push PySem.W.emptyDict).Ns s.heap.objs.size (λ_=>r_):=#[PySem.W.emptyDict,#[],_,e1,rfl,(λe he=>absurd he^by simp),λ_=>rfl];have I1:=I.laid (a:=s.heap.objs.size) (o:=.own (s.heap.objs.size+1)) (h':=s.heap.push PySem.W.emptyDict) (t':=s.toks) (λb u q=>FM _ q) (Sc _) #[_,e1];refine I1.laid (a:=s.heap.objs.size+1) (o:=.vol^.ins C s.heap.objs.size []) (t':=s.toks) (λb u q=>FM _ q) (nH^jM _ _) ?_;have ne:s.heap.objs.size≠s.heap.objs.size+1:=ge^kX _;refine#[by rw[AO ne,AQ],iX _,ne,e2,λ_=>r_,(Heap.Ns1.of_empty e3).at λo q=>FM _ q,λ_=>j5,λy hy=>absurd rfl hy]
def Zk{prog:ic}{w:ip}{env:Env}{e:ie}{f:Str}{pos:Pos}{s:No}{Q:Db->No->Prop}(hb:attributeBase e f env^eval e env=eval e env)
  (h:wpAny (model prog w) A (eval e env) (λo s₁=>wpAny (model prog w) A (getAttr o f s_) Q E s₁) E s):wpAny (model prog w) A (eval (.Attribute e f pos) env) Q E s:=
 Attribute_any_ h (by rw[arm_eval_Attribute,hb])
end
def gG(K:Frag)(ta:TE)(f:Str):TE:=λZ H Q=>ta Z H λx H1=>∃a C dx fs v,x=.ref a/\H1 a=P3^.vol^.ins C dx fs/\Cls K C/\NoAttr K C f/\fs.lookup f=P3 v/\Q v H1
def gJ(K:Frag)(ta tv:TE)(f:Str):TS:=λD Z H=>tv Z H λy H1=>ta Z H1 λx H2=>∃a C dx fs,x=.ref a/\H2 a=P3^.vol^.ins C dx fs/\Cls K C/\NoAttr K C f/\fs.length<1000 /\
 D.nx Z (Av H2 a^.vol^.ins C dx^D7 f y fs)
section
variable {X:Cx}{o e value:Expr}{f:Str}{pos pos':Pos}{ta tv:TE}
def bw(he:PE X e ta)(hb:attributeBase e f X.env^eval e X.env=eval e X.env):PE X (.Attribute e f pos)^gG X.K ta f:=by
 intro zF s Z H Q I h;refine Zk hb^BG (he _ s Z H _ I h) λu s1 #[x,H1,I1,rx,a,C,dx,fs,v,ex,ea,c,n,l,q]=>?_;subst ex;obtain rfl:u=iR a:=rx;exact RX I1 ea c n l λu' s2 I2 ru=>#[v,H1,I2,ru,q]
def bj(ha:PE X o ta)(hv:PE X value tv)(hs:swapsWith value (P3^.Attribute o f pos') pos.line X.env=pure t_):PS X (.Assign [.Attribute o f pos'] value pos)^gJ X.K ta tv f:=by
 intro zF s Z H D I h;refine plainObj_wpAny_Assign_Attribute (BG (hv _ s Z H _ I h) λu s1 #[y,H1,I1,ry,q]=>BG (ha _ s1 Z H1 _ I1 q) λov s2 #[x,H2,I2,rx,a,C,dx,fs,ex,ea,c,n,l,q2]=>?_) hs;subst ex;obtain rfl:ov=iR a:=rx;exact Qw I2 ea c n l ry λs3 I3=>#[Z,_,I3,q2]
end
section
variable {X:Cx}{zF:u_ (Addr×Obj)}{Z:St}{H:Hp}{s:Shared}{A:Around}{E:Value->Shared->Prop}{Q:Value->Shared->Prop}{c:Value}{b:Bool}
inductive GB (K:Frag) (H:Hp):V->Db->Prop where
 |non:GB K H .non^.type "NoneType"
 |bl (x:Bool):GB K H (.bl x)^.type "bool"
 |int (i:Int):GB K H (.int i)^.type "int"
 |str (x:Str):GB K H (.str x)^.type "str"
 |flt (x:UInt64):GB K H (.flt x)^.type "float"
 |lst {a:Ch}{xs:List V} (e:H a=P3^.lst xs):GB K H (.ref a)^.type "list"
 |frz {a:Ch}{o:Obj}{xs:List V} (e:H a=P3^.frz o^.lst xs):GB K H (.ref a)^.type "list"
 |tup {a:Ch}{xs:List V} (e:H a=P3^.tup xs):GB K H (.ref a)^.type "tuple"
 |dF {a:Ch}{o:Obj}{kvs:List (Key×V)} (e:H a=P3^.frz o^.dK kvs):GB K H (.ref a)^.type "dict"
 |dK {a:Ch}{kvs:List (Key×V)} (e:H a=P3^.dK kvs):GB K H (.ref a)^.type "dict"
 |dT {a:Ch}{kvs:List (List Key×V)} (e:H a=P3^.dT kvs):GB K H (.ref a)^.type "dict"
 | ins {a C dx:Ch}{fs:List (Str×V)} (e:H a=P3^.vol^.ins C dx fs) (cl:Cls K C) (ha:PySem.W.findIn K (.ref C) "__class__"=P3^P3^.builtin "object.__class__")
   (hn:PySem.W.specialIn K (.builtin "object.__class__") "__get__"=P3^P3^.builtin "getset_descriptor.__get__") (htk:PySem.W.takesIn K^.builtin "object.__class__"=P3 s_)
   (hm:PySem.W.mroIn K C^.type "object"=P3 s_):GB K H (.ref a)^.ref C
def Uw{x:V}{u t:Db}(I:Inv X zF Z H s)(rx:RelV x u)(ty:GB X.K H x t)(e:PySem.W.kitOne X.K t c=P3 b)(h:∀tk,Q (.bool b) {s with toks:=tk}):
  wpAny (model X.prog X.w) A (call (.builtin "isinstance") [u,c]) Q E s:=by
 cases ty with
 |non=>cases(show u=iu from rx);exact PySem.W.kia_one PySem.W.kitx_none I.kIn j5 e (λz=>nomatch z) h
 |bl y=>cases(show u=lM y from rx);exact PySem.W.kia_one PySem.W.kitx_bool I.kIn j5 e (λz=>nomatch z) h
 |int i=>let#[t,q]:=(show ∃t,u=Value.int i t from rx);cases q;exact PySem.W.kia_one PySem.W.kitx_int I.kIn j5 e (λz=>nomatch z) h
 |str y=>let#[t,q]:=(show ∃t,u=lA y t from rx);cases q;exact PySem.W.kia_one PySem.W.kitx_str I.kIn j5 e (λz=>nomatch z) h
 |flt y=>let#[t,q]:=(show ∃t,u=Value.float y t from rx);cases q;exact PySem.W.kia_one PySem.W.kitx_float I.kIn j5 e (λz=>nomatch z) h
 |@lst a xs ea=>
  cases(show u=iR a from rx);let#[_,_,n,_,h1]:=(show ObjOk X.prog X.w H s.heap a^.lst xs from I.hok a _ ea);exact PySem.W.kia_one PySem.W.kitx_list I.kIn #[_,h1,rfl] e (λz=>nomatch z) h
 |@frz a ob xs ea=>
  cases(show u=iR a from rx);let#[_,_,_,n,_,h1]:=(show ObjOk X.prog X.w H s.heap a^.frz ob^.lst xs from I.hok a _ ea);exact PySem.W.kia_one PySem.W.kitx_list I.kIn #[_,h1,rfl] e (λz=>nomatch z) h
 |@tup a xs ea=>
  cases(show u=iR a from rx);let#[_,_,_,p]:=(show ObjOk X.prog X.w H s.heap a^.tup xs from I.hok a _ ea);let#[o,h1,h2,_]:=p;exact PySem.W.kia_one PySem.W.kitx_tuple I.kIn #[o,h1,h2] e (λz=>nomatch z) h
 |@dF a ob kvs ea=>
  cases(show u=iR a from rx);let#[_,_,_,vs,_,p]:=(show ObjOk X.prog X.w H s.heap a^.frz ob^.dK kvs from I.hok a _ ea);let#[o,es,ep,h1,h2,_]:=p;exact PySem.W.kia_one PySem.W.kitx_dict I.kIn #[o,h1,h2.1] e (λz=>nomatch z) h
 |@dK a kvs ea=>
  cases(show u=iR a from rx);let#[_,_,vs,_,p]:=(show ObjOk X.prog X.w H s.heap a^.dK kvs from I.hok a _ ea);let#[o,es,ep,h1,h2,_]:=p;exact PySem.W.kia_one PySem.W.kitx_dict I.kIn #[o,h1,h2.1] e (λz=>nomatch z) h
 |@dT a kvs ea=>
  cases(show u=iR a from rx);let#[_,_,xs,_,o,es,ep,h1,h2,_]:=(show ObjOk X.prog X.w H s.heap a^.dT kvs from I.hok a _ ea);exact PySem.W.kia_one PySem.W.kitx_dict I.kIn #[o,h1,h2.1] e (λz=>nomatch z) h
 |@ins a C dx fs ea cl ha hn htk hm=>
  cases(show u=iR a from rx);let#[mA,O,_]:=JJ I.hok ea;let#[od,J,_]:=O.look;exact PySem.W.kia_one (PySem.W.kitx_own (cl.get _) cl.hd ha hn htk hm) I.kIn J e (λz=>nomatch z) h
end
structure Room (k:Nat) (A:i5):Prop where
 hd:A.handled=r_
 dp:A.depth+3*k+5<recursionLimit
 un:A.units+16*k+200<cLine
 gd:A.guards=P3 []
def Room.mono{j k:Nat}{A:i5}(r:Room k A)(h:j<=k):Room j A:=#[r.hd,by have:=r.dp;lk,by have:=r.un;lk,by first|exact r.gd|grind|grind]
def Room.deeper{k:Nat}{A:i5}(r:Room (k+1) A)(env:Env):Room k^A.deeper env:=
 #[r.hd,by have:=r.dp;show A.depth+1+3*k+5<_;lk,by have:=r.un;show A.units+3+16*k+200<_;lk,by first|exact r.gd|omega|grind]
def Room.in1{k:Nat}{A:i5}(r:Room (k+1) A):Room k A.in1:=
 #[r.hd,by have:=r.dp;grind,by have:=r.un;grind,by first|exact r.gd|omega|grind]
def RP{A:i5}{C:Ch}{us:u_ Db}{kw:u_ (Str×Db)}:(A.under^.builtin "type.__call__" #[.ref C::us,kw]).depth=A.depth+1:=by
 first|rfl|omega
def RO{A:i5}{C:Ch}{us:u_ Db}{kw:u_ (Str×Db)}:(A.under^.builtin "type.__call__" #[.ref C::us,kw]).units=A.units+1:=by
 first|rfl|omega
def Room.make{k:Nat}{A:i5}(r:Room (k+1) A)(C:Ch)(us:u_ Db)(kw:u_ (Str×Db)):Room k^A.under^.builtin "type.__call__" #[.ref C::us,kw]:=
 #[r.hd,by have:=r.dp;rw[RP];lk,by have:=r.un;rw[RO];lk,by first|exact r.gd|omega|grind]
def Room.depth{k:Nat}{A:i5}(r:Room k A):A.depth<recursionLimit:=by have:=r.dp;lk
def Room.units{k:Nat}{A:i5}(r:Room k A):A.units+64<cLine:=by have:=r.un;lk
def Room.units0{k:Nat}{A:i5}(r:Room k A):A.units<cLine:=by have:=r.un;lk
def T4:TA:=λ_ H Q=>Q [] H
def SR(ta:TE)(tr:TA):TA:=λZ H Q=>ta Z H λx H1=>tr Z H1 λxs H2=>Q (x::xs) H2
section
variable {X:Cx}{e:Expr}{es:u_ Expr}{te:TE}{t:TA}{pos:Pos}
def C5:PA X [] T4:=λ_ _ _ _ H Q I h=>mX #[[],H,I,.nil,h]
def B7(ha:PE X e te)(hr:PA X es t)(hs:starEach (e::es) X.env=(t_,eval e X.env)::starEach es X.env:=by rfl):PA X (e::es)^SR te t:=by
 intro pos zF s Z H Q I h;rw[hs];exact mH^BG (ha _ s Z H _ I h) λu s1 #[x,H1,I1,r1,q1]=>BG (hr _ _ s1 Z H1 _ I1 q1) λus s2 #[xs,H2,I2,r2,q2]=>#[_,H2,I2,.cons r1 r2,q2]
def gA(t:TA):TE:=λZ H Q=>t Z H λxs H1=>xs.length<=sizeLine/\∀p,H1 p=r_->Q (.ref p)^Av H1 p^.tup xs
def gD(t:TA):TE:=λZ H Q=>t Z H λxs H1=>xs.length<=sizeLine/\∀p,H1 p=r_->Q (.ref p)^Av H1 p^.lst xs
def bp{x1}(h:PA X es t):PE X (.Tuple es x1 pos)^gA t:=by
 intro zF s Z H Q I hq;refine wpAny_Tuple_spliced^BG (h pos zF s Z H _ I hq) λus s1 #[xs,H1,I1,r,z,q]=>#[by rw[←r.length];exact z,?_];have hf:H1 s1.heap.objs.size=r_:=I1.hok.fresh^Sc _;refine#[.ref s1.heap.objs.size,Av H1 s1.heap.objs.size^.tup xs,I1.laid (t':=s1.toks) (λb u e=>FM _ e) (Sc _) ?_,rfl,q _ hf];exact#[z,us,r,IsTupN.new _ _]
def RD(h:PA X es t):PE X (.List es pos)^gD t:=by
 intro zF s Z H Q I hq;refine wpAny_List_spliced^BG (h pos zF s Z H _ I hq) λus s1 #[xs,H1,I1,r,z,q]=>#[by rw[←r.length];exact z,?_];have hf:H1 s1.heap.objs.size=r_:=I1.hok.fresh^Sc _;refine#[.ref s1.heap.objs.size,Av H1 s1.heap.objs.size^.lst xs,I1.laid (t':=s1.toks) (λb u e=>FM _ e) (Sc _) ?_,rfl,q _ hf];exact#[z,us,0,r,TW _ rfl]
end
abbrev Sp:=u_ V->Hp->VK->XK->Prop
abbrev YV:=u_ Env->Hp->No->XK->Db->No->Prop
structure Env0 (P:ic) (w:ip) (K:Frag) (mg:Str->Option Db) (base:iQ) (A:i5) (outer:List Env) (s:No) (H:Hp):Prop where
 frames:A.frames=P3 outer
 mod:Mod K mg base
 bs:∀b o,base.get? b=P3 o->s.heap.get? b=P3 o/\H b=r_
 bsz:base.objs.size<=s.heap.objs.size
 funs:s.heap.FunFrames base outer
 frf:∀b∈TC outer,H b=r_
 hok:HOk P w H s.heap
 bare:mR s.gens
def CE(outer:u_ Env)(P:ic)(w:ip)(H:Hp)(s:No)(Q:VK)(u:Db)(s':No):Prop:=
 ∃v H',s'.os=s.os/\mR s'.gens/\Un (TC outer) [] H H' s.heap s'.heap/\HOk P w H' s'.heap/\RelV v u/\Q v H'
def CR(CX:YV)(outer:u_ Env)(P:ic)(w:ip)(H:Hp)(s:No)(Q:VK)(E:XK)(r:Result)(s':No):Prop:=
 match r with
 |.ok (.ret u)=>CE outer P w H s Q u s'
 |.ok _=>False
 |.error e=>CX outer H s E e s'
structure FnOk (P:ic) (w:ip) (K:Frag) (mg:Str->Option Db) (base:iQ) (CX:YV) (k:Nat) (f:Ch) (fd:jK) (ps:List Str) (sp:Sp):Prop where
 len:∀vs H Q E,sp vs H Q E->vs.length=ps.length
 run:∀(A:i5) (outer:List Env) (s:No) (H:Hp) (args:Args) (us:List Db) (vs:List V) (Q:VK) (E:XK),Room k A->Env0 P w K mg base A outer s H->oY s fd args^ps.zip us->Vals vs us->sp vs H Q E->
  codeAny (model P w) A (.call (.ref f) args) (CR CX outer P w H s Q E) s
def Env0.make{P:ic}{w:ip}{K:Frag}{mg:Str->v_ Db}{base:iQ}{A:i5}{outer:u_ Env}{s:No}{H:Hp}(e:Env0 P w K mg base A outer s H)(C:Ch)(us:u_ Db)(kw:u_ (Str×Db)):
  Env0 P w K mg base (A.under^.builtin "type.__call__" #[.ref C::us,kw]) outer s H:=#[by first|exact e.frames|grind,e.mod,e.bs,e.bsz,e.funs,e.frf,e.hok,e.bare]
def Env0.in1{P:ic}{w:ip}{K:Frag}{mg:Str->v_ Db}{base:iQ}{A:i5}{outer:u_ Env}{s:No}{H:Hp}(e:Env0 P w K mg base A outer s H):
  Env0 P w K mg base A.in1 outer s H:=#[e.frames,e.mod,e.bs,e.bsz,e.funs,e.frf,e.hok,e.bare]
section
variable {X:Cx}{zF:u_ (Addr×Obj)}{Z:St}{H:Hp}{s s':Shared}
def Inv.env0(I:Inv X zF Z H s):Env0 X.prog X.w X.K X.mg X.base X.A X.stack s H:=
 #[I.ok.frames,I.ok.mod,I.bs,iU I.ok.bsz I.sz,I.stack,I.stkFree,I.hok,I.bare]
def Inv.after{Q:VK}{u:Db}(I:Inv X zF Z H s)(h:CE X.stack X.prog X.w H s Q u s'):EP X zF Z Q u s':=by
 let#[v,H',os,bare,un,hok,r,q]:=h;let#[hh,g,d,t,os']:=s';obtain rfl:os'=s.os:=os;exact#[v,H',I.call un hok bare λb z=>absurd z^by simp,r,q]
end
def SS(sp:Sp)(dvs:u_ V)(E:XK)(t:TA):TE:=λZ H Q=>t Z H λvs H1=>sp (vs++dvs) H1 Q E
def Z5(C:Ch)(m:Str)(sp:Sp)(dvs:u_ V)(E:XK)(ta:TE)(t:TA):TE:=λZ H Q=>ta Z H λx H1=>∃a dx fs,x=.ref a/\H1 a=P3^.vol^.ins C dx fs/\fs.lookup m=r_ /\
 t Z H1 λvs H2=>sp (x::(vs++dvs)) H2 Q E
def dg(C:Ch)(sp:Sp)(dvs:u_ V)(E:XK)(t:TA):TE:=λZ H Q=>t Z H λvs H1=>∀x dx,H1 x=r_->H1 dx=r_->dx≠x->
 sp (.ref x::(vs++dvs)) (Av (Av H1 dx^.own x) x^.vol^.ins C dx []) (λv H2=>v=.non/\Q (.ref x) H2) E
def Binds(K:Frag)(fd:jK)(ps:u_ Str)(ds:u_ Db):Prop:=
 ∀(s:No) (us:u_ Db),K.In s.heap->(us++ds).length=ps.length->oY s fd #[us,[]]^ps.zip (us++ds)
def Binds.all{K:Frag}{fd:jK}{ps:u_ Str}(h:∀us:u_ Db,us.length=ps.length->bindArgs fd #[us,[]]=pure^ps.zip us):Binds K fd ps []:=λs us _ hl=>by
 rw[jA]at hl ⊢;exact .of_eq^h us hl
def Ey(CX:YV)(X:Cx)(E:XK):Prop:=∀(zF:u_ (Ch×Obj)) (Z:St) (H:Hp) (s:No) (e:Db) (s':No),Inv X zF Z H s->CX X.stack H s E e s'->X.xe e s'
section
variable {X:Cx}{CX:YV}{k:Nat}{f C:Addr}{fd:FuncData}{ps:u_ Str}{sp:Sp}{dvs:u_ V}{ds:u_ Value}{E:XK}{x m:Str}{p pos apos:Pos}{e o:Expr}{es:u_ Expr}{ta:TE}{t:TA}
def NA{zF:u_ (Ch×Obj)}{Z:St}{H:Hp}{s:No}{Q:VK}{us:u_ Db}{vs:u_ V}(F:FnOk X.prog X.w X.K X.mg X.base CX k f fd ps sp)(hr:Room k X.A)(hb:Binds X.K fd ps ds)(hd:Vals dvs ds)(hx:Ey CX X E)
  (I:Inv X zF Z H s) (r:Vals vs us) (h:sp (vs++dvs) H Q E):wpAny (model X.prog X.w) X.A (call (.ref f) us) (EP X zF Z Q) X.xe s:=by
 have r2:Vals (vs++dvs) (us++ds):=r.append hd;have hl:(us++ds).length=ps.length:=by rw[←r2.length];exact F.len _ _ _ _ h
 refine wpAny_call^mI (F.run X.A X.stack s H #[us,[]] (us++ds) (vs++dvs) Q E hr I.env0 (hb s us I.kIn hl) r2 h) λr s' hq=>?_;cases r with
 |error e=>exact hx zF Z H s e s' I hq
 |ok fl=>
  cases fl with
  |ret u=>exact I.after hq
  |next=>exact jL hq
  |brk=>exact jL hq
  |cont=>exact jL hq
def NP(F:FnOk X.prog X.w X.K X.mg X.base CX k f fd ps sp)(hr:Room k X.A)(hg:Gl X x)(hm:X.mg x=P3^.ref f)(hk:keepIn X.K^.ref f=s_)(hb:Binds X.K fd ps ds)(hd:Vals dvs ds)(hx:Ey CX X E)
  (ha:PA X (e::es) t) (hdb:(x==("__debug__":Str))=t_:=by decide) (he:starEach (e::es) X.env=(t_,eval e X.env)::starEach es X.env:=by rfl) (hpl:(backTo pos^starEach es X.env).any (·.1)=t_:=by rfl):
  PE X (.Call (.Name x p) (e::es) [] pos) (SS sp dvs E t):=λzF s Z H Q I h=>jl^Gc I hg hm (PySem.W.callWith_K I.ok.mod.kin hk (BG (ha _ _ s Z H _ I h) λus s1 #[vs,H1,I1,r,q]=>#[I1.kIn,NA F hr hb hd hx I1 r q]) he hpl) hdb
def Wm(F:FnOk X.prog X.w X.K X.mg X.base CX k f fd ps sp)(hr:Room k X.A)(hg:Gl X x)(hm:X.mg x=P3^.ref f)(hk:keepIn X.K^.ref f=s_)(hb:Binds X.K fd ps ds)(hd:Vals dvs ds)(hx:Ey CX X E)
  (hdb:(x==("__debug__":Str))=t_:=by decide):PE X (.Call (.Name x p) [] [] pos)^SS sp dvs E T4:=λzF s Z H Q I h=>jl^Gc I hg hm (PySem.W.callWith_K0 I.kIn hk^NA F hr hb hd hx I .nil h) hdb
def Y3{pl:Sem Bool}(he:PE X o ta)(c:Cls X.K C)(hm:Zw X.K C m f)(F:FnOk X.prog X.w X.K X.mg X.base CX k f fd ps sp)(hr:Room k X.A)(hb:Binds X.K fd ps ds)(hd:Vals dvs ds)(hx:Ey CX X E)(ha:PA X (e::es) t)
  (hst:starEach (e::es) X.env=(t_,eval e X.env)::starEach es X.env:=by rfl) (hpl:(backTo pos^starEach es X.env).any (·.1)=t_:=by rfl)
  (ht:eval (.Call (.Attribute o m apos) (e::es) [] pos) X.env=(do
   let ov ←eval o X.env
   standAt apos.atName
   let (f,first) ←holding [ov] (getMethod ov m pl)
   callWith pos f first (backTo pos^starEach (e::es) X.env) (backToKw pos^keywordEach [] X.env)):=by rfl):
  PE X (.Call (.Attribute o m apos) (e::es) [] pos) (Z5 C m sp dvs E ta t):=by
 intro zF s Z H Q I h;refine PySem.W.methodCall_KW (BG (he _ s Z H _ I h) λu s1 #[x,H1,I1,rx,a,dx,fs,ex,ea,l,q]=>?_) ht;subst ex;obtain rfl:u=iR a:=rx;exact Kj I1 ea c hm l^PySem.W.callWith_K I.ok.mod.kin hm.kp (BG (ha _ _ s1 Z H1 _ I1 q) λus s2 #[vs,H2,I2,r,q2]=>#[I2.kIn,NA (vs:=.ref a::vs) F hr hb hd hx I2 (.cons rfl r) q2]) hst hpl
def Wi{pl:Sem Bool}(he:PE X o ta)(c:Cls X.K C)(hm:Zw X.K C m f)(F:FnOk X.prog X.w X.K X.mg X.base CX k f fd ps sp)(hr:Room k X.A)(hb:Binds X.K fd ps ds)(hd:Vals dvs ds)(hx:Ey CX X E)
  (ht:eval (.Call (.Attribute o m apos) [] [] pos) X.env=(do
   let ov ←eval o X.env
   standAt apos.atName
   let (f,first) ←holding [ov] (getMethod ov m pl)
   callWith pos f first (backTo pos^starEach [] X.env) (backToKw pos^keywordEach [] X.env)):=by rfl):
  PE X (.Call (.Attribute o m apos) [] [] pos) (Z5 C m sp dvs E ta T4):=by
 intro zF s Z H Q I h;refine PySem.W.methodCall_KW (BG (he _ s Z H _ I h) λu s1 #[x,H1,I1,rx,a,dx,fs,ex,ea,l,q]=>?_) ht;subst ex;obtain rfl:u=iR a:=rx;exact Kj I1 ea c hm l^PySem.W.callWith_K0 I1.kIn hm.kp^NA (vs:=[.ref a]) F hr hb hd hx I1 (.cons rfl .nil) q
structure Mk (K:Frag) (C f:Ch):Prop where
 makes:PySem.W.makesIn K C=s_
 init:PySem.W.findIn K (.ref C) "__init__"=P3 (P3^.ref f)
 fn:PySem.W.isFn K^.ref f=s_
 kp:keepIn K^.ref C=s_
def V2{zF:u_ (Ch×Obj)}{Z:St}{H:Hp}{s:No}{Q:VK}{us:u_ Db}{vs:u_ V}(M:Mk X.K C f)(F:FnOk X.prog X.w X.K X.mg X.base CX k f fd ps sp)(hr:Room (k+1) X.A)(hb:Binds X.K fd ps ds)(hd:Vals dvs ds)
  (hx:Ey CX X E) (I:Inv X zF Z H s) (r:Vals vs us)
  (h:∀x dx,H x=r_->H dx=r_->dx≠x->sp (.ref x::(vs++dvs)) (Av (Av H dx^.own x) x^.vol^.ins C dx []) (λv H2=>v=.non/\Q (.ref x) H2) E):
  wpAny (model X.prog X.w) X.A (call (.ref C) us) (EP X zF Z Q) X.xe s:=by
 have hq:=h (s.heap.objs.size+1) s.heap.objs.size (I.hok.fresh^jP _) (I.hok.fresh^Sc _)^ge^kX _;have I2:=Inv.made (C:=C) I;have r2:Vals (V.ref (s.heap.objs.size+1)::(vs++dvs)) (iR (s.heap.objs.size+1)::(us++ds)):=.cons rfl (r.append hd)
 have hl:(iR (s.heap.objs.size+1)::us++ds).length=ps.length:=by
  have e:=r2.length;rw[F.len _ _ _ _ hq]at e;exact e.symm
 refine wpAny_call (W9 (f:=f) I.kIn M.makes M.init (beq_iff_eq.mp M.fn) (mI (F.run _ X.stack _ _ #[iR (s.heap.objs.size+1)::us,[]] (iR (s.heap.objs.size+1)::(us++ds)) _ _ E (hr.make C us [])
  (I2.env0.make C us []) (hb _ (iR (s.heap.objs.size+1)::us) I2.kIn hl) r2 hq) λr s' hq'=>?_))
 cases r with
 |error e=>exact hx zF Z _ _ e s' I2 hq'
 | ok fl=>
  cases fl with
  |ret u=>
   let#[v,H',I3,rv,ev,q3]:=I2.after hq';subst ev;exact#[rv,#[V.ref (s.heap.objs.size+1),H',I3,rfl,q3]]
  |next=>exact jL hq'
  |brk=>exact jL hq'
  |cont=>exact jL hq'
def Y4(M:Mk X.K C f)(F:FnOk X.prog X.w X.K X.mg X.base CX k f fd ps sp)(hr:Room (k+1) X.A)(hg:Gl X x)(hm:X.mg x=P3^.ref C)(hb:Binds X.K fd ps ds)(hd:Vals dvs ds)(hx:Ey CX X E)
  (ha:PA X (e::es) t) (hdb:(x==("__debug__":Str))=t_:=by decide) (he:starEach (e::es) X.env=(t_,eval e X.env)::starEach es X.env:=by rfl) (hpl:(backTo pos^starEach es X.env).any (·.1)=t_:=by rfl):
  PE X (.Call (.Name x p) (e::es) [] pos) (dg C sp dvs E t):=λzF s Z H Q I h=>jl^Gc I hg hm (PySem.W.callWith_K I.ok.mod.kin M.kp (BG (ha _ _ s Z H _ I h) λus s1 #[vs,H1,I1,r,q]=>#[I1.kIn,V2 M F hr hb hd hx I1 r q]) he hpl) hdb
end
section
variable {fd:FuncData}{ps ks:u_ Str}
structure gn (K:Frag) (fd:jK) (ps ks:List Str) (g:List Db->List Db->List Db) (gV:List V->List V->List V):Prop where
 to:∀(s:No) (us ws:List Db),K.In s.heap->(g us ws).length=ps.length->oY s fd #[us,ks.zip ws] (ps.zip^g us ws)
 rel:∀{vs:List V}{us:List Db}{zs:List V}{ws:List Db},Vals vs us->Vals zs ws->Vals (gV vs zs)^g us ws
end
structure AY (N P:List Str) (sc:kd):Prop where
 kind:sc.kind=.function
 co:sc.isCoroutine=t_
 gen:sc.isGenerator=t_
 nd:N.Nodup
 pre:N.take P.length=P
 par:∀x∈P,sc.names.lookup x=P3 .local\/sc.names.lookup x=P3 .cell
 nofree:∀y∈sc.names,y.2≠.free
theorem Md{kindOf:Str->v_ kY}{x:Str}:∀{binds:u_ (Str×Db)}{m:Str->v_ Db},(∀v,(x,v)∉binds)->bindL kindOf binds m x=m x
 |[],_,_=>rfl
 |(n,v)::r,m,h=>by
  unfold bindL;rw[Md λw hw=>h w^TM _ hw]
  split
  .grind
  .rfl
theorem Mf{kindOf:Str->v_ kY}{x:Str}:∀{binds:u_ (Str×Db)}{m:Str->v_ Db},(∀v,(x,v)∉binds)->bindC kindOf binds m x=m x
 |[],_,_=>rfl
 |(n,v)::r,m,h=>by
  unfold bindC;rw[Mf λw hw=>h w^TM _ hw]
  split
  .rfl
  grind
theorem Me{kindOf:Str->v_ kY}{x:Str}{v:Db}:∀{P:u_ Str}{vs:u_ Db}{i:Nat}{m:Str->v_ Db},P.Nodup->P[i]?=P3 x->vs[i]?=P3 v->kindOf x=P3 .local->
  bindL kindOf (P.zip vs) m x=P3 v
 |[],_,_,_,_,h,_,_=>by simp at h
 |_::_,[],_,_,_,_,h,_=>by simp at h
 |p::P,w::vs,0,m,nd,h1,h2,hk=>by
  simp at h1 h2;subst h1;subst h2
  show bindL kindOf ((p,w)::P.zip vs) m p=_;unfold bindL;rw[Md λv hv=>(iW.mp nd).1 (l9 hv).1,if_pos hk];simp
 |p::P,w::vs,i+1,m,nd,h1,h2,hk=>by
  unfold bindL;exact Me (i:=i) (iW.mp nd).2 (by simp_all) (by simp_all) hk
theorem Mg{kindOf:Str->v_ kY}{x:Str}{v:Db}:∀{P:u_ Str}{vs:u_ Db}{i:Nat}{m:Str->v_ Db},P.Nodup->P[i]?=P3 x->vs[i]?=P3 v->kindOf x≠P3 .local->
  bindC kindOf (P.zip vs) m x=P3 v
 |[],_,_,_,_,h,_,_=>by simp at h
 |_::_,[],_,_,_,_,h,_=>by simp at h
 |p::P,w::vs,0,m,nd,h1,h2,hk=>by
  simp at h1 h2;subst h1;subst h2
  show bindC kindOf ((p,w)::P.zip vs) m p=_;unfold bindC;rw[Mf λv hv=>(iW.mp nd).1 (l9 hv).1,if_neg hk];simp
 |p::P,w::vs,i+1,m,nd,h1,h2,hk=>by
  unfold bindC;exact Mg (i:=i) (iW.mp nd).2 (by simp_all) (by simp_all) hk
def start(N:u_ Str)(vs:u_ V):St:=vs.map P3++Tk (N.length - vs.length) r_
def Kw(CX:YV)(P:ic)(w:ip)(K:Frag)(mg:Str->v_ Db)(base:iQ)(N:u_ Str)(qual:Str)(scope:kd)(f:Ch)(cd:Db)(A:i5)(outer:u_ Env)(s:No)(H:Hp)(E:XK):Cx where
 prog:=P
 w:=w
 K:=K
 mg:=mg
 base:=base
 A:=A.deeper (envOfC qual scope s.heap.objs.size f cd)
 N:=N
 s₀:=s
 H₀:=H
 env:=envOfC qual scope s.heap.objs.size f cd
 outer:=outer
 stack:=envOfC qual scope s.heap.objs.size f cd::outer
 ex:=[]
 calm:=s_
 fn:=λ_=>s_
 pn:=[]
 xe:=λe s'=>wpAny (model P w) (A.deeper^envOfC qual scope s.heap.objs.size f cd) (leaving (envOfC qual scope s.heap.objs.size f cd) e) (λ_ s''=>CX outer H s E e s'') (λe' s''=>CX outer H s E e' s'') s'
def QB{sc:kd}{n:Nat}{x:Str}(h:sc.names.lookup x=P3 .cell):∃c,(cellsFrom n sc.names []).lookup x=P3 c:=by
 have q:=PySem.W.cellsFrom_some sc.names n []^.inl h;exact Option.isSome_iff_exists.mp q
def Uy{CX:YV}{P:ic}{w:ip}{K:Frag}{mg:Str->v_ Db}{base:iQ}{N ps:u_ Str}{qual:Str}{scope:kd}{f:Ch}{cd:Db}{A:i5}{outer:u_ Env}{s s1:No}{H:Hp}{E:XK}{us:u_ Db}{vs:u_ V}
  (S:AY N ps scope) (hd:A.handled=r_) (e0:Env0 P w K mg base A outer s H) (hl:vs.length=ps.length) (r:Vals vs us)
  (x:InCallC s s.heap.objs.size (bindL (envOfC qual scope s.heap.objs.size f cd).kindOf (ps.zip us) λ_=>r_) (cellsFrom (s.heap.objs.size+1) scope.names []) (bindC (envOfC qual scope s.heap.objs.size f cd).kindOf (ps.zip us) λ_=>r_) s1):
  Inv (Kw CX P w K mg base N qual scope f cd A outer s H E) [] (start N vs) H s1:=by
 have hpl:ps.length<=N.length:=by have:=congrArg mi S.pre;rw[kE]at this;lk
 let#[h1,tk,rfl,hk]:=x.done;have noA:∀b:Ch,b∉(Kw CX P w K mg base N qual scope f cd A outer s H E).ex:=λb z=>absurd (show b∈([]:u_ Ch)from z)^by simp
 refine#[#[e0.mod,S.kind,rfl,rfl,Sc _,λy z c h1 h2=>?_,λy hy=>?_,λy c _ h=>?_,λ_=>hd,Around.frames_deeper e0.frames,.inr #[rfl,rfl],λb z=>absurd z^noA b,e0.bs,e0.bsz,λb _ _=>noA b,λb z=>absurd z^noA b,e0.funs,e0.frf],
  rfl,e0.bare,Un.kept hk,#[_,x.toInCall.ns,λi y v h1 h2 h3=>?_],λy c h=>#[_,x.cell y c h],e0.hok.fresh^Sc _,λy c h=>?_,λp hp=>absurd (show p∈([]:u_ (Ch×Obj))from hp)^by simp,e0.hok.kept hk,?_]
 .exact name_of_addr x.apart (PySem.mem_of_lookup h1)^PySem.mem_of_lookup h2
 .have hy:scope.names.lookup y=P3 .cell\/scope.names.lookup y=P3 .free:=hy
  rcases hy with hy|hy
  .exact QB hy
  .exact absurd rfl (S.nofree _^PySem.mem_of_lookup hy)
 .exact nF^x.above y c^PySem.mem_of_lookup h
 .have hi:i<vs.length:=by
   unfold start at h2
   by_cases hi:i<vs.length
   .exact hi
   .rw[jY^by simpa using hi]at h2
    rw[mV]at h2
    split at h2 <;>cases h2
  have ha:vs[i]?=P3 v:=by
   unfold start at h2;rw[kI (by simpa using hi),XV]at h2;cases e:vs[i]? with
   |none=>rw[e]at h2;cases h2
   |some a=>rw[e]at h2;cases h2;rfl
  let#[u,hu,rv]:=r.get ha
  have hp:ps[i]?=P3 y:=by
   rw[←S.pre,List.getElem?_take_of_lt^by lk];exact h1
  have ndP:ps.Nodup:=by rw[←S.pre];exact S.nd.sublist^oK _ _
  refine#[u,rv,?_]
  rcases S.par y^j6 hp with k|k
  .exact .inl #[k,Me ndP hp hu k]
  .let#[c,e]:=QB (n:=s.heap.objs.size+1) k
   refine .inr #[.inl k,c,e,?_];have q:=x.cell y c e;rw[Mg ndP hp hu^by show scope.names.lookup y≠_;rw[k];decide]at q;exact q
 .exact e0.hok.fresh^nF^x.above y c^PySem.mem_of_lookup h
 .unfold start
  show _=N.length;rw[iT,Ev,pB];lk
def fG{CX:YV}{P:ic}{w:ip}{K:Frag}{mg:Str->v_ Db}{base:iQ}{k:Nat}{f:Ch}{name qual:Str}{params:Arguments}{body:u_ ii}{scope:kd}{dV kV doc pm cdv ct oc:Db}{an od:v_ Ch}
  {osl:Array^v_ Db}{N ps:u_ Str}{sp:Sp} (lk:K.lookup f=P3 #[oc,od,.func^fnOf name qual params body scope dV kV doc pm an cdv ct,osl]) (hcd:codeIn K cdv qual=s_) (S:AY N ps scope)
  (len:∀vs H Q E,sp vs H Q E->vs.length=ps.length)
  (hbody:∀(A:i5) (outer:u_ Env) (s:No) (H:Hp) (vs:u_ V) (Q:VK) (E:XK),Room k^A.deeper^envOfC qual scope s.heap.objs.size f cdv->sp vs H Q E->
   ∃t,PSs (Kw CX P w K mg base N qual scope f cdv A outer s H E) body t/\t {nx:=λ_ H'=>Q .non H',rt:=Q} (start N vs) H):
  FnOk P w K mg base CX (k+1) f (fnOf name qual params body scope dV kV doc pm an cdv ct) ps sp:=by
 refine#[len,λA outer s H args us vs Q E hr e0 hb r hsp=>?_];have hl:=len _ _ _ _ hsp;have KX:K.In s.heap:=e0.mod.kin.keeps λb o e=>(e0.bs b o e).1;have lim:s.heap.NoLimit:=e0.mod.nolimit.keeps λb o e=>(e0.bs b o e).1
 have hkind:∀y∈ps.zip us,scope.names.lookup y.1=P3 .local\/(scope.names.lookup y.1=P3 .cell/\((cellsFrom (s.heap.objs.size+1) scope.names []).lookup y.1).isSome=s_):=fun#[n,v] hy=>by
  rcases S.par n (l9 hy).1 with q|q
  .exact .inl q
  .exact .inr #[q,PySem.W.cellsFrom_some _ _ _^.inl q]
 refine codeAny_call_function hr.depth (KX _ _ lk) rfl S.co S.gen rfl (PySem.W.codeRec_of KX hcd) (hb _ _ _ _ ?_);refine wpAny_newFunctionEnv_cells S.kind hkind λenv he s1 x=>?_;subst he;refine#[lim.keeps x.toInCall.keep,codeAny_func ?_];let#[t,ht,hq]:=hbody A outer s H vs Q E (hr.deeper _) hsp;have I:Inv (Kw CX P w K mg base N qual scope f cdv A outer s H E) [] (start N vs) H s1:=Uy S hr.hd e0 hl r x;refine jT (ht [] s1 (start N vs) H _ I hq) (λfl s' hs=>?_) λe s' hs=>hs
 have fin:∀{zZ:St}{H':Hp}{v:V}{u:Db},Inv (Kw CX P w K mg base N qual scope f cdv A outer s H E) [] zZ H' s'->RelV v u->Q v H'->CE outer P w H s Q u s':=
  λ{zZ H' v u} J rv q=>#[v,H',J.os,J.bare,J.base,J.hok,rv,q]
 cases fl with
 |ret u=>
  let#[v,zZ,H',J,rv,q]:=hs;exact fin J rv q
 |next=>
  let#[zZ,H',J,q]:=hs;exact fin (v:=V.non) (u:=iu) J rfl q
 |brk=>
  let#[_,_,_,q]:=hs;exact jL q
 |cont=>
  let#[_,_,_,q]:=hs;exact jL q
section
variable {X:Cx}{x:Str}{p pos:Pos}{e:Expr}{es:u_ Expr}{t:TA}{id T:String}{r:u_ V->Hp->VK->Prop}
def dq(r:u_ V->Hp->VK->Prop)(t:TA):TE:=λZ H Q=>t Z H λvs H1=>r vs H1 Q
def GW(hc:CallR X (.builtin id) r)(hg:Gl X x)(hm:X.mg x=r_)(hv:bootBuiltins x=P3^.builtin id)(ha:PA X (e::es) t)(hn:x ≠ "__name__":=by decide)(hdb:(x==("__debug__":Str))=t_:=by decide)
  (he:starEach (e::es) X.env=(t_,eval e X.env)::starEach es X.env:=by rfl) (hpl:(backTo pos^starEach es X.env).any (·.1)=t_:=by rfl):PE X (.Call (.Name x p) (e::es) [] pos)^dq r t:=λzF s Z H Q I h=>jl^EB I hg hm hv (PyProof.Rows.callWith_builtin1 (BG (ha _ _ s Z H _ I h) λus s1 #[vs,H1,I1,r1,q1]=>hc _ s1 Z H1 vs us Q I1 r1 q1) he hpl) hn hdb
def HN(hc:CallR X (.type T) r)(hg:Gl X x)(hm:X.mg x=r_)(hv:bootBuiltins x=P3^.type T)(ha:PA X (e::es) t)(hn:x ≠ "__name__":=by decide)(hdb:(x==("__debug__":Str))=t_:=by decide)
  (he:starEach (e::es) X.env=(t_,eval e X.env)::starEach es X.env:=by rfl) (hpl:(backTo pos^starEach es X.env).any (·.1)=t_:=by rfl):PE X (.Call (.Name x p) (e::es) [] pos)^dq r t:=λzF s Z H Q I h=>jl^EB I hg hm hv (jk (BG (ha _ _ s Z H _ I h) λus s1 #[vs,H1,I1,r1,q1]=>hc _ s1 Z H1 vs us Q I1 r1 q1) he hpl) hn hdb
end
end L2
namespace HT
section
variable {prog:Program}{w:World}{A:Around}{E:Value->Shared->Prop}{s:Shared}
def cat_tup{t b:Ch}{vs ws:u_ Db}{Q:Db->No->Prop}(ht:IsTup s.heap t vs.toArray)(hb:IsTup s.heap b ws.toArray)(hv:vs≠[])
  (h1:ws=[]->Q (.ref t) s) (h2:ws≠[]->Q (.ref s.heap.objs.size) {s with heap:=s.heap.push {cls:=.type "tuple",data:=.seq (vs++ws).toArray}})
  (hsz:vs.length+ws.length<=sizeLine):wpAny (model prog w) A (binaryOp .Add (.ref t)^.ref b) Q E s:=by
 let#[#[cls,dd,data,sl],ho,hc,n,hd]:=id ht;let#[#[cls2,dd2,data2,sl2],ho2,hc2,n2,hd2]:=id hb;simp only at hc hd hc2 hd2;subst hc hd hc2 hd2
 by_cases hw:ws=[]
 .exact concat_meets #[_,ho,rfl] #[_,ho2,rfl] oZ seq_tuple_add PySem.F.slot_tuple_add PySem.F.entry_tuple_add (PySem.F.args_tuple_add_2 _ _)
   (tuple_addW1 t b vs.toArray ws.toArray n n2 dd dd2 sl sl2 (by simp_all)^by simp[hw]) #[ho,ho2,h1 hw]
 .refine concat_meets #[_,ho,rfl] #[_,ho2,rfl] oZ seq_tuple_add PySem.F.slot_tuple_add PySem.F.entry_tuple_add (PySem.F.args_tuple_add_2 _ _)
   (tuple_addW2 t b vs.toArray ws.toArray n n2 dd dd2 sl sl2 (by grind) (by grind)^by lk) #[ho,ho2,?_]
  simp_all
def sIx(n d:Nat):v_ Int->Nat
 |none=>d
 |some v=>if v<0 then(v+(n:Int)).toNat else min v.toNat n
def sIx_none(n d:Nat):sIx n d r_=d:=rfl
def sIx_nat(n d k:Nat):sIx n d^P3 (k:Int)=min k n:=by
 show(if k<0 then((k:Int)+n).toNat else min _ n)=min k n;rw[if_neg^by lk,ku]
def bU(n d:Nat)(hd:d<=n)(o:v_ Int):sIx n d o<=n:=by
 cases o with
 |none=>exact hd
 |some v=>
  show(if v<0 then(v+n).toNat else min _ n)<=n
  grind
def Tc(v:Int)(n d:Nat):(if v<0 then max (v+(n:Int)) 0 else min v (n:Int))=((sIx n d^P3 v:Nat):Int):=by
 show(if v<0 then max _ 0 else min v _)=(if v<0 then(v+n).toNat else min _ n)
 grind
def Rq(lo hi:v_ Int)(n:Nat):oQ lo hi 1 (n:Int)=(((sIx n 0 lo:Nat):Int),((sIx n n hi:Nat):Int)):=by
 refine Prod.ext ?_ ?_
 .cases lo with
  |none=>rfl
  |some v=>exact Tc v n 0
 .cases hi with
  |none=>rfl
  |some v=>exact Tc v n n
def Q_(i j:Nat):l_ (i:Int) (j:Int) 1=j - i:=by
 unfold l_
 grind
def Jm{v:Db}{o:v_ Int}{Q:v_ Int->No->Prop}(p:nI v o)(h:Q o s):wpAny (model prog w) A (Builtin.Slice.slicePartIndex v) Q E s:=by
 cases p with
 |none=>exact slicePart_none h
 |int i t=>exact slicePart_int h
def sliceApplied_gen{sl:Ch}{vl vu:Db}{lo hi:v_ Int}{n:Nat}{Q:Int×Int×Nat->No->Prop}(hs:s.heap.IsSliceOf sl vl vu .none)(pl:nI vl lo)(pu:nI vu hi)
  (h:Q (((sIx n 0 lo:Nat):Int),1,sIx n n hi - sIx n 0 lo) s):wpAny (model prog w) A (Builtin.Slice.sliceApplied (.ref sl)^pure (n:Int)) Q E s:=by
 let#[os,hos,hcs,hds]:=id hs;refine Cn^Cn (jj hos hds (x:=vl) rfl (Cn (jj hos hds (x:=vu) rfl (Cn (jj hos hds (x:=.none) rfl (Op ?_))))));refine Cn^slicePart_none ?_;refine Cn^Jm pl^Cn^Jm pu^Cn^Op ?_;show wpAny _ _ (match oQ lo hi 1 (n:Int)with|(lo,hi)=>pure (lo,(1:Int),l_ lo hi 1)) _ _ s;rw[Rq lo hi n];show wpAny _ _ (pure _) _ _ s;rw[Q_];exact Op h
def Wa(xs:Array Db)(i k:Nat):((i4 k).filterMap fun(m:Nat)=>xs[((i:Int)+(m:Int)*1).toNat]?).toArray=((xs.toList.drop i).take k).toArray:=by
 have e:(fun(m:Nat)=>xs[((i:Int)+(m:Int)*1).toNat]?)=λm=>xs[i+m]?:=by
  grind
 rw[e]
 have:=pick_run xs i k
 rw[List.filterMap_map]at this;have e2:((λx=>xs[x]?)∘λx=>i+x)=λm=>xs[i+m]?:=rfl
 grind
def getItem_tuple_cut{t sl:Ch}{items:Array Db}{vl vu:Db}{lo hi:v_ Int}{Q:Db->No->Prop}(ht:IsTup s.heap t items)(hs:s.heap.IsSliceOf sl vl vu .none)(pl:nI vl lo)(pu:nI vu hi)
  (hw:¬(sIx items.size 0 lo=0/\sIx items.size items.size hi=items.size))
  (h:Q (.ref s.heap.objs.size) {s with heap:=s.heap.push {cls:=.type "tuple",data:=.seq ((items.toList.drop^sIx items.size 0 lo).take (sIx items.size items.size hi - sIx items.size 0 lo)).toArray}})
  (hsz:items.size<=sizeLine):wpAny (model prog w) A (getItem (.ref t)^.ref sl) Q E s:=by
 have htake:sizeOk^.seq ((items.toList.drop^sIx items.size 0 lo).take (sIx items.size items.size hi - sIx items.size 0 lo)).toArray:=by
  show((items.toList.drop^sIx items.size 0 lo).take (sIx items.size items.size hi - sIx items.size 0 lo)).toArray.size<=sizeLine;rw[f8,kE,List.length_drop,i8];lk
 have hj:sIx items.size items.size hi<=items.size:=bU _ _ (Sc _) hi;let#[os,hos,hcs,hds]:=id hs;have hTs:s.TypeIs (.ref sl) "slice":=#[os,hos,hcs];unfold getItem
 try with_reducible refine jX ?_
 first|refine Cn^Op ?_|skip
 refine Cn^wpAny_sequenceKey ht.typeIs (by cbv) ?_
 refine Cn (jR (name:=jH "__getitem__") ht.typeIs jS
  (jm jS ht.typeIs entry_tuple_getitem ?_^args_tuple_getitem _ _))
 show wpAny _ _ (oF^.ref t >>=_) _ _ s;refine Cn^tupleItemsOf_ ht ?_;refine Cn^mJ hTs ?_;rw[if_pos^by cbv];refine Cn^sliceApplied_gen hs pl pu ?_
 have hno:¬((((sIx items.size 0 lo:Nat):Int)==0&&(1:Int)==1&&(sIx items.size items.size hi - sIx items.size 0 lo)==items.size)=s_):=by
  grind
 show wpAny _ _ (if(((sIx items.size 0 lo:Nat):Int)==0&&(1:Int)==1&&(sIx items.size items.size hi - sIx items.size 0 lo)==items.size)=s_ then _ else _) _ _ s;rw[if_neg hno,Wa]
 first
  |exact Cn (m:=mL _)^jg (Op #[_,rfl,Op h]) htake
  |grind
  |grind
  |grind
end
end HT
namespace L2
abbrev TO:=St->Hp->(v_ Int->Hp->Prop)->Prop
def PO(X:Cx)(e:v_ ie)(t:TO):Prop:=
 ∀(zF:u_ (Ch×Obj)) (s:No) (Z:St) (H:Hp) (Q:v_ Int->Hp->Prop),Inv X zF Z H s->t Z H Q->
  wpAny (model X.prog X.w) X.A (evalPart e X.env) (λu s'=>∃o H',Inv X zF Z H' s'/\nI u o/\Q o H') X.xe s
def Yj:TO:=λ_ H Q=>Q r_ H
def de(t:TE):TO:=λZ H Q=>t Z H λx H1=>∃i,x=.int i/\Q (P3 i) H1
section
variable {X:Cx}{e:Expr}{te:TE}{lo hi:v_ Expr}{tl th:TO}{pos p2:Pos}
def Su:PO X r_ Yj:=λzF s Z H Q I h=>Op #[_,H,I,.none,h]
def Ss(h:PE X e te):PO X (P3 e)^de te:=by
 intro zF s Z H Q I hw;refine BG (h _ s Z H _ I hw) λu s1 #[x,H1,I1,r1,q1]=>?_;let#[i,rfl,q]:=q1;let#[t,rfl]:=r1;exact#[_,H1,I1,.int i t,q]
def SlR(X:Cx)(r:V->v_ Int->v_ Int->Hp->VK->Prop):Prop:=
 ∀(zF:u_ (Ch×Obj)) (s:No) (Z:St) (H:Hp) (x:V) (v vl vu:Db) (lo hi:v_ Int) (sl:Ch) (Q:VK),Inv X zF Z H s->RelV x v->s.heap.IsSliceOf sl vl vu .none->nI vl lo->nI vu hi->r x lo hi H Q->
  ∃T id,typeLookup (.type T) "__getitem__"=pure^P3^.builtin id/\s.TypeIs v T/\wpAny (model X.prog X.w) X.A (getItem v^.ref sl) (EP X zF Z Q) X.xe s
def SlR.or{r r':V->v_ Int->v_ Int->Hp->VK->Prop}(h:SlR X r)(h':SlR X r'):SlR X (λx lo hi H Q=>r x lo hi H Q\/r' x lo hi H Q):=by
 intro zF s Z H x v vl vu lo hi sl Q I rx hs pl pu q
 rcases q with q|q
 .exact h _ s Z H x v vl vu lo hi sl Q I rx hs pl pu q
 .exact h' _ s Z H x v vl vu lo hi sl Q I rx hs pl pu q
def iB(r:V->v_ Int->v_ Int->Hp->VK->Prop)(te:TE)(tl th:TO):TE:=λZ H Q=>te Z H λx H1=>tl Z H1 λl H2=>th Z H2 λu H3=>r x l u H3 Q
def PL{r:V->v_ Int->v_ Int->Hp->VK->Prop}(hr:SlR X r)(he:PE X e te)(hl:PO X lo tl)(hu:PO X hi th):PE X (.Subscript e (.Slice lo hi r_ p2) pos)^iB r te tl th:=by
 intro zF s Z H Q I h;refine Subscript_^BG (he zF s Z H _ I h) λv s1 #[x,H1,I1,r1,q1]=>?_;refine wpAny_Slice^BG (hl zF s1 Z H1 _ I1 q1) λvl s2 #[l,H2,I2,pl,q2]=>BG (hu zF s2 Z H2 _ I2 q2) λvu s3 #[u,H3,I3,pu,q3]=>?_;rw[evalPart_none];refine Op ?_;have I4:Inv X zF Z H3 {s3 with heap:=s3.heap.push {cls:=.type "slice",data:=.fields #[ vl,vu,.none]}}:=I3.kept (t':=s3.toks) λb ob q=>FM _ q;let#[T,id,hT,ht,hg]:=hr zF {s3 with heap:=s3.heap.push {cls:=.type "slice",data:=.fields #[ vl,vu,.none]}} Z H3 x v vl vu l u s3.heap.objs.size Q I4 r1 (Heap.IsSliceOf.new ..) pl pu q3;show wpAny (model X.prog X.w) X.A (subscriptTail e (.Slice lo hi r_ p2) v^.ref s3.heap.objs.size) (EP X zF Z Q) X.xe {s3 with heap:=s3.heap.push {cls:=.type "slice",data:=.fields #[ vl,vu,.none]}};exact tail_any (ops:=[.ref s3.heap.objs.size,v]) ht hT hg^by with_unfolding_all rfl
def P7(xs:u_ V)(lo hi:v_ Int):u_ V:=(xs.drop^HT.sIx xs.length 0 lo).take (HT.sIx xs.length xs.length hi - HT.sIx xs.length 0 lo)
def IY(xs:u_ V)(lo hi:v_ Int):(P7 xs lo hi).length<=xs.length:=by
 unfold P7
 grind
def eB(K:Frag):V->v_ Int->v_ Int->Hp->VK->Prop:=λx lo hi H Q=>∃a xs,x=.ref a/\SqT K H a xs /\
 ¬(HT.sIx xs.length 0 lo=0/\HT.sIx xs.length xs.length hi=xs.length)/\∀p,H p=r_->Q (.ref p)^Av H p^.tup^P7 xs lo hi
def sl_tup:SlR X^eB X.K:=by
 intro zF s Z H x v vl vu lo hi sl Q I rx hs pl pu h;let#[a,xs,rfl,hx,hw,q]:=h;cases rx;let#[its,r,ht,hz]:=I.tuple hx;have hlen:its.toArray.size=xs.length:=by exact r.length.symm
 refine#[_,_,jS.lookup,ht.typeIs,?_];refine HT.getItem_tuple_cut ht hs pl pu (by grind) ?_ (by simp_all);rw[hlen];refine#[.ref _,_,I.laid (λb ob q=>FM _ q) (Sc _) ?_,rfl,q _^I.hok.fresh^Sc _];exact#[iU (IY xs lo hi) hz,_,(r.drop _).take _,IsTupN.new _ _]
def WO(K:Frag):R2:=λx y H Q=>∃a b xs ys,x=.ref a/\y=.ref b/\SqT K H a xs/\SqT K H b ys/\xs≠[]/\xs.length+ys.length<=sizeLine /\
 (ys=[]->Q (.ref a) H)/\(ys≠[]->∀p,H p=r_->Q (.ref p)^Av H p^.tup (xs++ys))
def Vals.nil_iff{xs:u_ V}{us:u_ Db}(r:Vals xs us):us=[]↔xs=[]:=by
 cases r with
 |nil=>simp
 |cons _ _=>simp
def op_catT:OpR X (binaryOp .Add)^WO X.K:=by
 intro zF s Z H x y v u Q I rx ry h;let#[a,b,xs,ys,rfl,rfl,ha,hb,hx,hz,q1,q2]:=h;cases rx;cases ry;let#[its,r1,p1,_]:=I.tuple ha;let#[its2,r2,p2,_]:=I.tuple hb;refine HT.cat_tup p1 p2 (λz=>hx^r1.nil_iff.mp z) (λz=>#[.ref a,H,I,rfl,q1^r2.nil_iff.mp z]) (λz=>?_) (by rw[←r1.length,←r2.length];exact hz);refine#[.ref _,_,I.laid (λb ob q=>FM _ q) (Sc _) ?_,rfl,q2 (λw=>z^r2.nil_iff.mpr w) _^I.hok.fresh^Sc _];exact#[by simp_all,_,r1.append r2,IsTupN.new _ _]
end
def YZ(n:Nat)(i:Int):v_ Nat:=if 0<=i then(if i<n then P3 i.toNat else r_)else if -(n:Int)<=i then P3 (i+n).toNat else r_
def atI{α:Type}(xs:u_ α)(i:Int):v_ α:=(YZ xs.length i).bind λj=>xs[j]?
def S8{n:Nat}{i:Int}{j:Nat}(h:YZ n i=P3 j):seqIndex? i n=P3 j/\j<n/\-(n:Int)<=i/\i<n:=by
 unfold YZ at h
 by_cases h0:0<=i
 .rw[if_pos h0]at h
  by_cases h1:i<n
  .rw[if_pos h1]at h
   have e:i.toNat=j:=eq h;exact#[by rw[seqIndex_of h0 h1,e],by lk,by lk,h1]
  grind
 .rw[if_neg h0]at h
  by_cases h1:-(n:Int)<=i
  .rw[if_pos h1]at h
   have e:(i+n).toNat=j:=eq h;exact#[by rw[seqIndex_neg (by lk) h1,e],by lk,h1,by lk]
  grind
def N_{α:Type}{xs:u_ α}{i:Int}{v:α}(h:atI xs i=P3 v):∃j,seqIndex? i xs.length=P3 j/\xs[j]?=P3 v/\j<xs.length/\-(xs.length:Int)<=i/\i<xs.length:=by
 unfold atI at h;cases e:YZ xs.length i with
 |none=>simp_all
 |some j=>
  let#[h1,h2,h3,h4]:=S8 e
  simp_all
def AH{α:Type}{xs:u_ α}{j:Nat}{v:α}(h:xs[j]?=P3 v):atI xs (j:Int)=P3 v:=by
 have hj:=(Uf.mp h).1
 have e:YZ xs.length j=P3 j:=by
  unfold YZ
  simp_all
 unfold atI;grind
def QM{α:Type}(xs:u_ α)(v:α):atI (xs++[v]) (-1)=P3 v:=by
 have e:YZ (xs++[v]).length (-1)=P3 xs.length:=by
  unfold YZ
  grind
 unfold atI
 grind
def Tt(b:ie):Prop:=∀o i,subscripted b t_ o i=operate [o,i]^getItem o i
def IxR(X:Cx)(r:R2):Prop:=
 ∀(value slice:ie) (zF:u_ (Ch×Obj)) (s:No) (Z:St) (H:Hp) (x y:V) (v u:Db) (Q:VK),Inv X zF Z H s->RelV x v->RelV y u->r x y H Q->
  subscripted slice t_ v u=operate [v,u]^getItem v u->wpAny (model X.prog X.w) X.A (subscriptTail value slice v u) (EP X zF Z Q) X.xe s
def am(X:Cx)(id:String)(r:V->u_ V->Hp->VK->Prop):Prop:=
 ∀(zF:u_ (Ch×Obj)) (s:No) (Z:St) (H:Hp) (x:V) (xs:u_ V) (v:Db) (us:u_ Db) (Q:VK),Inv X zF Z H s->RelV x v->Vals xs us->r x xs H Q->
  wpAny (model X.prog X.w) X.A (call (.builtin id) (v::us)) (EP X zF Z Q) X.xe s
section
variable {X:Cx}{a b:Expr}{ta tb:TE}{pos:Pos}
def IxR.or{r r':R2}(h:IxR X r)(h':IxR X r'):IxR X (λx y H Q=>r x y H Q\/r' x y H Q):=by
 intro value slice zF s Z H x y v u Q I rx ry q hs
 rcases q with q|q
 .exact h _ _ _ s Z H x y v u Q I rx ry q hs
 .exact h' _ _ _ s Z H x y v u Q I rx ry q hs
def EM{r:R2}(hr:IxR X r)(ha:PE X a ta)(hb:PE X b tb)(hs:Tt b):PE X (.Subscript a b pos)^Dg r ta tb:=λzF s Z H Q I h=>Subscript_^cn ha hb I h λv u s2 x y H2 I2 rx ry q=>hr a b _ s2 Z H2 x y v u Q I2 rx ry q^hs _ _
def bc(K:Frag):R2:=λx y H Q=>∃p xs i v,x=.ref p/\y=.int i/\SqL K H p xs/\atI xs i=P3 v/\Q v H
def eM(K:Frag):R2:=λx y H Q=>∃p xs i v,x=.ref p/\y=.int i/\SqT K H p xs/\atI xs i=P3 v/\Q v H
def eN:R2:=λx y H Q=>∃z i c,x=.str z/\y=.int i/\z.length<=sizeLine/\atI z.cps.toList i=P3 c/\Q (.str #[#[ c]]) H
def ix_list:IxR X^bc X.K:=by
 intro value slice zF s Z H x y v u Q I rx ry h hs;let#[p,xs,i,z,rfl,rfl,hq,he,q]:=h;cases rx;let#[t,rfl]:=ry;let#[its,r,pl,hz]:=I.list hq;let#[j,h1,h2,h3,h4,h5]:=N_ he;let#[w,ew,rw']:=r.get h2;have hl:=r.length;have hn:=HU;have fin:EP X zF Z Q w s:=#[z,H,I,rw',q]
 by_cases h0:0<=i
 .have hj:i.toNat=j:=by
   rw[seqIndex_of h0 h5]at h1
   grind
  exact item_listR pl.isList h0 (by lk) (by rw[hj];simpa using ew) fin hs
 .have hj:(i+(its.toArray.size:Int)).toNat=j:=by
   rw[seqIndex_neg (by lk) h4]at h1
   grind
  exact subscriptTail_builtinR (x:=w) pl.isList.typeIs slot_list_getitem.lookup
   (wpAny_getItem_list_neg (Q:=λr s'=>r=w/\EP X zF Z Q r s') pl.isList (by lk) (by grind) (by lk) (by grind) #[rfl,fin]) hs
def ix_tup:IxR X^eM X.K:=by
 intro value slice zF s Z H x y v u Q I rx ry h hs;let#[p,xs,i,z,rfl,rfl,hq,he,q]:=h;cases rx;let#[t,rfl]:=ry;let#[its,r,pl,hz]:=I.tuple hq;let#[j,h1,h2,h3,h4,h5]:=N_ he;let#[w,ew,rw']:=r.get h2;have hl:=r.length;have hn:=HU
 exact subscriptTail_builtinR pl.typeIs jS.lookup
  (getItem_tuple (j:=j) pl (by lk) (by lk) (by grind) (by grind) #[rfl,#[z,H,I,rw',q]]) hs
def cR:IxR X eN:=by
 intro value slice zF s Z H x y v u Q I rx ry h hs;let#[z,i,c,rfl,rfl,hz,he,q]:=h;let#[t,rfl]:=rx;let#[t',rfl]:=ry;let#[j,h1,h2,h3,h4,h5]:=N_ he;have hl:z.cps.toList.length=z.length:=by simp[Str.length]
 have hn:=HU
 exact tail_any (k7 s z t) slot_str_getitem.lookup (getItem_str (by
  grind) (by grind) #[.str _,H,I.tok _,#[_,rfl],q]) hs
def gx(K:Frag):R2:=λx y H Q=>bc K x y H Q\/eM K x y H Q\/eN x y H Q
def AL:IxR X^gx X.K:=ix_list.or^ix_tup.or cR
def RN(its:u_ Db)(n j:Nat)(u:Db):jF (·.setIfInBounds j u) {cls:=.type "list",data:=.seq its.toArray n}={cls:=.type "list",data:=.seq (its.set j u).toArray n}:=by
 simp[jF]
def Inv.lst{zF:u_ (Ch×Obj)}{Z:St}{H:Hp}{s:No}{p:Ch}{xs:u_ V}(I:Inv X zF Z H s)(h:H p=P3^.lst xs):
  ∃(its:u_ Db) (n:Nat),Vals xs its/\s.heap.get? p=P3 {cls:=.type "list",data:=.seq its.toArray n}/\xs.length<=sizeLine:=by
 let#[z,its,n,r,e]:=I.hok p _ h;exact#[_,n,r,e,z]
def Inv.lstUpd{zF:u_ (Ch×Obj)}{Z:St}{H:Hp}{s:No}{p:Ch}{xs ys:u_ V}{its its':u_ Db}{n n':Nat}{f:Obj->Obj}(I:Inv X zF Z H s)(h:H p=P3^.lst xs)
  (ho:s.heap.get? p=P3 {cls:=.type "list",data:=.seq its.toArray n}) (hf:f {cls:=.type "list",data:=.seq its.toArray n}={cls:=.type "list",data:=.seq its'.toArray n'}) (r:Vals ys its') (hz:ys.length<=sizeLine) (t:Nat):
  Inv X zF Z (Av H p^.lst ys) {s with heap:=s.heap.update p f,toks:=t}:=by
 have e:(s.heap.update p f).get? p=P3 {cls:=.type "list",data:=.seq its'.toArray n'}:=by
  rw[ji f ho (by rw[hf] <;>rfl),hf]
 exact I.write (by rw[h];trivial) (.inl rfl) (λb u hb q=>(iO _ _^i_ hb).trans q) #[_,e] #[hz,_,n',r,e]
def aA:V->V->V->Hp->(Hp->Prop)->Prop:=λo i v H Q=>∃p xs k j,o=.ref p/\i=.int k/\H p=P3^.lst xs/\YZ xs.length k=P3 j/\Q^Av H p^.lst^xs.set j v
def set_list:fb X aA:=by
 intro zF s Z H o i v ov iv u Q I ro ri rv h;let#[p,xs,k,j,rfl,rfl,hp,hj,q]:=h;cases ro;let#[t,rfl]:=ri;let#[its,n,r,ho,hz]:=I.lst hp;let#[h1,h2,h3,h4]:=S8 hj;have hl:=r.length;have hn:=HU
 have I':Inv X zF Z (Av H p^.lst^xs.set j v) {s with heap:=s.heap.update p (jF (·.setIfInBounds j u))}:=
  I.lstUpd hp ho (RN its n j u) (r.set rv j) (by simp_all) s.toks
 by_cases h0:0<=k
 .have hk:k.toNat=j:=by
   rw[seqIndex_of h0 h4]at h1
   grind
  exact PySem.W.ki_setAt ho h0 (by lk) (by grind)^by rw[hk];exact#[_,I',q]
 .have hk:(k+(its.toArray.size:Int)).toNat=j:=by
   rw[seqIndex_neg (by lk) h3]at h1
   grind
  exact PySem.W.ki_setBack ho (by lk) (by grind) (by lk)^by rw[hk];exact#[_,I',q]
def Mu(lo hi:v_ Int)(n:Nat):(sliceBounds lo hi r_ n).1=((HT.sIx n 0 lo:Nat):Int)/\(sliceBounds lo hi r_ n).2.1=((HT.sIx n n hi:Nat):Int)/\(sliceBounds lo hi r_ n).2.2=1:=by
 refine#[?_,?_,rfl]
 .cases lo with
  |none=>simp[sliceBounds,HT.sIx]
  |some i=>
   simp only[sliceBounds,HT.sIx,Option.getD_none,show(1:Int) > 0 by cbv,if_true]
   by_cases h:i<0
   .grind
   .simp only[h,if_false] <;>lk
 .cases hi with
  |none=>simp[sliceBounds,HT.sIx]
  |some i=>
   simp only[sliceBounds,HT.sIx,Option.getD_none,show(1:Int) > 0 by cbv,if_true]
   by_cases h:i<0
   .grind
   .simp only[h,if_false] <;>lk
def LJ(its:u_ Db)(lo hi:v_ Int):slicePick its.toArray lo hi r_=((its.drop^HT.sIx its.length 0 lo).take (HT.sIx its.length its.length hi - HT.sIx its.length 0 lo)).toArray:=by
 let#[h1,h2,h3]:=Mu lo hi _;unfold slicePick;rw[h1,h2,h3];simp only[sliceRange_one,pick_run] <;>rfl
def eC(K:Frag):V->v_ Int->v_ Int->Hp->VK->Prop:=λx lo hi H Q=>∃a xs,x=.ref a/\SqL K H a xs/\∀p,H p=r_->Q (.ref p)^Av H p^.lst^P7 xs lo hi
def sl_list:SlR X^eC X.K:=by
 intro zF s Z H x v vl vu lo hi sl Q I rx hs pl pu h;let#[a,xs,rfl,hx,q]:=h;cases rx;let#[its,r,ht,hz]:=I.list hx;have hlen:=r.length;refine#[_,_,slot_list_getitem.lookup,ht.isList.typeIs,?_];refine wpAny_getItem_list_slice ht.isList hs pl pu .none (by simp) ?_ (by grind);rw[LJ,←hlen];refine#[.ref _,_,I.laid (λb ob q=>FM _ q) (Sc _) ?_,rfl,q _^I.hok.fresh^Sc _];exact#[iU (IY xs lo hi) hz,_,0,(r.drop _).take _,TW _ rfl]
def aS:V->Bool
 |.non=>s_
 |.bl _=>s_
 |.int _=>s_
 |.str _=>s_
 |_=>t_
def fL:V->V->Bool
 |.non,.non=>s_
 |.bl a,.bl b=>a==b
 |.bl a,.int b=>(if a then 1 else 0)==b
 |.int a,.bl b=>a==(if b then 1 else 0)
 |.int a,.int b=>a==b
 |.str a,.str b=>a==b
 |_,_=>t_
def Nw{A:i5}{s:No}{y x:V}{u v:Db}(ry:RelV y u)(rx:RelV x v)(fy:aS y=s_)(fx:aS x=s_):SeqAt.EqAt A s u v^fL y x:=by
 cases y with
 |non=>
  cases ry;cases x with
  |non=>cases rx;exact SeqAt.EqAt.same _
  |bl b=>cases rx;exact SeqAt.EqAt.none_bool b
  |int b=>let#[t,rfl]:=rx;exact SeqAt.EqAt.none_int b t
  |str b=>let#[t,rfl]:=rx;exact SeqAt.EqAt.none_str b t
  |_=>exact absurd (show t_=s_ from fx) iS
 |bl a=>
  cases ry;cases x with
  |non=>cases rx;exact SeqAt.EqAt.bool_none a
  |bl b=>cases rx;exact SeqAt.EqAt.bool_bool a b
  |int b=>let#[t,rfl]:=rx;exact SeqAt.EqAt.bool_int a b t
  |str b=>let#[t,rfl]:=rx;exact SeqAt.EqAt.bool_str a b t
  |_=>exact absurd (show t_=s_ from fx) iS
 |int a=>
  let#[t',rfl]:=ry;cases x with
  |non=>cases rx;exact SeqAt.EqAt.int_none a t'
  |bl b=>cases rx;exact SeqAt.EqAt.int_bool a t' b
  |int b=>let#[t,rfl]:=rx;exact SeqAt.EqAt.int_int a t' b t
  |str b=>let#[t,rfl]:=rx;exact pN a t' b t
  |_=>exact absurd (show t_=s_ from fx) iS
 |str a=>
  let#[t',rfl]:=ry;cases x with
  |non=>cases rx;exact SeqAt.EqAt.str_none a t'
  |bl b=>cases rx;exact SeqAt.EqAt.str_bool a t' b
  |int b=>let#[t,rfl]:=rx;exact pO a t' b t
  |str b=>let#[t,rfl]:=rx;exact SeqAt.EqAt.str_str a t' b t
  |_=>exact absurd (show t_=s_ from fx) iS
 |_=>exact absurd (show t_=s_ from fy) iS
def Gu:CallR X (.type "list") (λxs H Q=>∃p ys,xs=[.ref p]/\(SqL X.K H p ys\/SqT X.K H p ys)/\∀l,H l=r_->Q (.ref l)^Av H l^.lst ys):=by
 intro zF s Z H xs us Q I r h;let#[p,ys,rfl,hq,q]:=h;let#[u,rfl,rx]:=vals1 r;cases rx
 have fin:∀(its:u_ Db),Vals ys its->ys.length<=sizeLine->∀(h':iQ) (c':Nat),(∀b o',s.heap.get? b=P3 o'->h'.get? b=P3 o')->
   h'.get? s.heap.objs.size=P3 _->EP X zF Z Q (.ref s.heap.objs.size) {s with heap:=h'}:=λits r' hz h' c' kp e=>
  #[.ref s.heap.objs.size,_,I.laid (t':=s.toks) kp (Sc _) (show ObjOk X.prog X.w _ h' _^.lst ys from#[hz,its,c',r',e]),rfl,q _^I.hok.fresh^Sc _]
 rcases hq with hq|hq
 .let#[its,r',pl,hz]:=I.list hq
  have hlen:=r'.length;let#[o,ho,hc,n,hd]:=pl.isList;exact call_list_seq p (.inl rfl) ho hc hd (λh' c' kp e=>fin its r' hz h' c' kp e)^by grind
 .let#[its,r',pl,hz]:=I.tuple hq
  have hlen:=r'.length;let#[o,ho,hc,n,hd]:=pl;exact call_list_seq p (.inr rfl) ho hc hd (λh' c' kp e=>fin its r' hz h' c' kp e)^by grind
def A5:CallR X (.type "tuple") (λxs H Q=>∃p ys,xs=[.ref p]/\((SqL X.K H p ys/\∀l,H l=r_->Q (.ref l)^Av H l^.tup ys)\/(SqT X.K H p ys/\Q (.ref p) H))):=by
 intro zF s Z H xs us Q I r h;let#[p,ys,rfl,h]:=h;let#[u,rfl,rx]:=vals1 r;cases rx
 rcases h with⟨hq,q⟩|⟨hq,q⟩
 .let#[its,r',pl,hz]:=I.list hq
  have hlen:=r'.length;refine call_tuple_list pl.isList (λh' kp=>?_) (by grind);have I1:=I.kept (t':=s.toks) kp;exact#[.ref _,_,I1.laid (t':=s.toks) (λb o e=>FM _ e) (Sc _) (show ObjOk _ _ _ _ _^.tup ys from#[hz,_,r',IsTupN.new _ _]),rfl,q _^I1.hok.fresh^Sc _]
 .let#[its,r',pl,hz]:=I.tuple hq
  exact call_tuple_same pl #[.ref p,H,I,rfl,q]
def dW(K:Frag)(T:String)(x:V)(H:Hp):Prop:=match x with
 |.str _=>T="str"
 |.int _=>T="int"
 | .ref p=>(T="list"/\∃xs,SqL K H p xs)\/(T="tuple"/\∃o,K.lookup p=P3 o/\o.cls=.type "tuple"/\o.dict=r_) \/
   (T="dict"/\((∃kvs,H p=P3^.dK kvs)\/∃kvs,H p=P3^.dT kvs))\/(T="set"/\∃S n,H p=P3^.set S n)
 |_=>False
def Vi{zF:u_ (Ch×Obj)}{Z:St}{H:Hp}{s:No}{T:String}{x:V}{v:Db}(I:Inv X zF Z H s)(r:RelV x v)(ty:dW X.K T x H):
  s.TypeIs v T/\∀a,v=.ref a->∃ob,s.heap.get? a=P3 ob/\ob.dict=r_:=by
 cases x with
 |str z=>
  let#[t,rfl]:=r;cases(show T="str" from ty);exact#[k7 s z t,λ_ e=>nomatch e]
 |int i=>
  let#[t,rfl]:=r;cases(show T="int" from ty);exact#[typeIs_int s i t,λ_ e=>nomatch e]
 | ref p=>
  cases r
  rcases ty with⟨rfl,xs,hq⟩|⟨rfl,o,hk,hc,hd⟩|⟨rfl,hk⟩|⟨rfl,S,n,hk⟩
  .let#[its,_,pl,_]:=I.list hq
   refine#[pl.isList.typeIs,λa e=>?_];cases e;let#[o,n,e,c,hd,_]:=pl;exact#[o,e,hd]
  .refine#[#[o,I.kIn p o hk,hc],λa e=>?_]
   cases e;exact#[o,I.kIn _ o hk,hd]
  .have z:∃o,s.heap.get? p=P3 o/\o.ExactDict:=by
    rcases hk with⟨kvs,hk⟩|⟨kvs,hk⟩
    .let#[_,_,_,_,o,_,_,e,ex,_]:=I.hok p _ hk
     exact#[o,e,ex]
    .let#[_,_,_,_,o,_,_,e,ex,_]:=I.hok p _ hk
     exact#[o,e,ex]
   let#[o,e,ex]:=z;refine#[#[o,e,ex.1],λa e2=>?_];cases e2;exact#[o,e,ex.2.1]
  .let#[o,_,_,_,e,ex,_]:=I.hok p _ hk
   refine#[#[o,e,ex.1],λa e2=>?_];cases e2;exact#[o,e,ex.2.1]
 |_=>exact jL ty
def iE(K:Frag)(T:String)(r:V->u_ V->Hp->VK->Prop)(to:TE)(t:TA):TE:=λZ H Q=>to Z H λx H1=>dW K T x H1/\t Z H1 λxs H2=>r x xs H2 Q
variable {o e:Expr}{es:u_ Expr}{to:TE}{t:TA}{name:Str}{apos cpos:Pos}{T id:String}{r:V->u_ V->Hp->VK->Prop}
def aL(pa:oR T)(slot:Slot T name id)(hty:typeOf^.builtin id=pure^.type "method_descriptor")(hm:am X id r)(ho:PE X o to)(ha:PA X (e::es) t)
  (hbase:attributeBase o name X.env^eval o X.env=eval o X.env:=by rfl)
  (hfew:((backTo cpos^starEach (e::es) X.env).all (λx=>!x.1)&&(backToKw cpos^keywordEach [] X.env).all (λx=>x.1.isSome)
   && decide ((e::es).length+([]:u_ lC).length+(if([]:u_ lC).isEmpty then 0 else 1)<30))=s_:=by rfl)
  (hline:(apos.endLine==cpos.line)=s_:=by rfl) (hs:starEach (e::es) X.env=(t_,eval e X.env)::starEach es X.env:=by rfl) (hplain:(backTo cpos^starEach es X.env).any (·.1)=t_:=by rfl):
  PE X (.Call (.Attribute o name apos) (e::es) [] cpos) (iE X.K T r to t):=by
 intro zF s Z H Q I h;refine wpAny_Call_method_late hbase hfew hline rfl (BG (ho _ s Z H _ I h) λv s1 #[x,H1,I1,r1,ty,q1]=>?_);let#[h1,h2]:=Vi I1 r1 ty;refine#[T,id,pa,slot,hty,h1,h2,?_];have hA:=ha cpos _ s1 Z H1 _ I1 q1;rw[hs]at hA ⊢;refine mj (by simp_all)^pJ ?_;exact BG hA λus s2 #[vs,H2,I2,r2,q2]=>hm _ s2 Z H2 x vs v us Q I2 r1 r2 q2
end
def hV(X:Cx)(id:String)(r:V->u_ V->Hp->VK->Prop):Prop:=
 ∀(zF:u_ (Ch×Obj)) (s:No) (Z:St) (H:Hp) (x:V) (xs:u_ V) (v:Db) (us:u_ Db) (Q:VK),Inv X zF Z H s->RelV x v->Vals xs us->r x xs H Q->
  wpAny (model X.prog X.w) X.A (call (.builtin id) (v::us)) (EP X zF Z Q) X.xe s
theorem Vals.one:∀{x:V}{us:u_ Db},Vals [x] us->∃u,us=[u]/\RelV x u
 |_,_,.cons r .nil=>#[_,rfl,r]
theorem Vals.eraseIdx:∀{xs:u_ V}{us:u_ Db} (i:Nat),Vals xs us->Vals (xs.eraseIdx i)^us.eraseIdx i
 |_,_,_,.nil=>.nil
 |_,_,0,.cons _ t=>t
 |_,_,i+1,.cons r t=>.cons r^Vals.eraseIdx i t
def Vals.reverse{xs:u_ V}{us:u_ Db}(h:Vals xs us):Vals xs.reverse us.reverse:=by
 induction h with
 |nil=>exact .nil
 |cons r t ih=>rw[mY,mY];exact Vals.append ih^.cons r .nil
theorem MO{α:Type}:∀(l:u_ α) (i:Nat),(l.eraseIdx i).length<=l.length
 |[],_=>Sc _
 |_::_,0=>jP _
 |_::r,i+1=>lr^MO r i
section
variable {X:Cx}{zF:u_ (Addr×Obj)}{Z:St}{H:Hp}{s:Shared}{l:Addr}{xs ys:u_ V}
def Inv.lset{its its':u_ Db}{n:Nat}{f:Array Db->Array Db}{t':Nat}(I:Inv X zF Z H s)(hH:H l=P3^.lst xs)
  (e:s.heap.get? l=P3 {cls:=.type "list",data:=.seq its.toArray n}) (hf:f its.toArray=its'.toArray) (hv:Vals ys its') (hz:ys.length<=sizeLine):
  Inv X zF Z (Av H l^.lst ys) {s with heap:=s.heap.update l^jF f,toks:=t'}:=by
 have q:=PySem.IsL.update e f;rw[hf]at q;exact I.write (by rw[hH];exact trivial) (.inl rfl) (λb' u hb hu=>(iO _ _^i_ hb).trans hu) #[_,q] #[hz,_,_,hv,q]
def Inv.lnew{its:u_ Db}{t':Nat}(I:Inv X zF Z H s)(hv:Vals ys its)(hz:ys.length<=sizeLine):
  Inv X zF Z (Av H s.heap.objs.size^.lst ys) {s with heap:=s.heap.push {cls:=.type "list",data:=.seq its.toArray},toks:=t'}:=
 I.laid (λ_ _ q=>FM _ q) (Sc _) #[hz,_,0,hv,TW _ rfl]
def Inv.fresh(I:Inv X zF Z H s):H s.heap.objs.size=r_:=I.hok.fresh^Sc _
def Inv.lstM(I:Inv X zF Z H s)(hH:H l=P3^.lst xs):xs.length<=sizeLine/\∃(its:u_ Db) (n:Nat),Vals xs its/\xs.length=its.length/\s.heap.get? l=P3 {cls:=.type "list",data:=.seq its.toArray n}:=by
 let#[z,its,n,r,e]:=I.hok l _ hH;exact#[z,_,n,r,r.length,e]
def W0{n:Nat}(h:n<=sizeLine):mM n=t_:=by
 unfold mM
 grind
end
section
variable {X:Cx}
def Si:V->u_ V->Hp->VK->Prop:=λx vs H Q=>∃l xs y,x=.ref l/\vs=[y]/\H l=P3^.lst xs/\xs.length<sizeLine/\Q .non^Av H l^.lst (xs++[y])
def B8:hV X "list.append" Si:=by
 intro zF s Z H x vs v us Q I rx rv h;let#[l,xs,y,rfl,rfl,hH,hz,q]:=h;cases rx;let#[u,rfl,ru]:=rv.one;let#[z,its,n,r,hl,e]:=I.lstM hH;refine oS F.slot_list_append #[_,e,rfl] F.entry_list_append (F.args_list_append_2 _ _) (PySem.list_append l _ n u^by grind) #[e,?_];refine#[.non,_,I.lset hH e (by simp) (r.append^.cons ru .nil) ?_,rfl,q]
 grind
def Sh:V->u_ V->Hp->VK->Prop:=λx vs H Q=>∃l b xs zs,x=.ref l/\vs=[.ref b]/\H l=P3^.lst xs/\H b=P3^.lst zs/\xs.length+zs.length<=sizeLine/\Q .non^Av H l^.lst (xs++zs)
def Ui:hV X "list.extend" Sh:=by
 intro zF s Z H x vs v us Q I rx rv h;let#[l,b,xs,zs,rfl,rfl,hH,hB,hz,q]:=h;cases rx;let#[u,rfl,ru]:=rv.one;cases ru;let#[z,its,n,r,hl,e]:=I.lstM hH;let#[z2,its2,n2,r2,hl2,e2]:=I.lstM hB;have hsz:its.toArray.size+its2.toArray.size<=sizeLine:=by grind
 have hlong:¬(!its.toArray.isEmpty&&mM (its.toArray.size+its2.toArray.size))=s_:=by
  rw[W0 hsz]
  grind
 refine oS F.slot_list_extend #[_,e,rfl] F.entry_list_extend (F.args_list_extend_2 _ _)
  (AutoSeq1.list_extend_list_list_0 l its.toArray n b _ n2 hlong (by grind)^by lk) #[e,e2,?_]
 refine#[.non,_,I.lset hH e (by simp) (r.append r2) ?_,rfl,q]
 grind
end
end L2
namespace Att
open PySem.W PySem.Calls
def Iv{P:Params}{h:iQ}:∀(ns:u_ Int) (vs:u_ Db),WellAll P h vs^ns.map WData.int->IntsAre vs ns:=by
 intro ns
 induction ns with
 |nil=>
  intro vs w;cases w;exact .nil
 | cons n ns ih=>
  intro vs w;cases w with
  |cons a b=>
   cases a;exact .cons _ _^ih _ b
def T7{l:OpenLaw}{n:Nat}(hn:l.most=P3 n){P:Params}{h:iQ}{args:u_ WData}{vals:u_ Db}
  (hpre:l.row.toRowW.claim.pre args=s_) (hwl:WellAll P h vals args):
  ∃a vs ns,vals=[iR a]/\args=[WData.list^ns.map WData.int]/\h.get? a=P3 {cls:=.type "list",data:=.seq vs.toArray}/\IntsAre vs ns/\ns.length<=n:=by
 have hsh:WShape.hasAll [] args [.list .int]=s_:=(pre_splitW hpre).1;have hc:l.pre.holds [] {args:=args}=s_:=(pre_splitW hpre).2;let#[d,r,rfl,h1,h2]:=hasAllW_cons hsh;obtain rfl:=hasAllW_nil h2;let#[xs,rfl,h3]:=hasW_list h1;let#[ns,rfl]:=items_int h3
 have hlen:ns.length<=n:=by
  unfold OpenLaw.pre at hc
  have h4:(WTm.not^.lt (.lit^.int (n:Int))^.len^.arg 0).holds [] {args:=[.list^ns.map .int]}=s_:=by
   have h4:=(holds_andW hc).1
   grind
  have h5:=condW_of h4^w_not^w_lt w_lit^w_len_list (w_arg rfl)
  grind
 cases hwl with
 |cons w1 w2=>
  cases w2;cases w1 with
  |list ho hall=>exact#[_,_,ns,rfl,rfl,ho,Iv ns _ hall,hlen]
def UP(l:OpenLaw)(args:u_ WData):l.row.toRowW.claim.post args (.bool s_) args=s_:=
 postW_of
  (show WShape.has [] _ _=s_ by first|rfl|decide|omega)
  (w_eq_bool (w_res rfl) w_lit) rfl
def attach_call{l:OpenLaw}{n:Nat}{q:ic}{loose:u_ Str}{XP:(Str->v_ Db)->iQ->Prop}{YP:ip->iQ->Prop}{d:DefRec}
  (hn:l.most=P3 n) (hdf:d.params.defaults=[])
  (call:∀(w:ip) (s₀ s₁:No) (mg mb:Str->v_ Db) (fa:Ch) (o:Obj) (pm cd doc:Db) (a:Ch) (vs:u_ Db) (ns:u_ Int),
   Ground q loose [] XP w s₀ mg mb s₁.heap->YP w s₁.heap->
   s₁.heap.get? fa=P3 o->o.data=.func^docDef d.name d.params d.body d.scope pm cd doc->s₁.heap.CodeRec cd d.name->mg d.name=P3^.ref fa->
   s₁.heap.get? a=P3 {cls:=.type "list",data:=.seq vs.toArray}->IntsAre vs ns->ns.length<=n->s₁.gens=#[]->
   codeAny (model l.prog w) callerA (.call (.ref fa) #[[.ref a],[]]) (λr s'=>r=.ok^.ret^.bool s_/\OldK s₁.heap s'.heap/\s'.os=s₁.os/\mR s'.gens) s₁):
  WalkO q loose XP YP l.row.toRowW d [] (λf vs=>PySem.call f vs):=by
 intro w s₀ s₁ mg mb G Y fa o pm cd doc dV kV ho hd hcd hD hmg hg args vals as hpre hlay hrd hwl hlo;obtain rfl:dV=.none:=Dflts.none hD hdf;obtain rfl:kV=.none:=Dflts.noKw hD;let#[a,vs,ns,rfl,rfl,hobj,hints,hlen]:=T7 hn hpre hwl;refine enter_call^mI (call w s₀ s₁ mg mb fa o pm cd doc a vs ns G Y ho (fd_plain hd) hcd hmg hobj hints hlen hg) λr s' hq=>?_;let#[rfl,h2,h3,h4]:=hq;exact#[.inl #[.bool s_,.bool s_,[],rfl,λ_=>rfl,.bool s_,UP l _,λ_=>#[pP,λ_ hm=>(nomatch hm)]],h2,h3,h4]
end Att
namespace L2
theorem L0:∀{vs:u_ Db}{ns:u_ Int},IntsAre vs ns->Vals (ns.map V.int) vs
 |_,_,.nil=>.nil
 |_,_,.cons n t h=>.cons #[t,rfl]^L0 h
def dA(H:Hp):Prop:=∀b,H b=r_\/∃o xs,H b=P3^.frz o^.lst xs
def XI{P:ic}{w:ip}{K:Frag}{mg mb:Str->v_ Db}{CX:YV}{k:Nat}{fa a:Ch}{fd:jK}{x:Str}{sp:Sp}{s₁:No}{vs:u_ Db}{ns:u_ Int}
  (KX:K.In s₁.heap) (hns:s₁.heap.Ns mainGlobals mg) (hb:s₁.heap.Ns builtinsNs mb) (hbb:∀x:Str,x ≠ "__name__"->mb x=bootBuiltins x) (hlim:s₁.heap.NoLimit) (hg:s₁.gens=#[])
  (ha:s₁.heap.get? a=P3 {cls:=.type "list",data:=.seq vs.toArray}) (hi:IntsAre vs ns) (hl:ns.length<=sizeLine) (hr:Room k callerA)
  (F:∀base:iQ,K.In base->base.Ns mainGlobals mg->FnOk P w K mg base CX k fa fd [x] sp) (hbind:∀(s:No) (u:Db),oY s fd #[[u],[]] [(x,u)])
  (hsp:∀H:Hp,dA H->SqL K H a^ns.map V.int->sp [.ref a] H (λv _=>v=.bl s_) λ_ _ _=>False)
  (hCX:∀H e s',CX [] H s₁ (λ_ _ _=>False) e s'->False):
  codeAny (model P w) callerA (.call (.ref fa) #[[.ref a],[]]) (λr s'=>r=.ok^.ret^.bool s_/\OldK s₁.heap s'.heap/\s'.os=s₁.os/\mR s'.gens) s₁:=by
 have rv:=L0 hi;have lenV:=hi.length
 have core:∀H:Hp,dA H->SqL K H a^ns.map V.int->HOk P w H s₁.heap->(∀b,H b≠r_->b=a)->(H a≠r_->K.lookup a=r_)->
   codeAny (model P w) callerA (.call (.ref fa) #[[.ref a],[]]) (λr s'=>r=.ok^.ret^.bool s_/\OldK s₁.heap s'.heap/\s'.os=s₁.os/\mR s'.gens) s₁:=by
  intro H hO hS hok hA hK;have base_of:∀{b:Ch}{o:Obj},s₁.heap.get? b=P3 o->H b=r_->(Nn s₁.heap H).get? b=P3 o:=λe n=>Xa e n
  have noA:∀{b:Ch}{o:Obj}{es:Array lO}{ep:Nat},s₁.heap.get? b=P3 o->o.data=.dict es ep->H b=r_:=λ{b o es ep} e d=>by
   cases q:H b with
   |none=>rfl
   |some u=>
    have e':b=a:=hA b (by rw[q];simp);subst e';rw[ha]at e;cases e
    have d':Data.seq vs.toArray _=Data.dict es ep:=d;cases d'
  have nsK:∀{b:Ch}{m:Str->v_ Db},s₁.heap.Ns b m->(Nn s₁.heap H).Ns b m:=λ{b m} #[o,es,ep,e,d,r]=>#[o,es,ep,base_of e^noA e d,d,r]
  have hKb:K.In^Nn s₁.heap H:=λb o e=>base_of (KX b o e) (by
   cases q:H b with
   |none=>rfl
   |some u=>
    have e':b=a:=hA b (by rw[q];simp);subst e';rw[hK^by rw[q];simp]at e;cases e)
  have hM:Mod K mg^Nn s₁.heap H:=#[hKb,nsK hns,#[mb,nsK hb,hbb],let #[mc,h1,h2]:=hlim;#[mc,nsK h1,h2]];have e0:Env0 P w K mg (Nn s₁.heap H) callerA [] s₁ H:=#[rfl,hM,λb o e=>ZE e,nH^Uz _ _,trivial,λb hb=>absurd (show b∈([]:u_ Ch)from hb)^by simp,hok,.of_eq hg];refine mI ((F _ hKb^nsK hns).run callerA [] s₁ H #[[.ref a],[]] [.ref a] [.ref a] _ _ hr e0 (hbind s₁^.ref a) (.cons rfl .nil)^hsp H hO hS) λr s' h=>?_;cases r with
  |error e=>exact(hCX H e s' h).elim
  | ok fl=>
   cases fl with
   |next=>exact jL h
   |brk=>exact jL h
   |cont=>exact jL h
   | ret u=>
    let#[v,H',os,bare,un,hok',r',q]:=h;have q':v=.bl s_:=q;subst q';obtain rfl:u=lM s_:=r';refine#[rfl,OldK.of_keep λb o e=>?_,os,bare];cases q:H b with
    |none=>exact un.keep b o e q (by intro z;exact absurd (show b∈([]:u_ Ch)from z)^by simp)^by simp
    | some u=>
     rcases hO b with z|⟨ob,xs,z⟩
     .rw[q]at z;cases z
     .have z2:=un.frzs b ob _ z
      let#[e1,_]:=hok b _ z;let#[e2,_]:=hok' b _ z2;rw[e]at e1;cases e1
      exact e2
 cases hk:K.lookup a with
 |some o=>
  have e:=KX a o hk;rw[ha]at e;cases e;refine core (λ_=>r_) (λ_=>.inl rfl) (.inr #[_,vs.toArray,_,hk,rfl,rfl,rfl,by rw[f8,lenV];exact hl,by simpa using rv]) (λb u z=>by have z':(r_:v_ HO)=P3 u:=z;cases z') (λb z=>absurd rfl z) λz=>absurd rfl z
 | none=>
  refine core (λb=>if b=a then P3^.frz {cls:=.type "list",data:=.seq vs.toArray}^.lst^ns.map V.int else r_) (λb=>?_) (.inl^.inr #[{cls:=.type "list",data:=.seq vs.toArray},if_pos rfl]) (λb u z=>?_) (λb z=>?_) λ_=>hk
  .by_cases hb:b=a
   .exact .inr #[_,_,if_pos hb]
   .exact .inl^if_neg hb
  .by_cases hb:b=a
   .have z':=(if_pos hb).symm.trans z
    cases z';subst hb;exact#[ha,by rw[Ev];exact hl,vs,_,rv,ha]
   .have z':=(if_neg hb).symm.trans z
    cases z'
  .by_cases hb:b=a
   .exact hb
   .exact absurd (if_neg hb) z
def SG{l:PySem.W.OpenLaw}{n k:Nat}{q:ic}{loose:u_ Str}{XP:(Str->v_ Db)->iQ->Prop}{YP:ip->iQ->Prop}{d:DefRec}{K:Params->Frag}{CX:ip->YV}{sp:ip->Sp}{x:Str}
  (hn:l.most=P3 n) (hn2:n<=sizeLine) (hdf:d.params.defaults=[]) (hr:Room k callerA)
  (hY:∀(w:ip) (h:iQ),YP w h->(K w.params).In h)
  (F:∀(w:ip) (mg:Str->v_ Db) (fa:Ch) (h:iQ),(K w.params).In h->h.Ns mainGlobals mg->mg d.name=P3^.ref fa->
   ∃fd:jK,(∀(s:No) (u:Db),oY s fd #[[u],[]] [(x,u)]) /\
    ∀base:iQ,(K w.params).In base->base.Ns mainGlobals mg->FnOk l.prog w (K w.params) mg base (CX w) k fa fd [x]^sp w)
  (hsp:∀(w:ip) (H:Hp) (a:Ch) (ns:u_ Int),ns.length<=n->dA H->SqL (K w.params) H a^ns.map V.int->sp w [.ref a] H (λv _=>v=.bl s_) λ_ _ _=>False)
  (hCX:∀(w:ip) (H:Hp) (s:No) (e:Db) (s':No),CX w [] H s (λ_ _ _=>False) e s'->False):
  PySem.W.WalkO q loose XP YP l.row.toRowW d [] (λf vs=>PySem.call f vs):=by
 refine Att.attach_call hn hdf λw s₀ s₁ mg mb fa o pm cd doc a vs ns G Y ho hd hcd hmg hobj hints hlen hg=>?_;have KX:=hY w _ Y;let#[fd,hb,hF]:=F w mg fa _ KX G.T.g hmg;exact XI KX G.T.g G.T.b G.T.builtins G.T.nolimit hg hobj hints (iU hlen hn2) hr hF hb (λH hO hS=>hsp w H a ns hlen hO hS) λH e s'=>hCX w H _ e s'
end L2
/- THE LAST THEOREM (shape;LID,My.* are yours):
   My.Adr:a structure of the addresses that your layer names (classes,functions);My.Txt K t:a structure (Prop) of the equations over K;
   My.txt_mk:{K}{implicit addresses ..} (e1:nsIn K mainGlobals "law"=P3^P3^.ref f) (e2:K.lookup f=P3 #[oc,od,.func^fnOf "law" "law" params body scope dV kV doc pm an cdv ct,sl]) (e3:codeIn K cdv "law"=s_) ..:∃ t,My.Txt K t
set_option maxRecDepth 100000 in
set_option maxHeartbeats 0 in
def PySem.Challenge.cw_LID_holds:PySem.Challenge.rw_LID.Holds:=by
 w_on;o_law;k_head;(case hw=>w_witness2)
 k_fill
 refine L2.SG (l:=PySem.Challenge.rw_LID) (n:=63) (k:=40) (x:="script") (CX:=λw=>..) (sp:=λ_=>My.sp_law) rfl (by cbv) rfl #[rfl,by cbv,by cbv] (λw h Y=>PySem.W.kIn_of Y) ?F ?S ?C
 case F=>
  intro w mg fa h KX G hmg
  have T:∃t,My.Txt (L2.KOf KX) t:=by
   dsimp only[L2.KOf] -- K must stand as «<heap const> w.params» for k_is
   refine' My.txt_mk ?e1 ?e2 ?e3 ..
   (case e1=>PySem.W.k_is) -- in the order:a name->its address->its object->its parts
   (case e2=>PySem.W.k_is)
   ..
  let#[t,T]:=T;have e0:=hmg.symm.trans^mg_of KX G T.law;cases e0 -- fa is the law's own address;exact#[_,λs u=>.of_eq rfl,λbase kb nb=>My.law_fn T kb nb] -- if «.of_eq rfl» comes too early:refine' #[_,?b,λbase kb nb=>My.law_fn T kb nb];exact λs u=>.of_eq rfl
 case S=>exact λw H a ns hl hO hS=>..
 case C=>exact ..
(the tactic k_is has no namespace:write k_is) -/
namespace L2
def CG(s:ii):Arguments:=match s with
 |.FunctionDef _ a _ _ _ _ _ _ _ _=>a
 |_=>{posonlyargs:=[],args:=[],vararg:=r_,kwonlyargs:=[],kw_defaults:=[],kwarg:=r_,defaults:=[]}
def Be(s:ii):u_ ii:=match s with
 |.FunctionDef _ _ b _ _ _ _ _ _ _=>b
 |_=>[]
def AJ(s:ii):kd:=match s with
 |.FunctionDef _ _ _ _ _ _ sc _ _ _=>sc
 |_=>{kind:=.function,names:=[],isGenerator:=t_,isCoroutine:=t_}
abbrev GC:YV:=λ_ _ _ _ _ _=>False
abbrev E0:XK:=λ_ _ _=>False
def KI{X:Cx}:Ey GC X E0:=λ_ _ _ _ _ _ _ h=>h.elim
structure Fun (K:Frag) (x qual:Str) (st:ii) (f:Ch) (fd:jK):Prop where
 ex:∃(oc:Db) (od:Option Ch) (kV doc pm:Db) (an:Option Ch) (cdv ct:Db) (osl:Array^Option Db),
  fd=fnOf x qual (CG st) (Be st) (AJ st) .none kV doc pm an cdv ct/\K.lookup f=P3 #[oc,od,.func fd,osl]/\codeIn K cdv qual=s_
 kp:keepIn K^.ref f=s_
section
variable {P:Program}{w:World}{K:Frag}{mg:Str->v_ Value}{base:Heap}
def Fun.ok{x qual:Str}{st:ii}{f:Ch}{fd:jK}{N ps:u_ Str}{k:Nat}{sp:Sp}(F:Fun K x qual st f fd)(S:AY N ps^AJ st)(len:∀vs H Q E,sp vs H Q E->vs.length=ps.length)
  (hbody:∀(cdv:Db) (A:i5) (outer:u_ Env) (s:No) (H:Hp) (vs:u_ V) (Q:VK) (E:XK),Room k^A.deeper^envOfC qual (AJ st) s.heap.objs.size f cdv->sp vs H Q E->
   ∃t,PSs (Kw GC P w K mg base N qual (AJ st) f cdv A outer s H E).nox (Be st) t/\t {nx:=λ_ H'=>Q .non H',rt:=Q} (start N vs) H):FnOk P w K mg base GC (k+1) f fd ps sp:=by
 let#[oc,od,kV,doc,pm,an,cdv,ct,osl,rfl,lk,hcd]:=F.ex;refine fG lk hcd S len λA outer s H vs Q E hr hsp=>?_;let#[t,h,q]:=hbody _ A _ s H vs Q E hr hsp;exact#[t,h.nox,q]
def Fun.binds{x qual:Str}{st:ii}{f:Ch}{fd:jK}{ps:u_ Str}(F:Fun K x qual st f fd)
  (h:∀(kV doc pm:Db) (an:v_ Ch) (cdv ct:Db) (us:u_ Db),us.length=ps.length->bindArgs (fnOf x qual (CG st) (Be st) (AJ st) .none kV doc pm an cdv ct) #[us,[]]=pure^ps.zip us):Binds K fd ps []:=by
 let#[oc,od,kV,doc,pm,an,cdv,ct,osl,rfl,lk,hcd]:=F.ex;exact .all^h kV _ pm an _ ct
def Np{x qual:Str}{st:ii}{f:Ch}{oc:Db}{od an:v_ Ch}{osl:Array^v_ Db}{kV doc pm cdv ct:Db}(l:K.lookup f=P3 #[oc,od,.func^fnOf x qual (CG st) (Be st) (AJ st) .none kV doc pm an cdv ct,osl])
  (c:codeIn K cdv qual=s_) (k:keepIn K^.ref f=s_):Fun K x qual st f^fnOf x qual (CG st) (Be st) (AJ st) .none kV doc pm an cdv ct:=#[#[oc,od,kV,_,pm,an,_,ct,_,rfl,l,c],k]
end
def IT{A:i5}{k:Nat}(hr:Room k A):A.units+1<cLine:=kH (Nat.add_le_add_left (by cbv) _) hr.units
section
variable {X:Cx}
def pv(i:Nat){x:Str}{pos:Pos}(hN:X.N[i]?=P3 x:=by rfl)(hv:c8 X.env.scope x:=by first|exact ZB rfl|exact kT (ZB rfl)|exact kT (kT rfl))(hd:(x==("__debug__":Str))=t_:=by decide)
  (hcd:(x==("__classdict__":Str))=t_:=by decide):PE X (.Name x pos)^B9 i:=NO hN hv hd hcd
end
def Bs{A B:Prop}(h:B):if t_=s_ then A else B:=by
 grind
def Dw{A B:Prop}(h:A):if s_=s_ then A else B:=by
 grind
def DF{c A B:Prop}[Decidable c](h1:c->A)(h2:¬c->B):if c then A else B:=by
 grind
section
variable {κ:Type}[DecidableEq κ]
def Cu(kvs:u_ (κ×V))(k:κ):v_ V:=(kvs.find? λkv=>decide (kv.1=k)).map (·.2)
def putK(kvs:u_ (κ×V))(k:κ)(v:V):u_ (κ×V):=
 if(kvs.any λkv=>decide (kv.1=k))=s_ then kvs.map (λkv=>if kv.1=k then(kv.1,v)else kv)else kvs++[(k,v)]
def Di{p:κ×V}{r:u_ (κ×V)}{k:κ}(e:p.1=k):Cu (p::r) k=P3 p.2:=by simp[Cu,e]
def Dk{p:κ×V}{r:u_ (κ×V)}{k:κ}(e:¬p.1=k):Cu (p::r) k=Cu r k:=by simp[Cu,e]
theorem Oh(k:κ):∀kvs:u_ (κ×V),(kvs.any λkv=>decide (kv.1=k))=(Cu kvs k).isSome
 |[]=>rfl
 |p::r=>by
  rw[List.any_cons]
  by_cases e:p.1=k
  .simp[Di e,decide_eq_true e,Bool.true_or]
  .rw[Dk e,decide_eq_false e];exact Oh k r
def Eg(kvs:u_ (κ×V))(k:κ)(v:V):(putK kvs k v).length<=kvs.length+1:=by
 unfold putK
 grind
def RelO.isSome_eq{o:v_ V}{u:v_ Db}(r:RelO o u):o.isSome=u.isSome:=by
 cases o with
 |none=>cases u with
  |none=>rfl
  |some _=>exact(r).elim
 |some _=>cases u with
  |none=>exact(r).elim
  |some _=>rfl
def KV.val{kvs:u_ (κ×V)}{vs:u_ (κ×Db)}(r:KV kvs vs)(k:κ):RelO (Cu kvs k)^valueAt vs k:=by
 induction r with
 |nil=>exact j5
 | @cons p q ps qs h t ih=>
  let#[h1,h2]:=h
  by_cases e:p.1=k
  .have e':=h1.symm.trans e
   have b:valueAt (q::qs) k=P3 q.2:=by simp[valueAt,e']
   rw[Di e,b];exact h2
  .have e':¬q.1=k:=λz=>e^h1.trans z
   have b:valueAt (q::qs) k=valueAt qs k:=by simp[valueAt,e']
   rw[Dk e,b];exact ih
def KV.any{kvs:u_ (κ×V)}{vs:u_ (κ×Db)}(r:KV kvs vs)(k:κ):(kvs.any λkv=>decide (kv.1=k))=vs.any λkv=>decide (kv.1=k):=by
 induction r with
 |nil=>rfl
 |cons h t ih=>simp_all
def KV.repl{kvs:u_ (κ×V)}{vs:u_ (κ×Db)}(r:KV kvs vs)(k:κ){y:V}{u:Db}(ry:RelV y u):
  KV (kvs.map λkv=>if kv.1=k then(kv.1,y)else kv) (vs.map λkv=>if kv.1=k then(kv.1,u)else kv):=by
 induction r with
 |nil=>exact .nil
 |@cons p q ps qs h t ih=>
  refine .cons ?_ ih
  by_cases e:p.1=k
  .simp_all
  simp_all
def KV.put{kvs:u_ (κ×V)}{vs:u_ (κ×Db)}(r:KV kvs vs)(k:κ){y:V}{u:Db}(ry:RelV y u):KV (putK kvs k y)^stored vs k u:=by
 unfold putK stored;rw[r.any k]
 by_cases e:(vs.any λkv=>decide (kv.1=k))=s_
 .rw[if_pos e,if_pos e];exact r.repl k ry
 .rw[if_neg e,if_neg e];exact Paired.snoc r #[rfl,ry]
def KV.length{kvs:u_ (κ×V)}{vs:u_ (κ×Db)}(r:KV kvs vs):kvs.length=vs.length:=Paired.length r
end
def MQ{P:ic}{w:ip}{k:Key}{u:Db}(r:RelV (kV k) u):(BI P w).is k u=s_:=by
 cases k with
 |inl i=>let#[t,e]:=(r);subst e;exact Pa P w i t
 |inr x=>let#[t,e]:=(r);subst e;exact PZ P w x t
theorem MR{P:ic}{w:ip}:∀{ks:u_ Key}{us:u_ Db},Vals (ks.map kV) us->ItemsAre (BI P w) ks us
 |[],_,r=>by cases r;exact .nil
 |k::ks,_,r=>by
  cases r with
  |cons h t=>exact .cons (MQ h)^MR t
abbrev KT(H:Hp):u_ (u_ Key×V)->u_ (u_ Key×Ch×Db)->Prop:=Paired λp q=>p.1=q.1/\H q.2.1=P3^.tup^p.1.map kV/\RelV p.2 q.2.2
def KT.val{H:Hp}{kvs:u_ (u_ Key×V)}{xs:u_ (u_ Key×Ch×Db)}(r:KT H kvs xs)(k:u_ Key):RelO (Cu kvs k) ((atKey xs k).map (·.2)):=by
 induction r with
 |nil=>exact j5
 | @cons p q ps qs h t ih=>
  let#[h1,_,h2]:=h
  by_cases e:p.1=k
  .have e':=h1.symm.trans e
   have b:atKey (q::qs) k=P3 q.2:=by simp[atKey,e']
   rw[Di e,b];exact h2
  .have e':¬q.1=k:=λz=>e^h1.trans z
   have b:atKey (q::qs) k=atKey qs k:=by simp[atKey,e']
   rw[Dk e,b];exact ih
def KT.repl{H:Hp}{kvs:u_ (u_ Key×V)}{xs:u_ (u_ Key×Ch×Db)}(r:KT H kvs xs)(k:u_ Key){y:V}{u:Db}(ry:RelV y u):
  KT H (kvs.map λkv=>if kv.1=k then(kv.1,y)else kv) (xs.map^putAt k u):=by
 induction r with
 |nil=>exact .nil
 |@cons p q ps qs h t ih=>
  refine .cons ?_ ih;unfold putAt
  by_cases e:p.1=k
  .simp_all
  simp_all
def KT.put{H:Hp}{kvs:u_ (u_ Key×V)}{xs:u_ (u_ Key×Ch×Db)}(r:KT H kvs xs)(k:u_ Key){b:Ch}{y:V}{u:Db}(hb:H b=P3^.tup^k.map kV)(ry:RelV y u):
  KT H (putK kvs k y) (storedH xs k b u):=by
 have e:(kvs.any λkv=>decide (kv.1=k))=(atKey xs k).isSome:=by
  rw[Oh,(r.val k).isSome_eq,oM]
 unfold putK storedH;rw[e]
 by_cases q:(atKey xs k).isSome=s_
 .rw[if_pos q,if_pos q];exact r.repl k ry
 .rw[if_neg q,if_neg q];exact Paired.snoc r #[rfl,hb,ry]
def KT.keeps{H H':Hp}{kvs:u_ (u_ Key×V)}{xs:u_ (u_ Key×Ch×Db)}(r:KT H kvs xs)(ht:∀b ys,H b=P3^.tup ys->H' b=P3^.tup ys):KT H' kvs xs:=
 Paired.mapP r λ_ _ z=>#[z.1,ht _ _ z.2.1,z.2.2]
section
variable {P:Program}{w:World}{H:Hp}{h:Heap}{a:Addr}
def Z7{u:HO}(ok:HOk P w H h)(e:Rd H a u):ObjOk P w H h a u:=e.ok ok
def IV{kvs:u_ (Key×V)}(ok:HOk P w H h)(e:Rd H a^.dK kvs):kvs.length<=sizeLine/\(a==sysModules)=t_/\∃vs,KV kvs vs/\h.DictOf (BI P w) a vs:=
 Z7 ok e
def aW{kvs:u_ (Key×V)}(ok:HOk P w H h)(e:H a=P3^.dK kvs):kvs.length<=sizeLine/\(a==sysModules)=t_/\∃vs,KV kvs vs/\h.DictOf (BI P w) a vs:=IV ok^.inl e
def HX{ks:u_ Key}(ok:HOk P w H h)(e:H a=P3^.tup^ks.map kV):(tupleKind^BI P w).is h ks a:=by
 let#[_,its,r,o,h1,h2,n,h3,_]:=(ok a _ e);exact#[o,_,n,h1,h2,h3,by simpa using MR r]
def Ek{kvs:u_ (u_ Key×V)}(ok:HOk P w H h)(e:Rd H a^.dT kvs):kvs.length<=sizeLine/\(a==sysModules)=t_ /\
  ∃xs,KT H kvs xs/\h.DictOfH (tupleKind^BI P w) a xs:=by
 let#[z,y,xs,r,o,es,ep,h1,h2,h3,h4,h5]:=(Z7 ok e);refine#[z,y,xs,r,o,es,ep,h1,h2,h3,h4,λx hx=>?_,h5]
 have all:∀{l:u_ _}{m:u_ _},KT H l m->∀x∈m,(tupleKind^BI P w).is h x.1 x.2.1:=by
  intro l m q
  induction q with
  |nil=>grind
  |@cons p q ps qs hq t ih=>
   intro x hx
   rcases UF.mp hx with e|hx
   .exact HX ok^by grind
   .exact ih x hx
 exact all r x hx
def aV{kvs:u_ (u_ Key×V)}(ok:HOk P w H h)(e:H a=P3^.dT kvs):kvs.length<=sizeLine/\(a==sysModules)=t_ /\
  ∃xs,KT H kvs xs/\h.DictOfH (tupleKind^BI P w) a xs:=Ek ok^.inl e
end
def DGet(H:Hp)(a:Ch)(y:V)(r:v_ V):Prop:=
 (∃kvs k,Rd H a^.dK kvs/\y=kV k/\r=Cu kvs k)\/∃kvs k b,Rd H a^.dT kvs/\y=.ref b/\H b=P3^.tup^k.map kV/\r=Cu kvs k
def DPut(H:Hp)(a:Ch)(y v:V)(H':Hp):Prop:=
 (∃kvs k,H a=P3^.dK kvs/\y=kV k/\kvs.length<sizeLine/\H'=Av H a^.dK^putK kvs k v) \/
 ∃kvs k b,H a=P3^.dT kvs/\y=.ref b/\H b=P3^.tup^k.map kV/\kvs.length<sizeLine/\H'=Av H a^.dT^putK kvs k v
theorem DGet.k{H:Hp}{a:Ch}{kvs:u_ (Key×V)}{k:Key}(e:H a=P3^.dK kvs):DGet H a (kV k)^Cu kvs k:=.inl #[_,k,.inl e,rfl,rfl]
theorem DPut.k{H:Hp}{a:Ch}{kvs:u_ (Key×V)}{k:Key}{v:V}(e:H a=P3^.dK kvs)(hl:kvs.length<sizeLine):DPut H a (kV k) v^Av H a^.dK^putK kvs k v:=.inl #[_,k,e,rfl,hl,rfl]
def DPut.t{H:Hp}{a b:Ch}{kvs:u_ (u_ Key×V)}{k:u_ Key}{v:V}(e:H a=P3^.dT kvs)(eb:H b=P3^.tup^k.map kV)(hl:kvs.length<sizeLine):
  DPut H a (.ref b) v (Av H a^.dT^putK kvs k v):=.inr #[_,k,b,e,rfl,eb,hl,rfl]
section
variable {X:Cx}{zF:u_ (Addr×Obj)}{Z:St}{H:Hp}{s:Shared}{a:Addr}{y v:V}{u r:Value}{o:v_ V}{A:Around}{E:Value->Shared->Prop}
def Inv.big(I:Inv X zF Z H s):sysModules<s.heap.objs.size:=Nat.lt_trans (by cbv) (I.mod.glob.keeps I.bk).lt
def U5{Q:Db->No->Prop}(hu:A.units+1<cLine)(I:Inv X zF Z H s)(g:DGet H a y^P3 v)(ry:RelV y u)(h:∀w' s',Inv X zF Z H s'->RelV v w'->Q w' s'):
  wpAny (model X.prog X.w) A (getItem (.ref a) u) Q E s:=by
 rcases g with⟨kvs,k,e,ey,l⟩|⟨kvs,k,b,e,ey,eb,l⟩
 .subst ey
  let#[z,hd,vs,rel,dd]:=IV I.hok e;let#[w',hw,rw']:=RelO.some_of (v:=v) (o:=valueAt vs k) (by rw[l];exact rel.val k);exact wpAny_getItem_of (MQ ry) dd.mapOf hw^h w' _ (I.tok _) rw'
 .subst ey
  cases(show u=iR b from ry);let#[z,hd,xs,rel,dd]:=Ek I.hok e;let#[w',hw,rw']:=RelO.some_of (v:=v) (o:=(atKey xs k).map (·.2)) (by rw[l];exact rel.val k);let#[p,hp,hp2]:=io.mp hw;refine wpAny_getItem_heap (lP hu) (HX I.hok eb) dd hp ?_;rw[hp2];exact h w' _ (I.tok _) rw'
def gf{Q:Db->No->Prop}(hu:A.units+1<cLine)(I:Inv X zF Z H s)(g:DGet H a y o)(ry:RelV y u)(h:∀s',Inv X zF Z H s'->Q (.bool o.isSome) s'):
  wpAny (model X.prog X.w) A (compareOp .In u^.ref a) Q E s:=by
 rcases g with⟨kvs,k,e,ey,l⟩|⟨kvs,k,b,e,ey,eb,l⟩
 .subst ey
  let#[z,hd,vs,rel,dd]:=IV I.hok e;refine wpAny_in_of (MQ ry) hd dd.mapOf ?_;rw[←(rel.val k).isSome_eq,←l];exact h _^I.tok _
 .subst ey
  cases(show u=iR b from ry);let#[z,hd,xs,rel,dd]:=Ek I.hok e;refine wpAny_in_heap (lP hu) (HX I.hok eb) hd dd ?_;have q:=(rel.val k).isSome_eq;rw[oM]at q;rw[←q,←l];exact h _^I.tok _
def Zi{Q:Db->No->Prop}(hu:A.units+1<cLine)(I:Inv X zF Z H s)(g:DGet H a y o)(ry:RelV y u)(h:∀s',Inv X zF Z H s'->Q (.bool (!o.isSome)) s'):
  wpAny (model X.prog X.w) A (compareOp .NotIn u^.ref a) Q E s:=by
 rcases g with⟨kvs,k,e,ey,l⟩|⟨kvs,k,b,e,ey,eb,l⟩
 .subst ey
  let#[z,hd,vs,rel,dd]:=IV I.hok e;refine wpAny_notIn_of (MQ ry) hd dd.mapOf ?_;rw[←(rel.val k).isSome_eq,←l];exact h _^I.tok _
 .subst ey
  cases(show u=iR b from ry);let#[z,hd,xs,rel,dd]:=Ek I.hok e;refine wpAny_notIn_heap (lP hu) (HX I.hok eb) hd dd ?_;have q:=(rel.val k).isSome_eq;rw[oM]at q;rw[←q,←l];exact h _^I.tok _
def JT{h':iQ}{t':Nat}{ob:HO}(I:Inv X zF Z H s)(mu:fh^H a)(hs:ki a s.heap h')(he:∃q,h'.get? a=P3 q)(new:ObjOk X.prog X.w (Av H a ob) h' a ob):
  Inv X zF Z (Av H a ob) {s with heap:=h',toks:=t'}:=
 I.write mu (.inl rfl) (λb q hb z=>(hs.2 b hb).trans z) he new
def Xx{P:ic}{w:ip}{H':Hp}{h':iQ}{kvs:u_ (Key×V)}{vs:u_ (Key×Db)}(z:kvs.length<=sizeLine)(hd:(a==sysModules)=t_)(rel:KV kvs vs)(dd:h'.DictOf (BI P w) a vs):
  ObjOk P w H' h' a (.dK kvs):=#[z,hd,vs,rel,dd]
def MW{H':Hp}{Q:Unit->No->Prop}(hu:A.units+1<cLine)(I:Inv X zF Z H s)(g:DPut H a y v H')(ry:RelV y u)(rv:RelV v r)(h:∀s',Inv X zF Z H' s'->Q () s'):
  wpAny (model X.prog X.w) A (setItem (.ref a) u r) Q E s:=by
 rcases g with⟨kvs,k,e,ey,l,eH⟩|⟨kvs,k,b,e,ey,eb,l,eH⟩
 .subst ey eH
  let#[z,hd,vs,rel,dd]:=aW I.hok e;have hz:vs.length<=sizeLine:=by rw[←rel.length];exact z
  have hl:(putK kvs k v).length<=sizeLine:=by have:=Eg kvs k v;lk
  refine wpAny_setItem_pairs (hsz:=hz) (MQ ry) dd λh' dd' hs=>h _ ?_;have he:∃q,h'.get? a=P3 q:=let #[q,_,_,hq,_]:=dd';#[q,hq]
  exact JT I (by rw[e];exact j5) hs he^Xx hl hd (rel.put k rv) dd'
 .subst ey eH
  cases(show u=iR b from ry);let#[z,hd,xs,rel,dd]:=aV I.hok e;have hz:xs.length<=sizeLine:=by rw[←Paired.length rel];exact z
  have hl:(putK kvs k v).length<=sizeLine:=by have:=Eg kvs k v;lk
  refine wpAny_setItem_heap (hsz:=hz) (lP hu) (HX I.hok eb) dd λh' dd' hs=>h _ ?_;let#[q,es,ep,hq,h2,h3,h4,_,h5]:=dd';refine JT I (by rw[e];exact j5) hs #[q,hq] #[hl,hd,_,(rel.put k eb rv).keeps λc ys ec=>?_,q,es,ep,hq,h2,h3,h4,h5];rw[AO^aP ec e λz=>nomatch z];exact ec
end
def Zv(i:ie):Prop:=∀ov iv,subscripted i t_ ov iv=operate [ov,iv]^getItem ov iv
def Yk{prog:ic}{w:ip}{A:i5}{E:Db->No->Prop}{s:No}{env:Env}{value slice:ie}{pos:Pos}{T id:String}{Q:Db->No->Prop}
  (hl:typeLookup (.type T) "__getitem__"=pure^P3^.builtin id) (hs:Zv slice)
  (h:wpAny (model prog w) A (eval value env) (λo s₁=>wpAny (model prog w) A (eval slice env) (λi s₂=>s₂.TypeIs o T/\wpAny (model prog w) A (getItem o i) Q E s₂) E s₁) E s):
  wpAny (model prog w) A (eval (.Subscript value slice pos) env) Q E s:=by
 refine Subscript_^jT h (λo s₁ h₁=>jT h₁ (λi s₂ h₂=>?_) λ_ _ x=>x) λ_ _ x=>x;let#[hT,h₂]:=h₂;refine Cn ?_;refine Cn^ox hT hl ?_
 first
  |exact Op (Cn (by
  rw[hs o i];exact wpAny_operating^jT h₂ (λr s₃ h₃=>Cn^wpAny_letTemporaryGo^Op h₃) λ_ _ x=>x))
  |grind
  |grind
def P0{X:Cx}{zF:u_ (Ch×Obj)}{Z:St}{H:Hp}{s:No}{a:Ch}{y:V}{o:v_ V}(I:Inv X zF Z H s)(g:DGet H a y o):s.TypeIs (.ref a) "dict":=by
 rcases g with⟨kvs,k,e,_,_⟩|⟨kvs,k,b,e,_,_,_⟩
 .let#[_,_,vs,_,dd]:=IV I.hok e
  exact dd.typeIs
 .let#[_,_,xs,_,dd]:=Ek I.hok e
  exact dd.typeIs
def dn(td ty:TE):TE:=λZ H Q=>td Z H λx H1=>ty Z H1 λy H2=>∃a v,x=.ref a/\DGet H2 a y^P3 v/\Q v H2
def d9(td ty tv:TE):TS:=λD Z H=>tv Z H λv H1=>td Z H1 λx H2=>ty Z H2 λy H3=>∃a H4,x=.ref a/\DPut H3 a y v H4/\D.nx Z H4
section
variable {X:Cx}{o i value:Expr}{pos pos':Pos}{td ty tv:TE}
def JD(hu:X.A.units+1<cLine)(ho:PE X o td)(hi:PE X i ty)(hs:Zv i):PE X (.Subscript o i pos)^dn td ty:=by
 intro zF s Z H Q I h;refine Yk PySem.F.slot_dict_getitem.lookup hs^BG (ho _ s Z H _ I h) λu s1 #[x,H1,I1,rx,q1]=>BG (hi _ s1 Z H1 _ I1 q1) λiv s2 #[y,H2,I2,ry,a,v,ex,g,q2]=>?_;subst ex;obtain rfl:u=iR a:=rx;exact#[P0 I2 g,U5 hu I2 g ry λw' s3 I3 rw'=>#[v,H2,I3,rw',q2]]
def GS(hu:X.A.units+1<cLine)(ho:PE X o td)(hi:PE X i ty)(hv:PE X value tv)(hs:swapsWith value (P3^.Subscript o i pos') pos.line X.env=pure t_):
  PS X (.Assign [.Subscript o i pos'] value pos) (d9 td ty tv):=by
 intro zF s Z H D I h;refine wpAny_Assign_Subscript (BG (hv _ s Z H _ I h) λr s1 #[v,H1,I1,rv,q1]=>BG (ho _ s1 Z H1 _ I1 q1) λu s2 #[x,H2,I2,rx,q2]=>BG (hi _ s2 Z H2 _ I2 q2) λiv s3 #[y,H3,I3,ry,a,H4,ex,g,q3]=>?_) hs;subst ex;obtain rfl:u=iR a:=rx;exact MW hu I3 g ry rv λs4 I4=>#[Z,H4,I4,q3]
end
def Pz{P:ic}{w:ip}{H:Hp}(h:iQ)(hb:sysModules<h.objs.size):ObjOk P w H (h.push {cls:=.type "dict",data:=.dict #[]}) h.objs.size^.dK []:=
 #[iX _,beq_eq_false_iff_ne.mpr^i_^ge hb,[],.nil,Heap.DictOf.new h]
def Xt{P:ic}{w:ip}{H:Hp}(h:iQ)(hb:sysModules<h.objs.size):ObjOk P w H (h.push {cls:=.type "dict",data:=.dict #[]}) h.objs.size^.dT []:=
 #[iX _,beq_eq_false_iff_ne.mpr^i_^ge hb,[],.nil,_,_,0,TW _ rfl,#[rfl,rfl,rfl],rfl,rfl,jI]
def bO:TE:=λ_ H Q=>∀p,H p=r_->Q (.ref p)^Av H p^.dK []
def bN:TE:=λ_ H Q=>∀p,H p=r_->Q (.ref p)^Av H p^.dT []
section
variable {X:Cx}{pos:Pos}
def KH:PE X (.Dict [] [] pos) bO:=λzF s Z H Q I h=>
 wpAny_Dict_empty #[.ref _,_,I.laid (λ_ _ q=>FM _ q) (Sc _)^Pz _ I.big,rfl,h _^I.hok.fresh^Sc _]
def Wj:PE X (.Dict [] [] pos) bN:=λzF s Z H Q I h=>
 wpAny_Dict_empty #[.ref _,_,I.laid (λ_ _ q=>FM _ q) (Sc _)^Xt _ I.big,rfl,h _^I.hok.fresh^Sc _]
end
def Qs:u_ (TE×TE)->St->Hp->(u_ (V×V)->Hp->Prop)->Prop
 |[],_,H,Q=>Q [] H
 |(tk,tv)::r,Z,H,Q=>tk Z H λx H1=>tv Z H1 λy H2=>Qs r Z H2 λps H3=>Q ((x,y)::ps) H3
abbrev VV:u_ (V×V)->u_ (Db×Db)->Prop:=Paired λp q=>RelV p.1 q.1/\RelV p.2 q.2
def fu(X:Cx)(pos:Pos)(keys:u_^v_ ie)(values:u_ ie)(trs:u_ (TE×TE)):Prop:=
 ∀(zF:u_ (Ch×Obj)) (s:No) (Z:St) (H:Hp) (Q:u_ (V×V)->Hp->Prop),Inv X zF Z H s->Qs trs Z H Q->
  wpAny (model X.prog X.w) X.A (evalPairs^pairTrees keys values X.env pos) (λvs s'=>∃ps H',Inv X zF Z H' s'/\VV ps vs/\Q ps H') X.xe s
def Sr{X:Cx}{pos:Pos}:fu X pos [] [] []:=λzF s Z H Q I h=>pairTrees_nil_walk #[[],H,I,.nil,h]
def KC{X:Cx}{pos:Pos}{k v:ie}{ks:u_^v_ ie}{vs:u_ ie}{tk tv:TE}{trs:u_ (TE×TE)}(hk:PE X k tk)(hv:PE X v tv)(hr:fu X pos ks vs trs):
  fu X pos (P3 k::ks) (v::vs) ((tk,tv)::trs):=λzF s Z H Q I h=>
 pairTrees_cons_walk (BG (hk _ s Z H _ I h) λu s1 #[x,H1,I1,rx,q1]=>BG (hv _ s1 Z H1 _ I1 q1) λw2 s2 #[y,H2,I2,ry,q2]=>
  BG (hr _ s2 Z H2 _ I2 q2) λws s3 #[ps,H3,I3,rel,q3]=>#[_,H3,I3,.cons #[rx,ry] rel,q3])
def Fy(kvs more:u_ (Key×V)):u_ (Key×V):=more.foldl (λacc kv=>putK acc kv.1 kv.2) kvs
def KV.merge:∀{more:u_ (Key×V)}{rs:u_ (Key×Db)}{kvs:u_ (Key×V)}{vs:u_ (Key×Db)},KV more rs->KV kvs vs->KV (Fy kvs more)^merged vs rs:=by
 intro more rs kvs vs r
 induction r generalizing kvs vs with
 |nil=>intro q;exact q
 | @cons p q ps qs h t ih=>
  intro r0
  exact ih (by
   have:=r0.put p.1 h.2
   simp_all)
theorem Fa:∀(more kvs:u_ (Key×V)),(Fy kvs more).length<=kvs.length+more.length
 |[],kvs=>by show kvs.length<=kvs.length+0;lk
 |p::r,kvs=>by
  have h1:=Fa r^putK kvs p.1 p.2;have h2:=Eg kvs p.1 p.2;show(Fy _ r).length<=_
  grind
theorem Kz{P:ic}{w:ip}:∀{kvs:u_ (Key×V)}{ws:u_ (Db×Db)},VV (kvs.map λkv=>(kV kv.1,kv.2)) ws->∃rs,Carries (BI P w) ws rs/\KV kvs rs
 |[],_,r=>by cases r;exact#[[],j5,.nil]
 | p::kvs,_,r=>by
  cases r with
  |@cons a b as bs h t=>
   let#[rs,c,q]:=Kz t;let#[b1,b2]:=b;exact#[(p.1,b2)::rs,#[MQ h.1,rfl,c],.cons #[rfl,h.2] q]
def dk(trs:u_ (TE×TE)):TE:=λZ H Q=>∀p,H p=r_->Qs trs Z (Av H p^.dK []) λps H2=>H2 p=P3^.dK []/\∃kvs:u_ (Key×V),ps=kvs.map (λkv=>(kV kv.1,kv.2))/\kvs.length<=15/\Q (.ref p)^Av H2 p^.dK^Fy [] kvs
def Sw{X:Cx}{pos:Pos}{keys:u_^v_ ie}{values:u_ ie}{trs:u_ (TE×TE)}(h:fu X pos keys values trs)(hall:keys.all (·.isSome)=s_)(hl:keys.length=values.length)(h0:keys≠[])
  (h15:keys.length<=15):PE X (.Dict keys values pos)^dk trs:=by
 intro zF s Z H Q I q;have hn:=I.hok.fresh^Sc s.heap.objs.size;have I1:=I.laid (a:=s.heap.objs.size) (o:=.dK []) (h':=s.heap.push {cls:=.type "dict",data:=.dict #[]}) (t':=s.toks) (λ_ _ q=>FM _ q) (Sc _)^Pz s.heap I.big;refine wpAny_Dict_walk (knd:=BI X.prog X.w) hall hl h0 h15^BG (h zF _ Z _ _ I1^q _ hn) λws s2 #[ps,H2,I2,rel,e,kvs,ep,lk,q2]=>?_;subst ep;let#[rs,c,rk]:=Kz (P:=X.prog) (w:=X.w) rel;let#[z,hd,vs0,r0,dd]:=aW I2.hok e;cases r0;refine#[rs,c,dd,λh' dd' hs=>#[.ref s.heap.objs.size,_,?_,rfl,q2]]
 have hz:(Fy [] kvs).length<=sizeLine:=by
  have h1:=Fa kvs [];rw[jN]at h1;rw[i9];lk
 have he:∃q,h'.get? s.heap.objs.size=P3 q:=let #[q,_,_,hq,_]:=dd';#[q,hq]
 exact JT I2 (by rw[e];exact j5) hs he^Xx hz hd (rk.merge .nil) dd'
structure M1 (X:Cx) (o:ie) (m:Str) (apos:Pos) (e:ie) (cpos:Pos):Prop where
 base:attributeBase o m X.env^eval o X.env=eval o X.env
 few:((backTo cpos^starEach [e] X.env).all (λx=>!x.1)&&(backToKw cpos^keywordEach [] X.env).all (λx=>x.1.isSome)
  && decide (([e]:List ie).length+([]:List lC).length+(if([]:List lC).isEmpty then 0 else 1)<30))=s_
 line:(apos.endLine==cpos.line)=s_
 trees:backTo cpos^starEach [e] X.env=[(t_,eval e X.env)]
structure M2 (X:Cx) (o:ie) (m:Str) (apos:Pos) (e f:ie) (cpos:Pos):Prop where
 base:attributeBase o m X.env^eval o X.env=eval o X.env
 few:((backTo cpos^starEach [e,f] X.env).all (λx=>!x.1)&&(backToKw cpos^keywordEach [] X.env).all (λx=>x.1.isSome)
  && decide (([e,f]:List ie).length+([]:List lC).length+(if([]:List lC).isEmpty then 0 else 1)<30))=s_
 line:(apos.endLine==cpos.line)=s_
 trees:backTo cpos^starEach [e,f] X.env=[(t_,eval e X.env),(t_,eval f X.env)]
def iI(H:Hp)(a:Ch):Prop:=(∃kvs,Rd H a^.dK kvs)\/∃kvs,Rd H a^.dT kvs
def cT{X:Cx}{zF:u_ (Ch×Obj)}{Z:St}{H:Hp}{s:No}{a:Ch}(I:Inv X zF Z H s)(d:iI H a):
  s.TypeIs (.ref a) "dict"/\(∀b,iR a=.ref b->∃ob,s.heap.get? b=P3 ob/\ob.dict=r_)/\(a==sysModules)=t_:=by
 rcases d with⟨kvs,e⟩|⟨kvs,e⟩
 .let#[_,hd,vs,_,dd]:=IV I.hok e
  refine#[dd.typeIs,λb q=>?_,hd];cases q;let#[ob,_,_,h1,h2,_]:=dd;exact#[ob,h1,h2.2.1]
 .let#[_,hd,xs,_,dd]:=Ek I.hok e
  refine#[dd.typeIs,λb q=>?_,hd];cases q;let#[ob,_,_,h1,h2,_]:=dd;exact#[ob,h1,h2.2.1]
end L2
set_option maxHeartbeats 4000000
namespace L2
section
def Rj{env:Env}:∀(names:u_ (Str×kY)) (cs:u_ (Str×Ch)),(∀x,(x,jJ)∈names->∃c,env.cells.lookup x=P3 c)->(∀x c,cs.lookup x=P3 c->env.cells.lookup x=P3 c)->
  ∃cl,(forIn names cs fun(x:Str×kY) (r:u_ (Str×Ch))=>(if(x.2==jJ)=s_ then do let a ←cellOf env x.1;pure^lQ ((x.1,a)::r) else pure^lQ r:Sem^ForInStep^u_ (Str×Ch)))=(pure cl:Sem _) /\
   (∀x c,cl.lookup x=P3 c->env.cells.lookup x=P3 c)/\(∀x,((x,jJ)∈names\/∃c,cs.lookup x=P3 c)->∃c,cl.lookup x=P3 c):=by
 intro names
 induction names with
 |nil=>
  intro cs _ h2;exact#[cs,rfl,h2,λx hx=>hx.elim (λz=>absurd z^by simp) λz=>z]
 | cons p r ih=>
  intro cs h1 h2;let#[n,k]:=p
  by_cases hk:k=jJ
  .subst hk
   let#[c,hc]:=h1 n On;have hcell:cellOf env n=pure c:=by simp only[cellOf,hc]
   let#[cl,e,a,b]:=ih ((n,c)::cs) (λx hx=>h1 x^TM _ hx) (λx c' hx=>by
    rw[lE]at hx;cases hb:x==n with
    |true=>
     rw[hb]at hx;have hx':P3 c=P3 c':=hx;cases hx'
     have:x=n:=by simpa using hb
     rw[this];exact hc
    |false=>rw[hb]at hx;exact h2 x c' hx)
   refine#[cl,?_,a,λx hx=>b x ?_]
   .rw[nJ]
    simp only[beq_self_eq_true,if_true,hcell,pure_bind];exact e
   .by_cases hxn:x=n
    .subst hxn
     exact .inr #[c,by simp[lE]]
    .rcases hx with hx|⟨c',hx⟩
     .rcases UF.mp hx with hx|hx
      .cases hx;exact absurd rfl hxn
      .exact .inl hx
     .refine .inr #[c',?_]
      have:(x==n)=t_:=by simpa using hxn
      rw[lE,this];exact hx
  .have hk':(k==jJ)=t_:=by simpa using hk
   let#[cl,e,a,b]:=ih cs (λx hx=>h1 x^TM _ hx) h2;refine#[cl,?_,a,λx hx=>b x ?_]
   .rw[nJ]
    simp only[hk',jD,if_false,pure_bind];exact e
   .rcases hx with hx|hx
    .rcases UF.mp hx with hx|hx
     .cases hx;exact absurd rfl hk
     .exact .inl hx
    .exact .inr hx
def Ky{scope:kd}{env:Env}(h:∀x,(x,jJ)∈scope.names->∃c,env.cells.lookup x=P3 c):
  ∃cl,closureFor scope env=pure cl/\(∀x c,cl.lookup x=P3 c->env.cells.lookup x=P3 c)/\(∀x,(x,jJ)∈scope.names->∃c,cl.lookup x=P3 c):=by
 let#[cl,e,a,b]:=Rj _ [] h (λx c hx=>by simp at hx);refine#[cl,?_,a,λx hx=>b x^.inl hx];simp[closureFor]
 simp_all
variable {prog:Program}{w:World}{A:Around}{R:Result->Shared->Prop}{s:Shared}
def N4{elt target iter:ie}{ifs:u_ ie}{scope:kd}{pos:Pos}{it acc:Db}{env:Env}(I:Nat->No->Prop)
  (turn:∀n s,I n s->wpAny (model prog w) A (pyNext it) (λr s₁=>match r with
   |none=>R (.ok .next) s₁
   | some v=>wpAny (model prog w) A (letOwnedTupleGo target it v) (λ_ s₁'=>wpAny (model prog w) A (assign target env v) (λ_ s₂=>
     wpAny (model prog w) A (forIn ifs s_ λc r=>if r=s_ then do let ok ←isTrue c env^eval c env;pure^lQ ok else pure^lQ r) (λok s₃=>
      if ok=s_ then wpAny (model prog w) A (eval elt env) (λx s₄=>
       wpAny (model prog w) A (call (.builtin "list.append") [acc,x]) (λ_ s₅=>∃m,m<n/\I m s₅) (λ_ _=>False) s₄) (λ_ _=>False) s₃
      else ∃m,m<n/\I m s₃) (λ_ _=>False) s₂) (λ_ _=>False) s₁') (λ_ _=>False) s₁) (λ_ _=>False) s)
  (n:Nat) (h:I n s):
  codeAny (model prog w) A (.compLoop (.ListComp elt [#[target,iter,ifs,0]] scope pos) 0 it acc env) R s:=by
 refine codeAny_loop rfl I (λn s hI=>?_) n h;refine wpAny_noted ?_;refine Cn^wpAny_standAt^Cn^jT (turn n s hI) (λr s₁ h₁=>?_) λ_ _ h'=>h'.elim;cases r with
 |none=>exact Op h₁
 | some v=>
  refine Cn^jT h₁ (λ_ s₁' h₁'=>?_) λ_ _ h'=>h'.elim;refine Cn^jT h₁' (λ_ s₂ h₂=>Cn^jT h₂ (λok s₃ h₃=>?_) λ_ _ h'=>h'.elim) λ_ _ h'=>h'.elim;cases ok with
  |false=>exact Op #[rfl,h₃]
  |true=>
   exact Cn^Cn^jT h₃ (λx s₄ h₄=>Cn^jT h₄ (λ_ s₅ h₅=>Op^Op #[rfl,h₅]) λ_ _ h'=>h'.elim) λ_ _ h'=>h'.elim
end
def Ay(X:Cx)(sc:kd)(N':u_ Str)(cl:u_ (Str×Ch))(C:Ch)(s:No)(H:Hp)(ex:u_ Ch):Cx where
 prog:=X.prog
 w:=X.w
 K:=X.K
 mg:=X.mg
 base:=X.base
 A:=X.A
 N:=N'
 s₀:=s
 H₀:=H
 env:=compEnvC sc cl C X.env
 outer:=X.stack
 stack:=X.stack
 ex:=ex
 fn:=λ_=>t_
 calm:=s_
 pn:=[]
 xe:=λ_ _=>False
def Cb(js:u_^v_ Nat)(Z:St):St:=js.map λo=>match o with
 |some i=>(Z[i]?).getD r_
 |none=>r_
def ZN(o:v_ kY):Bool:=match o with
 |some .cell=>s_
 |some .free=>s_
 |_=>t_
def S9{o:v_ kY}(h:ZN o=s_):o=P3 .cell\/o=P3 .free:=by
 unfold ZN at h
 split at h
 .grind
 .grind
 .cases h
def isFree(o:v_ kY):Bool:=match o with
 |some .free=>s_
 |_=>t_
def Ux{o:v_ kY}(h:isFree o=s_):o=P3 .free:=by
 unfold isFree at h
 split at h
 .rfl
 .cases h
def XW(o:v_ kY):Bool:=match o with
 |some .local=>s_
 |_=>t_
def XU{o:v_ kY}(h:XW o=s_):o=P3 .local:=by
 unfold XW at h
 split at h
 .rfl
 .cases h
def XY(k:ScopeKind):Bool:=match k with
 |.function=>s_
 |_=>t_
def XX{k:ScopeKind}(h:XY k=s_):k=.function:=by
 unfold XY at h
 split at h
 .rfl
 .cases h
def gM(sc esc:kd)(p:Str×kY):Bool:=match p.2 with
 |.cell=>t_
 |.free=>ZN^esc.names.lookup p.1
 |.local=>XW^sc.names.lookup p.1
 |_=>s_
def gc(x:v_ Str)(y:Str):Bool:=match x with
 |some z=>z==y
 |none=>t_
def cb{x:v_ Str}{y:Str}(h:gc x y=s_):x=P3 y:=by
 unfold gc at h
 split at h
 .grind
 .cases h
def K0(sc esc:kd)(N:u_ Str):u_ Str->u_^v_ Nat->Bool
 |[],[]=>s_
 |x::xs,P3 j::js=>isFree^sc.names.lookup x&&gc (N[j]?) x&&ZN^esc.names.lookup x&&K0 sc esc N xs js
 |_::xs,r_::js=>K0 sc esc N xs js
 |_,_=>t_
def Gs(sc esc:kd)(N N':u_ Str)(js:u_^v_ Nat):Bool:=XY sc.kind&&sc.names.all^gM sc esc&&K0 sc esc N N' js
theorem Em{sc esc:kd}{N:u_ Str}:∀{N':u_ Str}{js:u_^v_ Nat},K0 sc esc N N' js=s_->js.length=N'.length
 |[],[],_=>rfl
 |x::xs,P3 j::js,h=>by
  unfold K0 at h;rw[ik]at h;rw[ij,ij,Em h.2]
 |x::xs,r_::js,h=>by
  unfold K0 at h;rw[ij,ij,Em h]
 |[],P3 _::_,h=>by cases h
 |[],r_::_,h=>by cases h
 |_::_,[],h=>by cases h
theorem N6{sc esc:kd}{N:u_ Str}:∀{N':u_ Str}{js:u_^v_ Nat},K0 sc esc N N' js=s_->∀{k:Nat}{x:Str}{j:Nat},N'[k]?=P3 x->js[k]?=P3^P3 j->
  sc.names.lookup x=P3 .free/\N[j]?=P3 x/\(esc.names.lookup x=P3 .cell\/esc.names.lookup x=P3 .free)
 |[],_,_,k,x,j,h1,_=>by simp at h1
 |_::_,[],h,_,_,_,_,_=>by unfold K0 at h;cases h
 | y::ys,P3 i::js,h,k,x,j,h1,h2=>by
  unfold K0 at h;rw[ik,ik,ik]at h;cases k with
  |zero=>
   simp at h1 h2;subst h1 h2;exact#[Ux h.1.1.1,cb h.1.1.2,S9 h.1.2]
  |succ k=>exact N6 h.2 (k:=k) (by simpa using h1)^by simpa using h2
 |y::ys,r_::js,h,k,x,j,h1,h2=>by
  unfold K0 at h;cases k with
  |zero=>simp at h2
  |succ k=>exact N6 h (k:=k) (by simpa using h1)^by simpa using h2
def Ut{js:u_^v_ Nat}{Z:St}{k:Nat}{v:V}(h:(Cb js Z)[k]?=P3^P3 v):∃j,js[k]?=P3^P3 j/\Z[j]?=P3^P3 v:=by
 unfold Cb at h;rw[XV]at h;cases e:js[k]? with
 |none=>simp_all
 | some o=>
  rw[e]at h;cases o with
  |none=>cases h
  |some j=>
   cases q:Z[j]? with
   |none=>simp_all
   |some w=>simp_all
theorem Cr{env:Env}:∀{names:u_ (Str×kY)}{x:Str},names.lookup x=P3 .free->
  (names.map fun(n,k)=>if(k==jJ&&env.scope.kind==.function&&env.kindOf n==P3 .cell)then(n,mr)else(n,k)).lookup x=P3 .cell \/
  (names.map fun(n,k)=>if(k==jJ&&env.scope.kind==.function&&env.kindOf n==P3 .cell)then(n,mr)else(n,k)).lookup x=P3 .free
 |[],_,h=>by simp at h
 | (n,k)::r,x,h=>by
  have ih:=@Cr env r x;show lT x ((if(k==jJ&&env.scope.kind==.function&&env.kindOf n==P3 .cell)=s_ then(n,mr)else(n,k))::_)=_\/lT x ((if(k==jJ&&env.scope.kind==.function&&env.kindOf n==P3 .cell)=s_ then(n,mr)else(n,k))::_)=_
  by_cases hc:(k==jJ&&env.scope.kind==.function&&env.kindOf n==P3 .cell)=s_
  .rw[if_pos hc]
   cases hx:x==n with
   |true=>exact .inl^by simp only[lE,hx]
   |false=>
    simp only[lE,hx]at h ⊢;exact ih h
  .rw[if_neg hc]
   cases hx:x==n with
   |true=>
    simp_all
   |false=>
    simp only[lE,hx]at h ⊢;exact ih h
def Q0{env:Env}{sc:kd}(hcell:∀y∈sc.names,y.2≠.cell){x:Str}(h:(relabel sc env).names.lookup x=P3 .cell\/(relabel sc env).names.lookup x=P3 .free):(x,jJ)∈sc.names:=by
 have hm:(x,mr)∈(relabel sc _).names\/(x,jJ)∈(relabel sc _).names:=h.elim (λz=>.inl^PySem.mem_of_lookup z) λz=>.inr^PySem.mem_of_lookup z
 have go:∀k,(k=.cell\/k=.free)->(x,k)∈(relabel sc env).names->(x,jJ)∈sc.names:=by
  intro k hk hmem;unfold relabel at hmem
  grind
 exact hm.elim (go _ (.inl rfl))^go _ (.inr rfl)
section
variable {X:Cx}{zF:u_ (Addr×Obj)}{Z:St}{H:Hp}{s:Shared}
structure CompOk (X:Cx) (sc:kd) (N':List Str) (js:List^Option Nat):Prop where
 kind:sc.kind=.function
 cell:∀y∈sc.names,y.2≠.cell
 free:∀x,(x,jJ)∈sc.names->X.env.scope.names.lookup x=P3 .cell\/X.env.scope.names.lookup x=P3 .free
 names:∀y∈sc.names,y.2=.local->sc.names.lookup y.1=P3 .local
 cap:K0 sc X.env.scope X.N N' js=s_
def CompOk.of{sc:kd}{N':u_ Str}{js:u_^v_ Nat}(h:Gs sc X.env.scope X.N N' js=s_):CompOk X sc N' js:=by
 unfold Gs at h;rw[ik,ik,lw]at h;let#[#[h1,h2],h3]:=h;refine#[XX h1,λy hy e=>?_,λx hx=>?_,λy hy e=>?_,h3]
 .have q:=h2 y hy
  unfold gM at q
  simp_all
 .have q:=h2 _ hx
  exact S9 q
 .have q:=h2 y hy
  unfold gM at q;rw[e]at q;exact XU q
def Po{sc:kd}{N':u_ Str}{js:u_^v_ Nat}{cl:u_ (Str×Ch)}{fp:u_ Ch}{h₁:iQ}{tk:Nat}(I:Inv X zF Z H s)(hc:X.calm=s_)(O:CompOk X sc N' js)
  (hcl:∀x c,cl.lookup x=P3 c->X.env.cells.lookup x=P3 c) (hcl2:∀x,(x,jJ)∈sc.names->∃c,cl.lookup x=P3 c)
  (hf:∀b∈fp,HB X zF H b) (ho:∀b∈fp,∃o,s.heap.get? b=P3 o)
  (hns:h₁.Ns (s.heap.objs.size+1) λ_=>r_) (hk:∀b o,s.heap.get? b=P3 o->h₁.get? b=P3 o) (hD:∃n,h₁.get? s.heap.objs.size=P3 {cls:=.type "list",data:=.seq #[] n}):
  Inv (Ay X sc N' cl (s.heap.objs.size+1) s H fp) [] (Cb js Z) (Av H s.heap.objs.size^.lst []) {s with heap:=h₁,toks:=tk}:=by
 have fr:∀a,s.heap.objs.size<=a->H a=r_:=λa ha=>I.hok.fresh ha
 have cellLt:∀x c,cl.lookup x=P3 c->c<s.heap.objs.size:=λx c e=>by
  let#[v,q]:=I.cell x c^hcl x c e;exact q.lt
 have ok:(Ay X sc N' cl (s.heap.objs.size+1) s H fp).Ok:=by
  refine#[I.ok.mod,O.kind,I.ok.glob,I.ok.blt,jP _,λx y c h1 h2=>I.ok.inj x y c (hcl x c h1)^hcl y c h2,λx hx=>?_,λx c hx=>?_,λ_=>I.ok.hd hc,I.ok.frames,.inl rfl,λb hb=>#[?_,λx c e=>?_],I.bs,iU I.ok.bsz I.sz,λb o e hb=>?_,λb hb hb2=>?_,I.stack,I.stkFree]
  .exact hcl2 x^Q0 (env:=X.env) O.cell hx
  .exact absurd (show t_=s_ from hx) iS
  .let#[o,e]:=ho b hb
   exact ge^jp^T0 e
  .exact(hf b hb).2.2.2.2.1 x c^hcl x c e
  .rcases(hf b hb).2.2.2.1 with z|z
   .exact I.ok.noex b o e z
   .have h1:b<X.base.objs.size:=T0 e
    exact absurd (ir h1^iU I.ok.bsz z)^jU _
  .rcases UF.mp^I.stkSub b hb2 with z|z
   .exact(hf b hb).2.1 z
   .exact(hf b hb).2.2.1 z
 refine#[ok,rfl,I.bare,?_,#[_,hns,λi x v h1 h2 h3=>?_],λx c e=>?_,?_,λx c e=>?_,λp hp=>absurd (show p∈([]:u_ (Ch×Obj))from hp)^by simp,?_,?_]
 .exact Un.laid hk (Sc _)^fr _^Sc _
 .let#[j,e1,e2]:=Ut h2
  let#[c1,c2,c3]:=N6 O.cap h1 e1;let#[m,_,hl]:=I.loc;let#[u,r,l]:=hl j x v c2 e2^.inr c3;refine#[u,r,.inr #[Cr c1,?_]]
  rcases l with⟨l1,_⟩|⟨_,c,l2,l3⟩
  .have l1':X.env.scope.names.lookup x=P3 .local:=l1
   rcases c3 with c3|c3 <;>(rw[l1']at c3;cases c3)
  .let#[c',e']:=hcl2 x^PySem.mem_of_lookup c1
   have:c'=c:=eq^(hcl x c' e').symm.trans l2
   subst this;let#[oc,hoc,hocd]:=id l3;exact#[c',e',oc,hk _ _ hoc,hocd]
 .let#[v,oc,hoc,hocd]:=I.cell x c^hcl x c e
  exact#[v,oc,hk _ _ hoc,hocd]
 .show Av H s.heap.objs.size (.lst []) (s.heap.objs.size+1)=r_
  rw[AO^Nat.succ_ne_self _];exact fr _^jP _
 .show Av H s.heap.objs.size (.lst []) c=r_
  rw[AO^ge^cellLt x c e];exact I.freeC x c^hcl x c e
 .refine I.hok.laid hk (Sc _) ?_
  let#[n,e]:=hD;exact#[iX _,[],n,.nil,e]
 .unfold Cb
  show(js.map _).length=N'.length;rw[Ev];exact Em O.cap
def Un.but{fs ex:u_ Ch}{H H1:Hp}{h h1 h':iQ}{C:Ch}(u:Un fs ex H H1 h h1)(hC:h.get? C=r_)(hs:∀b,b≠C->h'.get? b=h1.get? b):Un fs ex H H1 h h':=by
 have ne:∀{b:Ch}{o:Obj},h.get? b=P3 o->b≠C:=λ{b o} e z=>by grind
 refine#[λb o e n h1 h2=>(hs b^ne e).trans^u.keep b o e n h1 h2,λb o e n h1 h2=>?_,u.free,λb o e h1=>?_,u.tups,u.frzs,u.tbls]
 .let#[sl,q]:=u.slot b o e n h1 h2
  exact#[sl,(hs b^ne e).trans q]
 .let#[o',q]:=u.there b o e h1
  simp_all
def Kg{sc:kd}{N':u_ Str}{cl:u_ (Str×Ch)}{C:Ch}{fp:u_ Ch}{pins':u_ (Ch×Obj)}{zZ:St}{H':Hp}{s':No}{h':iQ}(I:Inv X zF Z H s)(hf:∀b∈fp,HB X zF H b)(hC:s.heap.objs.size<=C)
  (J:Inv (Ay X sc N' cl C s H fp) pins' zZ H' s') (hs:∀b,b≠C->h'.get? b=s'.heap.get? b):Inv X zF Z H' {s' with heap:=h'}:=by
 have hC':H' C=r_:=J.free
 refine I.call' J.os (Un.but J.base (by
  cases e:s.heap.get? C with
  |none=>rfl
  |some o=>exact absurd (T0 e)^mS.mpr hC) hs) (λa o e=>(J.hok a o e).stay (λb u hb q=>(hs b (λz=>by
   grind)).trans q) (λ_ q=>q) λ_ _ q=>q) J.bare λb hb=>?_
 .let#[f0,f1,f2,f3,f4,f5]:=hf b hb
  exact#[f3,f1,f4,f5]
end
def fc(X:Cx)(ifs:u_ ie)(t:TT):Prop:=
 ∀(zF:u_ (Ch×Obj)) (s:No) (Z:St) (H:Hp) (Q:Bool->Hp->Prop),Inv X zF Z H s->t Z H Q->
  wpAny (model X.prog X.w) X.A (forIn ifs s_ λc r=>if r=s_ then do let ok ←isTrue c X.env^eval c X.env;pure^lQ ok else pure^lQ r) (TP X zF Z Q) X.xe s
def f_:TT:=λ_ H Q=>Q s_ H
def Yz{X:Cx}:fc X [] f_:=λzF s Z H Q I h=>wpAny_tests_nil #[H,I,h]
def Yy{X:Cx}{c:ie}{t:TT}(h:PT X c t):fc X [c] t:=λzF s Z H Q I q=>wpAny_tests_one^h _ s Z H Q I q
def Vr(X:Cx)(sc:kd)(N':u_ Str)(js:u_^v_ Nat)(tg elt:ie)(ifs:u_ ie)(wi:TI):TE:=λZ H Q=>wi Z H λJ H1=>∀l,H1 l=r_->X.K.lookup l=r_->∀cl C s H0 fp,∃(g:TG) (tt:TT) (te:TE) (W:Nat->Nat->St->Hp->Prop),
 PG (Ay X sc N' cl C s H0 fp) tg g/\fc (Ay X sc N' cl C s H0 fp) ifs tt/\PE (Ay X sc N' cl C s H0 fp) elt te/\(∃m,W 0 m (Cb js Z)^Av H1 l^.lst [])/\∀i m zZ H',W i m zZ H'->
 (J.stop i H'/\Q (.ref l) H')\/(J.go i H'/\∀x H2,J.yld i H' x H2->g x zZ H2 λzV H3=>tt zV H3 λb H4=>if b=s_ then te zV H4 λy H5=>∃ys,H5 l=P3^.lst ys/\ys.length<sizeLine/\∃m',m'<m/\W (i+1) m' zV^Av H5 l^.lst (ys++[y]) else ∃m',m'<m/\W (i+1) m' zV H4)
section
variable {X:Cx}{tg elt iter:Expr}{ifs:u_ Expr}{sc:Scope}{pos:Pos}{N':u_ Str}{js:u_^v_ Nat}{wi:TI}{g:TG}{tt:TT}{te:TE}
def MX{zF:u_ (Ch×Obj)}{Z:St}{H:Hp}{s:No}{cl:u_ (Str×Ch)}{C l it:Ch}{fp:u_ Ch}{tn:Nat->iQ->Prop}{J:It}{s3:No}{Q:VK}{R:Result->No->Prop}{W:Nat->Nat->St->Hp->Prop}{m0:Nat}{zG:St}{H0:Hp}
  (I:Inv X zF Z H s) (hf:∀b∈fp,HB X zF H b) (hlt:∀b∈fp,b<s.heap.objs.size) (hC:s.heap.objs.size<=C)
  (T:Turn X.prog X.w X.K tg J fp it tn)
  (hg:PG (Ay X sc N' cl C s H fp) tg g) (ht:fc (Ay X sc N' cl C s H fp) ifs tt) (he:PE (Ay X sc N' cl C s H fp) elt te)
  (hW:∀i m zZ H',W i m zZ H'->
   (J.stop i H'/\Q (.ref l) H')\/(J.go i H'/\∀x H2,J.yld i H' x H2->g x zZ H2 λzV H3=>tt zV H3 λb H4=>if b=s_ then te zV H4 λy H5=>∃ys,H5 l=P3^.lst ys/\ys.length<sizeLine/\∃m',m'<m/\W (i+1) m' zV^Av H5 l^.lst (ys++[y]) else ∃m',m'<m/\W (i+1) m' zV H4))
  (hR:∀zZ H' s',Inv (Ay X sc N' cl C s H fp) [] zZ H' s'->Q (.ref l) H'->R (.ok .next) s')
  (I3:Inv (Ay X sc N' cl C s H fp) [] zG H0 s3) (t3:tn 0 s3.heap) (f3:∀b∈fp,H0 b=r_) (w0:W 0 m0 zG H0):
  codeAny (model X.prog X.w) X.A (.compLoop (.ListComp elt [#[tg,iter,ifs,0]] sc pos) 0 (.ref it) (.ref l)^compEnvC sc cl C X.env) R s3:=by
 have stat:∀{H':Hp},(∀b∈fp,H' b=r_)->∀b∈fp,HB (Ay X sc N' cl C s H fp) [] H' b:=λhn b hb=>by
  have q:=I3.ok.exf b hb;refine#[hn b hb,q.1,I3.ok.exfs b hb,.inl hb,q.2,λp hp=>absurd (show p∈([]:u_ (Ch×Obj))from hp)^by simp]
 refine N4 (λn s'=>∃i zZ H',Inv (Ay X sc N' cl C s H fp) [] zZ H' s'/\tn i s'.heap/\(∀b∈fp,H' b=r_)/\W i n zZ H') ?_ m0 #[0,zG,H0,I3,t3,f3,w0];rintro n s4 ⟨i,zP,H4,I4,st4,fr4,w4⟩
 rcases hW i n zP H4 w4 with⟨stop,qn⟩|⟨go,step⟩
 .refine BG (T.done (Ay X sc N' cl C s H fp) rfl rfl rfl rfl i [] s4 zP H4 (λ_ _=>False) I4 (stat fr4) st4 stop) λr s5 #[hr,I5]=>?_
  subst hr;exact hR zP H4 s5 I5 qn
 .refine BG (T.item (Ay X sc N' cl C s H fp) rfl rfl rfl rfl i [] s4 zP H4 (λ_ _=>False) I4 (stat fr4) st4 go) λr s5 #[u,hr,h5]=>?_
  subst hr;refine BG h5 λ_ s6 #[x,H6,I6,r6,y6,st6,fr6]=>?_;have I6':=I6.pinned (stat fr6)^T.obj _ _ st6;refine BG (hg _ s6 zP H6 x u _ I6' r6^step x H6 y6) λ_ s7 #[zN,H7,I7,q7]=>?_
  have again:∀{zH:St}{H9:Hp}{s9:No}{m':Nat},Inv (Ay X sc N' cl C s H fp) ([]++KG fp s6.heap) zH H9 s9->m'<n->W (i+1) m' zH H9->∃m,m<n/\∃i zZ H',Inv (Ay X sc N' cl C s H fp) [] zZ H' s9/\tn i s9.heap/\(∀b∈fp,H' b=r_)/\W i m zZ H':=λ{zH H9 s9 m'} I9 hm w9=>by
   refine#[m',hm,i+1,zH,H9,I9.unpinned,T.keep _ _ _ st6 λb hb o e=>(I9.pin (b,o)^iV _^iV _^D_ hb e).1,λb hb=>?_,w9];let#[o,e,d]:=T.obj _ _ st6 b hb;exact(I9.pin (b,o)^iV _^iV _^D_ hb e).2.1
  refine BG (ht _ s7 zN H7 _ I7 q7) λok s8 #[H8,I8,q8]=>?_;cases ok with
  |false=>
   have q8':∃m',m'<n/\W (i+1) m' zN H8:=q8;let#[m',hm,w8]:=q8';show ∃m,m<n/\_;exact again I8 hm w8
  |true=>
   refine BG (he _ s8 zN H8 _ I8 q8) λy s9 #[yv,H9,I9,ry,q9]=>?_;let#[ys,hl,hz,m',hm,w9]:=q9;refine BG (B8 (X:=Ay X sc N' cl C s H fp) _ s9 zN H9 (.ref l) [yv] (.ref l) [y] (λv H'=>v=.non/\H'=Av H9 l^.lst (ys++[yv])) I9 rfl (.cons ry .nil) #[l,ys,yv,rfl,rfl,hl,hz,rfl,rfl]) λ_ sa #[v,Ha,Ia,_,_,eH]=>?_;subst eH;exact again Ia hm w9
def Y6(hc:X.calm=s_)(N':u_ Str)(js:u_^v_ Nat)(hi:PI X tg iter wi)
  (hB:Gs sc X.env.scope X.N N' js=s_)
  (hs:∀x,foldedSetIterable iter X.env x=pure x:=by intro _;rfl):
  PE X (.ListComp elt [#[tg,iter,ifs,0]] sc pos) (Vr X sc N' js tg elt ifs wi):=by
 intro zF s Z H Q I h;have O:CompOk X sc N' js:=CompOk.of hB;let#[cl,hclos,hcl,hcl2]:=Ky (scope:=sc) (env:=X.env) λx hx=>I.ok.has x^O.free x hx;rw[eval_ListComp];refine wpAny_comprehension_free (use:=r_) rfl hs hclos O.kind O.names (BG (hi zF s Z H _ I h) λv s1 h1=>BG h1 λitv s2 h2=>?_);let#[it,fp,tn,J,H2,e,I2,T,st2,f2,hq]:=h2;subst e
 have kfree:X.K.lookup s2.heap.objs.size=r_:=by
  cases q:X.K.lookup s2.heap.objs.size with
  |none=>rfl
  |some o=>exact absurd (T0^I2.kIn _ _ q)^jU _
 let#[g,tt,te,W,hg,ht,he,#[m0,w0],hW]:=hq s2.heap.objs.size (I2.hok.fresh^Sc _) kfree cl (s2.heap.objs.size+1) s2 H2 fp;refine jg^wpAny_newFunctionEnv O.cell (by intro y hy;simp at hy) (λh₁ hns₁ hsb₁=>?_) O.kind
 dsimp only at hns₁ hsb₁ ⊢
 generalize hH2:s2.heap.push {cls:=.type "list",dict:=r_,data:=.seq ([]:u_ Db).toArray}=Hh at hns₁ hsb₁ ⊢;have hCe:Hh.objs.size=s2.heap.objs.size+1:=by rw[←hH2,jM]
 have hlt:∀b∈fp,b<s2.heap.objs.size:=λb hb=>by
  let#[o,e,_]:=T.obj _ _ st2 b hb;exact T0 e
 have old:∀b o,s2.heap.get? b=P3 o->h₁.get? b=P3 o:=λb o e=>hsb₁.extBut b o (by rw[hCe];exact ge^jp^T0 e)^FM _ (hH2▸FM _ e);have hD:∃n,h₁.get? s2.heap.objs.size=P3 {cls:=.type "list",data:=.seq #[] n}:=#[_,hsb₁.extBut _ _ (by rw[hCe];exact ge^kX _)^FM _ (hH2▸TW _ rfl)]
 have I3:∀tk,Inv (Ay X sc N' cl (s2.heap.objs.size+1) s2 H2 fp) [] (Cb js Z) (Av H2 s2.heap.objs.size^.lst []) {s2 with heap:=h₁,toks:=tk}:=λtk=>
  Po I2 hc O hcl hcl2 f2 (λb hb=>let #[o,e,_]:=T.obj _ _ st2 b hb;#[o,e]) (by rw[←hCe];exact hns₁) old hD
 have st3:tn 0 h₁:=T.keep _ _ _ st2 λb hb o e=>old b o e
 have fr3:∀b∈fp,Av H2 s2.heap.objs.size (.lst []) b=r_:=λb hb=>by
  rw[AO^ge^hlt b hb];exact(f2 b hb).1
 have loop:∀tk,codeAny (model X.prog X.w) X.A (.compLoop (.ListComp elt [#[tg,iter,ifs,0]] sc pos) 0 (.ref it) (.ref s2.heap.objs.size)^compEnvC sc cl (s2.heap.objs.size+1) X.env)
   (compPost (model X.prog X.w) X.A X.xe r_ (EP X zF Z Q) (.ref s2.heap.objs.size) (s2.heap.objs.size+1)) {s2 with heap:=h₁,toks:=tk}:=λtk=>by
  refine MX (W:=W) (m0:=m0) (Q:=Q) I2 f2 hlt (jP _) T hg ht he hW (λzZ H' s' J' q'=>?_) (I3 tk) st3 fr3 w0;let#[m,hn,_]:=J'.loc;exact#[m,hn,λh' hs'=>#[.ref _,H',Kg I2 f2 (jP _) J' λb hb=>hs'.2 b hb,rfl,q']]
 rw[show(newEnv sc Hh.objs.size X.env.globals cl X.env.qual r_ .none (P3 X.env) builtinsNs).locals=s2.heap.objs.size+1 from hCe];show codeAny (model X.prog X.w) X.A (.compStart (.ListComp elt [#[tg,iter,ifs,0]] sc pos) 0 (.ref it) (.ref s2.heap.objs.size)^compEnvC sc cl (s2.heap.objs.size+1) X.env) _ _;exact codeAny_compStart_list (loop _)^T.self _ 0 _ _ _ st3^loop _
end
structure iL (B:iQ) (l:List Env) (a C:Ch) (dx:Option Ch) (h:iQ):Prop where
 stays:B.StaysIn h
 new:B.get? a=r_
 frames:h.FunFrames B l
 obj:∃vs sl tb,h.get? a=P3 #[.ref C,dx,.fields vs,sl]/\vs[2]?=P3 .none/\vs[1]?=P3 tb/\(tb=.none\/∃T oT ts,tb=.ref T/\B.get? T=r_/\T≠a/\h.get? T=P3 oT/\oT.data=.fields ts/\3<ts.size)
def fP:u_ Db:=[.type "ValueError",.type "Exception",.type "BaseException",.type "object"]
structure XC (K:Frag) (nm:Str) (C U:Ch):Prop where
 obj:∃q N bs sn sub ab col dd k0 k1 k2 k3 k5,K.lookup C=P3 (excClassObj nm q C N bs (.ref U::fP) s_ sn sub ab col dd k0 k1 k2 k3 k5 "ValueError.__new__")
 up:∃q N bs sn sub ab col dd k0 k1 k2 k3 k5 hd,K.lookup U=P3 (excClassObj "ThinError" q U N bs fP hd sn sub ab col dd k0 k1 k2 k3 k5 "ValueError.__new__")
 kp:keepIn K^.ref C=s_
 ga:PySem.W.findIn K (.ref C) "__getattribute__"=P3 (P3^.builtin "BaseException.__getattribute__")
 gt:PySem.W.findIn K (.ref C) "__getattr__"=P3 r_
 sa:PySem.W.findIn K (.ref C) "__setattr__"=P3 (P3^.builtin "object.__setattr__")
 at_:nsIn K mainGlobals nm=P3 (P3^.ref C)
 atU:nsIn K mainGlobals "ThinError"=P3 (P3^.ref U)
 ca:PySem.W.findIn K (.ref C) "__class__"=P3 (P3^.builtin "object.__class__")
 nw:PySem.W.findIn K (.ref C) "word"=P3 r_
 nn:PySem.W.findIn K (.ref C) "number"=P3 r_
 nr:PySem.W.findIn K (.ref C) "row"=P3 r_
structure iN (P:ic) (w:ip) (outer:List Env) (H:Hp) (s:No) (a C:Ch) (dx:Option Ch) (B:iQ) (H':Hp) (s':No):Prop where
 os:s'.os=s.os
 bare:mR s'.gens
 un:Un (TC outer) [] H H' s.heap s'.heap
 hok:HOk P w H' B
 all:∀b o o',s.heap.get? b=P3 o->b∉TC outer->s'.heap.get? b=P3 o'->B.get? b=P3 o'
 fly:iL B outer a C dx s'.heap
 new:s.heap.objs.size<=a
 free:H' a=r_
def XF(d:Ch)(fs:u_ (Str×V))(h:iQ):Prop:=∃mA,h.Ns1 d mA/\(∀f,RelO (fs.lookup f)^mA f)/\PySem.Within mA (fs.map (·.1))/\fs.length<=1000
def XT(C:Ch)(dx:v_ Ch)(a:Ch)(u:HO):Prop:=∃vs sl,u=.frz #[.ref C,dx,.fields vs,sl]^.own a/\vs[2]?=P3 .none
end L2
namespace Dp
open L2
inductive D where
 |non|bl (b:Bool)|int (i:Int)|str (x:Str)|tup (xs:List D)|lst (xs:List D)|dic (ks:List Key) (xs:List D)|fdi (ks:List Key) (xs:List D)|dit (ks:List^List Key) (xs:List D)|ob (a:Ch)
 deriving Inhabited
inductive Wc where
 |pl (d:D)|ins (C:Ch) (ks:List Str) (ds:List D)
structure Sg where
 n:Nat
 w:Ch->Option Wc
instance:HSub Sg Nat Sg:=#[λs k=>#[s.n - k,s.w]]
def VW(o:HO):Prop:=∃u,o=.vol u
def NdT(M:Ch->Prop)(H:Hp)(a:Ch)(vs:u_ V):Prop:=H a=P3^.tup vs
def NdL(M:Ch->Prop)(H:Hp)(a:Ch)(vs:u_ V):Prop:=¬M a/\H a=P3^.lst vs
def NdD(M:Ch->Prop)(H:Hp)(a:Ch)(ks:u_ Key)(vs:u_ V):Prop:=¬M a/\H a=P3^.dK^ks.zip vs
def NdF(M:Ch->Prop)(H:Hp)(a:Ch)(ks:u_ Key)(vs:u_ V):Prop:=∃o,¬M a/\H a=P3^.frz o^.dK^ks.zip vs
def NdU(M:Ch->Prop)(H:Hp)(a:Ch)(ks:u_^u_ Key)(vs:u_ V):Prop:=¬M a/\H a=P3^.dT^ks.zip vs
mutual
def At(K:Frag)(M:Ch->Prop)(H:Hp):D->V->Prop
 |.non,v=>v=.non
 |.bl b,v=>v=.bl b
 |.int i,v=>v=.int i
 |.str x,v=>v=.str x/\x.length<=sizeLine
 |.tup ds,v=>∃a vs,v=.ref a/\NdT M H a vs/\Ats K M H ds vs
 |.lst ds,v=>∃a vs,v=.ref a/\NdL M H a vs/\Ats K M H ds vs
 |.dic ks ds,v=>∃a vs,v=.ref a/\NdD M H a ks vs/\ks.length=ds.length/\Ats K M H ds vs
 |.fdi ks ds,v=>∃a vs,v=.ref a/\NdF M H a ks vs/\ks.length=ds.length/\Ats K M H ds vs
 |.dit ks ds,v=>∃a vs,v=.ref a/\NdU M H a ks vs/\ks.length=ds.length/\Ats K M H ds vs
 |.ob a,v=>v=.ref a/\∃o,H a=P3 o
def Ats(K:Frag)(M:Ch->Prop)(H:Hp):u_ D->u_ V->Prop
 |[],vs=>vs=[]
 |d::ds,vs=>∃v r,vs=v::r/\At K M H d v/\Ats K M H ds r
end
section
variable {K:Frag}{M M':Addr->Prop}{H H':Hp}{a:Addr}{vs:u_ V}{ks:u_ Key}
def NdT.sq(h:NdT M H a vs):SqT K H a vs:=.inl^.inl h
def NdL.sq(h:NdL M H a vs):SqL K H a vs:=.inl^.inl h.2
def Pres(M:Ch->Prop)(H:Hp)(M':Ch->Prop)(H':Hp):Prop:=(∀b o,H b=P3 o->¬M b->¬VW o->H' b=P3 o)/\(∀b,M' b->M b\/H b=r_)/\(∀b vs,H b=P3^.tup vs->H' b=P3^.tup vs)/\∀b o,H b=P3 o->∃o',H' b=P3 o'
def Pres.nd{u:HO}(p:Pres M H M' H')(n:¬M a)(h:H a=P3 u)(nv:¬VW u:=by rintro⟨_,z⟩;cases z):¬M' a/\H' a=P3 u:=by
 refine#[λz=>?_,p.1 _ _ h n nv]
 rcases p.2.1 a z with z|z
 .exact n z
 grind
def NdT.pres(p:Pres M H M' H')(h:NdT M H a vs):NdT M' H' a vs:=p.2.2.1 _ _ h
def NdL.pres(p:Pres M H M' H')(h:NdL M H a vs):NdL M' H' a vs:=p.nd h.1 h.2
def NdD.pres(p:Pres M H M' H')(h:NdD M H a ks vs):NdD M' H' a ks vs:=p.nd h.1 h.2
def NdU.pres{ks:u_^u_ Key}(p:Pres M H M' H')(h:NdU M H a ks vs):NdU M' H' a ks vs:=p.nd h.1 h.2
def NdF.pres(p:Pres M H M' H')(h:NdF M H a ks vs):NdF M' H' a ks vs:=let #[o,h1,h2]:=h;#[o,p.nd h1 h2]
mutual
theorem At.pres(p:Pres M H M' H'):∀{d:D}{v:V},At K M H d v->At K M' H' d v
 |.non,v,h=>h
 |.bl b,v,h=>h
 |.int i,v,h=>h
 |.str x,v,h=>h
 |.tup ds,v,h=>by
  let#[a,vs,e,hn,hs]:=h;exact#[a,vs,e,hn.pres p,Ats.pres p hs]
 |.lst ds,v,h=>by
  let#[a,vs,e,hn,hs]:=h;exact#[a,vs,e,hn.pres p,Ats.pres p hs]
 |.dic ks ds,v,h=>by
  let#[a,vs,e,hn,hl,hs]:=h;exact#[a,vs,e,hn.pres p,hl,Ats.pres p hs]
 |.fdi ks ds,v,h=>by
  let#[a,vs,e,hn,hl,hs]:=h;exact#[a,vs,e,hn.pres p,hl,Ats.pres p hs]
 |.dit ks ds,v,h=>by
  let#[a,vs,e,hn,hl,hs]:=h;exact#[a,vs,e,hn.pres p,hl,Ats.pres p hs]
 |.ob a,v,h=>#[h.1,let #[_,e]:=h.2;p.2.2.2 _ _ e]
theorem Ats.pres(p:Pres M H M' H'):∀{ds:u_ D}{vs:u_ V},Ats K M H ds vs->Ats K M' H' ds vs
 |[],vs,h=>h
 |d::ds,vs,h=>by
  let#[v,r,e,h1,h2]:=h;exact#[v,r,e,At.pres p h1,Ats.pres p h2]
end
def Pres.trans{M1 M2 M3:Ch->Prop}{H1 H2 H3:Hp}(p:Pres M1 H1 M2 H2)(q:Pres M2 H2 M3 H3):Pres M1 H1 M3 H3:=by
 refine#[λb o e n nv=>?_,λb z=>?_,λb vs e=>q.2.2.1 b vs^p.2.2.1 b vs e,λb o e=>?_]
 .refine q.1 b o (p.1 b o e n nv) (λz=>?_) nv
  rcases p.2.1 b z with z|z
  .exact n z
  grind
 .rcases q.2.1 b z with z|z
  .exact p.2.1 b z
  .cases e:H1 b with
   |none=>grind
   |some o=>
    let#[o',e']:=p.2.2.2 b o e;rw[e']at z;cases z
 .let#[o',e']:=p.2.2.2 b o e
  exact q.2.2.2 b o' e'
def Pres.refl(M:Ch->Prop)(H:Hp):Pres M H M H:=#[λ_ _ e _ _=>e,λ_ z=>.inl z,λ_ _ e=>e,λ_ o e=>#[o,e]]
def Pres.less(h:∀b,M' b->M b):Pres M H M' H:=#[λ_ _ e _ _=>e,λb z=>.inl^h b z,λ_ _ e=>e,λ_ o e=>#[o,e]]
theorem Ats.length:∀{ds:u_ D}{vs:u_ V},Ats K M H ds vs->vs.length=ds.length
 |[],vs,h=>by cases h;rfl
 |d::ds,vs,h=>by
  let#[v,r,e,h1,h2]:=h;subst e;rw[ij,ij,Ats.length h2]
theorem Ats.get:∀{ds:u_ D}{vs:u_ V}{i:Nat}{d:D},Ats K M H ds vs->ds[i]?=P3 d->∃v,vs[i]?=P3 v/\At K M H d v
 |[],vs,i,d,h,e=>by simp at e
 |d0::ds,vs,0,d,h,e=>by
  let#[v,r,e1,h1,h2]:=h
  simp_all
 |d0::ds,vs,i+1,d,h,e=>by
  let#[v,r,e1,h1,h2]:=h;let#[u,e2,h3]:=Ats.get h2^by simpa using e
  simp_all
theorem Ats.append:∀{ds es:u_ D}{vs us:u_ V},Ats K M H ds vs->Ats K M H es us->Ats K M H (ds++es) (vs++us)
 |[],es,vs,us,h,g=>by cases h;exact g
 |d::ds,es,vs,us,h,g=>by
  let#[v,r,e,h1,h2]:=h;subst e;exact#[v,_,rfl,h1,Ats.append h2 g]
theorem Ats.drop:∀{ds:u_ D}{vs:u_ V} (n:Nat),Ats K M H ds vs->Ats K M H (ds.drop n)^vs.drop n
 |ds,vs,0,h=>h
 |[],vs,n+1,h=>by cases h;exact rfl
 |d::ds,vs,n+1,h=>by
  let#[v,r,e,h1,h2]:=h;subst e;exact Ats.drop n h2
theorem Ats.take:∀{ds:u_ D}{vs:u_ V} (n:Nat),Ats K M H ds vs->Ats K M H (ds.take n)^vs.take n
 |ds,vs,0,h=>rfl
 |[],vs,n+1,h=>by cases h;exact rfl
 |d::ds,vs,n+1,h=>by
  let#[v,r,e,h1,h2]:=h;subst e;exact#[v,_,rfl,h1,Ats.take n h2]
def Ats.one{d:D}{v:V}(h:At K M H d v):Ats K M H [d] [v]:=#[v,[],rfl,h,rfl]
theorem Ats.eraseIdx:∀{ds:u_ D}{vs:u_ V} (i:Nat),Ats K M H ds vs->Ats K M H (ds.eraseIdx i)^vs.eraseIdx i
 |[],vs,i,h=>by cases h;exact rfl
 |d0::ds,vs,0,h=>by
  let#[u,r,e1,h1,h2]:=h
  grind
 |d0::ds,vs,i+1,h=>by
  let#[u,r,e1,h1,h2]:=h;subst e1;exact#[u,_,rfl,h1,Ats.eraseIdx i h2]
theorem Ats.reverse:∀{ds:u_ D}{vs:u_ V},Ats K M H ds vs->Ats K M H ds.reverse vs.reverse
 |[],vs,h=>by cases h;exact rfl
 |d::ds,vs,h=>by
  let#[v,r,e,h1,h2]:=h;subst e;rw[mY,mY];exact Ats.append (Ats.reverse h2)^Ats.one h1
end
inductive Kd where
 |sh|tp|fr
def Tops(K:Frag)(M:Ch->Prop)(H:Hp)(a:Ch):D->Prop
 |.lst ds=>∃vs,H a=P3^.lst vs/\Ats K M H ds vs
 |.dic ks ds=>∃vs,H a=P3^.dK^ks.zip vs/\ks.length=ds.length/\Ats K M H ds vs
 |.dit ks ds=>∃vs,H a=P3^.dT^ks.zip vs/\ks.length=ds.length/\Ats K M H ds vs
 |_=>False
def Tops.notT{K:Frag}{M:Ch->Prop}{H:Hp}{a:Ch}{d:D}(h:Tops K M H a d){vs:u_ V}:H a≠P3^.tup vs:=λq=>by
 cases d with
 |lst ds=>let#[us,e,_]:=h;grind
 |dic ks ds=>let#[us,e,_]:=h;grind
 |dit ks ds=>let#[us,e,_]:=h;grind
 |_=>exact h.elim
def Tops.notV{K:Frag}{M:Ch->Prop}{H:Hp}{a:Ch}{d:D}(h:Tops K M H a d){o:HO}(q:H a=P3 o):¬VW o:=fun#[u,z]=>by
 subst z;cases d with
 |lst ds=>let#[us,e,_]:=h;rw[e]at q;cases q
 |dic ks ds=>let#[us,e,_]:=h;rw[e]at q;cases q
 |dit ks ds=>let#[us,e,_]:=h;rw[e]at q;cases q
 |_=>exact h.elim
def Tops.pres{K:Frag}{M M':Ch->Prop}{H H':Hp}{a:Ch}{d:D}(h:Tops K M H a d)(p:Pres M H M' H')(e:∀o,H a=P3 o->H' a=P3 o):Tops K M' H' a d:=by
 cases d with
 |lst ds=>let#[vs,h1,h2]:=h;exact#[vs,e _ h1,h2.pres p]
 |dic ks ds=>let#[vs,h1,h2,h3]:=h;exact#[vs,e _ h1,h2,h3.pres p]
 |dit ks ds=>let#[vs,h1,h2,h3]:=h;exact#[vs,e _ h1,h2,h3.pres p]
 |_=>assumption
def Tops.at{K:Frag}{M:Ch->Prop}{H:Hp}{a:Ch}{d:D}(h:Tops K M H a d)(n:¬M a):At K M H d^.ref a:=by
 cases d with
 |lst ds=>let#[vs,h1,h2]:=h;exact#[a,vs,rfl,#[n,h1],h2]
 |dic ks ds=>let#[vs,h1,h2,h3]:=h;exact#[a,vs,rfl,#[n,h1],h2,h3]
 |dit ks ds=>let#[vs,h1,h2,h3]:=h;exact#[a,vs,rfl,#[n,h1],h2,h3]
 |_=>exact(h).elim
def AtT(K:Frag)(U:Ch->Prop)(M:Ch->Prop)(H:Hp):D->V->Prop
 |.lst ds,v=>∃a vs,v=.ref a/\¬U a/\Rd H a^.lst vs/\Ats K M H ds vs
 |.dic ks ds,v=>∃a vs,v=.ref a/\¬U a/\H a=P3^.dK^ks.zip vs/\ks.length=ds.length/\Ats K M H ds vs
 |.dit ks ds,v=>∃a vs,v=.ref a/\¬U a/\H a=P3^.dT^ks.zip vs/\ks.length=ds.length/\Ats K M H ds vs
 |d,v=>At K M H d v
def Tops.att{K:Frag}{U M:Ch->Prop}{H:Hp}{a:Ch}{d:D}(h:Tops K M H a d)(n:¬U a):AtT K U M H d^.ref a:=by
 cases d with
 |lst ds=>let#[vs,h1,h2]:=h;exact#[a,vs,rfl,n,.inl h1,h2]
 |dic ks ds=>let#[vs,h1,h2,h3]:=h;exact#[a,vs,rfl,n,h1,h2,h3]
 |dit ks ds=>let#[vs,h1,h2,h3]:=h;exact#[a,vs,rfl,n,h1,h2,h3]
 |_=>exact(h).elim
def VR(K:Frag)(U:Ch->Prop)(M:Ch->Prop)(H H':Hp):Kd->V->D->Prop
 |.sh,v,d=>At K M H' d v
 |.tp,v,d=>AtT K U M H' d v
 |.fr,v,d=>∃a,v=.ref a/\H a=r_/\Tops K (λb=>M b\/b=a) H' a d
def FeedOk(K:Frag)(M:Ch->Prop)(H:Hp)(f:Ch×Ch)(n:Nat):Prop:=
 ∃(at_ rest:Int) (cells:u_ Int),H f.1=P3^.lst [.ref f.2,.int at_,.int rest]/\f.2≠f.1/\NdL M H f.2^cells.map V.int/\cells.length<=63/\0<=at_/\at_+n<=2 ^ 60
mutual
def flat:D->Bool
 |.tup ds=>BJ ds
 |.lst _=>t_
 |.dic _ _=>t_
 |.fdi _ _=>t_
 |.dit _ _=>t_
 |_=>s_
def BJ:u_ D->Bool
 |[]=>s_
 |d::ds=>flat d&&BJ ds
end
section
variable {K:Frag}{M M':Addr->Prop}{H H':Hp}
mutual
theorem JK(t:∀b vs,H b=P3^.tup vs->H' b=P3^.tup vs)(o:∀b o,H b=P3 o->∃o',H' b=P3 o'):∀(d:D) {v:V},flat d=s_->At K M H d v->At K M' H' d v
 |.non,_,_,h=>h
 |.bl _,_,_,h=>h
 |.int _,_,_,h=>h
 |.str _,_,_,h=>h
 |.tup ds,_,f,#[a,vs,e,n,h]=>#[a,vs,e,t _ _ n,BH t o ds f h]
 |.lst _,_,f,_=>by cases f
 |.dic _ _,_,f,_=>by cases f
 |.fdi _ _,_,f,_=>by cases f
 |.dit _ _,_,f,_=>by cases f
 |.ob _,_,_,#[e,_,h]=>#[e,o _ _ h]
theorem BH(t:∀b vs,H b=P3^.tup vs->H' b=P3^.tup vs)(o:∀b o,H b=P3 o->∃o',H' b=P3 o'):∀(ds:u_ D) {vs:u_ V},BJ ds=s_->Ats K M H ds vs->Ats K M' H' ds vs
 |[],_,_,h=>h
 |d::ds,_,f,#[v,r,e,h,hs]=>#[v,r,e,JK t o d (ik _ _▸f:_/\_).1 h,BH t o ds (ik _ _▸f:_/\_).2 hs]
end
end
def CellOk(K:Frag)(M:Ch->Prop)(H:Hp)(a:Ch):Wc->Prop
 |.pl (.lst ds)=>¬M a/\∃vs,H a=P3^.vol^.lst vs/\BJ ds=s_/\Ats K M H ds vs
 |.pl (.dit ks ds)=>¬M a/\∃vs,H a=P3^.vol^.dT^ks.zip vs/\ks.length=ds.length/\BJ ds=s_/\Ats K M H ds vs
 |.pl _=>False
 |.ins C ks ds=>∃dx vs,H a=P3^.vol^.ins C dx^ks.zip vs/\ks.length=ds.length/\BJ ds=s_/\Ats K M H ds vs
def FeedC(K:Frag)(F:v_ (Ch×Ch))(M:Ch->Prop)(H:Hp)(s:Sg):Prop:=(∀f,F=P3 f->FeedOk K M H f s.n)/\∀a c,s.w a=P3 c->CellOk K M H a c
def Ext(U:Ch->Prop)(H H':Hp):Prop:=∀b o,H b=P3 o->∃o',H' b=P3 o'/\(¬U b->¬VW o->o'=o)/\∀vs,o=.tup vs->o'=o
def Ext.keep{U:Ch->Prop}{H H':Hp}(p:Ext U H H'){b:Ch}{o:HO}(e:H b=P3 o)(n:¬U b)(nv:¬VW o:=by rintro⟨_,z⟩;cases z):H' b=P3 o:=by
 let#[o',q,r,_]:=p b o e;rw[q,r n nv]
def Ext.tup{U:Ch->Prop}{H H':Hp}(p:Ext U H H'){b:Ch}{vs:u_ V}(e:H b=P3^.tup vs):H' b=P3^.tup vs:=by
 let#[o',q,_,r]:=p b _ e
 grind
def Ext.free{U:Ch->Prop}{H H':Hp}(p:Ext U H H'){b:Ch}(e:H' b=r_):H b=r_:=by
 cases q:H b with
 |none=>rfl
 |some o=>
  let#[o',z,_]:=p b o q
  grind
def Ext.refl(U:Ch->Prop)(H:Hp):Ext U H H:=λ_ o e=>#[o,e,λ_ _=>rfl,λ_ _=>rfl]
def Ext.trans{U:Ch->Prop}{H1 H2 H3:Hp}(p:Ext U H1 H2)(q:Ext U H2 H3):Ext U H1 H3:=λb o e=>by
 let#[o',e1,r1,t1]:=p b o e;let#[o2,e2,r2,t2]:=q b o' e1;exact#[o2,e2,λn v=>(r2 n^by rw[r1 n v];exact v).trans^r1 n v,λvs z=>(t2 vs^(t1 vs z).trans z).trans^t1 vs z]
def Grow(H H':Hp):Prop:=H'=H\/∃p o,H p=r_/\H'=Av H p o
def Grow.all{H H':Hp}(g:Grow H H'):∀b o,H b=P3 o->H' b=P3 o:=by
 intro b o e
 rcases g with rfl|⟨p,u,n,rfl⟩
 .exact e
 .rw[AO^An e n];exact e
def Grow.refl{H:Hp}:Grow H H:=.inl rfl
def Grow.ext{U:Ch->Prop}{H H':Hp}(g:Grow H H'):Ext U H H':=λb o e=>#[o,g.all b o e,λ_ _=>rfl,λ_ _=>rfl]
def Grow.pres{M:Ch->Prop}{H H':Hp}(g:Grow H H'):Pres M H M H':=#[λb o e _ _=>g.all b o e,λ_ z=>.inl z,λb vs e=>g.all b _ e,λb o e=>#[o,g.all b o e]]
def FeedOk.pres{K:Frag}{M M':Ch->Prop}{H H':Hp}{f:Ch×Ch}{n:Nat}(h:FeedOk K M H f n)(p:Pres M H M' H')(e:∀o,H f.1=P3 o->H' f.1=P3 o):FeedOk K M' H' f n:=by
 let#[a,r,cs,h1,h2,h3,h4]:=h;exact#[a,r,cs,e _ h1,h2,h3.pres p,h4]
def CellOk.to{K:Frag}{M M':Ch->Prop}{H H':Hp}{a:Ch}{c:Wc}(h:CellOk K M H a c)(m:∀u,H a=P3^.vol u->¬M a->¬M' a)(t:∀b vs,H b=P3^.tup vs->H' b=P3^.tup vs)(o:∀b o,H b=P3 o->∃o',H' b=P3 o')(e:∀u,H a=P3^.vol u->H' a=P3^.vol u):CellOk K M' H' a c:=by
 cases c with
 |ins C ks ds=>let#[dx,vs,h1,h2,h3,h4]:=h;exact#[dx,vs,e _ h1,h2,h3,BH t o _ h3 h4]
 |pl d=>cases d with
  |lst ds=>let#[h0,vs,h1,h3,h4]:=h;exact#[m _ h1 h0,vs,e _ h1,h3,BH t o _ h3 h4]
  |dit ks ds=>let#[h0,vs,h1,h2,h3,h4]:=h;exact#[m _ h1 h0,vs,e _ h1,h2,h3,BH t o _ h3 h4]
  |_=>exact h.elim
def FeedC.pres{K:Frag}{F:v_ (Ch×Ch)}{M M':Ch->Prop}{H H':Hp}{n:Sg}(h:FeedC K F M H n)(p:Pres M H M' H')(e:∀f o,F=P3 f->H f.1=P3 o->H' f.1=P3 o)(v:∀a u,H a=P3^.vol u->H' a=P3^.vol u):FeedC K F M' H' n:=#[λf hf=>(h.1 f hf).pres p λo q=>e f o hf q,λa c q=>(h.2 a c q).to (λu q n z=>(p.2.1 a z).elim n λz=>by rw[q]at z;cases z) p.2.2.1 p.2.2.2^v a]
def FeedC.grow{K:Frag}{F:v_ (Ch×Ch)}{M:Ch->Prop}{H H':Hp}{n:Sg}(h:FeedC K F M H n)(g:Grow H H'):FeedC K F M H' n:=h.pres g.pres (λf o _ e=>g.all _ o e) λa u e=>g.all a _ e
def FeedC.more{K:Frag}{F:v_ (Ch×Ch)}{M:Ch->Prop}{H:Hp}{n:Sg}(h:FeedC K F M H n)(a:Ch)(ha:∀f,F=P3 f->f.2≠a)(hv:∀u,H a≠P3^.vol u):FeedC K F (λb=>M b\/b=a) H n:=by
 refine#[λf hf=>?_,λb c q=>?_]
 .let#[x,r,cs,h1,h2,h3,h4]:=h.1 f hf
  exact#[x,r,cs,h1,h2,#[λz=>z.elim h3.1^ha f hf,h3.2],h4]
 .have k:∀u,H b=P3^.vol u->b≠a:=λu e z=>hv u (z▸e)
  have h:=h.2 b c q;cases c with
  |ins C ks ds=>let#[dx,vs,h1,h2,h3,h4]:=h;exact#[dx,vs,h1,h2,h3,BH (λ_ _ z=>z) (λ_ o z=>#[o,z]) _ h3 h4]
  |pl d=>cases d with
   |lst ds=>let#[h0,vs,h1,h3,h4]:=h;exact#[λz=>z.elim h0^k _ h1,vs,h1,h3,BH (λ_ _ z=>z) (λ_ o z=>#[o,z]) _ h3 h4]
   |dit ks ds=>let#[h0,vs,h1,h2,h3,h4]:=h;exact#[λz=>z.elim h0^k _ h1,vs,h1,h2,h3,BH (λ_ _ z=>z) (λ_ o z=>#[o,z]) _ h3 h4]
   |_=>exact h.elim
def AtX(K:Frag)(M:Ch->Prop)(H:Hp)(a:Ch)(nm:Str)(ks:u_ Str)(ds:u_ D):Prop:=∃C U dx u vs,XC K nm C U/\(¬M a/\H a=P3 u)/\XT C dx a u/\(dx=r_/\ks=[]/\vs=[]\/∃d,dx=P3 d/\¬M d/\H d=P3^.ext^XF d^ks.zip vs)/\ks.length=ds.length/\Ats K M H ds vs
def AtX.pres{K:Frag}{M M':Ch->Prop}{H H':Hp}{a:Ch}{nm:Str}{ks:u_ Str}{ds:u_ D}(h:AtX K M H a nm ks ds)(p:Pres M H M' H'):AtX K M' H' a nm ks ds:=by
 let#[C,U,dx,u,vs,c,#[n,ha],x,hd,hl,hs]:=h;refine#[C,U,dx,u,vs,c,p.nd n ha (by let#[_,_,rfl,_]:=x;rintro⟨_,z⟩;cases z),x,?_,hl,hs.pres p]
 rcases hd with z|⟨d,e1,n1,h1⟩
 .exact .inl z
 .exact .inr #[d,e1,p.nd n1 h1]
inductive Slot where
 |no|sh (d:D)|br (d:D)|fd|ow (d:D)|lt (a:Ch) (d:D)|ex (a:Ch) (nm:Str) (ks:List Str) (ds:List D)
def Slot.owns:Slot->Bool
 |.ow _=>s_
 |.lt _ _=>s_
 |_=>t_
def SlotOk(K:Frag)(F:v_ (Ch×Ch))(U:Ch->Prop)(M:Ch->Prop)(H:Hp):Slot->v_ V->Prop
 |.no,_=>True
 |.sh d,o=>∃v,o=P3 v/\At K M H d v
 |.br d,o=>∃v,o=P3 v/\AtT K U M H d v
 |.fd,o=>∃f,o=P3^.ref f.1/\F=P3 f
 |.ow d,o=>∃a,o=P3^.ref a/\M a/\¬U a/\Tops K M H a d
 |.lt a d,o=>o=P3^.ref a/\M a/\¬U a/\Tops K M H a d
 |.ex a nm ks ds,o=>o=P3^.ref a/\AtX K M H a nm ks ds
structure Fm where
 M0:Ch->Prop
 F:Option (Ch×Ch)
 U:Ch->Prop
 V:Ch->Prop
 H0:Hp
 zF:List ((Ch->Prop)×Hp)
 kp:List (Ch×HO)
def Apart(ρ:u_ Slot)(Z:L2.St):Prop:=∀(i j:Nat) (s t:Slot) (a:Ch),ρ[i]?=P3 s->s.owns=s_->ρ[j]?=P3 t->t.owns=s_->(Z[i]?).getD r_=P3^.ref a->(Z[j]?).getD r_=P3^.ref a->i=j
structure Rel (K:Frag) (C:Fm) (M:Ch->Prop) (H:Hp) (n:Sg) (ρ:List Slot) (Z:L2.St):Prop where
 len:ρ.length=Z.length
 sub:∀a,C.M0 a->M a
 dom:∀a,M a->∃o,H a=P3 o
 ext:Ext C.U C.H0 H
 fU:∀f,C.F=P3 f->C.U f.1
 uV:∀a,C.U a->C.V a
 vM:∀a,C.V a->M a
 feed:FeedC K C.F M H n
 sl:∀(i:Nat) (s:Slot),ρ[i]?=P3 s->SlotOk K C.F C.V M H s ((Z[i]?).getD r_)
 pin:∀p∈C.zF,Pres p.1 p.2 M H
 br0:∀(i:Nat) (d:D) (a:Ch),ρ[i]?=P3^.br d->(Z[i]?).getD r_=P3^.ref a->∃o,C.H0 a=P3 o
 new:∀(i:Nat) (s:Slot) (a:Ch),ρ[i]?=P3 s->s.owns=s_->(Z[i]?).getD r_=P3^.ref a->¬C.M0 a/\C.H0 a=r_
 two:Apart ρ Z
 kept:∀p∈C.kp,H p.1=P3 p.2/\(M p.1/\¬VW p.2)/\¬C.V p.1/\∀(i:Nat) (d:D),ρ[i]?=P3^.ow d->(Z[i]?).getD r_≠P3^.ref p.1
section
variable {K:Frag}{C:Fm}{M:Addr->Prop}{H H':Hp}{n n':Sg}{ρ:u_ Slot}{Z:L2.St}{d:D}{v:V}{κ:Kd}
def Rel.pres(R:Rel K C M H n ρ Z)(e:Ext C.U H H'):Pres M H M H':=#[λb o q nb nv=>e.keep q (λz=>nb^R.vM b^R.uV b z) nv,λ_ z=>.inl z,λb vs q=>e.tup q,λb o q=>let #[o',h,_]:=e b o q;#[o',h]]
def AtT.pres{U V':Ch->Prop}{M':Ch->Prop}(h:AtT K V' M H d v)(p:Pres M H M' H')(e:Ext U H H')(uV:∀a,U a->V' a):AtT K V' M' H' d v:=by
 cases d with
 |lst ds=>
  let#[a,vs,e1,n1,hq,hs]:=h;refine#[a,vs,e1,n1,?_,hs.pres p]
  rcases hq with hq|⟨o,hq⟩
  .exact .inl^e.keep hq λz=>n1^uV a z
  .exact .inr #[o,e.keep hq λz=>n1^uV a z]
 |dic ks ds=>
  let#[a,vs,e1,n1,hq,hl,hs]:=h;exact#[a,vs,e1,n1,e.keep hq λz=>n1^uV a z,hl,hs.pres p]
 |dit ks ds=>
  let#[a,vs,e1,n1,hq,hl,hs]:=h;exact#[a,vs,e1,n1,e.keep hq λz=>n1^uV a z,hl,hs.pres p]
 |non=>assumption
 |bl b=>assumption
 |int i=>assumption
 |str x=>assumption
 |tup ds=>exact At.pres p h
 |fdi ks ds=>exact At.pres p h
 |ob a=>exact At.pres p h
def AtT.same{U V':Ch->Prop}{M':Ch->Prop}(h:AtT K U M H d v)(p:Pres M H M' H')(e:∀a o,v=.ref a->H a=P3 o->H' a=P3 o)(nv:∀a,v=.ref a->¬U a->¬V' a):AtT K V' M' H' d v:=by
 cases d with
 |lst ds=>
  let#[a,vs,e1,n1,hq,hs]:=h;refine#[a,vs,e1,nv a e1 n1,?_,hs.pres p]
  rcases hq with hq|⟨o,hq⟩
  .exact .inl^e a _ e1 hq
  .exact .inr #[o,e a _ e1 hq]
 |dic ks ds=>
  let#[a,vs,e1,n1,hq,hl,hs]:=h;exact#[a,vs,e1,nv a e1 n1,e a _ e1 hq,hl,hs.pres p]
 |dit ks ds=>
  let#[a,vs,e1,n1,hq,hl,hs]:=h;exact#[a,vs,e1,nv a e1 n1,e a _ e1 hq,hl,hs.pres p]
 |non=>assumption
 |bl b=>assumption
 |int i=>assumption
 |str x=>assumption
 |tup ds=>exact At.pres p h
 |fdi ks ds=>exact At.pres p h
 |ob a=>exact At.pres p h
def AtT.lies{U:Ch->Prop}{a:Ch}(h:AtT K U M H d^.ref a):∃o,H a=P3 o:=by
 cases d with
 |lst ds=>
  let#[b,vs,e,_,hq,_]:=h;cases e
  rcases hq with hq|⟨o,hq⟩
  .exact#[_,hq]
  grind
 |dic ks ds=>
  let#[b,vs,e,_,hq,_]:=h
  grind
 |dit ks ds=>
  let#[b,vs,e,_,hq,_]:=h
  grind
 |non=>cases(h)
 |bl b=>cases(h)
 |int i=>cases(h)
 |str x=>cases(h).1
 |tup ds=>
  let#[b,vs,e,hq,_]:=h;cases e;exact#[_,hq]
 |fdi ks ds=>
  let#[b,vs,e,#[o,_,hq],_]:=h
  simp_all
 |ob b=>let#[e,h]:=h;cases e;exact h
def SlotOk.pres{F:v_ (Ch×Ch)}{U V' M':Ch->Prop}{s:Slot}{o:v_ V}(h:SlotOk K F V' M H s o)(p:Pres M H M' H')(m:∀a,M a->M' a)(e:Ext U H H')(uV:∀a,U a->V' a):SlotOk K F V' M' H' s o:=by
 cases s with
 |no=>trivial
 |sh d=>let#[v,e1,h1]:=h;exact#[v,e1,h1.pres p]
 |ex a nm ks ds=>let#[e1,h1]:=h;exact#[e1,h1.pres p]
 |br d=>let#[v,e1,h1]:=h;exact#[v,e1,h1.pres p e uV]
 |fd=>exact h
 |ow d=>let#[a,e1,h1,h2,h3]:=h;exact#[a,e1,m a h1,h2,h3.pres p λo q=>e.keep q (λz=>h2^uV a z)^h3.notV q]
 |lt a d=>let#[e1,h1,h2,h3]:=h;exact#[e1,m a h1,h2,h3.pres p λo q=>e.keep q (λz=>h2^uV a z)^h3.notV q]
def Rel.step(R:Rel K C M H n ρ Z)(e:Ext C.U H H')(f:FeedC K C.F M H' n'):Rel K C M H' n' ρ Z:=by
 have p:=R.pres e;refine#[R.len,R.sub,λa z=>?_,R.ext.trans e,R.fU,R.uV,R.vM,f,λi s q=>(R.sl i s q).pres p (λ_ z=>z) e R.uV,λq hq=>(R.pin q hq).trans p,R.br0,R.new,R.two,λq hq=>?_]
 .let#[o,h1]:=R.dom a z
  let#[o',h2,_]:=e a o h1
  grind
 .let#[h1,h2,h3,h4]:=R.kept q hq
  exact#[e.keep h1 (λz=>h3^R.uV _ z) h2.2,h2,h3,h4]
def Rel.udom(R:Rel K C M H n ρ Z):∀a,C.U a->∃o,H a=P3 o:=λa z=>R.dom a^R.vM a^R.uV a z
def At.tp{U:Ch->Prop}(uM:∀a,U a->M a)(h:At K M H d v):AtT K U M H d v:=by
 cases d with
 |lst ds=>
  let#[a,vs,e,hn,hs]:=h;exact#[a,vs,e,λz=>hn.1^uM a z,.inl hn.2,hs]
 |dic ks ds=>
  let#[a,vs,e,hn,hl,hs]:=h;exact#[a,vs,e,λz=>hn.1^uM a z,hn.2,hl,hs]
 |dit ks ds=>
  let#[a,vs,e,hn,hl,hs]:=h;exact#[a,vs,e,λz=>hn.1^uM a z,hn.2,hl,hs]
 |non=>exact h
 |bl b=>exact h
 |int i=>exact h
 |str x=>exact h
 |tup ds=>exact h
 |fdi ks ds=>exact h
 |ob a=>exact h
def VR.back{U V':Ch->Prop}{H1:Hp}(e:Ext U H H1)(h:VR K V' M H1 H' κ v d):VR K V' M H H' κ v d:=by
 cases κ with
 |sh=>exact h
 |tp=>exact h
 |fr=>
  let#[a,e1,h1,h2]:=h;exact#[a,e1,e.free h1,h2]
def VR.shOf{U:Ch->Prop}(dom:∀a,M a->∃o,H a=P3 o)(h:VR K U M H H' κ v d)(hk:κ≠.tp):At K M H' d v:=by
 cases κ with
 |sh=>exact h
 |tp=>grind
 |fr=>
  let#[a,rfl,h1,h2]:=h;refine(h2.pres (Pres.less λ_ z=>.inl z) λ_ z=>z).at λz=>?_
  grind
def VR.tpOf{U:Ch->Prop}(dom:∀a,M a->∃o,H a=P3 o)(uM:∀a,U a->M a)(h:VR K U M H H' κ v d):AtT K U M H' d v:=by
 cases κ with
 |sh=>exact At.tp uM h
 |tp=>exact h
 |fr=>exact At.tp uM^VR.shOf dom h^by grind
def Jo{α:Type}{l:u_ α}{i j:Nat}{x y:α}(h:(l.set i x)[j]?=P3 y):(j=i/\i<l.length/\y=x)\/(j≠i/\l[j]?=P3 y):=by
 rw[List.getElem?_set]at h
 by_cases e:i=j
 .simp_all
 .rw[if_neg e]at h
  exact .inr #[λz=>e z.symm,h]
def Mv{l:L2.St}{i j:Nat}{x:v_ V}(h:j≠i):((l.set i x)[j]?).getD r_=(l[j]?).getD r_:=by
 rw[List.getElem?_set,if_neg λz=>h z.symm]
def Vx{l:L2.St}{i:Nat}{x:v_ V}(h:i<l.length):((l.set i x)[i]?).getD r_=x:=by
 simp_all
def Rel.set(R:Rel K C M H n ρ Z){i:Nat}(h:At K M H d v):Rel K C M H n (ρ.set i^.sh d)^Z.set i^P3 v:=by
 have two:∀(j:Nat) (s:Slot),(ρ.set i^.sh d)[j]?=P3 s->s.owns=s_->ρ[j]?=P3 s/\((Z.set i^P3 v)[j]?).getD r_=(Z[j]?).getD r_:=λj s q o=>by
  rcases Jo q with⟨_,_,rfl⟩|⟨hj,q⟩
  .cases o
  .exact#[q,Mv hj]
 refine#[by rw[mB,mB];exact R.len,R.sub,R.dom,R.ext,R.fU,R.uV,R.vM,R.feed,λj s q=>?_,R.pin,λj e a q q2=>?_,λj s a q o q2=>?_,λj k s t a q1 o1 q2 o2 z1 z2=>?_,λp hp=>?_]
 .rcases Jo q with⟨rfl,hl,rfl⟩|⟨hj,q⟩
  .rw[Vx^by rw[←R.len];exact hl]
   exact#[v,rfl,h]
  .rw[Mv hj]
   exact R.sl j s q
 .rcases Jo q with⟨_,_,e⟩|⟨hj,q⟩
  .cases e
  .rw[Mv hj]at q2
   exact R.br0 j e a q q2
 .let#[q1,e]:=two j s q o
  rw[e]at q2;exact R.new j s a q1 o q2
 .let#[p1,e1]:=two j s q1 o1
  let#[p2,e2]:=two k t q2 o2;rw[e1]at z1;rw[e2]at z2;exact R.two j k s t a p1 o1 p2 o2 z1 z2
 .let#[h1,h2,h3,h4]:=R.kept p hp
  refine#[h1,h2,h3,λj e q=>?_];let#[q1,e2]:=two j _ q rfl;rw[e2];exact h4 j e q1
def Rel.owner(R:Rel K C M H n ρ Z){i:Nat}{s:Slot}(h:ρ[i]?=P3 s)(o:s.owns=s_):∃a e,(Z[i]?).getD r_=P3^.ref a/\M a/\¬C.V a/\Tops K M H a e/\¬C.M0 a/\C.H0 a=r_:=by
 have q:=R.sl i s h;cases s with
 |ow d=>let#[a,e1,h1,h2,h3]:=q;exact#[a,d,e1,h1,h2,h3,R.new i _ a h o e1]
 |lt a d=>let#[e1,h1,h2,h3]:=q;exact#[a,d,e1,h1,h2,h3,R.new i _ a h o e1]
 |_=>cases o
def Rel.setOw(R:Rel K C M H n ρ Z){i:Nat}{a:Ch}(e:Ext C.U H H')(f:FeedC K C.F M H' n')(ha:H a=r_)(h:Tops K (λb=>M b\/b=a) H' a d):
  Rel K C (λb=>M b\/b=a) H' n' (ρ.set i^.ow d) (Z.set i^P3^.ref a):=by
 have R1:=R.step e f
 have ne:∀b,M b->b≠a:=λb z q=>by
  let#[o,w]:=R.dom b z;rw[q,ha]at w;cases w
 have a0:¬C.M0 a/\C.H0 a=r_:=#[λz=>ne a (R.sub a z) rfl,R.ext.free ha];have pr:Pres M H (λb=>M b\/b=a) H':=#[λb o q nb nv=>e.keep q (λz=>nb^R.vM b^R.uV b z) nv,λb z=>z.elim .inl λz=>.inr (by rw[z];exact ha),λb vs q=>e.tup q,λb o q=>let #[o',h,_]:=e b o q;#[o',h]]
 have two:∀(j:Nat) (s:Slot),(ρ.set i^.ow d)[j]?=P3 s->(j=i/\s=.ow d/\((Z.set i^P3^.ref a)[j]?).getD r_=P3^.ref a)\/(j≠i/\ρ[j]?=P3 s/\((Z.set i^P3^.ref a)[j]?).getD r_=(Z[j]?).getD r_):=λj s q=>by
  rcases Jo q with⟨rfl,hl,rfl⟩|⟨hj,q⟩
  .exact .inl #[rfl,rfl,Vx^by rw[←R.len];exact hl]
  .exact .inr #[hj,q,Mv hj]
 have old:∀(j:Nat) (s:Slot) (b:Ch),ρ[j]?=P3 s->s.owns=s_->(Z[j]?).getD r_=P3^.ref b->b≠a:=λj s b q o z=>by
  let#[c,_,e1,m,_]:=R.owner q o;rw[e1]at z;cases z;exact ne _ m
 have hd:∃o,H' a=P3 o:=by
  cases d with
  |lst ds=>let#[vs,q,_]:=h;exact#[_,q]
  |dic ks ds=>let#[vs,q,_]:=h;exact#[_,q]
  |dit ks ds=>let#[vs,q,_]:=h;exact#[_,q]
  |_=>exact(show False from h).elim
 refine#[by rw[mB,mB];exact R.len,λb z=>.inl^R.sub b z,λb z=>?_,R1.ext,R.fU,R.uV,λb z=>.inl^R.vM b z,f.more a (λg hg q=>?_) λu z=>h.notV z #[u,rfl],λj s q=>?_,λq hq=>(R.pin q hq).trans pr,λj e2 b q q2=>?_,λj s b q o q2=>?_,λj k s t b q1 o1 q2 o2 z1 z2=>?_,λp hp=>?_]
 .rcases z with z|z
  .exact R1.dom b z
  .rw[z];exact hd
 .let#[_,_,_,_,_,h3,_]:=R.feed.1 g hg
  have:=h3.2
  rw[q,ha]at this;cases this
 .rcases two j s q with⟨rfl,rfl,e1⟩|⟨hj,q1,e1⟩
  .rw[e1]
   exact#[a,rfl,.inr rfl,λz=>ne a (R.vM a z) rfl,h]
  .rw[e1]
   exact(R.sl j s q1).pres pr (λ_ z=>.inl z) e R.uV
 .rcases two j _ q with⟨_,e1,_⟩|⟨hj,q1,e1⟩
  .cases e1
  .rw[e1]at q2
   exact R.br0 j e2 b q1 q2
 .rcases two j s q with⟨_,_,e1⟩|⟨hj,q1,e1⟩
  .rw[e1]at q2
   cases q2;exact a0
  .rw[e1]at q2
   exact R.new j s b q1 o q2
 .rcases two j s q1 with⟨rfl,_,e1⟩|⟨hj,p1,e1⟩
  .rw[e1]at z1
   cases z1
   rcases two k t q2 with⟨rfl,_,_⟩|⟨hk,p2,e2⟩
   .rfl
   .rw[e2]at z2
    exact absurd rfl (old k t a p2 o2 z2)
  .rw[e1]at z1
   rcases two k t q2 with⟨rfl,_,e2⟩|⟨hk,p2,e2⟩
   .rw[e2]at z2
    cases z2;exact absurd rfl (old j s a p1 o1 z1)
   .rw[e2]at z2
    exact R.two j k s t b p1 o1 p2 o2 z1 z2
 .let#[h1,h2,h3,h4]:=R1.kept p hp
  refine#[h1,#[.inl h2.1,h2.2],h3,λj e2 q=>?_]
  rcases two j _ q with⟨_,_,e1⟩|⟨hj,q1,e1⟩
  .rw[e1]
   intro z;cases z;exact ne _ h2.1 rfl
  .rw[e1]
   exact h4 j e2 q1
def Rel.mut(R:Rel K C M H n ρ Z){i:Nat}{a:Ch}{e:D}{o:HO}(hi:ρ[i]?=P3^.ow d)(ha:(Z[i]?).getD r_=P3^.ref a)(h:Tops K M (Av H a o) a e):
  Rel K C M (Av H a o) n (ρ.set i^.ow e) Z:=by
 let#[b,_,e1,m,nv,t,n0,h0]:=R.owner hi rfl;rw[ha]at e1;cases e1;have pr:Pres M H M^Av H a o:=#[λb o' q nb _=>by rw[AO λz=>nb^by rw[z];exact m];exact q,λ_ z=>.inl z,λb vs q=>by rw[AO λz=>t.notT^by rw[←z];exact q];exact q,λb o' q=>(lF (b=a)).elim (λz=>#[o,by rw[z,AQ]]) λz=>#[o',by rw[AO z];exact q]]
 have old:∀(j:Nat) (s:Slot),(ρ.set i^.ow e)[j]?=P3 s->(j=i/\s=.ow e)\/(j≠i/\ρ[j]?=P3 s):=λj s q=>by
  rcases Jo q with⟨rfl,hl,rfl⟩|⟨hj,q⟩
  .exact .inl #[rfl,rfl]
  .exact .inr #[hj,q]
 have far:∀(j:Nat) (s:Slot) (b:Ch),j≠i->ρ[j]?=P3 s->s.owns=s_->(Z[j]?).getD r_=P3^.ref b->b≠a:=λj s b hj q o z w=>by
  subst w;exact hj (R.two j i s _ b q o hi rfl z ha)
 refine#[by rw[mB];exact R.len,R.sub,λb z=>?_,λb o' q=>?_,R.fU,R.uV,R.vM,R.feed.pres pr (λf o' hf q=>?_) (λb u q=>by rw[AO λz=>t.notV (by rw[←z];exact q) #[u,rfl]];exact q),λj s q=>?_,λq hq=>(R.pin q hq).trans pr,λj e2 b q q2=>?_,λj s b q o2 q2=>?_,λj k s t b q1 o1 q2 o2 z1 z2=>?_,λp hp=>?_]
 .by_cases hb:b=a
  .exact#[o,by rw[hb,AQ]]
  .let#[o',q]:=R.dom b z
   exact#[o',by rw[AO hb];exact q]
 .let#[o2,q2,r]:=R.ext b o' q
  have hb:b≠a:=λz=>by rw[z,h0]at q;cases q
  exact#[o2,by rw[AO hb];exact q2,r]
 .have hb:f.1≠a:=λz=>nv^by rw[←z];exact R.uV _^R.fU f hf
  rw[AO hb];exact q
 .rcases old j s q with⟨rfl,rfl⟩|⟨hj,q1⟩
  .rw[ha]
   exact#[a,rfl,m,nv,h]
  .have q2:=R.sl j s q1
   cases s with
   |no=>trivial
   |sh d=>let#[v,e1,h1]:=q2;exact#[v,e1,h1.pres pr]
   |ex a nm ks ds=>let#[e1,h1]:=q2;exact#[e1,h1.pres pr]
   |br d=>
    let#[v,e1,h1]:=q2;refine#[v,e1,h1.same pr (λb o' z q=>?_) λ_ _ z=>z];subst z;let#[o3,w]:=R.br0 j d b q1 e1;rw[AO λz=>by rw[z,h0]at w;cases w];exact q
   |fd=>exact q2
   |ow d=>
    let#[b,e1,h1,h2,h3]:=q2;exact#[b,e1,h1,h2,h3.pres pr λo' w=>by rw[AO (far j _ b hj q1 rfl e1)];exact w]
   |lt b d=>
    let#[e1,h1,h2,h3]:=q2;exact#[e1,h1,h2,h3.pres pr λo' w=>by rw[AO (far j _ b hj q1 rfl e1)];exact w]
 .rcases old j _ q with⟨_,e1⟩|⟨hj,q1⟩
  .cases e1
  .exact R.br0 j e2 b q1 q2
 .rcases old j s q with⟨rfl,_⟩|⟨hj,q1⟩
  .exact R.new j _ b hi rfl q2
  .exact R.new j s b q1 o2 q2
 .rcases old j s q1 with⟨rfl,rfl⟩|⟨hj,p1⟩
  .rcases old k t q2 with⟨rfl,_⟩|⟨hk,p2⟩
   .rfl
   .exact R.two j k _ t b hi rfl p2 o2 z1 z2
  .rcases old k t q2 with⟨rfl,rfl⟩|⟨hk,p2⟩
   .exact R.two j k s _ b p1 o1 hi rfl z1 z2
   .exact R.two j k s t b p1 o1 p2 o2 z1 z2
 .let#[h1,h2,h3,h4]:=R.kept p hp
  have hb:p.1≠a:=λz=>h4 i d hi (by rw[ha,z]);refine#[by rw[AO hb];exact h1,h2,h3,λj e2 q=>?_]
  rcases old j _ q with⟨rfl,_⟩|⟨hj,q1⟩
  .exact h4 j d hi
  .exact h4 j e2 q1
end
abbrev DW:=Sg->u_ Slot->(D->Sg->Prop)->Prop
abbrev Ij:=Sg->u_ Slot->(Bool->Sg->Prop)->Prop
abbrev EW:=Sg->u_ Slot->(u_ D->Sg->Prop)->Prop
abbrev VO:=Sg->u_ Slot->(u_ Slot->Sg->Prop)->Prop
section
variable (X:Cx)
def DE(e:ie)(κ:Kd)(w:DW):Prop:=∃t,PE X e t/\∀(C:Fm) (M:Ch->Prop) (H:Hp) (n:Sg) (ρ:u_ Slot) (Z:L2.St) (P:D->Sg->Prop) (Q:VK),Rel X.K C M H n ρ Z->w n ρ P->
 (∀v H' d n',Ext C.U H H'->FeedC X.K C.F M H' n'->VR X.K C.V M H H' κ v d->P d n'->Q v H')->t Z H Q
def DT(e:ie)(w:Ij):Prop:=∃t,PT X e t/\∀(C:Fm) (M:Ch->Prop) (H:Hp) (n:Sg) (ρ:u_ Slot) (Z:L2.St) (P:Bool->Sg->Prop) (Q:Bool->Hp->Prop),Rel X.K C M H n ρ Z->w n ρ P->
 (∀b H' n',Ext C.U H H'->FeedC X.K C.F M H' n'->P b n'->Q b H')->t Z H Q
def DTW(e:ie)(w:Ij):Prop:=∃t,PW X e t/\∀(C:Fm) (M:Ch->Prop) (H:Hp) (n:Sg) (ρ:u_ Slot) (Z:L2.St) (P:Bool->Sg->Prop) (Q:Bool->Hp->Prop),Rel X.K C M H n ρ Z->w n ρ P->
 (∀b H' n',Ext C.U H H'->FeedC X.K C.F M H' n'->P b n'->Q b H')->t Z H Q
def aq(es:u_ ie)(w:EW):Prop:=∃t,PA X es t/\∀(C:Fm) (M:Ch->Prop) (H:Hp) (n:Sg) (ρ:u_ Slot) (Z:L2.St) (P:u_ D->Sg->Prop) (Q:u_ V->Hp->Prop),Rel X.K C M H n ρ Z->w n ρ P->
 (∀vs H' ds n',Ext C.U H H'->FeedC X.K C.F M H' n'->Paired (λv d=>AtT X.K C.V M H' d v) vs ds->P ds n'->Q vs H')->t Z H Q
def ao(es:u_ ie)(w:EW):Prop:=∃t,PA X es t/\∀(C:Fm) (M:Ch->Prop) (H:Hp) (n:Sg) (ρ:u_ Slot) (Z:L2.St) (P:u_ D->Sg->Prop) (Q:u_ V->Hp->Prop),Rel X.K C M H n ρ Z->w n ρ P->
 (∀vs H' ds n',Ext C.U H H'->FeedC X.K C.F M H' n'->Ats X.K M H' ds vs->P ds n'->Q vs H')->t Z H Q
def E3(K:Frag)(F:v_ (Ch×Ch))(V' M:Ch->Prop)(H:Hp)(v:V)(s:Slot):Prop:=SlotOk K F V' M H s^P3 v/\s.owns=t_
def f6(e:ie)(w:Sg->u_ Slot->(Slot->Sg->Prop)->Prop):Prop:=∃t,PE X e t/\∀(C:Fm) (M:Ch->Prop) (H:Hp) (n:Sg) (ρ:u_ Slot) (Z:L2.St) (P:Slot->Sg->Prop) (Q:VK),Rel X.K C M H n ρ Z->w n ρ P->
 (∀v H' s n',Ext C.U H H'->FeedC X.K C.F M H' n'->E3 X.K C.F C.V M H' v s->P s n'->Q v H')->t Z H Q
def Zx(es:u_ ie)(w:VO):Prop:=∃t,PA X es t/\∀(C:Fm) (M:Ch->Prop) (H:Hp) (n:Sg) (ρ:u_ Slot) (Z:L2.St) (P:u_ Slot->Sg->Prop) (Q:u_ V->Hp->Prop),Rel X.K C M H n ρ Z->w n ρ P->
 (∀vs H' ss n',Ext C.U H H'->FeedC X.K C.F M H' n'->Paired (E3 X.K C.F C.V M H') vs ss->P ss n'->Q vs H')->t Z H Q
end
def AB(i:Nat):DW:=λn ρ P=>match ρ[i]? with
 |some (.sh d)=>P d n
 |_=>False
def Al(i:Nat):DW:=λn ρ P=>match ρ[i]? with
 |some (.sh d)=>P d n
 |some (.br d)=>P d n
 |some (.ow d)=>P d n
 |some (.lt _ d)=>P d n
 |_=>False
def wC(d:D):DW:=λn _ P=>P d n
section
variable {X:Cx}{a b c e:Expr}{κ zU zT:Kd}{wa wb wc:DW}{pos:Pos}
def getD_some{Z:L2.St}{i:Nat}{v:V}(h:(Z[i]?).getD r_=P3 v):Z[i]?=P3^P3 v:=by
 cases q:Z[i]? with
 |none=>simp_all
 |some o=>simp_all
def Zc{i:Nat}(h:PE X e^B9 i):DE X e .sh^AB i:=by
 refine#[_,h,λC M H n ρ Z P Q R w q=>?_];unfold AB at w
 split at w
 .rename_i d hd
  let#[v,e1,h1]:=R.sl i _ hd;exact#[v,getD_some e1,q v H d n (Ext.refl _ _) R.feed h1 w]
 grind
def X3{i:Nat}(h:PE X e^B9 i):DE X e .tp^Al i:=by
 refine#[_,h,λC M H n ρ Z P Q R w q=>?_];unfold Al at w
 split at w
 .rename_i d hd
  let#[v,e1,h1]:=R.sl i _ hd;exact#[v,getD_some e1,q v H d n (Ext.refl _ _) R.feed (At.tp R.vM h1) w]
 .rename_i d hd
  let#[v,e1,h1]:=R.sl i _ hd;exact#[v,getD_some e1,q v H d n (Ext.refl _ _) R.feed h1 w]
 .rename_i d hd
  let#[a,e1,_,h2,h3]:=R.sl i _ hd;exact#[.ref a,getD_some e1,q _ H d n (Ext.refl _ _) R.feed (h3.att h2) w]
 .rename_i a d hd
  let#[e1,_,h2,h3]:=R.sl i _ hd;exact#[.ref a,getD_some e1,q _ H d n (Ext.refl _ _) R.feed (h3.att h2) w]
 .exact w.elim
def dv(i:Nat){x:Str}{pos:Pos}(hN:X.N[i]?=P3 x:=by rfl)(hv:c8 X.env.scope x:=by first|exact ZB rfl|exact kT (ZB rfl)|exact kT (kT rfl))(hd:(x==("__debug__":Str))=t_:=by decide)
  (hcd:(x==("__classdict__":Str))=t_:=by decide):DE X (.Name x pos) .sh^AB i:=Zc^NO hN hv hd hcd
def Cp(i:Nat){x:Str}{pos:Pos}(hN:X.N[i]?=P3 x:=by rfl)(hv:c8 X.env.scope x:=by first|exact ZB rfl|exact kT (ZB rfl)|exact kT (kT rfl))(hd:(x==("__debug__":Str))=t_:=by decide)
  (hcd:(x==("__classdict__":Str))=t_:=by decide):DE X (.Name x pos) .tp^Al i:=X3^NO hN hv hd hcd
def El{d:D}{v:V}(h:PE X e^tC v)(hd:∀M H,At X.K M H d v):DE X e .sh^wC d:=
 #[_,h,λC M H n ρ Z P Q R w q=>q v H d n (Ext.refl _ _) R.feed (hd M H) w]
def AG{i:Int}{j pos}:DE X (.Constant (.int i) j pos) .sh^wC^.int i:=El A3 λ_ _=>rfl
def IX{b:Bool}{j pos}:DE X (.Constant (.bool b) j pos) .sh^wC^.bl b:=El eX λ_ _=>rfl
def CT{j pos}:DE X (.Constant .none j pos) .sh^wC .non:=El bu λ_ _=>rfl
def Ag{x:Str}{j pos}(hx:decide (x.length<=1000)=s_:=by rfl):DE X (.Constant (.str x) j pos) .sh^wC^.str x:=
 El RC λ_ _=>#[rfl,iU (of_decide_eq_true hx)^by cbv]
def EH{x:Str}{i:Int}{t:Tok}{pos:Pos}(hg:Gl X x)(hm:X.mg x=P3^.int i t)(hd:(x==("__debug__":Str))=t_:=by decide):DE X (.Name x pos) .sh^wC^.int i:=
 El (Y5 hg hm (v:=.int i) #[t,rfl] hd) λ_ _=>rfl
def D3(K:Frag)(κ:Kd)(r:R2)(f:D->D->(D->Prop)->Prop):Prop:=∀(U:Ch->Prop) (M:Ch->Prop) (H:Hp) (d e:D) (x y:V) (P:D->Prop) (Q:VK),(∀a,M a->∃o,H a=P3 o)->(∀a,U a->M a)->
 AtT K U M H d x->AtT K U M H e y->f d e P->(∀v H' z,Grow H H'->VR K U M H H' κ v z->P z->Q v H')->r x y H Q
def AZ(f:D->D->(D->Prop)->Prop)(wa wb:DW):DW:=λn ρ P=>wa n ρ λx n1=>wb n1 ρ λy n2=>f x y λz=>P z n2
def EJ{r:R2}{f:D->D->(D->Prop)->Prop}(hA:D3 X.K κ r f){ta tb:TE}(ha:∀(C:Fm) (M:Ch->Prop) (H:Hp) (n:Sg) (ρ:u_ Slot) (Z:L2.St) (P:D->Sg->Prop) (Q:VK),Rel X.K C M H n ρ Z->wa n ρ P->
   (∀v H' d n',Ext C.U H H'->FeedC X.K C.F M H' n'->VR X.K C.V M H H' zU v d->P d n'->Q v H')->ta Z H Q)
  (hb:∀(C:Fm) (M:Ch->Prop) (H:Hp) (n:Sg) (ρ:u_ Slot) (Z:L2.St) (P:D->Sg->Prop) (Q:VK),Rel X.K C M H n ρ Z->wb n ρ P->
   (∀v H' d n',Ext C.U H H'->FeedC X.K C.F M H' n'->VR X.K C.V M H H' zT v d->P d n'->Q v H')->tb Z H Q)
  (C:Fm) (M:Ch->Prop) (H:Hp) (n:Sg) (ρ:u_ Slot) (Z:L2.St) (P:D->Sg->Prop) (Q:VK) (R:Rel X.K C M H n ρ Z) (w:AZ f wa wb n ρ P)
  (q:∀v H' d n',Ext C.U H H'->FeedC X.K C.F M H' n'->VR X.K C.V M H H' κ v d->P d n'->Q v H'):Dg r ta tb Z H Q:=by
 refine ha C M H n ρ Z _ _ R w λx H1 d n1 e1 f1 r1 w1=>?_;have R1:=R.step e1 f1;refine hb C M H1 n1 ρ Z _ _ R1 w1 λy H2 e n2 e2 f2 r2 w2=>?_;have R2':=R1.step e2 f2;exact hA _ M H2 d e x y _ _ R2'.dom R2'.vM ((r1.tpOf R.dom R.vM).pres (R1.pres e2) e2 R.uV) (r2.tpOf R1.dom R1.vM) w2 λv H3 z g vr p=>q v H3 z n2 ((e1.trans e2).trans g.ext) (f2.grow g) (VR.back (e1.trans e2) vr) p
def BE{op:Operator}{r:R2}{f:D->D->(D->Prop)->Prop}(ho:OpR X (binaryOp op) r)(hA:D3 X.K κ r f)(ha:DE X a zU wa)(hb:DE X b zT wb):DE X (.BinOp a op b pos) κ^AZ f wa wb:=by
 let#[ta,ha1,ha2]:=ha;let#[tb,hb1,hb2]:=hb;exact#[_,Bz ho ha1 hb1,λC M H n ρ Z P Q R w q=>EJ hA ha2 hb2 C M H n ρ Z P Q R w q]
def AW{r:R2}{f:D->D->(D->Prop)->Prop}(ho:IxR X r)(hA:D3 X.K κ r f)(ha:DE X a zU wa)(hb:DE X b zT wb)(hs:Tt b:=by intro _ _;rfl):DE X (.Subscript a b pos) κ^AZ f wa wb:=by
 let#[ta,ha1,ha2]:=ha;let#[tb,hb1,hb2]:=hb;exact#[_,EM ho ha1 hb1 hs,λC M H n ρ Z P Q R w q=>EJ hA ha2 hb2 C M H n ρ Z P Q R w q]
def F5{op:CmpOp}{r:R2}{f:D->D->(D->Prop)->Prop}(ho:OpR X (compareOp op) r)(hA:D3 X.K .sh r f)(ha:DE X a zU wa)(hb:DE X b zT wb)(hm:behindInMarks op b=t_):DE X (.Compare a [op] [b] pos) .sh^AZ f wa wb:=by
 let#[ta,ha1,ha2]:=ha;let#[tb,hb1,hb2]:=hb;exact#[_,Y7 ho ha1 hb1 hm,λC M H n ρ Z P Q R w q=>EJ hA ha2 hb2 C M H n ρ Z P Q R w q]
def Ab(w:DW):Ij:=λn ρ P=>w n ρ λd n1=>match d with
 |.bl b=>P b n1
 |_=>False
def GD{U:Ch->Prop}{K:Frag}{M:Ch->Prop}{H H':Hp}{v:V}{b:Bool}(h:VR K U M H H' κ v^.bl b):v=.bl b:=by
 cases κ with
 |sh=>exact h
 |tp=>exact h
 |fr=>let#[a,_,_,t]:=h;exact(t).elim
def Ad{op:CmpOp}{r:R2}{f:D->D->(D->Prop)->Prop}(ho:OpR X (compareOp op) r)(hA:D3 X.K .sh r f)(ha:DE X a zU wa)(hb:DE X b zT wb)(hm:behindInMarks op b=t_):DT X (.Compare a [op] [b] pos)^Ab^AZ f wa wb:=by
 let#[ta,ha1,ha2]:=ha;let#[tb,hb1,hb2]:=hb;refine#[_,GR ho ha1 hb1 hm,λC M H n ρ Z P Q R w q=>?_];refine EJ hA ha2 hb2 C M H n ρ Z _ _ R w λv H' d n' e f r p=>?_;cases d with
 |bl b=>exact#[b,GD r,q b H' n' e f p]
 |_=>exact p.elim
def Ej(h:DE X e κ wa)(he:∀whole,isTrue e X.env whole=(do let v ←whole;standAt e.pos;holding [v]^truthy v):=by intro _;rfl):DT X e^Ab wa:=by
 let#[t,h1,h2]:=h;refine#[_,bh h1 he,λC M H n ρ Z P Q R w q=>?_];refine h2 C M H n ρ Z _ _ R w λv H' d n' e f r p=>?_;cases d with
 |bl b=>exact#[b,GD r,q b H' n' e f p]
 |_=>exact p.elim
def HE(f g:D->D->(D->Prop)->Prop)(wa wb wc:DW):DW:=λn ρ P=>wa n ρ λx n1=>wb n1 ρ λy n2=>f x y λz=>match z with
 |.bl s_=>wc n2 ρ λu n3=>g y u λr=>P r n3
 |.bl t_=>P (.bl t_) n2
 |_=>False
def QA{r r':R2}{f g:D->D->(D->Prop)->Prop}(hA:D3 X.K .sh r f)(hB:D3 X.K .sh r' g){ta tb tc:TE}{zI:Kd}(ha:∀(C:Fm) (M:Ch->Prop) (H:Hp) (n:Sg) (ρ:u_ Slot) (Z:L2.St) (P:D->Sg->Prop) (Q:VK),Rel X.K C M H n ρ Z->wa n ρ P->
   (∀v H' d n',Ext C.U H H'->FeedC X.K C.F M H' n'->VR X.K C.V M H H' zU v d->P d n'->Q v H')->ta Z H Q)
  (hb:∀(C:Fm) (M:Ch->Prop) (H:Hp) (n:Sg) (ρ:u_ Slot) (Z:L2.St) (P:D->Sg->Prop) (Q:VK),Rel X.K C M H n ρ Z->wb n ρ P->
   (∀v H' d n',Ext C.U H H'->FeedC X.K C.F M H' n'->VR X.K C.V M H H' zT v d->P d n'->Q v H')->tb Z H Q)
  (hc:∀(C:Fm) (M:Ch->Prop) (H:Hp) (n:Sg) (ρ:u_ Slot) (Z:L2.St) (P:D->Sg->Prop) (Q:VK),Rel X.K C M H n ρ Z->wc n ρ P->
   (∀v H' d n',Ext C.U H H'->FeedC X.K C.F M H' n'->VR X.K C.V M H H' zI v d->P d n'->Q v H')->tc Z H Q)
  (C:Fm) (M:Ch->Prop) (H:Hp) (n:Sg) (ρ:u_ Slot) (Z:L2.St) (P:D->Sg->Prop) (Q:VK) (R:Rel X.K C M H n ρ Z) (w:HE f g wa wb wc n ρ P)
  (q:∀v H' d n',Ext C.U H H'->FeedC X.K C.F M H' n'->VR X.K C.V M H H' .sh v d->P d n'->Q v H'):Qt r r' ta tb tc Z H Q:=by
 refine ha C M H n ρ Z _ _ R w λx H1 d n1 e1 f1 r1 w1=>?_;have R1:=R.step e1 f1;refine hb C M H1 n1 ρ Z _ _ R1 w1 λy H2 e n2 e2 f2 r2 w2=>?_;have R2':=R1.step e2 f2;have ty:AtT X.K C.V M H2 e y:=r2.tpOf R1.dom R1.vM;refine hA C.V M H2 d e x y _ _ R2'.dom R2'.vM ((r1.tpOf R.dom R.vM).pres (R1.pres e2) e2 R.uV) ty w2 λv H3 z gr vr p=>?_;have R3:=R2'.step gr.ext^f2.grow gr;cases z with
 | bl k=>
  refine#[k,vr,?_];cases k with
  |false=>exact q _ H3 (.bl t_) n2 ((e1.trans e2).trans gr.ext) (f2.grow gr) (show VR X.K C.V M H H3 .sh (.bl t_)^.bl t_ from rfl) p
  |true=>
   show tc Z H3 _;refine hc C M H3 n2 ρ Z _ _ R3 p λu H4 d4 n4 e4 f4 r4 w4=>?_;have R4:=R3.step e4 f4;refine hB C.V M H4 e d4 y u _ _ R4.dom R4.vM ((ty.pres gr.pres (gr.ext (U:=C.U)) R.uV).pres (R3.pres e4) e4 R.uV) (r4.tpOf R3.dom R3.vM) w4 λv5 H5 z5 g5 vr5 p5=>?_;exact q v5 H5 z5 n4 ((((e1.trans e2).trans gr.ext).trans e4).trans g5.ext) (f4.grow g5) vr5 p5
 |_=>exact p.elim
def P6{op op':CmpOp}{r r':R2}{f g:D->D->(D->Prop)->Prop}{zI:Kd}(ho:OpR X (compareOp op) r)(hA:D3 X.K .sh r f)(ho':OpR X (compareOp op') r')(hB:D3 X.K .sh r' g)(ha:DE X a zU wa)(hb:DE X b zT wb)(hc:DE X c zI wc)
  (hm:lastMarks [op,op'] [b,c]=t_:=by with_unfolding_all rfl):DE X (.Compare a [op,op'] [b,c] pos) .sh^HE f g wa wb wc:=by
 let#[ta,ha1,ha2]:=ha;let#[tb,hb1,hb2]:=hb;let#[tc,hc1,hc2]:=hc;exact#[_,Wl ho ho' ha1 hb1 hc1 hm,λC M H n ρ Z P Q R w q=>QA hA hB ha2 hb2 hc2 C M H n ρ Z P Q R w q]
def Xu{op op':CmpOp}{r r':R2}{f g:D->D->(D->Prop)->Prop}{zI:Kd}(ho:OpR X (compareOp op) r)(hA:D3 X.K .sh r f)(ho':OpR X (compareOp op') r')(hB:D3 X.K .sh r' g)(ha:DE X a zU wa)(hb:DE X b zT wb)(hc:DE X c zI wc)
  (hm:lastMarks [op,op'] [b,c]=t_:=by with_unfolding_all rfl):DT X (.Compare a [op,op'] [b,c] pos)^Ab^HE f g wa wb wc:=by
 let#[ta,ha1,ha2]:=ha;let#[tb,hb1,hb2]:=hb;let#[tc,hc1,hc2]:=hc;refine#[_,WU ho ho' ha1 hb1 hc1 hm,λC M H n ρ Z P Q R w q=>?_];refine QA hA hB ha2 hb2 hc2 C M H n ρ Z _ _ R w λv H' d n' e f r p=>?_;cases d with
 |bl b=>exact#[b,r,q b H' n' e f p]
 |_=>exact p.elim
def Ly(u v:Ij):Ij:=λn ρ P=>u n ρ λc n1=>if c=s_ then v n1 ρ P else P t_ n1
def FJ(u v:Ij):Ij:=λn ρ P=>u n ρ λc n1=>if c=s_ then P s_ n1 else v n1 ρ P
def Dh(u:Ij):Ij:=λn ρ P=>u n ρ λc n1=>P (!c) n1
variable {wA wB:Ij}{rest:u_ Expr}
def JM(h:DT X a wA):DTW X (.BoolOp .And [a] pos) wA:=by
 let#[t,h1,h2]:=h;exact#[t,Sk h1,h2]
def Ce(h:DT X a wA):DTW X (.BoolOp .Or [a] pos) wA:=by
 let#[t,h1,h2]:=h;exact#[t,bg h1,h2]
def Nx(ha:DT X a wA)(hb:DTW X (.BoolOp .And (b::rest) pos) wB):DTW X (.BoolOp .And (a::b::rest) pos)^Ly wA wB:=by
 let#[t,h1,h2]:=ha;let#[u,g1,g2]:=hb;refine#[_,WQ h1 g1,λC M H n ρ Z P Q R w q=>?_];refine h2 C M H n ρ Z _ _ R w λc H1 n1 e1 f1 p=>?_;cases c with
 |false=>exact q _ H1 n1 e1 f1 p
 |true=>exact g2 C M H1 n1 ρ Z P Q (R.step e1 f1) p λb H2 n2 e2 f2 p2=>q b H2 n2 (e1.trans e2) f2 p2
def DV(ha:DT X a wA)(hb:DTW X (.BoolOp .Or (b::rest) pos) wB):DTW X (.BoolOp .Or (a::b::rest) pos)^FJ wA wB:=by
 let#[t,h1,h2]:=ha;let#[u,g1,g2]:=hb;refine#[_,eU h1 g1,λC M H n ρ Z P Q R w q=>?_];refine h2 C M H n ρ Z _ _ R w λc H1 n1 e1 f1 p=>?_;cases c with
 |true=>exact q _ H1 n1 e1 f1 p
 |false=>exact g2 C M H1 n1 ρ Z P Q (R.step e1 f1) p λb H2 n2 e2 f2 p2=>q b H2 n2 (e1.trans e2) f2 p2
def DTW.dt(h:DTW X e wA):DT X e wA:=by
 let#[t,h1,h2]:=h;exact#[t,h1.pt,h2]
def C_(ha:DT X a wA):DT X (.UnaryOp .Not a pos)^Dh wA:=by
 let#[t,h1,h2]:=ha;exact#[_,bi h1,λC M H n ρ Z P Q R w q=>h2 C M H n ρ Z _ _ R w λc H1 n1 e1 f1 p=>q _ H1 n1 e1 f1 p]
def Vg(u v:DW):DW:=λn ρ P=>u n ρ λc n1=>match c with
 |.bl s_=>v n1 ρ P
 |.bl t_=>P (.bl t_) n1
 |_=>False
def f7(u v:DW):DW:=λn ρ P=>u n ρ λc n1=>match c with
 |.bl s_=>P (.bl s_) n1
 |.bl t_=>v n1 ρ P
 |_=>False
def a_(u:DW):DW:=λn ρ P=>u n ρ λc n1=>match c with
 |.bl b=>P (.bl (!b)) n1
 |_=>False
def Hg{op}(h:DE X a κ wa):DE X (.BoolOp op [a] pos) κ wa:=by
 assumption
def N2(ha:DE X a zU wa)(hb:DE X (.BoolOp .And (b::rest) pos) .sh wb):DE X (.BoolOp .And (a::b::rest) pos) .sh^Vg wa wb:=by
 let#[t,h1,h2]:=ha;let#[u,g1,g2]:=hb;refine#[_,bz h1 g1,λC M H n ρ Z P Q R w q=>?_];refine h2 C M H n ρ Z _ _ R w λc H1 d n1 e1 f1 r1 p=>?_;cases d with
 | bl k=>
  refine#[k,GD r1,?_];cases k with
  |false=>exact q _ H1 _ n1 e1 f1 (show VR _ _ M H H1 _ _^.bl _ from rfl) p
  |true=>
   exact g2 C M H1 n1 ρ Z P Q (R.step e1 f1) p λv H2 d n2 e2 f2 r2 p2=>q v H2 d n2 (e1.trans e2) f2 r2 p2
 |_=>exact p.elim
def aX(ha:DE X a zU wa)(hb:DE X (.BoolOp .Or (b::rest) pos) .sh wb):DE X (.BoolOp .Or (a::b::rest) pos) .sh^f7 wa wb:=by
 let#[t,h1,h2]:=ha;let#[u,g1,g2]:=hb;refine#[_,eW h1 g1,λC M H n ρ Z P Q R w q=>?_];refine h2 C M H n ρ Z _ _ R w λc H1 d n1 e1 f1 r1 p=>?_;cases d with
 | bl k=>
  refine#[k,GD r1,?_];cases k with
  |true=>exact q _ H1 _ n1 e1 f1 (show VR _ _ M H H1 _ _^.bl _ from rfl) p
  |false=>
   exact g2 C M H1 n1 ρ Z P Q (R.step e1 f1) p λv H2 d n2 e2 f2 r2 p2=>q v H2 d n2 (e1.trans e2) f2 r2 p2
 |_=>exact p.elim
def X1(ha:DE X a zU wa):DE X (.UnaryOp .Not a pos) .sh^a_ wa:=by
 let#[t,h1,h2]:=ha;refine#[_,bq h1,λC M H n ρ Z P Q R w q=>?_];refine h2 C M H n ρ Z _ _ R w λc H1 d n1 e1 f1 r1 p=>?_;cases d with
 |bl k=>exact#[k,GD r1,q _ H1 _ n1 e1 f1 (show VR _ _ M H H1 _ _^.bl _ from rfl) p]
 |_=>exact p.elim
def Yd(t:Ij)(u v:DW):DW:=λn ρ P=>t n ρ λc n1=>if c=s_ then u n1 ρ P else v n1 ρ P
def P4(hc:DT X c wA)(ha:DE X a κ wa)(hb:DE X b κ wb):DE X (.IfExp c a b pos) κ^Yd wA wa wb:=by
 let#[t,h1,h2]:=hc;let#[u,g1,g2]:=ha;let#[u',k1,k2]:=hb;refine#[_,PM h1 g1 k1,λC M H n ρ Z P Q R w q=>?_];refine h2 C M H n ρ Z _ _ R w λc H1 n1 e1 f1 p=>?_;cases c with
 |true=>exact g2 C M H1 n1 ρ Z P Q (R.step e1 f1) p λv H2 d n2 e2 f2 r2 p2=>q v H2 d n2 (e1.trans e2) f2 (VR.back e1 r2) p2
 |false=>exact k2 C M H1 n1 ρ Z P Q (R.step e1 f1) p λv H2 d n2 e2 f2 r2 p2=>q v H2 d n2 (e1.trans e2) f2 (VR.back e1 r2) p2
def AT:EW:=λn _ P=>P [] n
def AE(w:DW)(ws:EW):EW:=λn ρ P=>w n ρ λd n1=>ws n1 ρ λds n2=>P (d::ds) n2
variable {es:u_ Expr}{ws:EW}
def AU:aq X [] AT:=#[_,C5,λC M H n ρ Z P Q R w q=>q [] H [] n (Ext.refl _ _) R.feed .nil w]
def AR:ao X [] AT:=#[_,C5,λC M H n ρ Z P Q R w q=>q [] H [] n (Ext.refl _ _) R.feed rfl w]
def AK(ha:DE X e κ wa)(hr:aq X es ws)(hs:starEach (e::es) X.env=(t_,eval e X.env)::starEach es X.env:=by rfl):aq X (e::es)^AE wa ws:=by
 let#[t,h1,h2]:=ha;let#[u,g1,g2]:=hr;refine#[_,B7 h1 g1 hs,λC M H n ρ Z P Q R w q=>?_];refine h2 C M H n ρ Z _ _ R w λv H1 d n1 e1 f1 r1 p=>?_;have R1:=R.step e1 f1;exact g2 C M H1 n1 ρ Z _ _ R1 p λvs H2 ds n2 e2 f2 r2 p2=>q _ H2 _ n2 (e1.trans e2) f2 (.cons ((r1.tpOf R.dom R.vM).pres (R1.pres e2) e2 R.uV) r2) p2
def AC(ha:DE X e κ wa)(hr:ao X es ws)(hk:κ≠.tp:=by intro z;cases z)(hs:starEach (e::es) X.env=(t_,eval e X.env)::starEach es X.env:=by rfl):ao X (e::es)^AE wa ws:=by
 let#[t,h1,h2]:=ha;let#[u,g1,g2]:=hr;refine#[_,B7 h1 g1 hs,λC M H n ρ Z P Q R w q=>?_];refine h2 C M H n ρ Z _ _ R w λv H1 d n1 e1 f1 r1 p=>?_;have R1:=R.step e1 f1;exact g2 C M H1 n1 ρ Z _ _ R1 p λvs H2 ds n2 e2 f2 r2 p2=>q _ H2 (d::ds) n2 (e1.trans e2) f2 #[v,vs,rfl,(r1.shOf R.dom hk).pres^R1.pres e2,r2] p2
def BA(ws:EW):DW:=λn ρ P=>ws n ρ λds n1=>ds.length<=sizeLine/\P (.tup ds) n1
def Ct(ws:EW):DW:=λn ρ P=>ws n ρ λds n1=>ds.length<=sizeLine/\P (.lst ds) n1
def F2{M:Ch->Prop}{H:Hp}{p:Ch}{o:HO}(h:H p=r_):Pres M H (λb=>M b\/b=p)^Av H p o:=#[λb u e _ _=>by rw[AO^An e h];exact e,λb z=>z.elim .inl λz=>.inr^by grind,λb vs e=>by rw[AO^An e h];exact e,λb u e=>#[u,by rw[AO^An e h];exact e]]
def Ap{H:Hp}{p:Ch}{o:HO}(h:H p=r_):Grow H^Av H p o:=.inr #[p,o,h,rfl]
def Ao{x1}(h:ao X es ws):DE X (.Tuple es x1 pos) .sh^BA ws:=by
 let#[t,h1,h2]:=h;refine#[_,bp h1,λC M H n ρ Z P Q R w q=>?_];refine h2 C M H n ρ Z _ _ R w λvs H1 ds n1 e1 f1 r1 p=>?_;refine#[by rw[r1.length];exact p.1,λa ha=>?_];have g:Grow H1^Av H1 a^.tup vs:=Ap ha;refine q _ _ (.tup ds) n1 (e1.trans g.ext) (f1.grow g) #[a,vs,rfl,AQ,r1.pres g.pres] p.2
def Bh(h:ao X es ws):DE X (.List es pos) .fr^Ct ws:=by
 let#[t,h1,h2]:=h;refine#[_,RD h1,λC M H n ρ Z P Q R w q=>?_];refine h2 C M H n ρ Z _ _ R w λvs H1 ds n1 e1 f1 r1 p=>?_;refine#[by rw[r1.length];exact p.1,λa ha=>?_];have g:Grow H1^Av H1 a^.lst vs:=Ap ha;exact q _ _ (.lst ds) n1 (e1.trans g.ext) (f1.grow g) (VR.back e1 #[a,rfl,ha,vs,AQ,r1.pres^F2 ha]) p.2
def B6(K:Frag)(κ:Kd)(r:u_ V->Hp->VK->Prop)(f:u_ D->(D->Prop)->Prop):Prop:=∀(U:Ch->Prop) (M:Ch->Prop) (H:Hp) (ds:u_ D) (vs:u_ V) (P:D->Prop) (Q:VK),(∀a,M a->∃o,H a=P3 o)->(∀a,U a->M a)->
 Paired (λv d=>AtT K U M H d v) vs ds->f ds P->(∀v H' z,Grow H H'->VR K U M H H' κ v z->P z->Q v H')->r vs H Q
def Bi(f:u_ D->(D->Prop)->Prop)(ws:EW):DW:=λn ρ P=>ws n ρ λds n1=>f ds λz=>P z n1
def ac{r:u_ V->Hp->VK->Prop}{f:u_ D->(D->Prop)->Prop}{t:TA}(hA:B6 X.K κ r f)(h2:∀(C:Fm) (M:Ch->Prop) (H:Hp) (n:Sg) (ρ:u_ Slot) (Z:L2.St) (P:u_ D->Sg->Prop) (Q:u_ V->Hp->Prop),Rel X.K C M H n ρ Z->ws n ρ P->
   (∀vs H' ds n',Ext C.U H H'->FeedC X.K C.F M H' n'->Paired (λv d=>AtT X.K C.V M H' d v) vs ds->P ds n'->Q vs H')->t Z H Q)
  (C:Fm) (M:Ch->Prop) (H:Hp) (n:Sg) (ρ:u_ Slot) (Z:L2.St) (P:D->Sg->Prop) (Q:VK) (R:Rel X.K C M H n ρ Z) (w:Bi f ws n ρ P)
  (q:∀v H' d n',Ext C.U H H'->FeedC X.K C.F M H' n'->VR X.K C.V M H H' κ v d->P d n'->Q v H'):dq r t Z H Q:=by
 refine h2 C M H n ρ Z _ _ R w λvs H1 ds n1 e1 f1 r1 p=>?_;have R1:=R.step e1 f1;exact hA _ M H1 ds vs _ _ R1.dom R1.vM r1 p λv H2 z g vr pz=>q v H2 z n1 (e1.trans g.ext) (f1.grow g) (VR.back e1 vr) pz
def Aa{x:Str}{id:String}{p:Pos}{r:u_ V->Hp->VK->Prop}{f:u_ D->(D->Prop)->Prop}(hc:CallR X (.builtin id) r)(hA:B6 X.K κ r f)(hg:Gl X x)(hm:X.mg x=r_)(hv:bootBuiltins x=P3^.builtin id)(ha:aq X (e::es) ws)
  (hn:x ≠ "__name__":=by decide) (hdb:(x==("__debug__":Str))=t_:=by decide)
  (he:starEach (e::es) X.env=(t_,eval e X.env)::starEach es X.env:=by rfl) (hpl:(backTo pos^starEach es X.env).any (·.1)=t_:=by rfl):DE X (.Call (.Name x p) (e::es) [] pos) κ^Bi f ws:=by
 let#[t,h1,h2]:=ha;exact#[_,GW hc hg hm hv h1 hn hdb he hpl,λC M H n ρ Z P Q R w q=>ac hA h2 C M H n ρ Z P Q R w q]
def BC{x:Str}{T:String}{p:Pos}{r:u_ V->Hp->VK->Prop}{f:u_ D->(D->Prop)->Prop}(hc:CallR X (.type T) r)(hA:B6 X.K κ r f)(hg:Gl X x)(hm:X.mg x=r_)(hv:bootBuiltins x=P3^.type T)(ha:aq X (e::es) ws)
  (hn:x ≠ "__name__":=by decide) (hdb:(x==("__debug__":Str))=t_:=by decide)
  (he:starEach (e::es) X.env=(t_,eval e X.env)::starEach es X.env:=by rfl) (hpl:(backTo pos^starEach es X.env).any (·.1)=t_:=by rfl):DE X (.Call (.Name x p) (e::es) [] pos) κ^Bi f ws:=by
 let#[t,h1,h2]:=ha;exact#[_,HN hc hg hm hv h1 hn hdb he hpl,λC M H n ρ Z P Q R w q=>ac hA h2 C M H n ρ Z P Q R w q]
end
end Dp
namespace L2
def gp(z:Str):It:=#[λi _=>i<z.cps.size,λi H x H'=>H'=H/\∃c,z.cps[i]?=P3 c/\x=.str #[#[ c]],λi _=>z.cps.size<=i]
def Oo{P:ic}{w:ip}{K:Frag}{tg:ie}(it:Ch)(z:Str)(t:Tok)(ty:String)(hty:ty="str_ascii_iterator"\/ty="str_iterator")
  (W:∀A':i5,A'.handled=r_->Walks P w A' it [it] [it] z.cps.size (SignAt z) λi h=>h.IsStrIter it ty z t i):Turn P w K tg (gp z) [it] it (λi h=>h.IsStrIter it ty z t i) where
 mem:=by simp
 obj:=λi h st b hb=>by
  have e:b=it:=by simpa using hb
  subst e;let#[o,e,c,d]:=st;exact#[o,e,λv z=>by rw[d]at z;cases z]
 keep:=λi h h' st k=>let #[o,ho,r]:=st;#[o,k it (by simp) o ho,r]
 item:=by
  intro X hP hw hK hc i zF s Z H E I hf st hg;subst hP hw hK;let#[f0,f1,f2,f3,f4,f5]:=hf it (by simp);refine(W X.A^I.ok.hd hc).item i s _ _ hg st λv h' tk hv st' kk=>?_;let#[c,u,hcu,rfl]:=hv;have I1:Inv X zF Z H {s with heap:=h',toks:=tk}:=I.turned (λb o hb e=>kk b o (by simpa using hb) e) f0 f1 f3 f4 f5;let#[o,e,cc,d]:=id st';exact#[_,rfl,S_ (s:={s with heap:=h',toks:=tk}) e cc d (by rcases hty with rfl|rfl <;>decide) #[.str #[#[ c]],H,I1,#[_,rfl],#[rfl,c,hcu,rfl],st',λb hb=>(hf b hb).1]]
 done:=by
  intro X hP hw hK hc i zF s Z H E I hf st hg;subst hP hw hK;let#[f0,f1,f2,f3,f4,f5]:=hf it^by simp
  have hx:z.cps[i]?=r_:=by
   have:z.cps.size<=i:=hg
   simp[this]
  rcases hty with rfl|rfl
  .exact wpAny_pyNext_ascii_end (I.ok.hd hc) st hx λh' eb=>#[rfl,I.turned (t':=s.toks) (λb o hb e=>eb b o hb e) f0 f1 f3 f4 f5]
  .exact wpAny_pyNext_wide_end (I.ok.hd hc) st hx λh' eb=>#[rfl,I.turned (t':=s.toks) (λb o hb e=>eb b o hb e) f0 f1 f3 f4 f5]
 self:=λA i s Q E st h=>by
  rcases hty with rfl|rfl
  .exact wpAny_pyIter_striter_ascii st h
  .exact wpAny_pyIter_striter_wide st h
section
variable {X:Cx}{tg:Expr}
def gU(K:Frag)(tl:TE):TI:=λZ H R=>tl Z H λx H1=>
 (∃a,x=.ref a/\(∃xs,SqL K H1 a xs)/\R (gq K a) H1)\/(∃a,x=.ref a/\(∃xs,SqT K H1 a xs)/\R (dC K a) H1)\/∃z,x=.str z/\R (gp z) H1
def Wf{l:ie}{tl:TE}(hl:PE X l tl):PI X tg l^gU X.K tl:=by
 intro zF s Z H R I h;refine BG (hl zF s Z H _ I h) λv s1 #[x,H1,I1,r1,q1]=>?_
 have hne:∀b,b∈[s1.heap.objs.size]->HB X zF H1 b:=λb hb=>by
  have e:b=s1.heap.objs.size:=by simpa using hb
  subst e;exact I1.fpOk (Sc _)^I1.hok.fresh^Sc _
 rcases q1 with⟨a,e,⟨xs,hq⟩,q⟩|⟨a,e,⟨xs,hq⟩,q⟩|⟨z,e,q⟩
 .subst e
  cases r1;let#[its,rv,p,hz]:=I1.list hq;refine jq p.isList ?_;exact#[s1.heap.objs.size,[s1.heap.objs.size],_,_,H1,rfl,I1.kept (t':=s1.toks) λb o e=>FM _ e,Tx a _,#[_,TW _ rfl,rfl,rfl],hne,q]
 .subst e
  cases r1;let#[its,rv,p,hz]:=I1.tuple hq;refine ja (show s1.heap.IsTuple a its.toArray from p) ?_;exact#[s1.heap.objs.size,[s1.heap.objs.size],_,_,H1,rfl,I1.kept (t':=s1.toks) λb o e=>FM _ e,Je a _,#[_,TW _ rfl,rfl,rfl],hne,q]
 .subst e
  let#[t,rfl]:=r1;cases ha:z.cps.all (·<128)
  .refine wpAny_pyIter_wide ha ?_
   exact#[s1.heap.objs.size,[s1.heap.objs.size],_,_,H1,rfl,I1.kept (t':=s1.toks) λb o e=>FM _ e,Oo _ z t "str_iterator" (.inr rfl) λA' hA=>Walks.strWide hA _ z t,#[_,TW _ rfl,rfl,rfl],hne,q]
  .refine wpAny_pyIter_ascii ha ?_
   exact#[s1.heap.objs.size,[s1.heap.objs.size],_,_,H1,rfl,I1.kept (t':=s1.toks) λb o e=>FM _ e,Oo _ z t "str_ascii_iterator" (.inl rfl) λA' hA=>Walks.strAscii hA _ z t,#[_,TW _ rfl,rfl,rfl],hne,q]
end
section
variable {X:Cx}
def LV(bs:u_ Bool):((i4 bs.length).all λi=>(bs[i]?).getD s_)=bs.all id:=by
 induction bs with
 |nil=>rfl
 |cons b r ih=>
  rw[ij,List.range_succ_eq_map,List.all_cons,List.all_map]
  congr 1
def K2(hc:X.calm=s_):CallR X (.builtin "all") (λxs H Q=>∃(p:Ch) (bs:u_ Bool),xs=[.ref p]/\SqL X.K H p^bs.map V.bl/\Q (.bl^bs.all id) H):=by
 intro zF s Z H xs us Q I r h;let#[p,bs,rfl,hq,q]:=h;let#[u,rfl,rx]:=vals1 r;cases rx;let#[its,r',pl,hz]:=I.list hq;have hlen:=r'.length;have hl:s.heap.IsList p its.toArray:=pl.isList;have hlt:p<s.heap.objs.size:=by let#[_,e,_]:=id hl;exact T0 e
 refine call_all_walk^jq hl ?_
 refine#[s.heap.objs.size,[s.heap.objs.size,p],[s.heap.objs.size],its.toArray.size,_,_,λi=>(bs[i]?).getD s_,rfl,Walks.list (A:=X.A.in1) (I.ok.hd hc) _ p (ge hlt) its.toArray,
  #[#[_,TW _ rfl,rfl,rfl],hl.push _],λi v s' Q' E' hP hQ=>?_,λh' tk hk=>?_]
 .have hv:its[i]?=P3 v:=by simpa using hP
  have hb:∃b,bs[i]?=P3 b:=by
   have hi:i<its.length:=(Uf.mp hv).1;rw[Ev]at hlen;exact#[bs[i]'(by lk),Go^by lk]
  let#[b,eb]:=hb;let#[u,eu,ru]:=r'.get (i:=i) (x:=.bl b) (by rw[XV,eb];rfl);rw[hv]at eu;cases eu;cases ru;simp only[eb,Option.getD_some]at hQ;exact jV hQ
 .have e:((i4 its.toArray.size).all λi=>(bs[i]?).getD s_)=bs.all id:=by
   rw[f8,←hlen,Ev];exact LV bs
  rw[e];exact#[.bl _,H,I.kept (t':=tk) λb x e=>hk b x (λhm=>by rw[Re.mp hm]at e;exact jU _^T0 e)^FM _ e,rfl,q]
def QC:CallR X (.builtin "isinstance") (λxs H Q=>∃x T t b,xs=[x,.ty T]/\GB X.K H x t/\PySem.W.kitOne X.K t^.type T=P3 b/\Q (.bl b) H):=by
 intro zF s Z H xs us Q I r h;let#[x,T,t,b,rfl,ty,e,q]:=h;let#[u,w',rfl,rx,rt]:=vals2 r;cases rt;exact Uw I rx ty e λtk=>#[.bl b,H,I.tok _,rfl,q]
def UX:OpR X (compareOp .LtE) (λx y H Q=>∃i j,x=.str i/\y=.str j/\Q (.bl (!(j.cps.toList<i.cps.toList))) H):=by
 intro zF s Z H x y v u Q I rx ry h;let#[i,j,rfl,rfl,q]:=h;let#[t,rfl]:=rx;let#[t',rfl]:=ry;exact PySem.P.le_str #[.bl _,H,I,rfl,q]
def Ji{ys:u_ Str}:∀{us:u_ Db},Vals (ys.map V.str) us->StrsAre us ys:=by
 induction ys with
 |nil=>intro us r;cases r;exact .nil
 | cons n ns ih=>
  intro us r;cases r with
  |cons r1 r2=>
   let#[t,e]:=r1;subst e;exact .cons n t^ih r2
def bS:SlR X (λx lo hi H Q=>∃z,x=.str z/\z.length<=sizeLine/\Q (.str^Txt.slice z lo hi) H):=by
 intro zF s Z H x v vl vu lo hi sl Q I rx hs pl pu h;let#[z,rfl,hz,q]:=h;let#[t,rfl]:=rx;refine#["str",_,F.slot_str_getitem.lookup,k7 _ _ _,?_];have fin:∀t' k,EP X zF Z Q (.str _ t') {s with toks:=k}:=λt' k=>#[.str _,H,I.tok _,#[_,rfl],q];cases pl with
 |none=>
  cases pu with
  |none=>exact lI (l:=r_) (u:=r_) (st:=r_) hs rfl (nL #[iU (Txt.slice_le z _ _) hz,λt' k=>fin t' k])
  |int j tj=>exact lI (l:=r_) (u:=P3 (j,tj)) (st:=r_) hs rfl (nL #[iU (Txt.slice_le z _ _) hz,λt' k=>fin t' k])
 |int i ti=>
  cases pu with
  |none=>exact lI (l:=P3 (i,ti)) (u:=r_) (st:=r_) hs rfl (nL #[iU (Txt.slice_le z _ _) hz,λt' k=>fin t' k])
  |int j tj=>exact lI (l:=P3 (i,ti)) (u:=P3 (j,tj)) (st:=r_) hs rfl (nL #[iU (Txt.slice_le z _ _) hz,λt' k=>fin t' k])
def UV(hu:X.A.units<cLine):OpR X (compareOp .NotEq) (λx y H Q=>∃a b xs,x=.ref a/\y=.ref b/\SqL X.K H a xs/\SqL X.K H b []/\Q (.bl (!xs.isEmpty)) H):=by
 intro zF s Z H x y v u Q I rx ry h;let#[a,b,xs,rfl,rfl,ha,hb,q]:=h;cases rx;cases ry;let#[its,r1,p1,_]:=I.list ha;let#[its2,r2,p2,_]:=I.list hb;cases r2;cases r1 with
 |nil=>exact SeqAt.RcNeAt.lists (e:=λ_=>s_) p1.isList p2.isList rfl hu (λj h1 h2=>absurd h1^by simp) _ _ _ _ #[.bl _,H,I,rfl,q]
 |cons r1 r2=>exact SeqAt.RcNeAt.lists_lengths p1.isList p2.isList (by simp) hu _ _ _ _ #[.bl _,H,I,rfl,q]
end
end L2
namespace Dp
open L2
def fZ(K:Frag)(F:v_ (Ch×Ch))(U V' M:Ch->Prop)(H:Hp)(n:Sg)(ss:u_ Slot)(vs:u_ V):Prop:=
 (∀a,M a->∃o,H a=P3 o)/\(∀f,F=P3 f->U f.1)/\(∀a,U a->V' a)/\(∀a,V' a->M a)/\FeedC K F M H n/\Paired (E3 K F V' M H) vs ss
abbrev W2:=u_ Slot->Sg->(D->Sg->Prop)->Prop
def T6(K:Frag)(κ:Kd)(W:W2)(np:Nat):Sp:=λvs H Q _=>vs.length=np/\∃(F:v_ (Ch×Ch)) (U V' M:Ch->Prop) (n:Sg) (ss:u_ Slot) (P:D->Sg->Prop),fZ K F U V' M H n ss vs/\W ss n P /\
 ∀v H' d n',Ext U H H'->FeedC K F M H' n'->VR K V' M H H' κ v d->P d n'->Q v H'
def AM(w:DW):Sg->u_ Slot->(Slot->Sg->Prop)->Prop:=λn ρ P=>w n ρ λd n1=>P (.sh d) n1
def BB(w:DW):Sg->u_ Slot->(Slot->Sg->Prop)->Prop:=λn ρ P=>w n ρ λd n1=>P (.br d) n1
def A4(i:Nat):Sg->u_ Slot->(Slot->Sg->Prop)->Prop:=λn ρ P=>match ρ[i]? with
 |some .fd=>P .fd n
 |_=>False
def AS:VO:=λn _ P=>P [] n
def AD(w:Sg->u_ Slot->(Slot->Sg->Prop)->Prop)(ws:VO):VO:=λn ρ P=>w n ρ λs n1=>ws n1 ρ λss n2=>P (s::ss) n2
def Ae(W:W2)(was:VO):DW:=λn ρ P=>was n ρ λss n1=>W ss n1 P
section
variable {X:Cx}{a e:Expr}{es:u_ Expr}{κ zU:Kd}{wa:DW}{pos:Pos}{w1:Sg->u_ Slot->(Slot->Sg->Prop)->Prop}{was:VO}{ws:EW}
def AV(h:DE X e κ wa)(hk:κ≠.tp:=by intro z;cases z):f6 X e^AM wa:=by
 let#[t,h1,h2]:=h;exact#[t,h1,λC M H n ρ Z P Q R w q=>h2 C M H n ρ Z _ _ R w λv H' d n' e f r p=>q v H' (.sh d) n' e f #[#[v,rfl,r.shOf R.dom hk],rfl] p]
def CJ(h:DE X e κ wa):f6 X e^BB wa:=by
 let#[t,h1,h2]:=h;exact#[t,h1,λC M H n ρ Z P Q R w q=>h2 C M H n ρ Z _ _ R w λv H' d n' e f r p=>q v H' (.br d) n' e f #[#[v,rfl,r.tpOf R.dom R.vM],rfl] p]
def Bm(i:Nat){x:Str}{pos:Pos}(hN:X.N[i]?=P3 x:=by rfl)(hv:c8 X.env.scope x:=by first|exact ZB rfl|exact kT (ZB rfl)|exact kT (kT rfl))(hd:(x==("__debug__":Str))=t_:=by decide)
  (hcd:(x==("__classdict__":Str))=t_:=by decide):f6 X (.Name x pos)^A4 i:=by
 refine#[_,NO hN hv hd hcd,λC M H n ρ Z P Q R w q=>?_];unfold A4 at w
 split at w
 .rename_i hd
  let#[f,e1,h1]:=R.sl i _ hd;exact#[_,getD_some e1,q _ H .fd n (Ext.refl _ _) R.feed #[#[f,rfl,h1],rfl] w]
 grind
def AN:Zx X [] AS:=#[_,C5,λC M H n ρ Z P Q R w q=>q [] H [] n (Ext.refl _ _) R.feed .nil w]
def AA(ha:f6 X e w1)(hr:Zx X es was)(hs:starEach (e::es) X.env=(t_,eval e X.env)::starEach es X.env:=by rfl):Zx X (e::es)^AD w1 was:=by
 let#[t,h1,h2]:=ha;let#[u,g1,g2]:=hr;refine#[_,B7 h1 g1 hs,λC M H n ρ Z P Q R w q=>?_];refine h2 C M H n ρ Z _ _ R w λv H1 d n1 e1 f1 r1 p=>?_;have R1:=R.step e1 f1;exact g2 C M H1 n1 ρ Z _ _ R1 p λvs H2 ds n2 e2 f2 r2 p2=>q _ H2 _ n2 (e1.trans e2) f2 (.cons #[r1.1.pres (R1.pres e2) (λ_ z=>z) e2 R.uV,r1.2] r2) p2
def Zf{k:Nat}{f:Ch}{fd:jK}{ps:u_ Str}{W:W2}{x:Str}{p:Pos}(G:FnOk X.prog X.w X.K X.mg X.base GC k f fd ps^T6 X.K κ W ps.length)(hW:∀ss n P,W ss n P->ss.length=ps.length)
  (hr:Room k X.A) (hg:Gl X x) (hm:X.mg x=P3^.ref f) (hk:keepIn X.K^.ref f=s_) (hb:Binds X.K fd ps []) (ha:Zx X (e::es) was)
  (hdb:(x==("__debug__":Str))=t_:=by decide) (he:starEach (e::es) X.env=(t_,eval e X.env)::starEach es X.env:=by rfl) (hpl:(backTo pos^starEach es X.env).any (·.1)=t_:=by rfl):
  DE X (.Call (.Name x p) (e::es) [] pos) κ (Ae W was):=by
 let#[t,h1,h2]:=ha;refine#[_,NP G hr hg hm hk hb .nil KI h1 hdb he hpl,λC M H n ρ Z P Q R w q=>?_];refine h2 C M H n ρ Z _ _ R w λvs H1 ss n1 e1 f1 r1 p=>?_;have R1:=R.step e1 f1;rw[jA];exact#[(Paired.length r1).trans^hW _ _ _ p,_,_,_,M,n1,ss,P,#[R1.dom,R1.fU,R1.uV,R1.vM,f1,r1],p,λv H2 d n2 e2 f2 r2 p2=>q v H2 d n2 (e1.trans e2) f2 (VR.back e1 r2) p2]
def hX(K:Frag)(κ:Kd)(T:String)(r:V->u_ V->Hp->VK->Prop)(f:D->u_ D->(D->Prop)->Prop):Prop:=∀(U:Ch->Prop) (M:Ch->Prop) (H:Hp) (d:D) (ds:u_ D) (x:V) (vs:u_ V) (P:D->Prop) (Q:VK),(∀a,M a->∃o,H a=P3 o)->(∀a,U a->M a)->
 AtT K U M H d x->Paired (λv d=>AtT K U M H d v) vs ds->f d ds P->(∀v H' z,Grow H H'->VR K U M H H' κ v z->P z->Q v H')->r x vs H Q
def gR(T:String)(d:D):Prop:=match d with
 |.str _=>T="str"
 |.int _=>T="int"
 |.lst _=>T="list"
 |_=>False
def gv(T:String)(f:D->u_ D->(D->Prop)->Prop)(wo:DW)(ws:EW):DW:=λn ρ P=>wo n ρ λd n1=>gR T d/\ws n1 ρ λds n2=>f d ds λz=>P z n2
def XR{T:String}{K:Frag}{U:Ch->Prop}{M:Ch->Prop}{H:Hp}{d:D}{x:V}(h:gR T d)(hx:AtT K U M H d x):dW K T x H:=by
 cases d with
 |str z=>let#[e,_]:=hx;subst e;exact h
 |int i=>cases(hx);exact h
 |lst ds=>let#[a,vs,e,_,hq,_]:=hx;subst e;exact .inl #[h,vs,.inl hq]
 |_=>exact(h).elim
def fN{name:Str}{apos cpos:Pos}{T id:String}{r:V->u_ V->Hp->VK->Prop}{f:D->u_ D->(D->Prop)->Prop}(pa:oR T)(slot:PySem.Slot T name id)(hty:typeOf^.builtin id=pure^.type "method_descriptor")(hm:am X id r)
  (hA:hX X.K κ T r f) (ho:DE X a zU wa) (ha:aq X (e::es) ws)
  (hbase:attributeBase a name X.env^eval a X.env=eval a X.env:=by rfl)
  (hfew:((backTo cpos^starEach (e::es) X.env).all (λx=>!x.1)&&(backToKw cpos^keywordEach [] X.env).all (λx=>x.1.isSome)
   && decide ((e::es).length+([]:u_ lC).length+(if([]:u_ lC).isEmpty then 0 else 1)<30))=s_:=by rfl)
  (hline:(apos.endLine==cpos.line)=s_:=by rfl) (hs:starEach (e::es) X.env=(t_,eval e X.env)::starEach es X.env:=by rfl) (hplain:(backTo cpos^starEach es X.env).any (·.1)=t_:=by rfl):
  DE X (.Call (.Attribute a name apos) (e::es) [] cpos) κ (gv T f wa ws):=by
 let#[t,h1,h2]:=ho;let#[u,g1,g2]:=ha;refine#[_,aL pa slot hty hm h1 g1 hbase hfew hline hs hplain,λC M H n ρ Z P Q R w q=>?_];refine h2 C M H n ρ Z _ _ R w λx H1 d n1 e1 f1 r1 p=>?_;have R1:=R.step e1 f1;have tx:=r1.tpOf R.dom R.vM;refine#[XR p.1 tx,?_];refine g2 C M H1 n1 ρ Z _ _ R1 p.2 λvs H2 ds n2 e2 f2 r2 p2=>?_;have R2':=R1.step e2 f2;refine hA C.V M H2 d ds x vs _ _ R2'.dom R2'.vM (tx.pres (R1.pres e2) e2 R.uV) r2 p2 λv H3 z g vr pz=>?_;exact q v H3 z n2 ((e1.trans e2).trans g.ext) (f2.grow g) (VR.back (e1.trans e2) vr) pz
def DO(X:Cx)(e:v_ ie)(w:Sg->u_ Slot->(v_ Int->Sg->Prop)->Prop):Prop:=∃t,PO X e t/\∀(C:Fm) (M:Ch->Prop) (H:Hp) (n:Sg) (ρ:u_ Slot) (Z:L2.St) (P:v_ Int->Sg->Prop) (Q:v_ Int->Hp->Prop),Rel X.K C M H n ρ Z->w n ρ P->
 (∀o H' n',Ext C.U H H'->FeedC X.K C.F M H' n'->P o n'->Q o H')->t Z H Q
def D4:Sg->u_ Slot->(v_ Int->Sg->Prop)->Prop:=λn _ P=>P r_ n
def Jc(w:DW):Sg->u_ Slot->(v_ Int->Sg->Prop)->Prop:=λn ρ P=>w n ρ λd n1=>match d with
 |.int i=>P (P3 i) n1
 |_=>False
def Gp:DO X r_ D4:=#[_,Su,λC M H n ρ Z P Q R w q=>q _ H n (Ext.refl _ _) R.feed w]
def RU{U:Ch->Prop}{K:Frag}{M:Ch->Prop}{H H':Hp}{v:V}{i:Int}(h:VR K U M H H' κ v^.int i):v=.int i:=by
 cases κ with
 |sh=>exact h
 |tp=>exact h
 |fr=>let#[a,_,_,t]:=h;exact(t).elim
def Gn(h:DE X e κ wa):DO X (P3 e)^Jc wa:=by
 let#[t,h1,h2]:=h;refine#[_,Ss h1,λC M H n ρ Z P Q R w q=>?_];refine h2 C M H n ρ Z _ _ R w λv H1 d n1 e1 f1 r1 p=>?_;cases d with
 |int i=>exact#[i,RU r1,q _ H1 n1 e1 f1 p]
 |_=>exact p.elim
def g_(K:Frag)(κ:Kd)(r:V->v_ Int->v_ Int->Hp->VK->Prop)(f:D->v_ Int->v_ Int->(D->Prop)->Prop):Prop:=∀(U:Ch->Prop) (M:Ch->Prop) (H:Hp) (d:D) (x:V) (lo hi:v_ Int) (P:D->Prop) (Q:VK),(∀a,M a->∃o,H a=P3 o)->(∀a,U a->M a)->
 AtT K U M H d x->f d lo hi P->(∀v H' z,Grow H H'->VR K U M H H' κ v z->P z->Q v H')->r x lo hi H Q
def a9(f:D->v_ Int->v_ Int->(D->Prop)->Prop)(w:DW)(wl wh:Sg->u_ Slot->(v_ Int->Sg->Prop)->Prop):DW:=λn ρ P=>w n ρ λd n1=>wl n1 ρ λlo n2=>wh n2 ρ λhi n3=>f d lo hi λz=>P z n3
def P2{lo hi:v_ ie}{p2:Pos}{r:V->v_ Int->v_ Int->Hp->VK->Prop}{f:D->v_ Int->v_ Int->(D->Prop)->Prop}{wl wh:Sg->u_ Slot->(v_ Int->Sg->Prop)->Prop}(hr:SlR X r)(hA:g_ X.K κ r f)(he:DE X e zU wa)(hl:DO X lo wl)(hh:DO X hi wh):
  DE X (.Subscript e (.Slice lo hi r_ p2) pos) κ (a9 f wa wl wh):=by
 let#[t,h1,h2]:=he;let#[u,g1,g2]:=hl;let#[u',k1,k2]:=hh;refine#[_,PL hr h1 g1 k1,λC M H n ρ Z P Q R w q=>?_];refine h2 C M H n ρ Z _ _ R w λv H1 d n1 e1 f1 r1 p=>?_;have R1:=R.step e1 f1;have tv:=r1.tpOf R.dom R.vM;refine g2 C M H1 n1 ρ Z _ _ R1 p λlo H2 n2 e2 f2 p2=>?_;have R2':=R1.step e2 f2;refine k2 C M H2 n2 ρ Z _ _ R2' p2 λhi H3 n3 e3 f3 p3=>?_;have R3:=R2'.step e3 f3;refine hA C.V M H3 d v lo hi _ _ R3.dom R3.vM ((tv.pres (R1.pres e2) e2 R.uV).pres (R2'.pres e3) e3 R.uV) p3 λv H4 z g vr pz=>?_;exact q v H4 z n3 (((e1.trans e2).trans e3).trans g.ext) (f3.grow g) (VR.back ((e1.trans e2).trans e3) vr) pz
end
structure E2 where
 nx:Sg->List Slot->Prop
 rt:D->Sg->Prop
 bk:Sg->List Slot->Prop:=λ_ _=>False
 ct:Sg->List Slot->Prop:=λ_ _=>False
abbrev Af:=E2->Sg->u_ Slot->Prop
structure YT (K:Frag) (C:Fm) (κ:Kd) (D2:E2) (E:Ends):Prop where
 nx:∀M H n ρ Z,Rel K C M H n ρ Z->D2.nx n ρ->E.nx Z H
 rt:∀v H d n,Ext C.U C.H0 H->FeedC K C.F C.M0 H n->VR K C.V C.M0 C.H0 H κ v d->D2.rt d n->E.rt v H
 bk:∀M H n ρ Z,Rel K C M H n ρ Z->D2.bk n ρ->E.bk Z H
 ct:∀M H n ρ Z,Rel K C M H n ρ Z->D2.ct n ρ->E.ct Z H
def DS(X:Cx)(κ:Kd)(st:ii)(w:Af):Prop:=∃t,PS X st t/\∀(C:Fm) (M:Ch->Prop) (H:Hp) (n:Sg) (ρ:u_ Slot) (Z:L2.St) (D2:E2) (E:Ends),Rel X.K C M H n ρ Z->YT X.K C κ D2 E->w D2 n ρ->t E Z H
def VP(X:Cx)(κ:Kd)(st:u_ ii)(w:Af):Prop:=∃t,PSs X st t/\∀(C:Fm) (M:Ch->Prop) (H:Hp) (n:Sg) (ρ:u_ Slot) (Z:L2.St) (D2:E2) (E:Ends),Rel X.K C M H n ρ Z->YT X.K C κ D2 E->w D2 n ρ->t E Z H
def Au:Af:=λD2 n ρ=>D2.nx n ρ
def Ac(u v:Af):Af:=λD2 n ρ=>u {D2 with nx:=v D2} n ρ
def C1(w:DW):Af:=λD2 n ρ=>w n ρ λ_ n1=>D2.nx n1 ρ
def Aq(w:DW):Af:=λD2 n ρ=>w n ρ λd n1=>D2.rt d n1
def A_(t:Ij)(u v:Af):Af:=λD2 n ρ=>t n ρ λc n1=>if c=s_ then u D2 n1 ρ else v D2 n1 ρ
def A6(i:Nat)(w:DW):Af:=λD2 n ρ=>w n ρ λd n1=>D2.nx n1^ρ.set i^.sh d
section
variable {X:Cx}{κ zR:Kd}{st:Stmt}{rest:u_ Stmt}{u v:Af}{wa:DW}{wA:Ij}{e c:Expr}{pos:Pos}
def Ai:VP X κ [] Au:=#[_,NL,λC M H n ρ Z D2 E R L w=>L.nx M H n ρ Z R w]
def AF(h1:DS X κ st u)(h2:VP X κ rest v):VP X κ (st::rest)^Ac u v:=by
 let#[t,a1,a2]:=h1;let#[t',b1,b2]:=h2;exact#[_,BR a1 b1,λC M H n ρ Z D2 E R L w=>a2 C M H n ρ Z {D2 with nx:=v D2} _ R #[λM H n ρ Z R w=>b2 C M H n ρ Z D2 E R L w,L.rt,L.bk,L.ct] w]
def AI(h1:DS X κ st u):VP X κ [st] u:=by
 let#[t,a1,a2]:=h1;exact#[t,DM a1,a2]
def CF(h:DE X e zR wa)(hs:swapsWith e r_ pos.line X.env=pure t_:=by rfl):DS X κ (.Expr e pos)^C1 wa:=by
 let#[t,a1,a2]:=h;exact#[_,Sq a1 hs,λC M H n ρ Z D2 E R L w=>a2 C M H n ρ Z _ _ R w λv H' d n' e1 f1 r1 p=>L.nx M H' n' ρ Z (R.step e1 f1) p]
def bW{K:Frag}{C:Fm}{M:Ch->Prop}{H H':Hp}{n n':Sg}{ρ:u_ Slot}{Z:L2.St}{D2:E2}{E:Ends}{d:D}{v:V}(R:Rel K C M H n ρ Z)(L:YT K C κ D2 E)(e:Ext C.U H H')(f:FeedC K C.F M H' n')(r:VR K C.V M H H' κ v d)(hk:κ≠.tp)(p:D2.rt d n'):E.rt v H':=by
 have less:Pres M H' _ H':=Pres.less R.sub;refine L.rt v H' d n' (R.ext.trans e) (f.pres less (λ_ _ _ z=>z) λ_ _ z=>z) ?_ p;cases κ with
 |sh=>exact At.pres less r
 |tp=>grind
 |fr=>
  let#[a,e1,h1,h2]:=VR.back R.ext r;exact#[a,e1,h1,h2.pres (Pres.less λb z=>z.imp (R.sub b) id) λ_ z=>z]
def AX(h:DE X e κ wa)(hk:κ≠.tp:=by intro z;cases z):DS X κ (.Return (P3 e) pos)^Aq wa:=by
 let#[t,a1,a2]:=h;exact#[_,Fv a1,λC M H n ρ Z D2 E R L w=>a2 C M H n ρ Z _ _ R w λv H' d n' e1 f1 r1 p=>bW R L e1 f1 r1 hk p]
def Ax{a b:u_ ii}(hc:DT X c wA)(ha:VP X κ a u)(hb:VP X κ b v):DS X κ (.If c a b pos)^A_ wA u v:=by
 let#[t,a1,a2]:=hc;let#[t',b1,b2]:=ha;let#[t'',c1,c2]:=hb;refine#[_,WW a1 b1 c1,λC M H n ρ Z D2 E R L w=>?_];refine a2 C M H n ρ Z _ _ R w λb H1 n1 e1 f1 p=>?_;cases b with
 |true=>exact b2 C M H1 n1 ρ Z D2 E (R.step e1 f1) L p
 |false=>exact c2 C M H1 n1 ρ Z D2 E (R.step e1 f1) L p
def Ar{i:Nat}{x:Str}{pos':Pos}(hN:X.N.Nodup)(hi:X.N[i]?=P3 x)(hx:Loc X.env.scope x)(he:DE X e zR wa)(hk:zR≠.tp:=by intro z;cases z)(hs:swapsWith e (P3^.Name x pos') pos.line X.env=pure t_:=by rfl)
  (hf:X.fn x=s_\/X.env.scope.names.lookup x=P3 .local:=by first|exact .inl rfl|exact .inr rfl|assumption):DS X κ (.Assign [.Name x pos'] e pos)^A6 i wa:=by
 let#[t,a1,a2]:=he;exact#[_,Ec hN hi hx a1 hs hf,λC M H n ρ Z D2 E R L w=>a2 C M H n ρ Z _ _ R w λv H' d n' e1 f1 r1 p=>L.nx M H' n' _ _ ((R.step e1 f1).set^r1.shOf R.dom hk) p]
end
section
variable {X:Cx}{κ:Kd}{e:Expr}{wa:DW}{pos:Pos}
def DH(i:Nat)(w:DW):Af:=λD2 n ρ=>w n ρ λd n1=>D2.nx n1^ρ.set i^.ow d
def Cy{i:Nat}{x:Str}{pos':Pos}(hN:X.N.Nodup)(hi:X.N[i]?=P3 x)(hx:Loc X.env.scope x)(he:DE X e .fr wa)(hs:swapsWith e (P3^.Name x pos') pos.line X.env=pure t_:=by rfl)
  (hf:X.fn x=s_\/X.env.scope.names.lookup x=P3 .local:=by first|exact .inl rfl|exact .inr rfl|assumption):DS X κ (.Assign [.Name x pos'] e pos)^DH i wa:=by
 let#[t,a1,a2]:=he;refine#[_,Ec hN hi hx a1 hs hf,λC M H n ρ Z D2 E R L w=>?_];refine a2 C M H n ρ Z _ _ R w λv H' d n' e1 f1 r1 p=>?_;let#[a,rfl,h1,h2]:=r1;exact L.nx _ H' n' _ _ (R.setOw e1 f1 h1 h2) p
def Vb(i:Nat):Af:=λD2 n ρ=>∃d,ρ[i]?=P3^.ow d/\D2.rt d n
def ZY{x:Str}{p:Pos}(i:Nat)(h:PE X (.Name x p)^B9 i):DS X .fr (.Return (P3^.Name x p) pos)^Vb i:=by
 refine#[_,Fv h,λC M H n ρ Z D2 E R L #[d,hd,hw]=>?_];let#[a,e1,m,nv,t]:=R.sl i _ hd;exact#[_,getD_some e1,L.rt _ H d n R.ext (R.feed.pres (Pres.less R.sub) (λ_ _ _ z=>z) λ_ _ z=>z) #[a,rfl,(R.new i _ a hd rfl e1).2,t.pres (Pres.less λb z=>z.elim (R.sub b) λz=>by grind) λ_ z=>z] hw]
def SF(K:Frag)(r:V->u_ V->Hp->VK->Prop)(f:D->u_ D->(D->D->Prop)->Prop):Prop:=∀(M:Ch->Prop) (H:Hp) (a:Ch) (d:D) (ds:u_ D) (vs:u_ V) (P:D->D->Prop) (Q:VK),M a->Tops K M H a d->Ats K M H ds vs->f d ds P->
 (∀o e z v,Tops K M (Av H a o) a e->At K M (Av H a o) z v->P e z->Q v^Av H a o)->r (.ref a) vs H Q
def SJ(i:Nat)(T:String)(f:D->u_ D->(D->D->Prop)->Prop)(ws:EW):Af:=λD2 n ρ=>∃d,ρ[i]?=P3^.ow d/\gR T d/\ws n ρ λds n1=>f d ds λe _=>D2.nx n1^ρ.set i^.ow e
def CO{M:Ch->Prop}{H:Hp}{a:Ch}{o u:HO}(m:M a)(e:H a=P3 u)(t:∀vs,u≠.tup vs:=by intro _ z;cases z):Pres M H M^Av H a o:=#[λb o' q nb _=>by rw[AO λz=>nb^by simp_all];exact q,λ_ z=>.inl z,λb vs q=>by rw[AO λz=>by grind];exact q,λb o' q=>(lF (b=a)).elim (λz=>#[o,by rw[z,AQ]]) λz=>#[o',by rw[AO z];exact q]]
def Gk{x name:Str}{p apos cpos:Pos}{T id:String}{r:V->u_ V->Hp->VK->Prop}{f:D->u_ D->(D->D->Prop)->Prop}{es:u_ ie}{ws:EW}(i:Nat)(pa:oR T)(slot:PySem.Slot T name id)(hty:typeOf^.builtin id=pure^.type "method_descriptor")
  (hm:am X id r) (hA:SF X.K r f) (h:PE X (.Name x p)^B9 i) (ha:ao X (e::es) ws)
  (hbase:attributeBase (.Name x p) name X.env^eval (.Name x p) X.env=eval (.Name x p) X.env:=by rfl)
  (hfew:((backTo cpos^starEach (e::es) X.env).all (λx=>!x.1)&&(backToKw cpos^keywordEach [] X.env).all (λx=>x.1.isSome)
   && decide ((e::es).length+([]:u_ lC).length+(if([]:u_ lC).isEmpty then 0 else 1)<30))=s_:=by rfl)
  (hline:(apos.endLine==cpos.line)=s_:=by rfl) (hs:starEach (e::es) X.env=(t_,eval e X.env)::starEach es X.env:=by rfl) (hplain:(backTo cpos^starEach es X.env).any (·.1)=t_:=by rfl)
  (hsw:swapsWith (.Call (.Attribute (.Name x p) name apos) (e::es) [] cpos) r_ pos.line X.env=pure t_:=by rfl):
  DS X κ (.Expr (.Call (.Attribute (.Name x p) name apos) (e::es) [] cpos) pos) (SJ i T f ws):=by
 let#[t,a1,a2]:=ha;refine#[_,Sq (aL pa slot hty hm h a1 hbase hfew hline hs hplain) hsw,λC M H n ρ Z D2 E R L #[d,hd,hT,hw]=>?_];let#[a,e1,m,nv,tt]:=R.sl i _ hd;refine#[.ref a,getD_some e1,XR hT^tt.att nv,?_];refine a2 C M H n ρ Z _ _ R hw λvs H1 ds n1 ee f1 r1 p=>?_;have R1:=R.step ee f1;let#[a',e1',m',nv',tt']:=R1.sl i _ hd;rw[e1]at e1';cases e1';exact hA M H1 a d ds vs _ _ m' tt' r1 p λo d' z v t2 hz pp=>L.nx M _ n1 _ Z (R1.mut hd e1 t2) pp
def Hb(d:D)(ds:u_ D)(P:D->D->Prop):Prop:=∃xs y,d=.lst xs/\ds=[y]/\xs.length<sizeLine/\P (.lst (xs++[y])) .non
def Ie{K:Frag}:SF K Si Hb:=by
 intro M H a d ds vs P Q m t hv w q;let#[xs,y,rfl,rfl,hl,w]:=w;let#[us,h1,h2]:=t;let#[u,r,rfl,hu,hr]:=hv;cases(hr);exact#[a,us,u,rfl,rfl,h1,by rw[h2.length];exact hl,q _ (.lst _) .non _ #[_,AQ,(h2.append^Ats.one hu).pres^CO m h1] rfl w]
def fK(d:D)(ds:u_ D)(P:D->D->Prop):Prop:=∃xs ys,d=.lst xs/\ds=[.lst ys]/\xs.length+ys.length<=sizeLine/\P (.lst (xs++ys)) .non
def fT{K:Frag}:SF K Sh fK:=by
 intro M H a d ds vs P Q m t hv w q;let#[xs,ys,rfl,rfl,hl,w]:=w;let#[us,h1,h2]:=t;let#[u,r,rfl,hu,hr]:=hv;cases(hr);let#[b,zs,rfl,hb,hz]:=hu;exact#[a,b,us,zs,rfl,rfl,h1,hb.2,by rw[h2.length,hz.length];exact hl,q _ (.lst _) .non _ #[_,AQ,(h2.append hz).pres^CO m h1] rfl w]
end
def Yields(K:Frag)(M:Ch->Prop)(H:Hp)(J:It)(ds:u_ D):Prop:=∀(i:Nat) (M':Ch->Prop) (H':Hp),Pres M H M' H'->(∀a,M' a->∃o,H' a=P3 o)->
 (∀d,ds[i]?=P3 d->J.go i H'/\∀x H2,J.yld i H' x H2->Grow H' H2/\At K M' H2 d x)/\(ds.length<=i->J.stop i H')
def To(K:Frag)(U M:Ch->Prop)(H:Hp)(J:It)(ds:u_ D):Prop:=∀(i:Nat) (M':Ch->Prop) (H':Hp),Pres M H M' H'->Ext U H H'->(∀a,M' a->∃o,H' a=P3 o)->
 (∀d,ds[i]?=P3 d->J.go i H'/\∀x H2,J.yld i H' x H2->Grow H' H2/\At K M' H2 d x)/\(ds.length<=i->J.stop i H')
def Yields.e{K:Frag}{U M:Ch->Prop}{H:Hp}{J:It}{ds:u_ D}(h:Yields K M H J ds):To K U M H J ds:=λi M' H' p _ d=>h i M' H' p d
def dI(X:Cx)(tg iter:ie)(w:EW):Prop:=∃wi,PI X tg iter wi/\∀(C:Fm) (M:Ch->Prop) (H:Hp) (n:Sg) (ρ:u_ Slot) (Z:L2.St) (P:u_ D->Sg->Prop) (R:It->Hp->Prop),Rel X.K C M H n ρ Z->w n ρ P->
 (∀J H' ds n',Ext C.U H H'->FeedC X.K C.F M H' n'->To X.K C.U M H' J ds->P ds n'->R J H')->wi Z H R
def DI(X:Cx)(tg iter:ie)(w:EW):Prop:=∃wi,PI X tg iter wi/\∀(C:Fm) (M:Ch->Prop) (H:Hp) (n:Sg) (ρ:u_ Slot) (Z:L2.St) (P:u_ D->Sg->Prop) (R:It->Hp->Prop),Rel X.K C M H n ρ Z->w n ρ P->
 (∀J H' ds n',Ext C.U H H'->FeedC X.K C.F M H' n'->Yields X.K M H' J ds->P ds n'->R J H')->wi Z H R
def signs(x:Str):u_ D:=x.cps.toList.map λc=>.str #[#[ c]]
def BM(w:DW):EW:=λn ρ P=>w n ρ λd n1=>match d with
 |.lst ds=>P ds n1
 |.tup ds=>P ds n1
 |.str x=>P (signs x) n1
 |_=>False
def Ob{K:Frag}{M:Ch->Prop}{H:Hp}{a:Ch}{vs:u_ V}{ds:u_ D}(h:NdL M H a vs)(hs:Ats K M H ds vs):Yields K M H (gq K a) ds:=by
 intro i M' H' p _;have hq:SqL K H' a vs:=(h.pres p).sq;refine#[λd hd=>?_,λhl=>#[vs,hq,by rw[hs.length];exact hl]];let#[v,e,hv]:=(hs.pres p).get hd;refine#[#[vs,v,hq,e],λx H2 y=>?_];let#[e2,y]:=y;subst e2
 have:=e.symm.trans^y vs hq
 cases this;exact#[.refl,hv]
def Ja{K:Frag}{M:Ch->Prop}{H:Hp}{a:Ch}{vs:u_ V}{ds:u_ D}(h:NdT M H a vs)(hs:Ats K M H ds vs):Yields K M H (dC K a) ds:=by
 intro i M' H' p _;have hq:SqT K H' a vs:=(h.pres p).sq;refine#[λd hd=>?_,λhl=>#[vs,hq,by rw[hs.length];exact hl]];let#[v,e,hv]:=(hs.pres p).get hd;refine#[#[vs,v,hq,e],λx H2 y=>?_];let#[e2,y]:=y;subst e2
 have:=e.symm.trans^y vs hq
 cases this;exact#[.refl,hv]
def yields_str{K:Frag}{M:Ch->Prop}{H:Hp}{z:Str}:Yields K M H (gp z)^signs z:=by
 intro i M' H' p _;refine#[λd hd=>?_,λhl=>?_]
 .unfold signs at hd
  rw[XV]at hd
  have hi:i<z.cps.size:=by
   cases q:z.cps.toList[i]? with
   |none=>simp_all
   |some c=>simpa using (Uf.mp q).1
  refine#[hi,λx H2 y=>?_];let#[e2,c,hc,rfl]:=y;subst e2
  have:z.cps.toList[i]?=P3 c:=by grind
  rw[this]at hd;have hd':D.str #[#[ c]]=d:=eq hd;subst hd';exact#[.refl,rfl,by rw[i9];show 1<=16777216;decide]
 .show z.cps.size<=i
  unfold signs at hl
  simp_all
def HL(lo:Int)(n:Nat):u_ D:=(i4 n).map fun(i:Nat)=>.int (lo+(i:Int))
def Mo{K:Frag}{M:Ch->Prop}{H:Hp}{lo:Int}{m:Nat}:Yields K M H (fv lo m)^HL lo m:=by
 intro i M' H' p _;refine#[λd hd=>?_,λhl=>?_]
 .unfold HL at hd
  rw[XV]at hd
  have hi:=by
   cases q:(i4 m)[i]? with
   |none=>simp_all
   |some c=>simpa using (Uf.mp q).1
  rw[List.getElem?_range hi]at hd;have hd':=eq hd;subst hd';refine#[hi,λx H2 y=>?_];let#[e2,e3]:=y;subst e2;exact#[.refl,e3]
 .show m<=i
  unfold HL at hl
  simp_all
section
variable {X:Cx}{tg e e2:Expr}{κ:Kd}{wa:DW}{ws:EW}{p pos:Pos}
def Rc(h:DE X e κ wa)(hk:κ≠.tp:=by intro z;cases z):DI X tg e^BM wa:=by
 let#[t,a1,a2]:=h;refine#[_,Wf a1,λC M H n ρ Z P Rr R w q=>?_];refine a2 C M H n ρ Z _ _ R w λv H1 d n1 e1 f1 r1 p=>?_;have hv:=r1.shOf R.dom hk;cases d with
 |lst ds=>
  let#[a,vs,e,hn,hs]:=hv;exact .inl #[a,e,#[vs,hn.sq],q _ H1 ds n1 e1 f1 (Ob hn hs) p]
 |tup ds=>
  let#[a,vs,e,hn,hs]:=hv;exact .inr^.inl #[a,e,#[vs,hn.sq],q _ H1 ds n1 e1 f1 (Ja hn hs) p]
 |str z=>exact .inr^.inr #[z,hv.1,q _ H1 _ n1 e1 f1 yields_str p]
 |_=>exact p.elim
def SI(ws:EW):EW:=λn ρ P=>ws n ρ λds n1=>∃j:Int,ds=[.int j]/\(-(2 ^ 62)<=j/\j<2 ^ 62)/\P (HL 0 j.toNat) n1
def He(hg:Gl X "range")(hm:X.mg "range"=r_)(ha:aq X [e] ws)(hs:starEach [e] X.env=[(t_,eval e X.env)]:=by rfl):DI X tg (.Call (.Name "range" p) [e] [] pos)^SI ws:=by
 let#[t,a1,a2]:=ha;refine#[_,UQ hg hm a1 hs,λC M H n ρ Z P Rr R w q=>?_];refine a2 C M H n ρ Z _ _ R w λvs H1 ds n1 e1 f1 r1 p=>?_;let#[j,rfl,hj,p]:=p;cases r1 with
 |cons r rr=>
  cases rr;exact#[j,by rw[r],hj.1,hj.2,q _ H1 _ n1 e1 f1 Mo p]
def DI.c(h:DI X tg e ws):dI X tg e ws:=by
 let#[wi,a1,a2]:=h;exact#[wi,a1,λC M H n ρ Z P Rr R w q=>a2 C M H n ρ Z P Rr R w λJ H' ds n' e1 f1 y p=>q J H' ds n' e1 f1 y.e p]
def BL(h:DE X e κ wa):dI X tg e^BM wa:=by
 let#[t,a1,a2]:=h;refine#[_,Wf a1,λC M H n ρ Z P Rr R w q=>?_];refine a2 C M H n ρ Z _ _ R w λv H1 d n1 e1 f1 r1 p=>?_;have hv:AtT X.K C.V M H1 d v:=r1.tpOf R.dom R.vM;cases d with
 | lst ds=>
  let#[a,vs,e,nv,hr,hs]:=hv;refine .inl #[a,e,#[vs,.inl hr],q _ H1 ds n1 e1 f1 (λi M' H' pr ex _=>?_) p]
  have hq:SqL X.K H' a vs:=by
   rcases hr with hr|⟨o,hr⟩
   .exact .inl^.inl^ex.keep hr λz=>nv^R.uV a z
   .exact .inl^.inr #[o,ex.keep hr λz=>nv^R.uV a z]
  refine#[λd hd=>?_,λhl=>#[vs,hq,by rw[hs.length];exact hl]];let#[v,e,hv]:=(hs.pres pr).get hd;refine#[#[vs,v,hq,e],λx H2 y=>?_];let#[e2,y]:=y;subst e2
  have:P3 v=P3 x:=e.symm.trans^y vs hq
  cases this;exact#[.refl,hv]
 |tup ds=>
  let#[a,vs,e,hn,hs]:=hv;exact .inr^.inl #[a,e,#[vs,hn.sq],q _ H1 ds n1 e1 f1 (Ja hn hs).e p]
 |str z=>exact .inr^.inr #[z,hv.1,q _ H1 _ n1 e1 f1 yields_str.e p]
 |_=>exact p.elim
end
abbrev BW:=D->u_ Slot->(u_ Slot->Prop)->Prop
def DG(X:Cx)(tg:ie)(b:BW):Prop:=∃g,PG X tg g/\∀(C:Fm) (M:Ch->Prop) (H:Hp) (n:Sg) (ρ:u_ Slot) (Z:L2.St) (d:D) (v:V) (P:u_ Slot->Prop) (Q:L2.St->Hp->Prop),Rel X.K C M H n ρ Z->At X.K M H d v->b d ρ P->
 (∀zX zZ,Rel X.K C M H n zX zZ->P zX->Q zZ H)->g v Z H Q
def Az(i:Nat):BW:=λd ρ P=>P^ρ.set i^.sh d
def Am{X:Cx}{i:Nat}{x:Str}{pos:Pos}(hN:X.N.Nodup)(hi:X.N[i]?=P3 x)(hx:Loc X.env.scope x)(hf:X.fn x=s_\/X.env.scope.names.lookup x=P3 .local:=by first|exact .inl rfl|exact .inr rfl|assumption):DG X (.Name x pos)^Az i:=
 #[_,GV hN hi hx hf,λC M H n ρ Z d v P Q R h w q=>q _ _ (R.set h) w]
def CW(b:BW)(body:Af)(D2:E2):u_ D->Sg->u_ Slot->Prop
 |[],n,ρ=>D2.nx n ρ
 |d::ds,n,ρ=>b d ρ λzS=>body {D2 with nx:=CW b body D2 ds,ct:=CW b body D2 ds,bk:=D2.nx} n zS
def Oe(src:EW)(b:BW)(body:Af):Af:=λD2 n ρ=>src n ρ λds n1=>CW b body D2 ds n1 ρ
def Rel.unpin{K:Frag}{C:Fm}{p:(Ch->Prop)×Hp}{M:Ch->Prop}{H:Hp}{n:Sg}{ρ:u_ Slot}{Z:L2.St}(R:Rel K {C with zF:=p::C.zF} M H n ρ Z):Rel K C M H n ρ Z:=
 #[R.len,R.sub,R.dom,R.ext,R.fU,R.uV,R.vM,R.feed,R.sl,λq hq=>R.pin q^TM _ hq,R.br0,R.new,R.two,R.kept]
def Rel.pinned{K:Frag}{C:Fm}{M:Ch->Prop}{H:Hp}{n:Sg}{ρ:u_ Slot}{Z:L2.St}(R:Rel K C M H n ρ Z):Rel K {C with zF:=(M,H)::C.zF} M H n ρ Z:=
 #[R.len,R.sub,R.dom,R.ext,R.fU,R.uV,R.vM,R.feed,R.sl,λq hq=>(UF.mp hq).elim (λe=>e▸Pres.refl M H)^R.pin q,R.br0,R.new,R.two,R.kept]
section
variable {X:Cx}{κ:Kd}{tg iter:Expr}{body:u_ Stmt}{src:EW}{b:BW}{wb:Af}{pos:Pos}
def F4(hp:ou (model X.prog X.w) X.A X.env X.xe)(hc:X.calm=s_)(hi:DI X tg iter src)(hg:DG X tg b)(hb:VP X κ body wb)
  (hs:∀x,foldedSetIterable iter X.env x=pure x:=by intro _;rfl):DS X κ (.For tg iter body [] pos)^Oe src b wb:=by
 let#[wi,a1,a2]:=hi;let#[g,g1,g2]:=hg;let#[tb,b1,b2]:=hb;refine#[_,NM hp hc a1 g1 b1 hs,λC M H n ρ Z D2 E R L w=>?_];refine a2 C M H n ρ Z _ _ R w λJ H1 ds n1 e1 f1 y w1=>?_;have R1:=R.step e1 f1;refine#[λi m zZ H'=>m=ds.length - i/\i<=ds.length/\∃M' n' zX,Rel X.K {C with zF:=(M,H1)::C.zF} M' H' n' zX zZ/\CW b wb D2 (ds.drop i) n' zX,#[ds.length,by simp,iX _,M,n1,ρ,R1.pinned,w1],?_];rintro i m zZ H' ⟨rfl,hi,M',n',zX,R',w'⟩;have pr:Pres M H1 M' H':=R'.pin (M,H1) On
 by_cases hlt:i<ds.length
 .have ed:ds.drop i=ds[i]::ds.drop (i+1):=jt hlt
  rw[ed]at w';let#[go,yl]:=(y i M' H' pr R'.dom).1 ds[i] (Go hlt);refine .inr #[go,λzM H2=>∃M2 n2 zL,Rel X.K {C with zF:=(M,H1)::C.zF} M2 H2 n2 zL zM/\CW b wb D2 (ds.drop (i+1)) n2 zL,λzM H2 #[M2,n2,zL,R2',w2]=>#[ds.length - (i+1),by lk,rfl,hlt,M2,n2,zL,R2',w2],λx H2 hy=>?_];let#[gr,hx]:=yl x H2 hy;have R2':=R'.step gr.ext^R'.feed.grow gr;refine g2 _ M' H2 n' zX zZ ds[i] x _ _ R2' hx w' λzQ zV R3 w3=>?_;refine b2 _ M' H2 n' zQ zV {D2 with nx:=CW b wb D2^ds.drop (i+1),ct:=CW b wb D2^ds.drop (i+1),bk:=D2.nx} _ R3 #[λM4 H4 n4 zO zP R4 w4=>#[M4,n4,zO,R4,w4],L.rt,λM4 H4 n4 zO zP R4 w4=>L.nx M4 H4 n4 zO zP R4.unpin w4,λM4 H4 n4 zO zP R4 w4=>#[M4,n4,zO,R4,w4]] w3
 .have e:i=ds.length:=by lk
  subst e;rw[og]at w';exact .inl #[(y _ M' H' pr R'.dom).2 (Sc _),L.nx M' H' n' zX zZ R'.unpin w']
end
def GZ(b:BW)(tt:Ij)(te:DW)(P:u_ D->Sg->Prop):u_ D->u_ D->Sg->u_ Slot->Prop
 |[],acc,n,_=>P acc n
 |d::ds,acc,n,ρ=>b d ρ λzS=>tt n zS λc n1=>if c=s_ then te n1 zS λy n2=>GZ b tt te P ds (acc++[y]) n2 zS else GZ b tt te P ds acc n1 zS
def XB:Slot->Slot
 |.ow d=>.br d
 |.lt _ d=>.br d
 |s=>s
def Up(s:Slot):(XB s).owns=t_:=by cases s <;>rfl
def EA{js:u_^v_ Nat}{ρ:u_ Slot}{i:Nat}{s:Slot}(h:(js.map λo=>match o with|some i=>XB^(ρ[i]?).getD .no|none=>Slot.no)[i]?=P3 s):s.owns=t_:=by
 rw[XV]at h;cases q:js[i]? with
 |none=>grind
 | some o=>
  rw[q]at h;cases o with
  |none=>
   rw[←eq h];rfl
  |some j=>
   rw[←eq h];exact Up _
def Gb(js:u_^v_ Nat)(ρ:u_ Slot):u_ Slot:=js.map λo=>match o with
 |some i=>XB^(ρ[i]?).getD .no
 |none=>.no
def Bl(js:u_^v_ Nat)(src:EW)(b:BW)(tt:Ij)(te:DW):DW:=λn ρ P=>src n ρ λds n1=>ds.length<=10000000/\GZ b tt te (λacc n2=>P (.lst acc) n2) ds [] n1^Gb js ρ
def dH(X:Cx)(ifs:u_ ie)(w:Ij):Prop:=∃t,fc X ifs t/\∀(C:Fm) (M:Ch->Prop) (H:Hp) (n:Sg) (ρ:u_ Slot) (Z:L2.St) (P:Bool->Sg->Prop) (Q:Bool->Hp->Prop),Rel X.K C M H n ρ Z->w n ρ P->
 (∀b H' n',Ext C.U H H'->FeedC X.K C.F M H' n'->P b n'->Q b H')->t Z H Q
def Il:Ij:=λn _ P=>P s_ n
def Cf{X:Cx}:dH X [] Il:=#[_,Yz,λC M H n ρ Z P Q R w q=>q _ H n (Ext.refl _ _) R.feed w]
def CS{X:Cx}{c:ie}{w:Ij}(h:DT X c w):dH X [c] w:=by
 let#[t,h1,h2]:=h;exact#[t,Yy h1,h2]
def MM{js:u_^v_ Nat}{ρ:u_ Slot}{Z:L2.St}{i:Nat}{s:Slot}(hs:(Gb js ρ)[i]?=P3 s):s=.no\/∃(j:Nat) (s':Slot),ρ[j]?=P3 s'/\s=XB s'/\((Cb js Z)[i]?).getD r_=(Z[j]?).getD r_:=by
 unfold Gb at hs;unfold Cb;rw[XV]at hs ⊢;cases q:js[i]? with
 |none=>simp_all
 | some o=>
  rw[q]at hs;cases o with
  |none=>simp_all
  | some j=>
   have e:XB _=s:=eq hs;cases q2:ρ[j]? with
   |none=>rw[q2]at e;exact .inl e.symm
   |some s'=>
    rw[q2]at e;exact .inr #[j,s',q2,e.symm,rfl]
def Pf{K:Frag}{F:v_ (Ch×Ch)}{U U' M M':Ch->Prop}{H H':Hp}{js:u_^v_ Nat}{ρ:u_ Slot}{Z:L2.St}(hsl:∀(i:Nat) (s:Slot),ρ[i]?=P3 s->SlotOk K F U M H s^(Z[i]?).getD r_)
  (pr:Pres M H M' H') (br:∀d v,AtT K U M H d v->AtT K U' M' H' d v):∀(i:Nat) (s:Slot),(Gb js ρ)[i]?=P3 s->SlotOk K F U' M' H' s^((Cb js Z)[i]?).getD r_:=by
 intro i s hs
 rcases MM hs with rfl|⟨j,s',q,rfl,e⟩
 .trivial
 .rw[e]
  have h1:=hsl j s' q;cases s' with
  |no=>trivial
  |sh d=>let#[v,e1,h2]:=h1;exact#[v,e1,h2.pres pr]
  |ex a nm ks ds=>let#[e1,h2]:=h1;exact#[e1,h2.pres pr]
  |br d=>let#[v,e1,h2]:=h1;exact#[v,e1,br d v h2]
  |fd=>exact h1
  |ow d=>let#[a,e1,_,nv,t]:=h1;exact#[_,e1,br d _^t.att nv]
  |lt a d=>let#[e1,_,nv,t]:=h1;exact#[_,e1,br d _^t.att nv]
def S5{K:Frag}{F:v_ (Ch×Ch)}{U M:Ch->Prop}{H:Hp}{js:u_^v_ Nat}{ρ:u_ Slot}{Z:L2.St}(hsl:∀(i:Nat) (s:Slot),ρ[i]?=P3 s->SlotOk K F U M H s^(Z[i]?).getD r_){i:Nat}{d:D}{a:Ch}
  (hs:(Gb js ρ)[i]?=P3^.br d) (ha:((Cb js Z)[i]?).getD r_=P3^.ref a):∃o,H a=P3 o:=by
 rcases MM hs with z|⟨j,s',q,z,e⟩
 .cases z
 .rw[e]at ha
  have h1:=hsl j s' q;rw[ha]at h1;cases s' with
  |br d=>let#[v,e1,h2]:=h1;cases e1;exact h2.lies
  |ow d=>let#[b,e1,_,nv,t]:=h1;cases e1;exact(t.att nv).lies
  |lt b d=>let#[e1,_,nv,t]:=h1;cases e1;exact(t.att nv).lies
  |no=>cases z
  |sh d=>cases z
  |ex a nm ks ds=>cases z
  |fd=>cases z
section
variable {X:Cx}{zR:Kd}{tg elt iter:Expr}{ifs:u_ Expr}{sc:Scope}{pos:Pos}{src:EW}{b:BW}{tt:Ij}{te:DW}
def Ze(hc:X.calm=s_)(N':u_ Str)(js:u_^v_ Nat)(hi:dI X tg iter src)(hg:∀cl C s H fp,DG (Ay X sc N' cl C s H fp) tg b)(ht:∀cl C s H fp,dH (Ay X sc N' cl C s H fp) ifs tt)(he:∀cl C s H fp,DE (Ay X sc N' cl C s H fp) elt zR te)
  (hB:Gs sc X.env.scope X.N N' js=s_) (hk:zR≠.tp:=by intro z;cases z)
  (hs:∀x,foldedSetIterable iter X.env x=pure x:=by intro _;rfl):DE X (.ListComp elt [#[tg,iter,ifs,0]] sc pos) .fr^Bl js src b tt te:=by
 let#[wi,a1,a2]:=hi;refine#[_,Y6 hc N' js a1 hB hs,λC M H n ρ Z P Q R w q=>?_];refine a2 C M H n ρ Z _ _ R w λJ H1 ds n1 e1 f1 y w1=>?_;let#[hlen,w1]:=w1;have R1:=R.step e1 f1;intro l hl hkl cl Ca s0 H0 fp;let#[g,g1,g2]:=hg cl Ca s0 H0 fp;let#[tc,c1,c2]:=ht cl Ca s0 H0 fp;let#[tx,x1,x2]:=he cl Ca s0 H0 fp
 have noU:¬C.U l:=λz=>by
  let#[o,z]:=R1.udom l z;rw[hl]at z;cases z
 generalize hM':(λb=>M b\/b=l)=M';have M'l:M' l:=by rw[←hM'];exact .inr rfl
 have M'of:∀b,M b->M' b:=λb z=>by rw[←hM'];exact .inl z
 have ofM':∀b,M' b->M b\/b=l:=λb z=>by rw[←hM']at z;exact z
 have inV:∀b,C.V b\/b=l->M' b:=λb z=>z.elim (λz=>M'of b^R1.vM b z) λz=>by rw[z];exact M'l
 have lenj:js.length=N'.length:=Em (CompOk.of hB).cap
 refine#[g,tc,tx,λi m zZ H'=>m=ds.length - i/\i<=ds.length/\∃n' zX acc vs,Rel X.K #[M',C.F,C.U,λb=>C.V b\/b=l,H1,[],[]] M' H' n' zX zZ/\H' l=P3^.lst vs/\Ats X.K M' H' acc vs/\acc.length<=i/\Pres M H1 M' H' /\
   GZ b tt te (λacc n2=>P (.lst acc) n2) (ds.drop i) acc n' zX,g1,c1,x1,#[ds.length,by simp,iX _,n1,Gb js ρ,[],[],?_],?_]
 .have gr:Grow H1^Av H1 l^.lst []:=Ap hl
  have pr:Pres M H1 M'^Av H1 l^.lst []:=#[λb o e _ _=>gr.all b o e,λb z=>(ofM' b z).elim .inl λz=>.inr (by rw[z];exact hl),λb vs e=>gr.all b _ e,λb o e=>#[o,gr.all b o e]];refine#[#[?_,λa z=>z,λa z=>?_,gr.ext,R1.fU,λa z=>.inl^R1.uV a z,inV,f1.pres pr (λf o _ e=>gr.all f.1 o e) λa u e=>gr.all a _ e,?_,λp hp=>absurd hp^by simp,λi d a q z=>S5 R1.sl q z,λi s a q o _=>absurd o (by rw[EA q];decide),λi j s t a q o _ _ _ _=>absurd o (by rw[EA q];decide),λp hp=>absurd hp^by simp],AQ,rfl,iX _,pr,w1]
  .unfold Gb Cb
   rw[Ev,Ev]
  .rcases ofM' a z with z|z
   .let#[o,z]:=R1.dom a z
    exact#[o,gr.all a o z]
   .subst z
    exact#[_,AQ]
  .refine Pf R1.sl pr λd v h=>h.same pr (λa o _ e=>gr.all a o e) λa e n1 z=>z.elim n1 λz=>?_
   subst e;let#[o,w]:=h.lies;rw[z,hl]at w;cases w
 .rintro i m zZ H' ⟨rfl,hi,n',zX,acc,vs,R',hlv,hac,hal,pr,w'⟩
  by_cases hlt:i<ds.length
  .have ed:ds.drop i=ds[i]::ds.drop (i+1):=jt hlt
   rw[ed]at w';let#[go,yl]:=(y i M' H' pr R'.ext R'.dom).1 ds[i] (Go hlt);refine .inr #[go,λx H2 hy=>?_];let#[gr,hx]:=yl x H2 hy;have R2':=R'.step gr.ext^R'.feed.grow gr;refine g2 _ M' H2 n' zX zZ ds[i] x _ _ R2' hx w' λzQ zV R3 w3=>?_;refine c2 _ M' H2 n' zQ zV _ _ R3 w3 λc H4 n4 e4 f4 w4=>?_;have R4:=R3.step e4 f4;have p4:Pres M' H' M' H4:=gr.pres.trans^R3.pres e4;have l4:H4 l=P3^.lst vs:=e4.keep (gr.all _ _ hlv) noU;cases c with
   |false=>exact#[ds.length - (i+1),by lk,rfl,hlt,n4,zQ,acc,vs,R4,l4,hac.pres p4,by lk,pr.trans p4,w4]
   | true=>
    refine x2 _ M' H4 n4 zQ zV _ _ R4 w4 λyv H5 d5 n5 e5 f5 r5 w5=>?_;have R5:=R4.step e5 f5;have p5:Pres M' H4 M' H5:=R4.pres e5;have l5:H5 l=P3^.lst vs:=e5.keep l4 noU;have hy5:=r5.shOf R4.dom hk;have a5:=(hac.pres p4).pres p5;have pu:Pres M' H5 M'^Av H5 l^.lst (vs++[yv]):=CO M'l l5;have hvl:vs.length=acc.length:=hac.length;refine#[vs,l5,by rw[i9];lk,ds.length - (i+1),by lk,rfl,hlt,n5,zQ,acc++[d5],vs++[yv],?_,AQ,(a5.append^Ats.one hy5).pres pu,by rw[iT,jC];lk,(pr.trans p4).trans^p5.trans pu,w5];refine#[R5.len,R5.sub,λa z=>?_,λb o e=>?_,R5.fU,R5.uV,R5.vM,?_,λj s hs=>?_,λp hp=>absurd hp^by simp,R5.br0,R5.new,R5.two,λp hp=>absurd hp^by simp]
    .by_cases ha:a=l
     .subst ha;exact#[_,AQ]
     .rw[AO ha];exact R5.dom a z
    .let#[o',q1,q2]:=R5.ext b o e
     by_cases hb:b=l
     .subst hb
      have e':H1 b=P3 o:=e;rw[hl]at e';cases e'
     .exact#[o',by rw[AO hb];exact q1,q2]
    .refine f5.pres pu (λf o hf e=>?_) λa u e=>by rw[AO λz=>by rw[z,l5]at e;cases e];exact e
     rw[AO λz=>noU^by rw[←z];exact R1.fU f hf];exact e
    .have hs5:=R5.sl j s hs
     cases s with
     |no=>trivial
     |sh d=>let#[v,e1,h2]:=hs5;exact#[v,e1,h2.pres pu]
     |ex a nm ks ds=>let#[e1,h2]:=hs5;exact#[e1,h2.pres pu]
     | br d=>
      let#[v,e1,h2]:=hs5;refine#[v,e1,h2.same pu (λa o z e=>?_) λ_ _ z=>z];subst z;let#[o3,w]:=R5.br0 j d a hs e1
      have hal:a≠l:=λz=>by
       have w':H1 a=P3 o3:=w;rw[z,hl]at w';cases w'
      rw[AO hal];exact e
     |ow d=>
      let#[a,e1,h2,_]:=hs5;exact absurd h2 (R5.new j _ a hs rfl e1).1
     |lt a d=>
      let#[e1,h2,_]:=hs5;exact absurd h2 (R5.new j _ a hs rfl e1).1
     |fd=>exact hs5
  .have e:i=ds.length:=by lk
   subst e;rw[og]at w';refine .inl #[(y _ M' H' pr R'.ext R'.dom).2 (Sc _),?_];have eb:Ext C.U H1 H':=R'.ext;have less:Pres M' H' M H':=Pres.less M'of;refine q _ H' (.lst acc) n' (e1.trans eb) (R'.feed.pres less (λ_ _ _ z=>z) λ_ _ z=>z) (VR.back e1 ?_) w';exact#[l,rfl,hl,vs,hlv,by rw[hM'];exact hac]
end
def T8{K:Frag}{F:v_ (Ch×Ch)}{U V' M:Ch->Prop}{H:Hp}{n:Sg}{ss:u_ Slot}{vs:u_ V}{N:u_ Str}(h:fZ K F U V' M H n ss vs)(hl:vs.length<=N.length):
  Rel K #[M,F,U,V',H,[],[]] M H n (ss++Tk (N.length - ss.length) .no) (L2.start N vs):=by
 let#[dom,fU,uV,vM,fd,pa]:=h;have el:vs.length=ss.length:=Paired.length pa
 have go:∀{vs:u_ V}{ss:u_ Slot}{i:Nat}{s:Slot},Paired (E3 K F V' M H) vs ss->ss[i]?=P3 s->∃v,vs[i]?=P3 v/\E3 K F V' M H v s:=by
  intro vs ss i s pa
  induction pa generalizing i with
  |nil=>intro e;simp at e
  | cons r t ih=>
   intro e;cases i with
   |zero=>simp at e;subst e;exact#[_,rfl,r]
   |succ i=>
    let#[v,e1,h1]:=ih (i:=i) (by simpa using e);exact#[v,by simpa using e1,h1]
 have at_:∀(i:Nat) (s:Slot),(ss++Tk (N.length - ss.length) Slot.no)[i]?=P3 s->s=.no\/∃v,((L2.start N vs)[i]?).getD r_=P3 v/\E3 K F V' M H v s:=by
  intro i s hs
  by_cases hi:i<ss.length
  .rw[kI hi]at hs
   let#[v,e1,h1]:=go pa hs;refine .inr #[v,?_,h1];unfold L2.start;rw[kI (by rw[Ev,el];exact hi),XV,e1];rfl
  .rw[jY^by lk,mV]at hs
   split at hs
   .exact .inl (eq hs).symm
   .cases hs
 refine#[?_,λa z=>z,dom,Ext.refl _ _,fU,uV,vM,fd,λi s hs=>?_,λp hp=>absurd hp^by simp,λi d a hs ha=>?_,λi s a hs o _=>?_,λi j s t a hs o _ _ _ _=>?_,λp hp=>absurd hp^by simp]
 .unfold L2.start
  simp only[iT,Ev,pB];lk
 .rcases at_ i s hs with rfl|⟨v,e,h⟩
  .trivial
  .rw[e];exact h.1
 .rcases at_ i _ hs with z|⟨v,e,h⟩
  .cases z
  .rw[e]at ha
   cases ha;let#[v,e1,h1]:=h.1;cases e1;exact h1.lies
 .rcases at_ i s hs with rfl|⟨v,e,h⟩
  .cases o
  .rw[h.2]at o;cases o
 .rcases at_ i s hs with rfl|⟨v,e,h⟩
  .cases o
  .rw[h.2]at o;cases o
def g0{P:ic}{w:ip}{K:Frag}{mg:Str->v_ Db}{base:iQ}{x qual:Str}{st:ii}{f:Ch}{fd:jK}{N ps:u_ Str}{k:Nat}{κ:Kd}{W:W2}{wb:Af}(F:Fun K x qual st f fd)(S:AY N ps^AJ st)(hNp:ps.length<=N.length)
  (hb:∀(cdv:Db) (A:i5) (outer:u_ Env) (s:No) (H:Hp) (E:XK),Room k^A.deeper^envOfC qual (AJ st) s.heap.objs.size f cdv->VP (Kw GC P w K mg base N qual (AJ st) f cdv A outer s H E).nox κ (Be st) wb)
  (hW:∀ss n Pd,ss.length=ps.length->W ss n Pd->wb {nx:=λn _=>κ=.sh/\Pd .non n,rt:=Pd} n (ss++Tk (N.length - ps.length) .no)):
  FnOk P w K mg base GC (k+1) f fd ps (T6 K κ W ps.length):=by
 refine F.ok S (λvs H Q E h=>h.1) λcdv A outer s H vs Q E hr h=>?_;let#[hl,F0,U,V',M,n,ss,Pd,ra,hw,q]:=h;let#[t,t1,t2]:=hb cdv A outer s H E hr;refine#[t,t1,?_];have el:vs.length=ss.length:=Paired.length ra.2.2.2.2.2;have R:=T8 (N:=N) ra (by lk);refine t2 #[M,F0,U,V',H,[],[]] M H n _ _ {nx:=λn _=>κ=.sh/\Pd .non n,rt:=Pd} _ R #[λM1 H1 n1 zS zJ R1 p=>?_,λv H1 d n1 e1 f1 r1 p=>q v H1 d n1 e1 f1 r1 p,λ_ _ _ _ _ _ z=>z.elim,λ_ _ _ _ _ _ z=>z.elim] ?_
 .let#[hk,p]:=p
  subst hk;exact q .non H1 .non n1 R1.ext (R1.feed.pres (Pres.less R1.sub) (λ_ _ _ z=>z) λ_ _ z=>z) rfl p
 grind
end Dp
namespace L2
section
variable {X:Cx}
def Inv.rdl{zF:u_ (Ch×Obj)}{Z:L2.St}{H:Hp}{s:No}{l:Ch}{xs:u_ V}(I:Inv X zF Z H s)(h:Rd H l^.lst xs):xs.length<=sizeLine/\∃(its:u_ Db) (n:Nat),Vals xs its/\xs.length=its.length/\s.heap.get? l=P3 {cls:=.type "list",data:=.seq its.toArray n}:=by
 let#[z,its,n,r,e]:=h.ok I.hok;exact#[z,_,n,r,r.length,e]
def ZA:OpR X (binaryOp .Add) (λx y H Q=>∃l b xs zs,x=.ref l/\y=.ref b/\Rd H l^.lst xs/\Rd H b^.lst zs/\xs.length+zs.length<=sizeLine/\∀p,H p=r_->Q (.ref p)^Av H p^.lst (xs++zs)):=by
 intro zF s Z H x y v u Q I rx ry h;let#[l,b,xs,zs,rfl,rfl,hH,hB,hz,q]:=h;cases rx;cases ry;let#[z,its,n,r,hl,e]:=I.rdl hH;let#[z2,its2,n2,r2,hl2,e2]:=I.rdl hB;refine PySem.P.add_list e e2 ?_ (by grind);have ea:its.toArray++its2.toArray=(its++its2).toArray:=by simp
 rw[ea];exact#[.ref _,_,I.lnew (r.append r2)^by grind,rfl,q _ I.fresh]
end
end L2
namespace Dp
open L2
section
variable {K:Frag}
def AtT.int{U M:Ch->Prop}{H:Hp}{i:Int}{v:V}(h:AtT K U M H (.int i) v):v=.int i:=h
def AtT.bl{U M:Ch->Prop}{H:Hp}{i:Bool}{v:V}(h:AtT K U M H (.bl i) v):v=.bl i:=h
def AtT.str{U M:Ch->Prop}{H:Hp}{x:Str}{v:V}(h:AtT K U M H (.str x) v):v=.str x/\x.length<=sizeLine:=h
def AtT.tup{U M:Ch->Prop}{H:Hp}{ds:u_ D}{v:V}(h:AtT K U M H (.tup ds) v):∃a vs,v=.ref a/\NdT M H a vs/\Ats K M H ds vs:=h
def fq(g:Int->Int->(D->Prop)->Prop)(d e:D)(P:D->Prop):Prop:=match d,e with
 |.int i,.int j=>g i j P
 |_,_=>False
def Nu{g:Int->Int->(D->Prop)->Prop}{d e:D}{P:D->Prop}(w:fq g d e P):∃i j,d=.int i/\e=.int j/\g i j P:=by
 unfold fq at w
 split at w
 .grind
 grind
def f2(g:Int->Int->D):D->D->(D->Prop)->Prop:=fq λi j P=>P^g i j
def Ya(C:Int->Int->Prop)(g:Int->Int->D):D->D->(D->Prop)->Prop:=fq λi j P=>C i j/\P^g i j
def YJ{g:Int->Int->Int}:D3 K .sh (Iq λi j=>.int^g i j) (f2 λi j=>.int^g i j):=by
 intro U M H d e x y P Q dom vM hx hy w q;let#[i,j,rfl,rfl,w]:=Nu w;exact#[i,j,hx,hy,q _ H (.int _) .refl rfl w]
def Rx{g:Int->Int->Bool}:D3 K .sh (Iq λi j=>.bl^g i j) (f2 λi j=>.bl^g i j):=by
 intro U M H d e x y P Q dom vM hx hy w q;let#[i,j,rfl,rfl,w]:=Nu w;exact#[i,j,hx,hy,q _ H (.bl _) .refl rfl w]
def Eu{C:Int->Int->Prop}{g:Int->Int->Int}:D3 K .sh (rI C λi j=>.int^g i j) (Ya C λi j=>.int^g i j):=by
 intro U M H d e x y P Q dom vM hx hy w q;let#[i,j,rfl,rfl,w]:=Nu w;exact#[i,j,hx,hy,w.1,q _ H (.int _) .refl rfl w.2]
def dO(g:Str->Str->(D->Prop)->Prop)(d e:D)(P:D->Prop):Prop:=match d,e with
 |.str i,.str j=>g i j P
 |_,_=>False
def TK{g:Str->Str->(D->Prop)->Prop}{d e:D}{P:D->Prop}(w:dO g d e P):∃i j,d=.str i/\e=.str j/\g i j P:=by
 unfold dO at w
 split at w
 .grind
 grind
def Rt{g:Str->Str->Bool}:D3 K .sh (λx y H Q=>∃i j,x=.str i/\y=.str j/\Q (.bl^g i j) H) (dO λi j P=>P^.bl^g i j):=by
 intro U M H d e x y P Q dom vM hx hy w q;let#[i,j,rfl,rfl,w]:=TK w;exact#[i,j,hx.1,hy.1,q _ H (.bl _) .refl rfl w]
def VF:D3 K .sh (λx y H Q=>∃i j,x=.str i/\y=.str j/\i.length+j.length<=sizeLine/\Q (.str (i++j)) H) (dO λi j P=>i.length+j.length<=sizeLine/\P^.str (i++j)):=by
 intro U M H d e x y P Q dom vM hx hy w q;let#[i,j,rfl,rfl,w]:=TK w;exact#[i,j,hx.1,hy.1,w.1,q _ H (.str _) .refl #[rfl,by rw[Str.length_append i j];exact w.1] w.2]
def gY(g:u_ D->u_ D->(D->Prop)->Prop)(d e:D)(P:D->Prop):Prop:=match d,e with
 |.tup i,.tup j=>g i j P
 |_,_=>False
def gZ(g:u_ D->u_ D->(D->Prop)->Prop)(d e:D)(P:D->Prop):Prop:=match d,e with
 |.lst i,.lst j=>g i j P
 |_,_=>False
def ZQ{g:u_ D->u_ D->(D->Prop)->Prop}{d e:D}{P:D->Prop}(w:gY g d e P):∃i j,d=.tup i/\e=.tup j/\g i j P:=by
 unfold gY at w
 split at w
 .grind
 grind
def ZR{g:u_ D->u_ D->(D->Prop)->Prop}{d e:D}{P:D->Prop}(w:gZ g d e P):∃i j,d=.lst i/\e=.lst j/\g i j P:=by
 unfold gZ at w
 split at w
 .grind
 grind
def C9{M:Ch->Prop}{H:Hp}{p:Ch}{vs:u_ V}{ds:u_ D}(dom:∀a,M a->∃o,H a=P3 o)(hp:H p=r_)(h:Ats K M H ds vs):At K M (Av H p^.tup vs) (.tup ds)^.ref p:=#[p,vs,rfl,AQ,h.pres (Ap hp).pres]
def B4{U M:Ch->Prop}{H:Hp}{p:Ch}{vs:u_ V}{ds:u_ D}(hp:H p=r_)(h:Ats K M H ds vs):VR K U M H (Av H p^.lst vs) .fr (.ref p)^.lst ds:=
 #[p,rfl,hp,vs,AQ,h.pres^F2 hp]
def VE:D3 K .sh (WO K) (gY λi j P=>i≠[]/\i.length+j.length<=sizeLine/\P^.tup (i++j)):=by
 intro U M H d e x y P Q dom vM hx hy w q;let#[i,j,rfl,rfl,w]:=ZQ w;let#[a,vs,rfl,ha,hs]:=hx.tup;let#[b,us,rfl,hb,ht]:=hy.tup;have l1:=hs.length;have l2:=ht.length;refine#[a,b,vs,us,rfl,rfl,ha.sq,hb.sq,λz=>w.1 ?_,by simp_all,λz=>?_,λz p hp=>?_]
 .rw[z]at l1;exact lJ.mp l1.symm
 .rw[z]at l2
  have:j=[]:=lJ.mp l2.symm
  subst this;exact q _ H (.tup i) .refl #[a,vs,rfl,ha,hs]^by grind
 .exact q _ _ (.tup (i++j)) (Ap hp) (C9 dom hp^hs.append ht) w.2.2
def VG:D3 K .fr (λx y H Q=>∃l b xs zs,x=.ref l/\y=.ref b/\Rd H l^.lst xs/\Rd H b^.lst zs/\xs.length+zs.length<=sizeLine/\∀p,H p=r_->Q (.ref p)^Av H p^.lst (xs++zs)) (gZ λi j P=>i.length+j.length<=sizeLine/\P^.lst (i++j)):=by
 intro U M H d e x y P Q dom vM hx hy w q;let#[i,j,rfl,rfl,w]:=ZR w;let#[a,vs,rfl,_,ha,hs]:=hx;let#[b,us,rfl,_,hb,ht]:=hy;exact#[a,b,vs,us,rfl,rfl,ha,hb,by rw[hs.length,ht.length];exact w.1,λp hp=>q _ _ _ (Ap hp) (B4 hp^hs.append ht) w.2]
def FN(neg:Bool)(d e:D)(P:D->Prop):Prop:=match d,e with
 |.bl i,.bl j=>P^.bl (if neg then !(i==j)else i==j)
 |.int i,.int j=>P^.bl (if neg then !(i==j)else i==j)
 |.str i,.str j=>P^.bl (if neg then !(i==j)else i==j)
 |_,_=>False
def TN{neg:Bool}{d e:D}{P:D->Prop}(w:FN neg d e P):(∃i j,d=.bl i/\e=.bl j/\P^.bl (if neg then !(i==j)else i==j))\/(∃i j,d=.int i/\e=.int j/\P^.bl (if neg then !(i==j)else i==j))\/∃i j,d=.str i/\e=.str j/\P^.bl (if neg then !(i==j)else i==j):=by
 unfold FN at w
 split at w
 .simp_all
 .simp_all
 .simp_all
 grind
def DC:D3 K .sh gz^FN t_:=by
 intro U M H d e x y P Q dom vM hx hy w q
 rcases TN w with⟨i,j,rfl,rfl,w⟩|⟨i,j,rfl,rfl,w⟩|⟨i,j,rfl,rfl,w⟩
 .rw[hx.bl,hy.bl];exact#[rfl,q _ H _ .refl (by rw[N1];rfl) w]
 .rw[hx.int,hy.int];exact#[rfl,q _ H _ .refl (by rw[JR];rfl) w]
 .rw[hx.str.1,hy.str.1];exact#[rfl,q _ H _ .refl (by rw[JQ];rfl) w]
def cu:D3 K .sh gw^FN s_:=by
 intro U M H d e x y P Q dom vM hx hy w q
 rcases TN w with⟨i,j,rfl,rfl,w⟩|⟨i,j,rfl,rfl,w⟩|⟨i,j,rfl,rfl,w⟩
 .rw[hx.bl,hy.bl];exact#[rfl,q _ H _ .refl (by rw[N1];rfl) w]
 .rw[hx.int,hy.int];exact#[rfl,q _ H _ .refl (by rw[JR];rfl) w]
 .rw[hx.str.1,hy.str.1];exact#[rfl,q _ H _ .refl (by rw[JQ];rfl) w]
def XS:D->Bool
 |.non=>s_
 |_=>t_
def Pn{U M:Ch->Prop}{H:Hp}{d:D}{x:V}(h:AtT K U M H d x):decide (x=.non)=XS d:=by
 cases d with
 |non=>rw[h];rfl
 |bl b=>rw[h.bl];rfl
 |int i=>rw[h.int];rfl
 |str z=>rw[h.str.1];rfl
 |tup ds=>let#[a,vs,rfl,_]:=h.tup;rfl
 |lst ds=>let#[a,vs,rfl,_]:=h;rfl
 |dic ks ds=>let#[a,vs,rfl,_]:=h;rfl
 |fdi ks ds=>let#[a,vs,rfl,_]:=h;rfl
 |dit ks ds=>let#[a,vs,rfl,_]:=h;rfl
 |ob a=>let#[rfl,_]:=h;rfl
def A2(d e:D)(P:D->Prop):Prop:=match d,e with
 |.lst ds,.int i=>∃z,atI ds i=P3 z/\P z
 |.tup ds,.int i=>∃z,atI ds i=P3 z/\P z
 |.str x,.int i=>∃c,atI x.cps.toList i=P3 c/\P^.str #[#[ c]]
 |_,_=>False
def ZS{d e:D}{P:D->Prop}(w:A2 d e P):(∃ds i z,d=.lst ds/\e=.int i/\atI ds i=P3 z/\P z)\/(∃ds i z,d=.tup ds/\e=.int i/\atI ds i=P3 z/\P z)\/∃x i c,d=.str x/\e=.int i/\atI x.cps.toList i=P3 c/\P^.str #[#[ c]]:=by
 unfold A2 at w
 split at w
 .simp_all
 .simp_all
 .simp_all
 grind
theorem Ats.atI{M:Ch->Prop}{H:Hp}{ds:u_ D}{vs:u_ V}{i:Int}{z:D}(h:Ats K M H ds vs)(e:atI ds i=P3 z):∃v,L2.atI vs i=P3 v/\At K M H z v:=by
 unfold L2.atI at e ⊢;rw[h.length];cases q:YZ _ i with
 |none=>grind
 |some j=>
  rw[q]at e;exact h.get e
def Ak:D3 K .sh (gx K) A2:=by
 intro U M H d e x y P Q dom vM hx hy w q
 rcases ZS w with⟨ds,i,z,rfl,rfl,hz,w⟩|⟨ds,i,z,rfl,rfl,hz,w⟩|⟨x,i,c,rfl,rfl,hc,w⟩
 .let#[a,vs,rfl,_,ha,hs]:=hx
  let#[v,hv,hAt]:=hs.atI hz;exact .inl #[a,vs,i,v,rfl,hy,.inl ha,hv,q v H z .refl hAt w]
 .let#[a,vs,rfl,ha,hs]:=hx.tup
  let#[v,hv,hAt]:=hs.atI hz;exact .inr^.inl #[a,vs,i,v,rfl,hy,ha.sq,hv,q v H z .refl hAt w]
 .exact .inr^.inr #[x,i,c,hx.str.1,hy,hx.str.2,hc,q _ H (.str _) .refl #[rfl,by show 1<=16777216;decide] w]
def cutD{α:Type}(xs:u_ α)(lo hi:v_ Int):u_ α:=(xs.drop^HT.sIx xs.length 0 lo).take (HT.sIx xs.length xs.length hi - HT.sIx xs.length 0 lo)
def CV{R:V->D->Prop}{vs:u_ V}{d:D}(h:Paired R vs [d]):∃v,vs=[v]/\R v d:=by
 cases h with
 |cons r t=>cases t;grind
def gN:D->v_ Nat
 |.str x=>P3 x.length
 |.tup xs=>P3 xs.length
 |.lst xs=>P3 xs.length
 |_=>r_
def B5(ds:u_ D)(P:D->Prop):Prop:=∃d n,ds=[d]/\gN d=P3 n/\P^.int (n:Int)
def Bt:B6 K .sh (λxs H Q=>∃x n,xs=[x]/\dB K x H n/\Q (.int n) H) B5:=by
 intro U M H ds vs P Q dom vM hp w q;let#[d,n,rfl,hn,w]:=w;let#[v,rfl,hx]:=CV hp;refine#[v,n,rfl,?_,q _ H (.int _) .refl rfl w];cases d with
 |str z=>cases hn;rw[hx.str.1];exact#[hx.str.2,rfl]
 |tup xs=>
  cases hn;let#[a,us,rfl,ha,hs]:=hx.tup;exact .inr #[us,ha.sq,hs.length.symm]
 |lst xs=>
  cases hn;let#[a,us,rfl,_,ha,hs]:=hx;exact .inl #[us,.inl ha,hs.length.symm]
 |_=>cases hn
def allB:u_ D->v_^u_ Bool
 |[]=>P3 []
 |.bl b::r=>(allB r).map (b::·)
 |_::_=>r_
theorem Ti{M:Ch->Prop}{H:Hp}:∀{ds:u_ D}{vs:u_ V}{bs:u_ Bool},allB ds=P3 bs->Ats K M H ds vs->vs=bs.map V.bl
 |[],vs,bs,e,h=>by cases e;exact h
 |.bl b::r,vs,bs,e,h=>by
  let#[v,r',e1,h1,h2]:=h;let#[bs',e2,rfl]:=io.mp e;rw[e1,Ti e2 h2,h1];rfl
 |.non::r,vs,bs,e,h=>by cases e
 |.int _::r,vs,bs,e,h=>by cases e
 |.str _::r,vs,bs,e,h=>by cases e
 |.tup _::r,vs,bs,e,h=>by cases e
 |.lst _::r,vs,bs,e,h=>by cases e
 |.dic _ _::r,vs,bs,e,h=>by cases e
 |.fdi _ _::r,vs,bs,e,h=>by cases e
 |.dit _ _::r,vs,bs,e,h=>by cases e
def U1(ds:u_ D)(P:D->Prop):Prop:=∃xs bs,ds=[.lst xs]/\allB xs=P3 bs/\P^.bl^bs.all id
def YL:B6 K .sh (λxs H Q=>∃(p:Ch) (bs:u_ Bool),xs=[.ref p]/\SqL K H p^bs.map V.bl/\Q (.bl^bs.all id) H) U1:=by
 intro U M H ds vs P Q dom vM hp w q;let#[xs,bs,rfl,e,w]:=w;let#[v,rfl,hx]:=CV hp;let#[a,us,rfl,_,ha,hs]:=hx
 have:=Ti e hs
 subst this;exact#[a,bs,rfl,.inl ha,q _ H (.bl _) .refl rfl w]
def Rp:u_ D->v_^u_ Str
 |[]=>P3 []
 |.str b::r=>(Rp r).map (b::·)
 |_::_=>r_
theorem Tg{M:Ch->Prop}{H:Hp}:∀{ds:u_ D}{vs:u_ V}{bs:u_ Str},Rp ds=P3 bs->Ats K M H ds vs->vs=bs.map V.str
 |[],vs,bs,e,h=>by cases e;exact h
 |.str b::r,vs,bs,e,h=>by
  let#[v,r',e1,h1,h2]:=h;let#[bs',e2,rfl]:=io.mp e;rw[e1,Tg e2 h2,h1.1];rfl
 |.non::r,vs,bs,e,h=>by cases e
 |.int _::r,vs,bs,e,h=>by cases e
 |.bl _::r,vs,bs,e,h=>by cases e
 |.tup _::r,vs,bs,e,h=>by cases e
 |.lst _::r,vs,bs,e,h=>by cases e
 |.dic _ _::r,vs,bs,e,h=>by cases e
 |.fdi _ _::r,vs,bs,e,h=>by cases e
 |.dit _ _::r,vs,bs,e,h=>by cases e
def RZ(ds:u_ D)(P:D->Prop):Prop:=match ds with
 |[.lst xs]=>P^.lst xs
 |[.tup xs]=>P^.lst xs
 |_=>False
def Zs:B6 K .fr (λxs H Q=>∃p ys,xs=[.ref p]/\(SqL K H p ys\/SqT K H p ys)/\∀l,H l=r_->Q (.ref l)^Av H l^.lst ys) RZ:=by
 intro U M H ds vs P Q dom vM hp w q;unfold RZ at w
 split at w
 .let#[v,rfl,hx]:=CV hp
  let#[a,us,rfl,_,ha,hs]:=hx;exact#[a,us,rfl,.inl^.inl ha,λl hl=>q _ _ _ (Ap hl) (B4 hl hs) w]
 .let#[v,rfl,hx]:=CV hp
  let#[a,us,rfl,ha,hs]:=hx.tup;exact#[a,us,rfl,.inr ha.sq,λl hl=>q _ _ _ (Ap hl) (B4 hl hs) w]
 grind
end
def dX:D->String
 |.non=>"NoneType"
 |.bl _=>"bool"
 |.int _=>"int"
 |.str _=>"str"
 |.tup _=>"tuple"
 |.lst _=>"list"
 |.dic _ _=>"dict"
 |.fdi _ _=>"dict"
 |.dit _ _=>"dict"
 |.ob _=>""
def e9:D->(String->Prop)->Prop
 |.ob _,_=>False
 |d,k=>k^dX d
def Nm{d:D}{k:String->Prop}(h:e9 d k):(∀a,d≠.ob a)/\k^dX d:=by
 cases d <;>first|exact h.elim|exact#[(λ_ z=>by cases z),h]
def e_(t T:String):Bool:=t==T||(t=="bool"&&T=="int")
def Tw(T:String)(wa:DW):DW:=λn ρ P=>wa n ρ λd n1=>e9 d λt=>P (.bl^e_ t T) n1
structure YU (K:Frag) (T:String):Prop where
 ans:∀t∈["NoneType","bool","int","str","tuple","list","dict"],PySem.W.kitOne K (.type t)^.type T=P3^e_ t T
def Ye{K:Frag}{M U:Ch->Prop}{H:Hp}{d:D}{x:V}(h:AtT K U M H d x)(no:∀a,d≠.ob a):GB K H x^.type^dX d:=by
 cases d with
 |non=>cases(h);exact .non
 |bl b=>cases h.bl;exact .bl b
 |int i=>cases h.int;exact .int i
 |str z=>cases h.str.1;exact .str z
 |tup ds=>
  let#[a,vs,rfl,ha,hs]:=h.tup;exact .tup ha
 |lst ds=>
  let#[a,vs,rfl,_,ha,hs]:=h
  rcases ha with ha|⟨o,ha⟩
  .exact .lst ha
  .exact .frz ha
 |dic ks ds=>
  let#[a,vs,rfl,_,ha,_]:=h;exact .dK ha
 |fdi ks ds=>
  let#[a,vs,rfl,#[o,_,ha],_]:=h;exact .dF ha
 |dit ks ds=>
  let#[a,vs,rfl,_,ha,_]:=h;exact .dT ha
 |ob a=>exact absurd rfl (no a)
def Yf(d:D)(no:∀a,d≠.ob a):dX d∈["NoneType","bool","int","str","tuple","list","dict"]:=by cases d <;>first|exact absurd rfl (no _)|simp[dX]
def Ku{X:Cx}{a:ie}{κ:Kd}{wa:DW}{T:String}{Tn:Str}{p p2 pos:Pos}(kt:YU X.K T)(ha:DE X a κ wa)(hg:Gl X "isinstance")(hm:X.mg "isinstance"=r_)(hgT:Gl X Tn)(hmT:X.mg Tn=r_)(hvT:bootBuiltins Tn=P3^.type T)
  (hnT:Tn ≠ "__name__":=by decide) (hdT:(Tn==("__debug__":Str))=t_:=by decide)
  (he:starEach [a,.Name Tn p2] X.env=(t_,eval a X.env)::starEach [.Name Tn p2] X.env:=by rfl) (he2:starEach [.Name Tn p2] X.env=[(t_,eval (.Name Tn p2) X.env)]:=by rfl)
  (hpl:(backTo pos^starEach [.Name Tn p2] X.env).any (·.1)=t_:=by rfl):DE X (.Call (.Name "isinstance" p) [a,.Name Tn p2] [] pos) .sh^Tw T wa:=by
 let#[t,h1,h2]:=ha;have pT:PE X (.Name Tn p2)^tC^.ty T:=Y8 hgT hmT hvT rfl hnT hdT;exact#[_,GW QC hg hm (by decide +kernel) (B7 h1 (B7 pT C5 he2) he) (by cbv) (by cbv) he hpl,λC M H n ρ Z P Q R w q=>h2 C M H n ρ Z _ _ R w λv H1 d n1 e1 f1 r1 p=>#[v,T,_,_,rfl,Ye (r1.tpOf R.dom R.vM) (Nm p).1,kt.ans _^Yf d (Nm p).1,q _ H1 (.bl _) n1 e1 f1 rfl (Nm p).2]]
section
variable {K:Frag}{X:Cx}
def aT(d e:D)(P:D->Prop):Prop:=match d,e with
 |.int i,.int j=>P^.int (i+j)
 |.str i,.str j=>i.length+j.length<=sizeLine/\P^.str (i++j)
 |.tup i,.tup j=>i≠[]/\i.length+j.length<=sizeLine/\P^.tup (i++j)
 |.lst i,.lst j=>i.length+j.length<=sizeLine/\P^.lst (i++j)
 |_,_=>False
def eT:R2:=λx y H Q=>∃l b xs zs,x=.ref l/\y=.ref b/\Rd H l^.lst xs/\Rd H b^.lst zs/\xs.length+zs.length<=sizeLine/\∀p,H p=r_->Q (.ref p)^Av H p^.lst (xs++zs)
def eS:R2:=λx y H Q=>∃i j,x=.str i/\y=.str j/\i.length+j.length<=sizeLine/\Q (.str (i++j)) H
def WF(g:Str->Str->Bool):R2:=λx y H Q=>∃i j,x=.str i/\y=.str j/\Q (.bl^g i j) H
def WP(K:Frag):R2:=λx y H Q=>(Iq λi j=>.int (i+j)) x y H Q\/eS x y H Q\/WO K x y H Q\/eT x y H Q
def op_addU:OpR X (binaryOp .Add)^WP X.K:=op_add.or^(RF).or^op_catT.or^ZA
def OF:D3 X.K .sh (WP X.K) aT:=λU M H d e x y P Q dom vM hx hy w q=>by
 unfold aT at w
 split at w
 .exact .inl^YJ U M H _ _ x y P Q dom vM hx hy w q
 .exact .inr^.inl^VF U M H _ _ x y P Q dom vM hx hy w q
 .exact .inr^.inr^.inl^VE U M H _ _ x y P Q dom vM hx hy w q
 .exact .inr^.inr^.inr^VG U M H _ _ x y P Q dom vM hx hy w λv H' z g r p=>q v H' z g (r.shOf dom^by grind) p
 grind
def fJ(d e:D)(P:D->Prop):Prop:=match d,e with
 |.int i,.int j=>P^.bl (decide (i<j))
 |.str i,.str j=>P^.bl (decide (i.cps.toList<j.cps.toList))
 |_,_=>False
def bZ:R2:=λx y H Q=>(Iq λi j=>.bl (decide (i<j))) x y H Q\/WF (λi j=>decide (i.cps.toList<j.cps.toList)) x y H Q
def op_ltU:OpR X (compareOp .Lt) bZ:=op_lt.or UW
def aj:D3 X.K .sh bZ fJ:=λU M H d e x y P Q dom vM hx hy w q=>by
 unfold fJ at w
 split at w
 .exact .inl^Rx U M H _ _ x y P Q dom vM hx hy w q
 .exact .inr^Rt U M H _ _ x y P Q dom vM hx hy w q
 grind
def Kp(d e:D)(P:D->Prop):Prop:=match d,e with
 |.int i,.int j=>P^.bl (decide (i<=j))
 |.str i,.str j=>P^.bl (!(decide (j.cps.toList<i.cps.toList)))
 |_,_=>False
def eK:R2:=λx y H Q=>(Iq λi j=>.bl (decide (i<=j))) x y H Q\/WF (λi j=>!(decide (j.cps.toList<i.cps.toList))) x y H Q
def D9:OpR X (compareOp .LtE) eK:=op_le.or UX
def G4:D3 X.K .sh eK Kp:=λU M H d e x y P Q dom vM hx hy w q=>by
 unfold Kp at w
 split at w
 .exact .inl^Rx U M H _ _ x y P Q dom vM hx hy w q
 .exact .inr^Rt U M H _ _ x y P Q dom vM hx hy w q
 grind
def eP:R2:=Iq λi j=>.bl (decide (j<i))
def KL:OpR X (compareOp .Gt) eP:=aM
def QQ:D3 X.K .sh eP (f2 λi j=>.bl (decide (j<i))):=Rx
def eO:R2:=WF λi j=>!(jW j i 0 j.length 1).isEmpty
def b9:OpR X (compareOp .In) eO:=UY
def fR:D3 X.K .sh eO (dO λi j P=>P^.bl (!(jW j i 0 j.length 1).isEmpty)):=Rt
def eA:V->v_ Int->v_ Int->Hp->VK->Prop:=λx lo hi H Q=>∃z,x=.str z/\z.length<=sizeLine/\Q (.str^Txt.slice z lo hi) H
def sl_U:SlR X eA:=bS
def bA(w:DW):DW:=λn ρ P=>w n ρ λd n1=>∃i,d=.int i/\P (.int (-i)) n1
def X2{a:ie}{κ:Kd}{wa:DW}{pos:Pos}(h:DE X a κ wa):DE X (.UnaryOp .USub a pos) .sh^bA wa:=by
 let#[t,h1,h2]:=h;refine#[_,eV bC h1,λC M H n ρ Z P Q R w q=>?_];refine h2 C M H n ρ Z _ _ R w λv H1 d n1 e1 f1 r1 p=>?_;let#[i,rfl,p]:=p;exact#[i,RU r1,q _ H1 (.int _) n1 e1 f1 rfl p]
def Got(P:ic)(w:ip)(K:Frag)(mg:Str->v_ Db)(base:iQ)(x:Str)(k:Nat)(ps:u_ Str)(κ:Kd)(W:W2):Prop:=
 ∃f fd,FnOk P w K mg base GC k f fd ps^T6 K κ W ps.length/\mg x=P3^.ref f/\keepIn K^.ref f=s_/\Binds K fd ps []/\∀ss n P,W ss n P->ss.length=ps.length
def X7{e:ie}{es:u_ ie}{k:Nat}{ps:u_ Str}{κ:Kd}{W:W2}{x:Str}{p pos:Pos}{was:VO}(G:Got X.prog X.w X.K X.mg X.base x k ps κ W)
  (hr:Room k X.A) (hg:Gl X x) (ha:Zx X (e::es) was)
  (hdb:(x==("__debug__":Str))=t_:=by decide) (he:starEach (e::es) X.env=(t_,eval e X.env)::starEach es X.env:=by rfl) (hpl:(backTo pos^starEach es X.env).any (·.1)=t_:=by rfl):
  DE X (.Call (.Name x p) (e::es) [] pos) κ (Ae W was):=by
 let#[f,fd,G,hm,hk,hb,hW]:=G;exact Zf G hW hr hg hm hk hb ha hdb he hpl
def ZK:YU K "int":=#[λt ht=>by
 simp at ht
 rcases ht with rfl|rfl|rfl|rfl|rfl|rfl|rfl <;>kernel_rfl]
def XN:YU K "bool":=#[λt ht=>by
 simp at ht
 rcases ht with rfl|rfl|rfl|rfl|rfl|rfl|rfl <;>kernel_rfl]
def S6:YU K "str":=#[λt ht=>by
 simp at ht
 rcases ht with rfl|rfl|rfl|rfl|rfl|rfl|rfl <;>kernel_rfl]
def kit_tuple:YU K "tuple":=#[λt ht=>by
 simp at ht
 rcases ht with rfl|rfl|rfl|rfl|rfl|rfl|rfl <;>kernel_rfl]
end
theorem K9{α:Type}(p:α->Bool):∀l:u_ α,allB (l.map λc=>.bl^p c)=P3^l.map p
 |[]=>rfl
 |a::l=>by
  rw[iZ];unfold allB;rw[K9 p l];rfl
def X_{b1 b2:Bool}{P:D->Sg->Prop}{n:Sg}{k:(D->Sg->Prop)->Prop}(hk:b1=s_->P (.bl b2) n->k P)(h:P (.bl (b1&&b2)) n):(match (.bl b1:D)with|.bl s_=>k P|.bl t_=>P (.bl t_) n|_=>False):=by
 cases b1 with
 |false=>exact h
 |true=>grind
def O1(K:Frag):Sp:=λvs H Q _=>∃a ns,vs=[V.ref a]/\(mi (α:=Int) ns<=63/\SqL K H a^ns.map V.int)/\∀H',Q (.bl s_) H'
def Mt(K:Frag):Sp:=λvs H Q _=>∃a ns,vs=[V.ref a]/\(mi (α:=Int) ns<=63/\SqL K H a^ns.map V.int) /\
 ∀(c f:Ch) (H':Hp),c≠f->H' c=P3^.lst^ns.map V.int->H' f=P3^.lst [.ref c,.int 0,.int 0]->Q (.ref f) H'
def fO{ns:u_ Int}(h:ns.length<=63):P7 (ns.map V.int) r_^P3 63=ns.map V.int:=by
 have e:HT.sIx (ns.map V.int).length (ns.map V.int).length^P3 63=ns.length:=by
  rw[show(63:Int)=(63:Nat)from rfl,HT.sIx_nat,Ev,Nat.min_eq_right h]
 unfold P7;rw[HT.sIx_none]
 grind
theorem ML{b:BW}{body:Af}{D2:E2}(I:Nat->Sg->u_ Slot->Prop)(hend:∀n ρ,I 0 n ρ->D2.nx n ρ)
  (hstep:∀(k:Nat) (d:D) (n:Sg) (ρ:u_ Slot) (nx:Sg->u_ Slot->Prop),I (k+1) n ρ->(∀n' zX,I k n' zX->nx n' zX)->b d ρ λzS=>body {D2 with nx:=nx,ct:=nx,bk:=D2.nx} n zS):
  ∀(ds:u_ D) (n:Sg) (ρ:u_ Slot),I ds.length n ρ->CW b body D2 ds n ρ
 |[],n,ρ,h=>hend n ρ h
 |d::ds,n,ρ,h=>hstep _ d n ρ _ h λn' zX h'=>ML I hend hstep ds n' _ h'
def fH{P:ic}{w:ip}{K:Frag}{mg:Str->v_ Db}{base:iQ}{st s1:ii}{rest:u_ ii}{f:Ch}{fd:jK}{Nr:u_ Str}{k n0:Nat}{wb:Af}(F:Fun K "law" "law" st f fd)
  (S:AY ("_law_script"::"_law_feed_here"::Nr) ["_law_script"]^AJ st) (hbd:Be st=s1::rest) (hn0:n0<=2 ^ 60)
  (h1:∀(cdv:Db) (A:i5) (outer:u_ Env) (s:No) (H:Hp) (E:XK),Room k^A.deeper^envOfC "law" (AJ st) s.heap.objs.size f cdv->
   PS (Kw GC P w K mg base ("_law_script"::"_law_feed_here"::Nr) "law" (AJ st) f cdv A outer s H E).nox s1 (Ow (SS (Mt K) [] E0^SR (B9 0) T4)^IU 1))
  (h2:∀(cdv:Db) (A:i5) (outer:u_ Env) (s:No) (H:Hp) (E:XK),Room k^A.deeper^envOfC "law" (AJ st) s.heap.objs.size f cdv->
   VP (Kw GC P w K mg base ("_law_script"::"_law_feed_here"::Nr) "law" (AJ st) f cdv A outer s H E).nox .sh rest wb)
  (hW:wb {nx:=λ_ _=>False,rt:=λd _=>d=.bl s_} #[n0,λ_=>r_] (.no::.fd::Tk Nr.length .no)):FnOk P w K mg base GC (k+1) f fd ["_law_script"]^O1 K:=by
 refine F.ok S (λvs H Q E h=>?_) λcdv A outer s H vs Q E hr h=>?_
 .let#[a,ns,rfl,_]:=h
  rfl
 .let#[a,ns,rfl,#[hl,hS],q]:=h
  let#[t,t1,t2]:=h2 cdv A outer s H E hr;refine#[T3 (Ow (SS (Mt K) [] E0^SR (B9 0) T4)^IU 1) t,by rw[hbd];exact BR (h1 cdv A outer s H E hr) t1,?_];refine#[_,rfl,a,ns,rfl,#[hl,hS],λc g H' hcg hc hg=>?_]
  have at_:∀(i:Nat) (sl:Slot),(Slot.no::Slot.fd::Tk Nr.length Slot.no)[i]?=P3 sl->Slot.no=sl\/(Slot.fd=sl/\i=1):=by
   intro i sl hs
   match i,hs with
   |0,hs=>exact .inl^eq hs
   |1,hs=>exact .inr #[eq hs,rfl]
   |i+2,hs=>
    rw[mW,mW,mV]at hs
    split at hs
    .exact .inl^eq hs
    .cases hs
  have R:Rel K #[λb=>b=g,P3 (g,c),λb=>b=g,λb=>b=g,H',[],[]] (λb=>b=g) H' #[n0,λ_=>r_] (.no::.fd::Tk Nr.length .no)^(start ("_law_script"::"_law_feed_here"::Nr) [V.ref a]).set 1^P3^.ref g:=by
   refine#[by simp[L2.start],λ_ z=>z,λb z=>#[_,(congrArg H' z).trans hg],Ext.refl _ _,λb z=>by rw[←eq z],λ_ z=>z,λ_ z=>z,#[λb z=>?_,λa c z=>by cases z],λi sl hs=>?_,λp hp=>absurd hp^by simp,λi d b hs _=>?_,λi sl b hs o _=>?_,λi j sl t b hs o _ _ _ _=>?_,λp hp=>absurd hp^by simp]
   .have e:(g,c)=b:=eq z
    subst e;exact#[0,0,ns,hg,hcg,#[hcg,hc],hl,by cbv,by show(0:Int)+(n0:Int)<=2 ^ 60;lk]
   .rcases at_ i sl hs with e|⟨e,rfl⟩
    .rw[←e];trivial
    .rw[←e]
     exact#[(g,c),by simp[L2.start],rfl]
   .rcases at_ i _ hs with e|⟨e,_⟩ <;>cases e
   .rcases at_ i sl hs with e|⟨e,_⟩ <;>(rw[←e]at o;cases o)
   .rcases at_ i sl hs with e|⟨e,_⟩ <;>(rw[←e]at o;cases o)
  refine t2 _ _ H' #[n0,λ_=>r_] _ _ {nx:=λ_ _=>False,rt:=λd _=>d=.bl s_} _ R #[λ_ _ _ _ _ _ z=>z.elim,λv H2 d n' _ _ r p=>?_,λ_ _ _ _ _ _ z=>z.elim,λ_ _ _ _ _ _ z=>z.elim] hW;have e:d=.bl s_:=p;subst e;have e2:v=.bl s_:=r;subst e2;exact q H2
end Dp
namespace L2
section
variable {X:Cx}
theorem CK:∀{us:u_ Db}{ys:u_ Str},StrsAre us ys->Vals (ys.map V.str) us
 |_,_,.nil=>.nil
 |_,_,.cons x t r=>.cons #[t,rfl]^CK r
def WK(K:Frag):u_ V->Hp->VK->Prop:=λxs H Q=>∃(p:Ch) (ss:u_ Str),xs=[.ref p]/\SqL K H p^ss.map V.str/\ss.length<64/\∀(ss':u_ Str) (l:Ch),ss'.Perm ss->sortedS ss'=s_->H l=r_->Q (.ref l)^Av H l^.lst^ss'.map V.str
def K1:CallR X (.builtin "sorted")^WK X.K:=by
 intro zF s Z H xs us Q I r h;let#[p,ss,rfl,hq,h64,q]:=h;let#[u,rfl,rx]:=vals1 r;cases rx;let#[its,r',pl,hz]:=I.list hq;have hlen:=r'.length;rw[Ev]at hlen;refine sorted_strs pl.isList (Ji r') (by lk) λout ss' a1 a2 a3=>?_;let#[e,he]:=sortedAll_at _ _ _;have hl':=a2.length_eq;have hn:=I.hok.fresh^jP _;refine#[.ref _,_,I.laid (λb o z=>sortedAll_old z) (jP _) (show ObjOk _ _ _ _ _^.lst _ from#[?_,_,e,CK a1,?_]),rfl,q _ _ a2 a3 hn]
 .grind
 .exact he
def aC:R2:=λx y H Q=>∃z k,x=.str z/\y=.int k/\MulOk z k/\Q (.str^Txt.mul z k) H
def Y_:OpR X (binaryOp .Mult) aC:=by
 intro zF s Z H x y v u Q I rx ry h;let#[z,k,rfl,rfl,hm,q]:=h;let#[t,rfl]:=rx;let#[t',rfl]:=ry;exact SB.mul hm λt' k=>#[.str _,H,I.tok _,#[_,rfl],q]
end
end L2
namespace Dp
open L2
section
variable {K:Frag}
def CD(ds:u_ D)(P:D->Prop):Prop:=match ds with
 |[.lst xs]=>P^.tup xs
 |[.tup xs]=>P^.tup xs
 |_=>False
def CB:B6 K .sh (λxs H Q=>∃p ys,xs=[.ref p]/\((SqL K H p ys/\∀l,H l=r_->Q (.ref l)^Av H l^.tup ys)\/(SqT K H p ys/\Q (.ref p) H))) CD:=by
 intro U M H ds vs P Q dom vM hp w q;unfold CD at w
 split at w
 .let#[v,rfl,hx]:=CV hp
  let#[a,us,rfl,_,ha,hs]:=hx;exact#[a,us,rfl,.inl #[.inl ha,λl hl=>q _ _ (.tup _) (Ap hl) (C9 dom hl hs) w]]
 .let#[v,rfl,hx]:=CV hp
  let#[a,us,rfl,ha,hs]:=hx.tup;exact#[a,us,rfl,.inr #[ha.sq,q _ H (.tup _) .refl #[a,us,rfl,ha,hs] w]]
 grind
theorem Ats.strs{M:Ch->Prop}{H:Hp}:∀{ss:u_ Str},(∀x∈ss,x.length<=sizeLine)->Ats K M H (ss.map D.str)^ss.map V.str
 |[],_=>rfl
 |x::r,h=>#[_,_,rfl,#[rfl,h x On],Ats.strs λy hy=>h y^TM _ hy]
theorem Ats.strs_le{M:Ch->Prop}{H:Hp}:∀{ss:u_ Str}{vs:u_ V},Ats K M H (ss.map D.str) vs->∀x∈ss,x.length<=sizeLine
 |[],_,_=>λx hx=>by cases hx
 |y::r,vs,h=>λx hx=>by
  let#[v,t,e,h1,h2]:=h
  rcases UF.mp hx with rfl|hx
  .exact h1.2
  .exact Ats.strs_le h2 x hx
def RY(ds:u_ D)(P:D->Prop):Prop:=∃(xs:u_ D) (ss:u_ Str),ds=[.lst xs]/\Rp xs=P3 ss/\ss.length<64/\∀ss':u_ Str,ss'.Perm ss->sortedS ss'=s_->P^.lst^ss'.map .str
theorem Th:∀{xs:u_ D}{ss:u_ Str},Rp xs=P3 ss->xs=ss.map .str
 |[],ss,h=>by cases h;rfl
 |.str b::r,ss,h=>by
  let#[t,e,rfl]:=io.mp h;rw[iZ,←Th e]
 |.non::r,ss,h=>by cases h
 |.int _::r,ss,h=>by cases h
 |.bl _::r,ss,h=>by cases h
 |.tup _::r,ss,h=>by cases h
 |.lst _::r,ss,h=>by cases h
 |.dic _ _::r,ss,h=>by cases h
 |.fdi _ _::r,ss,h=>by cases h
 |.dit _ _::r,ss,h=>by cases h
 |.ob _::r,ss,h=>by cases h
def Tj:B6 K .fr (WK K) RY:=by
 intro U M H ds vs P Q dom vM hp w q;let#[xs,ss,rfl,e,h64,w]:=w;let#[v,rfl,hx]:=CV hp;let#[a,us,rfl,_,ha,hs]:=hx
 have:=Tg e hs
 subst this;have e2:=Th e;subst e2;exact#[a,ss,rfl,.inl ha,h64,λss' l h1 h2 hl=>q _ _ _ (Ap hl) (B4 hl^Ats.strs λx hx=>hs.strs_le x^h1.mem_iff.mp hx)^w _ h1 h2]
def Pr(d e:D)(P:D->Prop):Prop:=match d,e with
 |.int i,.int j=>CMul i j/\P^.int (i*j)
 |.str z,.int k=>MulOk z k/\(Txt.mul z k).length<=sizeLine/\P^.str^Txt.mul z k
 |_,_=>False
def aE:R2:=λx y H Q=>(rI CMul λi j=>.int (i*j)) x y H Q\/aC x y H Q
def NQ{X:Cx}:OpR X (binaryOp .Mult) aE:=op_mul.or Y_
def Ru:D3 K .sh aE Pr:=λU M H d e x y P Q dom vM hx hy w q=>by
 unfold Pr at w
 split at w
 .exact .inl^Eu U M H _ _ x y P Q dom vM hx hy w q
 .rename_i z k
  exact .inr #[z,k,hx.1,hy,w.1,q _ H (.str _) .refl #[rfl,w.2.1] w.2.2]
 grind
end
section
variable {X:Cx}{tg e:Expr}{es:u_ Expr}{p pos:Pos}
def fw(X:Cx)(ts:u_ ie)(b:u_ D->u_ Slot->(u_ Slot->Prop)->Prop):Prop:=∃g,fe X ts g/\∀(C:Fm) (M:Ch->Prop) (H:Hp) (n:Sg) (ρ:u_ Slot) (Z:L2.St) (ds:u_ D) (vs:u_ V) (P:u_ Slot->Prop) (Q:L2.St->Hp->Prop),Rel X.K C M H n ρ Z->Ats X.K M H ds vs->b ds ρ P->
 (∀zX zZ,Rel X.K C M H n zX zZ->P zX->Q zZ H)->g vs Z H Q
def Gv:u_ D->u_ Slot->(u_ Slot->Prop)->Prop:=λds ρ P=>ds=[]/\P ρ
def Br(b:BW)(bs:u_ D->u_ Slot->(u_ Slot->Prop)->Prop):u_ D->u_ Slot->(u_ Slot->Prop)->Prop:=λds ρ P=>match ds with
 |d::r=>b d ρ λzS=>bs r zS P
 |[]=>False
def FH:fw X [] Gv:=#[_,Sv,λC M H n ρ Z ds vs P Q R h w q=>by
 let#[rfl,w]:=w;exact#[h,q ρ Z R w]]
def Bc{b:BW}{bs:u_ D->u_ Slot->(u_ Slot->Prop)->Prop}(h1:DG X e b)(h2:fw X es bs)(hs:(assignEach (e::es) X.env).map (·.2)=assign e X.env::(assignEach es X.env).map (·.2):=by rfl):fw X (e::es)^Br b bs:=by
 let#[g,a1,a2]:=h1;let#[g',b1,b2]:=h2;refine#[_,GU a1 b1 hs,λC M H n ρ Z ds vs P Q R h w q=>?_];cases ds with
 |nil=>exact w.elim
 |cons d r=>
  let#[v,vr,e,hv,hr]:=h;exact#[v,vr,e,a2 C M H n ρ Z d v _ _ R hv w λzX zZ R' w'=>b2 C M H n _ _ r vr _ _ R' hr w' q]
def N9(k:Nat)(bs:u_ D->u_ Slot->(u_ Slot->Prop)->Prop):BW:=λd ρ P=>match d with
 |.tup ds=>ds.length=k/\bs ds ρ P
 |_=>False
def Hf{bs:u_ D->u_ Slot->(u_ Slot->Prop)->Prop}{k:Nat}{j:Nat}(hc:X.calm=s_)(h:fw X es bs)(hn:(assignEach es X.env).length=k:=by rfl)(hst:(assignEach es X.env).findIdx? (·.1)=r_:=by rfl):DG X (.Tuple es j pos)^N9 k bs:=by
 let#[g,a1,a2]:=h;refine#[_,Wg hc a1 hn hst,λC M H n ρ Z d v P Q R h w q=>?_];cases d with
 |tup ds=>
  let#[a,vs,rfl,hq,hs]:=h;exact#[a,vs,rfl,hq.sq,by rw[hs.length];exact w.1,a2 C M H n ρ Z ds vs P Q R hs w.2 q]
 |_=>exact w.elim
def dU(wa:DW)(b:BW):Af:=λD2 n ρ=>wa n ρ λd n1=>b d ρ λzS=>D2.nx n1 zS
def ce{κ zR:Kd}{wa:DW}{b:BW}(he:DE X e zR wa)(hg:DG X tg b)(hk:zR≠.tp:=by intro z;cases z)(hs:swapsWithSole [tg] e pos.line X.env=pure t_:=by rfl)(hw:swappedStores [tg] e X.env=pure r_:=by rfl)
  (h1:(assignEach [tg] X.env).map (·.2)=[assign tg X.env]:=by rfl):DS X κ (.Assign [tg] e pos)^dU wa b:=by
 let#[t,a1,a2]:=he;let#[g,g1,g2]:=hg;exact#[_,NN a1 g1 hs hw h1,λC M H n ρ Z D2 E R L w=>a2 C M H n ρ Z _ _ R w λv H' d n' e1 f1 r1 p=>g2 C M H' n' ρ Z d v _ _ (R.step e1 f1) (r1.shOf R.dom hk) p λzX zZ R' w'=>L.nx M H' n' _ _ R' w']
end
end Dp
namespace L2
mutual
def RV(H:Hp):mN->V->Prop
 |.none,v=>v=.non
 |.bool b,v=>v=.bl b
 |.int i,v=>v=.int i
 |.str x,v=>v=.str x
 |.tuple xs,v=>∃a vs,v=.ref a/\H a=P3^.tup vs/\RVs H xs vs
 |.list xs,v=>∃a vs,v=.ref a/\Rd H a^.lst vs/\RVs H xs vs
 |.dict _,_=>False
def RVs(H:Hp):u_ mN->u_ V->Prop
 |[],vs=>vs=[]
 |x::xs,vs=>∃v r,vs=v::r/\RV H x v/\RVs H xs r
end
section
variable {X:Cx}{zF:u_ (Addr×Obj)}{Z:L2.St}{H:Hp}{s:Shared}
mutual
theorem RV.reads(I:Inv X zF Z H s):∀{d:mN}{v:V}{u:Db},RV H d v->RelV v u->∃as,Reads s.heap u d as
 |.none,v,u,h,r=>by
  cases(show v=.non from h);cases(show u=iu from r);exact#[_,.none]
 |.bool b,v,u,h,r=>by
  cases(show v=.bl b from h);cases(show u=lM b from r);exact#[_,.bool b]
 |.int i,v,u,h,r=>by
  cases(show v=.int i from h);let#[t,rfl]:=r;exact#[_,.int i t]
 |.str x,v,u,h,r=>by
  cases(show v=.str x from h);let#[t,rfl]:=r;exact#[_,.str x t]
 |.tuple xs,v,u,h,r=>by
  let#[a,vs,rfl,hq,hs]:=h;cases r;let#[its,rv,#[o,e,c,n,d],_]:=I.tuple (X:=X) (xs:=vs)^.inl^.inl hq;let#[as,ra]:=RVs.reads I hs rv;exact#[_,.tuple e c d ra]
 |.list xs,v,u,h,r=>by
  let#[a,vs,rfl,hq,hs]:=h;cases r;let#[its,rv,pl,_]:=I.list (X:=X) (xs:=vs)^.inl hq;let#[o,e,c,n,d]:=pl.isList;let#[as,ra]:=RVs.reads I hs rv;exact#[_,.list e c d ra]
 |.dict _,v,u,h,r=>h.elim
theorem RVs.reads(I:Inv X zF Z H s):∀{ds:u_ mN}{vs:u_ V}{us:u_ Db},RVs H ds vs->Vals vs us->∃as,ReadsAll s.heap us ds as
 |[],vs,us,h,r=>by
  cases(show vs=[]from h);cases r;exact#[_,.nil]
 | d::ds,vs,us,h,r=>by
  let#[v,w,rfl,h1,h2]:=h;cases r with
  |cons r1 r2=>
   let#[as,a1]:=RV.reads I h1 r1;let#[bs,a2]:=RVs.reads I h2 r2;exact#[_,.cons a1 a2]
end
end
theorem RV.noDict{H:Hp}:∀(d:mN) (v:V),RV H d v->d.hasDict=t_
 | d,v,h=>by
  have go:∀(n:Nat),(∀(d:mN) (v:V),sizeOf d<=n->RV H d v->d.hasDict=t_)/\∀(ds:u_ mN) (vs:u_ V),sizeOf ds<=n->RVs H ds vs->oN ds=t_:=by
   intro n
   induction n with
   |zero=>
    refine#[λd v h _=>?_,λds vs h _=>?_]
    .cases d <;>simp at h
    .cases ds <;>simp at h
   | succ n ih=>
    refine#[λd v h hr=>?_,λds vs h hr=>?_]
    .cases d with
     |tuple xs=>
      let#[a,vs,_,_,hs]:=hr;simp only[lZ]
      grind
     |list xs=>
      let#[a,vs,_,_,hs]:=hr;simp only[lZ]
      grind
     |dict kvs=>exact(show False from hr).elim
     |none=>simp only[lZ]
     |bool b=>simp only[lZ]
     |int i=>simp only[lZ]
     |str x=>simp only[lZ]
    .cases ds with
     |nil=>simp only[oN]
     |cons x xs=>
      let#[v,w,_,h1,h2]:=hr;simp only[oN,ih.1 x v (by simp at h;lk) h1,ih.2 xs w (by simp at h;lk) h2,Bool.or_false]
  exact(go^sizeOf d).1 d v (Sc _) h
section
variable {X:Cx}
def aB:u_ V->Hp->VK->Prop:=λxs H Q=>∃x d,xs=[x]/\RV H d x/\d.showable=s_/\d.depth<=100/\d.shown.length<=sizeLine/\Q (.str d.shown) H
def FI{k:Nat}(hr:Room k X.A):CallR X (.builtin "repr") aB:=by
 intro zF s Z H xs us Q I r h;let#[x,d,rfl,hx,hs,hd,hz,q]:=h;let#[u,rfl,rx]:=vals1 r;have hu:=hr.un;cases d with
 |none=>
  cases(show x=.non from hx);cases(show u=iu from rx);exact PySem.P.repr_of_none #[.str _,H,I.tok _,#[_,rfl],q]
 |bool b=>
  cases(show x=.bl b from hx);cases(show u=lM b from rx);refine PySem.P.repr_of_bool #[.str _,H,I.tok _,#[_,rfl],?_]
  assumption
 |int i=>
  cases(show x=.int i from hx);let#[t,rfl]:=rx;refine PySem.P.repr_of_int (by simpa [PyData.showable]using hs) #[.str _,H,I.tok _,#[_,rfl],q]
 |str z=>
  cases(show x=.str z from hx);let#[t,rfl]:=rx;exact PySem.P.repr_of_str #[.str _,H,I.tok _,#[_,rfl],q] hz
 |tuple ds=>
  let#[as,ra]:=RV.reads I hx rx;let#[a,vs,rfl,_]:=id hx;cases rx;refine repr_of_reads' ra hs (PyData.noDict_hsm^RV.noDict _ _ hx) hr.gd (by lk) (λ_ _ e=>e) (λh' u tk hk=>#[.str _,H,I.kept (t':=tk) hk,#[_,rfl],q]) hz
 |list ds=>
  let#[as,ra]:=RV.reads I hx rx;let#[a,vs,rfl,_]:=id hx;cases rx;refine repr_of_reads' ra hs (PyData.noDict_hsm^RV.noDict _ _ hx) hr.gd (by lk) (λ_ _ e=>e) (λh' u tk hk=>#[.str _,H,I.kept (t':=tk) hk,#[_,rfl],q]) hz
 |dict _=>exact(show False from hx).elim
def eQ:R2:=λx y H Q=>∃d e,RV H d x/\RV H e y/\d.canLay0=s_/\e.canLay0=s_/\d.depth<=100/\Q (.bl^lz d e) H
def NR{k:Nat}(hr:Room k X.A):OpR X (compareOp .Eq) eQ:=by
 intro zF s Z H x y v u Q I rx ry h;let#[d,e,hx,hy,h1,h2,hd,q]:=h;let#[as,ra]:=RV.reads I hx rx;let#[bs,rb]:=RV.reads I hy ry;have hu:=hr.un;have hm:min _ e.depth<=d.depth:=Nat.min_le_left _ _;exact PySem.SeqAt.compareEq_reads ra rb h1 h2 (by lk) #[.bl _,H,I,rfl,q]
def bd(neg:Bool):R2:=λx y H Q=>∃d es,RV H d x/\(RV H (.list es) y\/RV H (.tuple es) y)/\d.canLay0=s_/\kz es=s_/\d.depth<=100/\Q (.bl (if neg then !(es.any λy=>lz y d)else es.any λy=>lz y d)) H
def Wv{k:Nat}(hr:Room k X.A):OpR X (compareOp .In)^bd t_:=by
 intro zF s Z H x y v u Q I rx ry h;let#[d,es,hx,hy,h1,h2,hd,q]:=h;let#[as,ra]:=RV.reads I hx rx;have hu:=hr.un;have hm:min (j_ es) _<=d.depth:=oh _ _
 rcases hy with hy|hy
 .let#[bs,rb]:=RV.reads I hy ry
  exact PySem.SeqAt.in_list_reads rb ra h2 h1 (by lk) #[.bl _,H,I,rfl,q]
 .let#[bs,rb]:=RV.reads I hy ry
  exact PySem.SeqAt.in_tuple_reads rb ra h2 h1 (by lk) #[.bl _,H,I,rfl,q]
def BQ{k:Nat}(hr:Room k X.A):OpR X (compareOp .NotIn)^bd s_:=by
 intro zF s Z H x y v u Q I rx ry h;let#[d,es,hx,hy,h1,h2,hd,q]:=h;let#[as,ra]:=RV.reads I hx rx;have hu:=hr.un;have hm:min (j_ es) _<=d.depth:=oh _ _
 rcases hy with hy|hy
 .let#[bs,rb]:=RV.reads I hy ry
  exact PySem.SeqAt.notIn_list_reads rb ra h2 h1 (by lk) #[.bl _,H,I,rfl,q]
 .let#[bs,rb]:=RV.reads I hy ry
  exact PySem.SeqAt.notIn_tuple_reads rb ra h2 h1 (by lk) #[.bl _,H,I,rfl,q]
end
end L2
namespace Dp
open L2
mutual
def toPy:D->mN
 |.non=>.none
 |.bl b=>.bool b
 |.int i=>.int i
 |.str x=>.str x
 |.tup ds=>.tuple^By ds
 |.lst ds=>.list^By ds
 |.dic _ _=>.dict []
 |.fdi _ _=>.dict []
 |.dit _ _=>.dict []
 |.ob _=>.dict []
def By:u_ D->u_ mN
 |[]=>[]
 |d::ds=>toPy d::By ds
end
mutual
def FZ:D->Bool
 |.tup ds=>Df ds
 |.lst ds=>Df ds
 |.dic _ _=>t_
 |.fdi _ _=>t_
 |.dit _ _=>t_
 |.ob _=>t_
 |_=>s_
def Df:u_ D->Bool
 |[]=>s_
 |d::ds=>FZ d&&Df ds
end
def E4(ds:u_ D):By ds=ds.map toPy:=by
 induction ds with
 |nil=>rfl
 |cons d r ih=>rw[By,ih,iZ]
section
variable {K:Frag}{M:Addr->Prop}{H:Hp}
mutual
theorem At.rv:∀{d:D}{v:V},At K M H d v->FZ d=s_->RV H (toPy d) v
 |.non,v,h,_=>h
 |.bl b,v,h,_=>h
 |.int i,v,h,_=>h
 |.str x,v,h,_=>h.1
 |.tup ds,v,h,n=>by
  let#[a,vs,e,hn,hs]:=h;exact#[a,vs,e,hn,Ats.rv hs n]
 |.lst ds,v,h,n=>by
  let#[a,vs,e,hn,hs]:=h;exact#[a,vs,e,.inl hn.2,Ats.rv hs n]
 |.dic ks ds,v,h,n=>by cases n
 |.fdi ks ds,v,h,n=>by cases n
 |.dit ks ds,v,h,n=>by cases n
 |.ob _,v,h,n=>by cases n
theorem Ats.rv:∀{ds:u_ D}{vs:u_ V},Ats K M H ds vs->Df ds=s_->RVs H (By ds) vs
 |[],vs,h,_=>h
 |d::ds,vs,h,n=>by
  let#[v,r,e,h1,h2]:=h;have n':(FZ d&&Df ds)=s_:=n;rw[ik]at n';exact#[v,r,e,At.rv h1 n'.1,Ats.rv h2 n'.2]
end
def AtT.rv{U:Ch->Prop}{d:D}{v:V}(h:AtT K U M H d v)(n:FZ d=s_):RV H (toPy d) v:=by
 cases d with
 |lst ds=>
  let#[a,vs,e,_,hq,hs]:=h;exact#[a,vs,e,hq,Ats.rv hs n]
 |dic ks ds=>cases n
 |fdi ks ds=>cases n
 |dit ks ds=>cases n
 |ob a=>cases n
 |non=>exact h
 |bl b=>exact h
 |int i=>exact h
 |str x=>exact h.1
 |tup ds=>exact At.rv h n
def O2(d:D):Prop:=FZ d=s_/\(toPy d).showable=s_/\(toPy d).depth<=100/\(toPy d).shown.length<=sizeLine
def bT(d:D):Str:=(toPy d).shown
def Ko(ds:u_ D)(P:D->Prop):Prop:=∃d,ds=[d]/\O2 d/\P^.str^bT d
def OE:B6 K .sh aB Ko:=by
 intro U M H ds vs P Q dom vM hp w q;let#[d,rfl,hd,w]:=w;let#[v,rfl,hx]:=CV hp;exact#[v,_,rfl,hx.rv hd.1,hd.2.1,hd.2.2.1,hd.2.2.2,q _ H (.str _) .refl #[rfl,hd.2.2.2] w]
def Cw(d:D):Prop:=FZ d=s_/\(toPy d).canLay0=s_/\(toPy d).depth<=100
def Fb(d e:D):Bool:=lz (toPy d)^toPy e
def Xn(d e:D)(P:D->Prop):Prop:=Cw d/\Cw e/\P^.bl^Fb d e
def Tl:D3 K .sh eQ Xn:=λU M H d e x y P Q dom vM hx hy w q=>
 #[_,_,hx.rv w.1.1,hy.rv w.2.1.1,w.1.2.1,w.2.1.2.1,w.1.2.2,q _ H (.bl _) .refl rfl w.2.2]
def Mw:D->v_^u_ D
 |.lst ds=>P3 ds
 |.tup ds=>P3 ds
 |_=>r_
def EG(neg:Bool)(d e:D)(P:D->Prop):Prop:=Cw d/\Cw e/\∃es,Mw e=P3 es/\P^.bl (if neg then !(es.any λy=>Fb y d)else es.any λy=>Fb y d)
def DB{neg:Bool}:D3 K .sh (bd neg)^EG neg:=λU M H d e x y P Q dom vM hx hy w q=>by
 let#[h1,h2,es,he,w]:=w;have any_eq:∀es:u_ D,(es.map _).any (λy=>lz y _)=es.any λy=>Fb y d:=λes=>by rw[List.any_map];rfl
 cases e with
 |lst ds=>
  cases he;refine#[_,_,hx.rv h1.1,.inl^hy.rv h2.1,h1.2.1,by simpa [toPy,PyData.canLay0]using h2.2.1,h1.2.2,?_];rw[E4,any_eq];exact q _ H (.bl _) .refl rfl w
 |tup ds=>
  cases he;refine#[_,_,hx.rv h1.1,.inr^hy.rv h2.1,h1.2.1,by simpa [toPy,PyData.canLay0]using h2.2.1,h1.2.2,?_];rw[E4,any_eq];exact q _ H (.bl _) .refl rfl w
 |_=>cases he
def cX(d e:D)(P:D->Prop):Prop:=Cw d/\Cw e/\P^.bl (!Fb d e)
end
end Dp
namespace L2
def eF:R2:=λx y H Q=>∃d e,RV H d x/\RV H e y/\d.canLay0=s_/\e.canLay0=s_/\d.depth<=100/\Q (.bl (!PyData.eqv d e)) H
def Wq{X:Cx}{k:Nat}(hr:Room k X.A):OpR X (compareOp .NotEq) eF:=by
 intro zF s Z H x y v u Q I rx ry h;let#[d,e,hx,hy,h1,h2,hd,q]:=h;let#[as,ra]:=RV.reads I hx rx;let#[bs,rb]:=RV.reads I hy ry;have hu:=hr.un;have hm:min _ e.depth<=d.depth:=Nat.min_le_left _ _;exact PySem.SeqAt.compareNe_reads ra rb h1 h2 (by lk) #[.bl _,H,I,rfl,q]
end L2
namespace Dp
open L2
def ah{K:Frag}:D3 K .sh eF cX:=λU M H d e x y P Q dom vM hx hy w q=>
 #[_,_,hx.rv w.1.1,hy.rv w.2.1.1,w.1.2.1,w.2.1.2.1,w.1.2.2,q _ H (.bl _) .refl rfl w.2.2]
end Dp
namespace L2
def kOf:Key->V
 |.inl i=>.int i
 |.inr x=>.str x
def dM:Key->Key->Bool
 |.inl i,.inl j=>decide (i<j)
 |.inr x,.inr y=>decide (x.cps.toList<y.cps.toList)
 |_,_=>t_
def Hx:Key->Key->Bool
 |.inl _,.inl _=>s_
 |.inr _,.inr _=>s_
 |_,_=>t_
def Co:u_ Key->u_ Key->Bool
 |[],[]=>t_
 |[],_::_=>s_
 |_::_,[]=>t_
 |x::xs,y::ys=>if x=y then Co xs ys else dM x y
def BY:u_ Key->u_ Key->Bool
 |x::xs,y::ys=>Hx x y&&BY xs ys
 |_,_=>s_
def Pw{A:i5}{s:No}{x y:Key}{u v:Db}(rx:RelV (kOf x) u)(ry:RelV (kOf y) v):∃e,SeqAt.EqAt A s u v e/\(e=s_↔x=y):=by
 cases x with
 |inl i=>
  cases y with
  |inl j=>exact#[_,Nw rx ry rfl rfl,by simp[kOf,fL]]
  |inr z=>exact#[_,Nw rx ry rfl rfl,by simp[kOf,fL]]
 |inr z=>
  cases y with
  |inl j=>exact#[_,Nw rx ry rfl rfl,by simp[kOf,fL]]
  |inr z'=>exact#[_,Nw rx ry rfl rfl,by simp[kOf,fL]]
def WA(A:i5)(s:No){x y:Key}{u v:Db}(rx:RelV (kOf x) u)(ry:RelV (kOf y) v)(hs:Hx x y=s_)(prog:ic)(w:ip)(E:Db->No->Prop)(Q:Db->No->Prop)(h:Q (.bool^dM x y) s):
  wpAny (model prog w) A (richCompare .Lt u v) Q E s:=by
 cases x with
 | inl i=>
  cases y with
  |inl j=>
   let#[t,rfl]:=rx;let#[t',rfl]:=ry;exact o5 h
  |inr z=>cases hs
 | inr z=>
  cases y with
  |inl j=>cases hs
  |inr z'=>
   let#[t,rfl]:=rx;let#[t',rfl]:=ry;exact PySem.P.lt_str h
section
open PySem.SeqAt
open PySem.AutoSeq1 (wpAny_loadPart')
open PySem.MeetsSeq PySem.MeetsSeq2 PySem.MeetsSeq3
def FO(l b:Ch)(items items2:Array Db)(n n2:Nat)(dd dd2:v_ Ch)(sl sl2:Array^v_ Db)(ns ms:u_ Key)(hi:Vals (ns.map kOf) items.toList)(hj:Vals (ms.map kOf) items2.toList)(hsame:BY ns ms=s_):
  Meets (kM.«tuple.__lt__» #[[.ref l,.ref b],[]])
   (λ_ R s=>s.heap.get? l=P3 {cls:=.type "tuple",dict:=dd,data:=.seq items n,slots:=sl}/\s.heap.get? b=P3 {cls:=.type "tuple",dict:=dd2,data:=.seq items2 n2,slots:=sl2} /\
    R (.ok^.ret^.bool^Co ns ms) s):=
 .of_wp λprog w A R s h=>by
  let#[hp,g,d,tk,os]:=s;let#[hl,hb,h]:=h
  have f2:=oi;have z1:items.size=ns.length:=by have:=hi.length;rw[Ev]at this;rw[this];simp
  have z2:items2.size=ms.length:=by have:=hj.length;rw[Ev]at this;rw[this];simp
  wp_walk using jO hl,jO hb,wpAny_forIn_list _ (λrest b s'=>b.1=r_/\s'=#[hp,g,d,tk,os]/\∃(vs ws:u_ Db) (ns' ms':u_ Key),rest=vs.zip ws /\
   Vals (ns'.map kOf) vs/\Vals (ms'.map kOf) ws/\BY ns' ms'=s_/\ns'.length+items2.size=ms'.length+items.size/\R (.ok^.ret^.bool^Co ns' ms') #[hp,g,d,tk,os]) _
  case turn=>
   rintro⟨y,x⟩ rest b s' ⟨hb',rfl,vs,ws,ns',ms',hz,hvi,hwi,hsm,hlen,hR⟩;cases ns' with
   |nil=>cases hvi;rw[oO]at hz;cases hz
   | cons a ns'=>
    cases ms' with
    |nil=>cases hwi;rw[nt]at hz;cases hz
    | cons c ms'=>
     rw[iZ]at hvi hwi;cases hvi with
     | cons ra hvi'=>
      cases hwi with
      | cons rc hwi'=>
       rw[jy]at hz;injection hz with hyx hrest
       injection hyx with hy hx
       subst hy hx;have hR':R (.ok^.ret^.bool (if a=c then Co ns' ms' else dM a c)) #[hp,g,d,tk,os]:=hR;have hsm':(Hx a c&&BY ns' ms')=s_:=hsm;rw[ik]at hsm';simp only[ij]at hlen;let#[e,he,hiff]:=Pw (A:=A.in1) (s:=#[hp,g,d,tk,os]) ra rc;refine Cn^he prog w _ _ ?_;cases e with
       |true=>
        rw[if_pos (hiff.mp rfl)]at hR'
        wp_walk
        exact#[rfl,rfl,_,_,_,_,hrest,hvi',hwi',hsm'.2,by lk,hR']
       |false=>
        rw[if_neg λq=>absurd (hiff.mpr q) iS]at hR';have hri:=WA A.in1 #[hp,g,d,tk,os] ra rc hsm'.1 prog w
        wp_walk using hri
        exact#[_,rfl,by simpa using hR']
  case fin=>
   rintro⟨b1,b2⟩ s' ⟨hb',rfl,vs,ws,ns',ms',hz,hvi,hwi,hsm,hlen,hR⟩;simp only at hb';subst hb'
   have hv:Co ns' ms'=decide (items.size<items2.size):=by
    cases ns' with
    | nil=>
     cases ms' with
     |nil=>
      simp only[jN]at hlen;exact(decide_eq_false^by lk).symm
     |cons c u=>
      simp only[jN,ij]at hlen;exact(decide_eq_true^by lk).symm
    | cons a t=>
     cases ms' with
     |nil=>
      simp only[jN,ij]at hlen;exact(decide_eq_false^by lk).symm
     |cons c u=>
      rw[iZ]at hvi hwi;cases hvi;cases hwi;rw[jy]at hz;cases hz
   rw[hv]at hR
   wp_walk
   exact#[_,rfl,by simpa [nE]using hR]
  case h=>
   exact#[rfl,rfl,items.toList,items2.toList,ns,ms,rfl,hi,hj,hsame,by lk,h]
end
section
variable {X:Cx}
def eI(K:Frag):R2:=λx y H Q=>∃a b ns ms,x=.ref a/\y=.ref b/\SqT K H a^ns.map kOf/\SqT K H b^ms.map kOf/\BY ns ms=s_/\Q (.bl^Co ns ms) H
def b8(hu:X.A.units<cLine):OpR X (compareOp .Lt)^eI X.K:=by
 intro zF s Z H x y v u Q I rx ry h;let#[a,b,ns,ms,rfl,rfl,ha,hb,hsm,q]:=h;cases rx;cases ry;let#[its,r1,p1,_]:=I.tuple ha;let#[its2,r2,p2,_]:=I.tuple hb;let#[#[cls,dd,data,sl],ho,hc,n,hd]:=id p1;let#[#[cls2,dd2,data2,sl2],ho2,hc2,n2,hd2]:=id p2;subst hc hd hc2 hd2
 exact mo (op:=.Lt) #[_,ho,rfl] #[_,ho2,rfl] PySem.F.slot_tuple_lt PySem.F.entry_tuple_lt (PySem.F.args_tuple_lt_2 _ _) (FO a b _ _ n n2 dd _ sl _ ns ms r1 r2 hsm)
  #[ho,ho2,#[(λx=>nomatch x),#[.bl _,H,I,rfl,q]]] hu
end
def ItAt(κ:Bool)(h:iQ)(it l:Ch)(k:Nat):Prop:=match κ with
 |true=>h.IsListIter it l k
 |false=>h.IsTupleIter it l k
def SqAt(κ:Bool)(h:iQ)(l:Ch)(items:Array Db):Prop:=match κ with
 |true=>h.IsList l items
 |false=>h.IsTuple l items
section
variable {κ:Bool}{h h':Heap}{it l b:Addr}{k:Nat}{items:Array Value}
def ItAt.mv(x:ItAt κ h it l k)(e:∀o,h.get? it=P3 o->h'.get? it=P3 o):ItAt κ h' it l k:=by
 cases κ with
 |true=>let#[o,ho,r]:=x;exact#[o,e o ho,r]
 |false=>let#[o,ho,r]:=x;exact#[o,e o ho,r]
def SqAt.mv(x:SqAt κ h l items)(e:∀o,h.get? l=P3 o->h'.get? l=P3 o):SqAt κ h' l items:=by
 cases κ with
 |true=>let#[o,ho,r]:=x;exact#[o,e o ho,r]
 |false=>let#[o,ho,r]:=x;exact#[o,e o ho,r]
def ItAt.eb(x:ItAt κ h it l k)(hs:o6 b h h')(n:it≠b):ItAt κ h' it l k:=x.mv λo e=>hs it o n e
def SqAt.eb(x:SqAt κ h l items)(hs:o6 b h h')(n:l≠b):SqAt κ h' l items:=x.mv λo e=>hs l o n e
def ItAt.lies(x:ItAt κ h it l k):∃o,h.get? it=P3 o/\∀v,o.data≠.cell v:=by
 cases κ with
 |true=>let#[o,ho,_,d]:=x;simp_all
 |false=>let#[o,ho,_,d]:=x;simp_all
def SqAt.lies(x:SqAt κ h l items):∃o,h.get? l=P3 o:=by
 cases κ with
 |true=>let#[o,ho,_]:=x;grind
 |false=>let#[o,ho,_]:=x;grind
end
section
variable {prog:Program}{w:World}{A:Around}{E:Value->Shared->Prop}{s:Shared}
def FG{κ:Bool}{it l:Ch}{i:Nat}{items:Array Db}{x:Db}{Q:Db->No->Prop}(hit:ItAt κ s.heap it l i)(hl:SqAt κ s.heap l items)(hx:items[i]?=P3 x)
  (hQ:∀h',ItAt κ h' it l (i+1)->ki it s.heap h'->Q x {s with heap:=h'}):wpAny (model prog w) A (je^.ref it) Q E s:=by
 cases κ with
 |true=>exact wpAny_nextOf_list_item hit hl hx hQ
 |false=>
  have hit':s.heap.IsTupleIter it l i:=hit;have hl':s.heap.IsTuple l items:=hl;let#[o,ho,hc,hd]:=id hit';let#[ol,hol,_,nl,hdl]:=hl'
  unfold je;refine Cn^jR (name:=jH "__next__") hit'.typeIs kq^jm kq hit'.typeIs n6 ?_^nZ _;show wpAny (model prog w) _ (field (.ref it) 0 >>=_) _ _ s;refine Cn (jj ho hd (x:=.ref l) rfl ?_)
  show wpAny (model prog w) _ (if(iR l==iu)=s_ then _ else _) _ _ s;rw[if_neg (show ¬((iR l==iu)=s_)from iS)]
  show wpAny (model prog w) _ (field (.ref it) 1 >>=_) _ _ s;refine Cn (jj ho hd (x:=.int i 0) rfl ?_)
  show wpAny (model prog w) _ (seqItems?^.ref l >>=_) _ _ s;refine Cn^jn hol hdl ?_;simp only[ku,hx]
  refine Cn^ng ho hd (by simp)^Op #[x,rfl,Op^hQ _ (show Heap.IsTupleIter _ it l (i+1)from ?_) (kU ..)];exact#[_,ji _ ho^Obj.isFreed_of_fields^mO hd _,(Obj.cls_mapFields ..).trans hc,by(rw[mO hd];simp[rawInt])]
def Gm{κ:Bool}{it l:Ch}{i:Nat}{items:Array Db}{Q:Db->No->Prop}(hh:A.handled=r_)(hit:ItAt κ s.heap it l i)(hl:SqAt κ s.heap l items)(hx:items[i]?=r_)
  (hE:∀h' e,o6 it s.heap h'->(∃o,h'.get? e=P3 o/\o.cls=.type "StopIteration")->E (.ref e) {s with heap:=h'}):wpAny (model prog w) A (je^.ref it) Q E s:=by
 cases κ with
 |true=>exact wpAny_nextOf_list_end hh hit hl hx hE
 |false=>
  have hit':=hit;have hl':s.heap.IsTuple l items:=hl;let#[o,ho,hc,hd]:=id hit';let#[ol,hol,_,nl,hdl]:=hl'
  refine Cn^jR hit'.typeIs kq^jm kq hit'.typeIs n6 ?_^nZ _;show wpAny (model prog w) _ (field (.ref it) 0 >>=_) _ _ s;refine Cn (jj ho hd (x:=.ref l) rfl ?_)
  refine Cn (jj ho hd (x:=.int i 0) rfl ?_);refine Cn^jn hol hdl ?_;simp only[ku,hx]
  refine Cn^mT^Cn^ng ho hd (by simp) ?_;refine Cn ?_;refine Cn (m:=firstArgMember _ _)^o7 (a:=iu) (by first|rfl|omega) ?_;refine jg ?_^by size_fits
  simp only[raiseNew];refine Cn^wpAny_handled ?_;first|grind|rw[hh]
  refine Cn^Op^wpAny_throw ?_;exact hE _ _ (((kU ..).extBut.push _).push _) #[_,TW _ rfl,rfl]
structure dP (z TI TO i1 i2 l1 l2:Ch):Prop where
 TIz:TI≠z
 TOz:TO≠z
 i1z:i1≠z
 i2z:i2≠z
 TOi1:TO≠i1
 TOi2:TO≠i2
 i12:i1≠i2
 l1z:l1≠z
 l1TO:l1≠TO
 l1i1:l1≠i1
 l1i2:l1≠i2
 l2z:l2≠z
 l2TO:l2≠TO
 l2i1:l2≠i1
 l2i2:l2≠i2
def VY{zY zW:Bool}{z TI TO i1 i2 l1 l2:Ch}{k:Nat}{xs ys:Array Db}{x y a b:Db}{Q:Db->No->Prop}(D:dP z TI TO i1 i2 l1 l2)
  (hz:lW s.heap z TI TO .none) (hTI:jz s.heap TI (.ref i1)^.ref i2) (hTO:jz s.heap TO a b) (h1:ItAt zY s.heap i1 l1 k) (h2:ItAt zW s.heap i2 l2 k) (hl1:SqAt zY s.heap l1 xs) (hl2:SqAt zW s.heap l2 ys) (hx:xs[k]?=P3 x) (hy:ys[k]?=P3 y)
  (hQ:∀h',lW h' z TI TO^rawInt s.heap.objs.size->jz h' TO x y->ItAt zY h' i1 l1 (k+1)->ItAt zW h' i2 l2 (k+1)->jz h' s.heap.objs.size x y->h'.objs.size=s.heap.objs.size+1->(∀c o,c≠z->c≠TO->c≠i1->c≠i2->s.heap.get? c=P3 o->h'.get? c=P3 o)->Q (.ref s.heap.objs.size) {s with heap:=h'}):
  wpAny (model prog w) A (kM.«zip.__next__» #[[.ref z],[]]) (λfin s'=>∃v,fin=.done^.ret v/\Q v s') E s:=by
 show wpAny (model prog w) A (field (.ref z) 2 >>=_) _ _ _;refine Cn (jj hz rfl (x:=.bool t_) rfl ?_)
 show wpAny (model prog w) A (field (.ref z) 3 >>=_) _ _ _;refine Cn (jj hz rfl (x:=.ref TI) rfl ?_);refine Cn (jn hTI rfl ?_)
 show wpAny (model prog w) A (j7^.ref z >>=_) _ _ _;refine Cn ?_;unfold j7
 refine Cn (jj hz rfl (x:=.none) rfl (Op ?_));simp only[if_true];refine Cn^mT ?_;refine Cn (jj hz rfl (x:=.ref TO) rfl ?_)
 refine Cn^kj hz (by simp) λha hza hsa=>?_;replace hza:lW ha z TI TO .ellipsis:=hza;refine Cn ?_;simp only[List.zipIdx_cons,List.zipIdx_nil,nJ,pC]
 refine Cn^Cn^oG ?_;show wpAny (model prog w) _ (je^.ref i1 >>=_) _ _ _
 refine Cn^FG (h1.eb hsa.extBut D.i1z) (hl1.eb hsa.extBut D.l1z) hx λhb h1b hsb=>Op ?_;have hTOb:jz hb TO a b:=hsb.extBut _ _ D.TOi1^hsa.extBut _ _ D.TOz hTO;refine Cn (jn hTOb rfl ?_);refine Cn (nN hTOb λhc hTOc hsc=>?_)
 replace hTOc:jz hc TO x b:=hTOc;refine Cn^ke^Op ?_;refine Cn^Cn^oG ?_;show wpAny (model prog w) _ (je^.ref i2 >>=_) _ _ _
 refine Cn^FG (((h2.eb hsa.extBut D.i2z).eb hsb.extBut D.i12.symm).eb hsc.extBut D.TOi2.symm) (((hl2.eb hsa.extBut D.l2z).eb hsb.extBut D.l2i1).eb hsc.extBut D.l2TO) hy λhd h2d hsd=>Op ?_;have hTOd:jz hd TO x b:=hsd.extBut _ _ D.TOi2 hTOc;refine Cn (jn hTOd rfl ?_);refine Cn (nN hTOd λhe hTOe hse=>?_)
 replace hTOe:jz he TO x y:=hTOe;refine Cn^ke^Op^Op ?_;refine Cn (jn hTOe rfl ?_);refine Cn^wpAny_newTuple ?_
 have hsz:he.objs.size=s.heap.objs.size:=by rw[hse.1,hsd.1,hsc.1,hsb.1,hsa.1]
 have hze:lW he z TI TO .ellipsis:=hse.extBut _ _ D.TOz.symm^hsd.extBut _ _ D.i2z.symm^hsc.extBut _ _ D.TOz.symm^hsb.extBut _ _ D.i1z.symm hza;have hke:∀c o,c≠z->c≠TO->c≠i1->c≠i2->s.heap.get? c=P3 o->he.get? c=P3 o:=λc o c1 c2 c3 c4 e=>hse.extBut _ _ c2^hsd.extBut _ _ c4^hsc.extBut _ _ c2^hsb.extBut _ _ c3^hsa.extBut _ _ c1 e;have h1e:ItAt zY he i1 l1 (k+1):=((h1b.eb hsc.extBut D.TOi1.symm).eb hsd.extBut D.i12).eb hse.extBut D.TOi1.symm;have h2e:ItAt zW he i2 l2 (k+1):=h2d.eb hse.extBut D.TOi2.symm;have hzlt:z<he.objs.size:=T0 hze;show wpAny (model prog w) _ (mP (.ref z)^.ref he.objs.size >>=_) _ _ _;refine Cn ?_;unfold mP
 have hzf:lW (he.push {cls:=.type "tuple",data:=.seq #[ x,y]}) z TI TO .ellipsis:=FM _ hze;refine Cn^kj hzf (by simp) λhg hzg hsg=>?_;replace hzg:lW hg z TI TO^rawInt he.objs.size:=hzg;refine kj hzg (by simp) λhi hzi hsi=>?_;replace hzi:lW hi z TI TO^rawInt he.objs.size:=hzi;have up:∀c o,c≠z->he.get? c=P3 o->hi.get? c=P3 o:=λc o c1 e=>hsi.extBut _ _ c1^hsg.extBut _ _ c1^FM _ e;have hTi:jz hi he.objs.size x y:=hsi.extBut _ _ (mG hzlt)^hsg.extBut _ _ (mG hzlt) (TW _ rfl);have hzs:hi.objs.size=he.objs.size+1:=by rw[hsi.1,hsg.1,jM]
 rw[hsz]at hzi hTi hzs;refine Op #[_,rfl,?_];show Q (.ref he.objs.size) _;rw[hsz]
 exact hQ hi hzi (up _ _ D.TOz hTOe) (h1e.mv λo e=>up _ o D.i1z e) (h2e.mv λo e=>up _ o D.i2z e) hTi hzs λc o c1 c2 c3 c4 e=>up c o c1^hke c o c1 c2 c3 c4 e
def Yc{zY zW:Bool}{z TI TO i1 i2 l1 l2:Ch}{k:Nat}{xs ys:Array Db}{a b:Db}{Q:Fin->No->Prop}(hh:A.handled=r_)(D:dP z TI TO i1 i2 l1 l2)
  (hz:lW s.heap z TI TO .none) (hTI:jz s.heap TI (.ref i1)^.ref i2) (hTO:jz s.heap TO a b) (h1:ItAt zY s.heap i1 l1 k) (h2:ItAt zW s.heap i2 l2 k) (hl1:SqAt zY s.heap l1 xs) (hl2:SqAt zW s.heap l2 ys) (hend:xs[k]?=r_\/ys[k]?=r_)
  (hE:∀h' e,(∀c o,c≠z->c≠TO->c≠i1->c≠i2->s.heap.get? c=P3 o->h'.get? c=P3 o)->(∃o,h'.get? e=P3 o/\o.cls=.type "StopIteration")->E (.ref e) {s with heap:=h'}):
  wpAny (model prog w) A (kM.«zip.__next__» #[[.ref z],[]]) Q E s:=by
 show wpAny (model prog w) A (field (.ref z) 2 >>=_) _ _ _;refine Cn (jj hz rfl (x:=.bool t_) rfl ?_)
 show wpAny (model prog w) A (field (.ref z) 3 >>=_) _ _ _;refine Cn (jj hz rfl (x:=.ref TI) rfl ?_);refine Cn (jn hTI rfl ?_)
 show wpAny (model prog w) A (j7^.ref z >>=_) _ _ _;refine Cn ?_;unfold j7
 refine Cn (jj hz rfl (x:=.none) rfl (Op ?_));simp only[if_true];refine Cn^mT ?_;refine Cn (jj hz rfl (x:=.ref TO) rfl ?_)
 refine Cn^kj hz (by simp) λha hza hsa=>?_;replace hza:lW ha z TI TO .ellipsis:=hza;refine Cn ?_;simp only[List.zipIdx_cons,List.zipIdx_nil,nJ,pC]
 refine Cn^Cn^oG ?_;show wpAny (model prog w) _ (je^.ref i1 >>=_) _ _ _
 cases hx:xs[k]? with
 |none=>
  refine Cn^Gm hh (h1.eb hsa.extBut D.i1z) (hl1.eb hsa.extBut D.l1z) hx λhb e hsb he=>?_;let#[oe,hoe,hce]:=he;have hzb:lW hb z TI TO .ellipsis:=hsb _ _ D.i1z.symm hza;have hez:e≠z:=λx=>by subst x;rw[hzb]at hoe;cases hoe;simp at hce
  exact kj hzb (by simp) λhc _ hsc=>hE hc e (λc o c1 _ c3 _ x=>hsc.extBut _ _ c1^hsb _ _ c3^hsa.extBut _ _ c1 x) #[oe,hsc.extBut _ _ hez hoe,hce]
 | some x=>
  have hy:ys[k]?=r_:=by
   rcases hend with h|h
   .rw[hx]at h;cases h
   .exact h
  refine Cn^FG (h1.eb hsa.extBut D.i1z) (hl1.eb hsa.extBut D.l1z) hx λhb h1b hsb=>Op ?_;have hTOb:jz hb TO a b:=hsb.extBut _ _ D.TOi1^hsa.extBut _ _ D.TOz hTO;refine Cn (jn hTOb rfl ?_);refine Cn^nN hTOb λhc hTOc hsc=>?_
  refine Cn^ke^Op ?_;refine Cn^Cn^oG ?_;show wpAny (model prog w) _ (je^.ref i2 >>=_) _ _ _
  refine Cn^Gm hh (((h2.eb hsa.extBut D.i2z).eb hsb.extBut D.i12.symm).eb hsc.extBut D.TOi2.symm) (((hl2.eb hsa.extBut D.l2z).eb hsb.extBut D.l2i1).eb hsc.extBut D.l2TO) hy λhd e hsd he=>?_;let#[oe,hoe,hce]:=he;have hzd:lW hd z TI TO .ellipsis:=hsd _ _ D.i2z.symm^hsc.extBut _ _ D.TOz.symm^hsb.extBut _ _ D.i1z.symm hza;have hez:e≠z:=λx=>by subst x;rw[hzd]at hoe;cases hoe;simp at hce
  exact kj hzd (by simp) λhf _ hsf=>hE hf e (λc o c1 c2 c3 c4 x=>hsf.extBut _ _ c1^hsd _ _ c4^hsc.extBut _ _ c2^hsb.extBut _ _ c3^hsa.extBut _ _ c1 x) #[oe,hsf.extBut _ _ hez hoe,hce]
end
def cS(κ:Bool):String:=match κ with
 |true=>"list_iterator"
 |false=>"tuple_iterator"
def IS(κ:Bool)(l:Ch):Obj:={cls:=.type^cS κ,data:=.fields #[ .ref l,.int 0 0]}
abbrev zA(zY:Bool)(h:iQ)(l1:Ch):iQ:=h.push^IS zY l1
abbrev zB(zY zW:Bool)(h:iQ)(l1 l2:Ch):iQ:=(zA zY h l1).push^IS zW l2
abbrev zC(zY zW:Bool)(h:iQ)(l1 l2:Ch):iQ:=(zB zY zW h l1 l2).push {cls:=.type "tuple",data:=.seq #[ .ref h.objs.size,.ref (zA zY h l1).objs.size]}
abbrev zD(zY zW:Bool)(h:iQ)(l1 l2:Ch):iQ:=(zC zY zW h l1 l2).push {cls:=.type "tuple",data:=.seq #[ .none,.none]}
abbrev zE(zY zW:Bool)(h:iQ)(l1 l2:Ch):iQ:=(zD zY zW h l1 l2).push {cls:=.type "zip",data:=.fields #[ .none,.bool t_,.bool t_,.ref (zB zY zW h l1 l2).objs.size,.ref (zC zY zW h l1 l2).objs.size]}
def ZH(zY zW:Bool)(l1 l2:Ch)(xs ys:Array Db):Meets (kM.«zip.__new__» #[[.type "zip",.ref l1,.ref l2],[]])
  (λ_ R s=>SqAt zY s.heap l1 xs/\SqAt zW s.heap l2 ys/\R (.ok^.ret^.ref (zD zY zW s.heap l1 l2).objs.size) {s with heap:=zE zY zW s.heap l1 l2}):=
 .of_wp λprog w A R s h=>by
  let#[hp,g,d,tk,os]:=s;let#[hl1,hl2,h]:=h
  have hsub:=sub_zip;have hL2:SqAt zW (zA zY hp l1) l2 ys:=hl2.mv λo e=>FM _ e;cases zY with
  | true=>
   have g1:o8 (lU #[hp,g,d,tk,os]) l1 xs:=hl1;cases zW with
   |true=>
    have g2:o8 (lU #[hp.push {cls:=.type "list_iterator",data:=.fields #[ .ref l1,.int 0 0]},g,d,tk,os]) l2 ys:=hL2
    wp_walk using jq g1,jq g2
    exact#[_,rfl,h]
   |false=>
    have g2:oj (lU #[hp.push {cls:=.type "list_iterator",data:=.fields #[ .ref l1,.int 0 0]},g,d,tk,os]) l2 ys:=hL2
    wp_walk using jq g1,ja g2
    exact#[_,rfl,h]
  | false=>
   have g1:oj (lU #[hp,g,d,tk,os]) l1 xs:=hl1;cases zW with
   |true=>
    have g2:o8 (lU #[hp.push {cls:=.type "tuple_iterator",data:=.fields #[ .ref l1,.int 0 0]},g,d,tk,os]) l2 ys:=hL2
    wp_walk using ja g1,jq g2
    exact#[_,rfl,h]
   |false=>
    have g2:oj (lU #[hp.push {cls:=.type "tuple_iterator",data:=.fields #[ .ref l1,.int 0 0]},g,d,tk,os]) l2 ys:=hL2
    wp_walk using ja g1,ja g2
    exact#[_,rfl,h]
def Ke(κ:Bool)(h:iQ)(l:Ch):ItAt κ (h.push^IS κ l) h.objs.size l 0:=by
 cases κ with
 |true=>exact#[_,TW _ rfl,rfl,rfl]
 |false=>exact#[_,TW _ rfl,rfl,rfl]
section
variable {prog:Program}{w:World}{A:Around}{E:Value->Shared->Prop}{s:Shared}
def N7{zY zW:Bool}{l1 l2:Ch}{xs ys:Array Db}{Q:Db->No->Prop}(hl1:SqAt zY s.heap l1 xs)(hl2:SqAt zW s.heap l2 ys)
  (h:∀h',lW h' (s.heap.objs.size+4) (s.heap.objs.size+2) (s.heap.objs.size+3) .none->jz h' (s.heap.objs.size+2) (.ref s.heap.objs.size)^.ref (s.heap.objs.size+1)->jz h' (s.heap.objs.size+3) .none .none->
   ItAt zY h' s.heap.objs.size l1 0->ItAt zW h' (s.heap.objs.size+1) l2 0->(∀c o,s.heap.get? c=P3 o->h'.get? c=P3 o)->Q (.ref (s.heap.objs.size+4)) {s with heap:=h'}):
  wpAny (model prog w) A (call (.type "zip") [.ref l1,.ref l2]) Q E s:=by
 refine callType_new F.called_zip (by cbv) (F.typeCall_zip_2 _ _) (F.newCall_zip_2 _ _) (λobj=>F.args_object_init_3 obj _ _) F.entry_zip_new (ZH zY zW l1 l2 xs ys) #[hl1,hl2,?_];have z1:(zA zY s.heap l1).objs.size=s.heap.objs.size+1:=jM ..;have z2:(zB zY zW s.heap l1 l2).objs.size=s.heap.objs.size+2:=by rw[jM,z1]
 have z3:(zC zY zW s.heap l1 l2).objs.size=s.heap.objs.size+3:=by rw[jM,z2]
 have z4:(zD zY zW s.heap l1 l2).objs.size=s.heap.objs.size+4:=by rw[jM,z3]
 have g5:(zE zY zW s.heap l1 l2).get? (zD zY zW s.heap l1 l2).objs.size=P3 _:=TW _ rfl;have g4:(zE zY zW s.heap l1 l2).get? (zC zY zW s.heap l1 l2).objs.size=P3 _:=FM _ (TW _ rfl);have g3:(zE zY zW s.heap l1 l2).get? (zB zY zW s.heap l1 l2).objs.size=P3 _:=FM _^FM _ (TW _ rfl);have i2:ItAt zW (zE zY zW s.heap l1 l2) (zA zY s.heap l1).objs.size l2 0:=(Ke zW (zA zY s.heap l1) l2).mv λo e=>FM _^FM _^FM _ e;have i1:ItAt zY (zE zY zW s.heap l1 l2) s.heap.objs.size l1 0:=(Ke zY s.heap l1).mv λo e=>FM _^FM _^FM _^FM _ e;rw[z4]at g5;rw[z3]at g4;rw[z2]at g3;rw[z1]at i2;have fin:=h (zE zY zW s.heap l1 l2) (by rw[lW,g5,z2,z3]) (by rw[jz,g3,z1]) g4 i1 i2 λc o e=>FM _^FM _^FM _^FM _^FM _ e;refine#[#[_,by rw[z4];exact g5,rfl],?_];rw[z4];exact fin
def Le{zY zW:Bool}{z TI TO i1 i2 l1 l2:Ch}{k:Nat}{xs ys:Array Db}{x y a b:Db}{Q:v_ Db->No->Prop}(D:dP z TI TO i1 i2 l1 l2)
  (hz:lW s.heap z TI TO .none) (hTI:jz s.heap TI (.ref i1)^.ref i2) (hTO:jz s.heap TO a b) (h1:ItAt zY s.heap i1 l1 k) (h2:ItAt zW s.heap i2 l2 k) (hl1:SqAt zY s.heap l1 xs) (hl2:SqAt zW s.heap l2 ys) (hx:xs[k]?=P3 x) (hy:ys[k]?=P3 y)
  (hQ:∀h',lW h' z TI TO^rawInt s.heap.objs.size->jz h' TO x y->ItAt zY h' i1 l1 (k+1)->ItAt zW h' i2 l2 (k+1)->jz h' s.heap.objs.size x y->h'.objs.size=s.heap.objs.size+1->(∀c o,c≠z->c≠TO->c≠i1->c≠i2->s.heap.get? c=P3 o->h'.get? c=P3 o)->Q (P3^.ref s.heap.objs.size) {s with heap:=h'}):
  wpAny (model prog w) A (pyNext^.ref z) Q E s:=by
 have hT:s.TypeIs (.ref z) "zip":=#[_,hz,rfl];unfold pyNext
 exact Cn (mx (jR (name:=jH "__next__") hT nO (jm nO hT F.entry_zip_next
  (VY D hz hTI hTO h1 h2 hl1 hl2 hx hy λh' a1 a2 a3 a4 a5 a6 a7=>Op^hQ h' a1 a2 a3 a4 a5 a6 a7) (F.args_zip_next_1 _))))
def Nj{zY zW:Bool}{z TI TO i1 i2 l1 l2:Ch}{k:Nat}{xs ys:Array Db}{a b:Db}{Q:v_ Db->No->Prop}(hh:A.handled=r_)(D:dP z TI TO i1 i2 l1 l2)
  (hz:lW s.heap z TI TO .none) (hTI:jz s.heap TI (.ref i1)^.ref i2) (hTO:jz s.heap TO a b) (h1:ItAt zY s.heap i1 l1 k) (h2:ItAt zW s.heap i2 l2 k) (hl1:SqAt zY s.heap l1 xs) (hl2:SqAt zW s.heap l2 ys) (hend:xs[k]?=r_\/ys[k]?=r_)
  (hQ:∀h',(∀c o,c≠z->c≠TO->c≠i1->c≠i2->s.heap.get? c=P3 o->h'.get? c=P3 o)->Q r_ {s with heap:=h'}):wpAny (model prog w) A (pyNext^.ref z) Q E s:=by
 have hT:s.TypeIs (.ref z) "zip":=#[_,hz,rfl];unfold pyNext;refine Cn^mx^jR (name:=jH "__next__") hT nO^jm nO hT F.entry_zip_next (Yc hh D hz hTI hTO h1 h2 hl1 hl2 hend λh' e hk he=>?_)^F.args_zip_next_1 _;let#[o,ho,hc]:=he;exact Cn^mz (T:="StopIteration") (b:=s_) #[o,ho,hc] isSubtype_stop^Op^hQ _ hk
end
section
variable {X:Cx}{zF:u_ (Addr×Obj)}{Z:L2.St}{H:Hp}{s:Shared}{h':Heap}
def Inv.turnedL{t':Nat}{ch:u_ Ch}(I:Inv X zF Z H s)(hf:∀b∈ch,HB X zF H b)(k:∀b o,b∉ch->s.heap.get? b=P3 o->h'.get? b=P3 o):Inv X zF Z H {s with heap:=h',toks:=t'}:=by
 have nit:∀b u,H b=P3 u->b∉ch:=λb u e z=>by rw[(hf b z).1]at e;cases e
 refine I.step (λb hb=>?_) (λb o _ _ hc e _=>k b o hc e) (λb o _ _ hc e _=>#[_,k b o hc e]) (λ_ _ _ _ n=>n) (λb o hc e=>#[o,k b o hc e]) (λ_ _ e=>e) (λ_ _ _ e=>e) (λb ps e=>#[#[],by rw[e];simp]) (λm hm=>?_) (λb u e=>(I.hok b u e).stay (λc v hc q=>k c v (hc.elim (λz=>by grind) λz=>nit c _ z) q) (λ_ q=>q) λ_ _ q=>q) I.bare
 .let#[f0,f1,f2,f3,f4,f5]:=hf b hb
  exact#[f3,f1,f4,f5]
 .let#[o,es,ep,ho,r]:=hm
  exact#[o,es,ep,k _ o (λz=>(hf _ z).2.1 rfl) ho,r]
def Inv.turnLaid{t':Nat}{ch:u_ Ch}{a:Ch}{o:HO}(I:Inv X zF Z H s)(hf:∀b∈ch,HB X zF H b)(k:∀b o,b∉ch->s.heap.get? b=P3 o->h'.get? b=P3 o)(ha:s.heap.objs.size<=a)(new:ObjOk X.prog X.w (Av H a o) h' a o):
  Inv X zF Z (Av H a o) {s with heap:=h',toks:=t'}:=by
 have nit:∀b u,H b=P3 u->b∉ch:=λb u e z=>by rw[(hf b z).1]at e;cases e
 have hn:H a=r_:=I.hok.fresh ha;have up:∀b u,H b=P3 u->Av H a o b=P3 u:=λb u e=>by rw[AO^An e hn];exact e
 refine I.step (g':=s.gens) (d':=s.drawn) (ch:=ch) (λb hb=>?_) (λb o _ _ hc e _=>k b o hc e) (λb o _ _ hc e _=>#[o.slots,k b o hc e]) (λb u _ e n=>?_) (λb o hc e=>#[o,k b o hc e]) (λb xs e=>up _ _ e) (λb o u e=>up _ _ e) (λb ps e=>#[#[],by rw[up _ _ e];simp]) (λm hm=>?_) (λb u e=>?_) I.bare
 .let#[f0,f1,f2,f3,f4,f5]:=hf b hb
  exact#[f3,f1,f4,f5]
 .rw[AO^ge^ir (T0 e) ha];exact n
 .let#[o,es,ep,ho,r]:=hm
  exact#[o,es,ep,k _ o (λz=>(hf _ z).2.1 rfl) ho,r]
 .by_cases hb:b=a
  .subst hb;rw[AQ]at e;cases e;exact new
  .rw[AO hb]at e
   exact(I.hok b u e).stay (λc v hc q=>k c v (hc.elim (λz=>by grind) λz=>nit c _ z) q) (λc q=>up _ _ q) λc xs q=>up _ _ q
end
def SqK(κ:Bool)(K:Frag)(H:Hp)(a:Ch)(xs:u_ V):Prop:=match κ with
 |true=>SqL K H a xs
 |false=>SqT K H a xs
def SqK.at{κ:Bool}{X:Cx}{zF:u_ (Ch×Obj)}{Z:L2.St}{H:Hp}{s:No}{a:Ch}{xs:u_ V}(I:Inv X zF Z H s)(h:SqK κ X.K H a xs):∃its:u_ Db,Vals xs its/\SqAt κ s.heap a its.toArray:=by
 cases κ with
 |true=>let#[its,r,pl,_]:=I.list h;exact#[_,r,pl.isList]
 |false=>let#[its,r,p,_]:=I.tuple h;exact#[_,r,p]
def dQ (K:Frag) (zY zW:Bool) (a b:Ch) (xs ys:u_ V):It:=
  #[λi H=>SqK zY K H a xs ∧ SqK zW K H b ys ∧ i < xs.length ∧ i < ys.length,λi H x H'=>∃ T p q,x=.ref T ∧ H T=r_ ∧ H'=Av H T^.tup [p,q] ∧ xs[i]?=P3 p ∧ ys[i]?=P3 q,
   λi H=>SqK zY K H a xs ∧ SqK zW K H b ys ∧ (xs.length ≤ i ∨ ys.length ≤ i)]
structure fW (zY zW:Bool) (z TI TO i1 i2 a b:Ch) (k:Nat) (h:iQ):Prop where
 z:lW h z TI TO .none
 ti:jz h TI (.ref i1) (.ref i2)
 to:∃a b,jz h TO a b
 i1:ItAt zY h i1 a k
 i2:ItAt zW h i2 b k
def Vl{P:ic}{w:ip}{K:Frag}{es:u_ ie}{j:Nat}{pos:Pos}(zY zW:Bool)(z TI TO i1 i2 a b:Ch)(xs ys:u_ V)(D:dP z TI TO i1 i2 a b)(hTI:TI∉[z,TO,i1,i2]):
  Turn P w K (.Tuple es j pos) (dQ K zY zW a b xs ys) [z,TI,TO,i1,i2] z (fW zY zW z TI TO i1 i2 a b) where
 mem:=by simp
 obj:=λi h st c hc=>by
  simp only[UF,ig,or_false]at hc
  rcases hc with rfl|rfl|rfl|rfl|rfl
  .exact#[_,st.z,λv q=>by cases q]
  .exact#[_,st.ti,λv q=>by cases q]
  .let#[a,b,e]:=st.to
   exact#[_,e,λv q=>by cases q]
  .exact st.i1.lies
  .exact st.i2.lies
 keep:=λi h h' st k=>by
  let#[p,q,e]:=st.to;exact#[k z (by simp) _ st.z,k TI (by simp) _ st.ti,#[p,q,k TO (by simp) _ e],st.i1.mv λo e=>k i1 (by simp) o e,st.i2.mv λo e=>k i2 (by simp) o e]
 item:=by
  intro X hP hw hK hc i zF s Z H E I hf st hg;subst hP hw hK;let#[ha,hb,hi,hj]:=hg;let#[us,r1,q1]:=ha.at I;let#[ws,r2,q2]:=hb.at I;let#[u,hu,ru]:=r1.get^Go hi;let#[v,hv,rv]:=r2.get^Go hj;let#[p,q,e]:=st.to;refine Le D st.z st.ti e st.i1 st.i2 q1 q2 (x:=u) (y:=v) (by simpa using hu) (by simpa using hv) λh' a1 a2 a3 a4 a5 a6 a7=>#[_,rfl,?_];refine wpAny_letOwnedTupleGo_zip a1 λh2 b1 b2=>?_;have hT:H s.heap.objs.size=r_:=I.hok.fresh^Sc _
  have kk:∀c o,c∉[z,TO,i1,i2]->s.heap.get? c=P3 o->h2.get? c=P3 o:=λc o hc e=>by
   simp only[UF,ig,or_false,not_or]at hc;exact b2.extBut _ _ hc.1^a7 c o hc.1 hc.2.1 hc.2.2.1 hc.2.2.2 e
  have I2:Inv X zF Z (Av H s.heap.objs.size^.tup [xs[i],ys[i]]) {s with heap:=h2}:=by
   refine I.turnLaid (t':=s.toks) (ch:=[z,TO,i1,i2]) (λc hc=>hf c ?_) kk (Sc _) ?_
   .simp only[UF,ig,or_false]at hc ⊢
    rcases hc with rfl|rfl|rfl|rfl <;>simp
   .have nT:s.heap.objs.size≠z:=mG^T0 st.z
    exact#[by show 2<=sizeLine;decide,[u,v],.cons ru^.cons rv .nil,#[_,b2.extBut _ _ nT a5,rfl,_,rfl,rfl,rfl]]
  have ti2:jz h2 TI (.ref i1)^.ref i2:=kk _ _ hTI st.ti;refine#[.ref s.heap.objs.size,_,I2,rfl,#[_,_,_,rfl,hT,rfl,Go hi,Go hj],#[b1,ti2,#[_,_,b2.extBut _ _ D.TOz a2],a3.eb b2.extBut D.i1z,a4.eb b2.extBut D.i2z],λc hc=>?_];have hcn:H c=r_:=(hf c hc).1
  have hlt:c≠s.heap.objs.size:=λz=>by
   obtain⟨o,ho,_⟩:∃o,s.heap.get? c=P3 o/\True:=by
    simp only[UF,ig,or_false]at hc
    rcases hc with rfl|rfl|rfl|rfl|rfl
    .exact#[_,st.z,trivial]
    .exact#[_,st.ti,trivial]
    .exact#[_,e,trivial]
    .let#[o,q,_]:=st.i1.lies;exact#[o,q,trivial]
    .let#[o,q,_]:=st.i2.lies;exact#[o,q,trivial]
   rw[z]at ho;exact jU _^T0 ho
  rw[AO hlt];exact hcn
 done:=by
  intro X hP hw hK hc i zF s Z H E I hf st hg;subst hP hw hK;let#[ha,hb,hi]:=hg;let#[us,r1,q1]:=ha.at I;let#[ws,r2,q2]:=hb.at I;let#[p,q,e]:=st.to;have l1:=r1.length;have l2:=r2.length;refine Nj (I.ok.hd hc) D st.z st.ti e st.i1 st.i2 q1 q2 (hi.imp (λhi=>by simp;lk) λhi=>by simp;lk) λh' kk=>#[rfl,?_];refine I.turnedL (t':=s.toks) (ch:=[z,TO,i1,i2]) (λc hc=>hf c ?_) λc o hc e=>?_
  .simp only[UF,ig,or_false]at hc ⊢
   rcases hc with rfl|rfl|rfl|rfl <;>simp
  .simp only[UF,ig,or_false,not_or]at hc
   exact kk c o hc.1 hc.2.1 hc.2.2.1 hc.2.2.2 e
 self:=λA i s Q E st h=>wpAny_pyIter_zip st.z h
section
variable {X:Cx}
def ax(n a b:Nat)(h1:a<n)(h2:b<n):dP (n+4) (n+2) (n+3) n (n+1) a b:=by
 constructor <;>(grind)
def aw(n:Nat):(n+2)∉[n+4,n+3,n,n+1]:=by
 grind
def ay(n c:Nat)(h:c∈[n+4,n+2,n+3,n,n+1]):n<=c:=by
 grind
def gS(K:Frag)(ta:TA):TI:=λZ H R=>ta Z H λvs H1=>∃zY zW a b xs ys,vs=[.ref a,.ref b]/\SqK zY K H1 a xs/\SqK zW K H1 b ys/\R (dQ K zY zW a b xs ys) H1
def bo{e1 e2:ie}{es:u_ ie}{j:Nat}{tpos:Pos}{ta:TA}{p pos:Pos}(hg:Gl X "zip")(hm:X.mg "zip"=r_)(ha:PA X [e1,e2] ta)(hs:starEach [e1,e2] X.env=[(t_,eval e1 X.env),(t_,eval e2 X.env)]:=by rfl)(hs2:starEach [e2] X.env=[(t_,eval e2 X.env)]:=by rfl):
  PI X (.Tuple es j tpos) (.Call (.Name "zip" p) [e1,e2] [] pos) (gS X.K ta):=by
 intro zF s Z H R I h;refine Call_ (EB I hg hm boot_zip^jk (BG (ha pos zF s Z H _ I h) λus s1 #[vs,H1,I1,r1,q1]=>?_) (by rw[hs,hs2])^by rw[hs2];rfl);let#[zY,zW,a,b,xs,ys,e,h1,h2,q]:=q1;subst e;let#[u,v,rfl,ru,rv]:=vals2 r1;cases ru;cases rv;let#[us,r1',q1]:=h1.at I1;let#[ws,r2',q2]:=h2.at I1;have la:a<s1.heap.objs.size:=by let#[o,e]:=q1.lies;exact T0 e
 have lb:b<s1.heap.objs.size:=by let#[o,e]:=q2.lies;exact T0 e
 refine N7 q1 q2 λh' hz hTI hTO hi1 hi2 hk=>?_;refine wpAny_pyIter_zip hz ?_;have D:=ax s1.heap.objs.size a b la lb;refine#[s1.heap.objs.size+4,[s1.heap.objs.size+4,s1.heap.objs.size+2,s1.heap.objs.size+3,s1.heap.objs.size,s1.heap.objs.size+1],_,dQ X.K zY zW a b xs ys,H1,rfl,I1.kept (t':=s1.toks) hk,Vl zY zW _ _ _ _ _ a b xs ys D^aw s1.heap.objs.size,#[hz,hTI,#[_,_,hTO],hi1,hi2],λc hc=>?_,q];have hge:s1.heap.objs.size<=c:=ay s1.heap.objs.size c hc;exact I1.fpOk hge^I1.hok.fresh hge
end
end L2
namespace Dp
open L2
def Ik(ds es:u_ D):u_ D:=j4 (λd e=>.tup [d,e]) ds es
section
variable {K:Frag}
def Vy{U V' M:Ch->Prop}{H:Hp}{d:D}{v:V}{ds:u_ D}(h:AtT K V' M H d v)(e:Mw d=P3 ds)(uV:∀a,U a->V' a)(vM:∀a,V' a->M a):∃κ a vs,v=.ref a/\Ats K M H ds vs/\∀M' H',Pres M H M' H'->Ext U H H'->SqK κ K H' a vs:=by
 cases d with
 |lst xs=>
  cases e;let#[a,vs,e1,n1,hq,hs]:=h;refine#[s_,a,vs,e1,hs,λM' H' _ ex=>?_]
  rcases hq with hq|⟨o,hq⟩
  .exact .inl^.inl^ex.keep hq λz=>n1^uV a z
  .exact .inl^.inr #[o,ex.keep hq λz=>n1^uV a z]
 |tup xs=>
  cases e;let#[a,vs,e1,hq,hs]:=h;exact#[t_,a,vs,e1,hs,λM' H' pr _=>(hq.pres pr).sq]
 |_=>cases e
def Vz{M:Ch->Prop}{H:Hp}{d:D}{v:V}{ds:u_ D}(h:At K M H d v)(e:Mw d=P3 ds):∃κ a vs,v=.ref a/\Ats K M H ds vs/\∀M' H',Pres M H M' H'->SqK κ K H' a vs:=by
 cases d with
 |lst xs=>
  cases e;let#[a,vs,e1,hq,hs]:=h;exact#[s_,a,vs,e1,hs,λM' H' pr=>(hq.pres pr).sq]
 |tup xs=>
  cases e;let#[a,vs,e1,hq,hs]:=h;exact#[t_,a,vs,e1,hs,λM' H' pr=>(hq.pres pr).sq]
 |_=>cases e
def Qh{M:Ch->Prop}{H:Hp}{zY zW:Bool}{a b:Ch}{vs us:u_ V}{ds es:u_ D}(hs:Ats K M H ds vs)(ht:Ats K M H es us){i:Nat}{M':Ch->Prop}{H':Hp}(pr:Pres M H M' H')(h1:SqK zY K H' a vs)(h2:SqK zW K H' b us)(dom:∀a,M' a->∃o,H' a=P3 o):
  (∀d,(Ik ds es)[i]?=P3 d->(dQ K zY zW a b vs us).go i H'/\∀x H2,(dQ K zY zW a b vs us).yld i H' x H2->Grow H' H2/\At K M' H2 d x)/\((Ik ds es).length<=i->(dQ K zY zW a b vs us).stop i H'):=by
 have l1:=hs.length;have l2:=ht.length;refine#[λd hd=>?_,λhl=>#[h1,h2,?_]]
 .unfold Ik at hd
  rw[pD]at hd;cases q1:ds[i]? with
  |none=>rw[q1]at hd;simp at hd
  | some d1=>
   cases q2:es[i]? with
   |none=>rw[q1,q2]at hd;simp at hd
   |some d2=>
    rw[q1,q2]at hd;have hd':D.tup [d1,d2]=d:=eq hd;have i1:i<ds.length:=(Uf.mp q1).1;have i2:i<es.length:=(Uf.mp q2).1;refine#[#[h1,h2,by lk,by lk],λx H2 y=>?_];let#[T,p,q,rfl,hT,rfl,e1,e2]:=y;let#[v1,f1,a1]:=(hs.pres pr).get q1;let#[v2,f2,a2]:=(ht.pres pr).get q2;rw[e1]at f1;rw[e2]at f2;cases f1;cases f2;subst hd';exact#[Ap hT,C9 dom hT #[p,[q],rfl,a1,q,[],rfl,a2,rfl]]
 .unfold Ik at hl
  grind
end
section
variable {X:Cx}{e1 e2:Expr}{es:u_ Expr}{j:Nat}{tpos p pos:Pos}{ws:EW}
def dS(ws:EW):EW:=λn ρ P=>ws n ρ λds n1=>∃d e xs ys,ds=[d,e]/\Mw d=P3 xs/\Mw e=P3 ys/\P (Ik xs ys) n1
def cf(hg:Gl X "zip")(hm:X.mg "zip"=r_)(ha:ao X [e1,e2] ws)(hs:starEach [e1,e2] X.env=[(t_,eval e1 X.env),(t_,eval e2 X.env)]:=by rfl)(hs2:starEach [e2] X.env=[(t_,eval e2 X.env)]:=by rfl):
  DI X (.Tuple es j tpos) (.Call (.Name "zip" p) [e1,e2] [] pos) (dS ws):=by
 let#[t,a1,a2]:=ha;refine#[_,bo hg hm a1 hs hs2,λC M H n ρ Z P Rr R w q=>?_];refine a2 C M H n ρ Z _ _ R w λvs H1 ds n1 ee f1 r1 p=>?_;let#[d,e,xs,ys,rfl,hd,he,p]:=p;let#[v,r,rfl,r1,v',r',rfl,r2,rr]:=r1;cases(show r'=[]from rr);let#[zY,a,us,rfl,h1,s1]:=Vz r1 hd;let#[zW,b,us',rfl,h2,s2]:=Vz r2 he;exact#[zY,zW,a,b,us,us',rfl,s1 M H1^Pres.refl _ _,s2 M H1^Pres.refl _ _,q _ H1 _ n1 ee f1 (λi M' H' pr dom=>Qh h1 h2 pr (s1 M' H' pr) (s2 M' H' pr) dom) p]
def gP:D->v_ Key
 |.int i=>P3^.inl i
 |.str x=>P3^.inr x
 |_=>r_
def IR:u_ D->v_^u_ Key
 |[]=>P3 []
 |d::ds=>match gP d,IR ds with
  |some k,P3 ks=>P3 (k::ks)
  |_,_=>r_
theorem Dt{K:Frag}{M:Ch->Prop}{H:Hp}:∀{ds:u_ D}{vs:u_ V}{ks:u_ Key},IR ds=P3 ks->Ats K M H ds vs->vs=ks.map kOf
 |[],vs,ks,e,h=>by cases e;exact h
 | d::ds,vs,ks,e,h=>by
  let#[v,r,e1,h1,h2]:=h;unfold IR at e
  split at e
  .rename_i k ks' hk hks
   cases e;rw[e1,Dt hks h2]
   congr 1
   cases d with
   |int i=>cases hk;exact h1
   |str x=>cases hk;exact h1.1
   |_=>cases hk
  .cases e
def Gi(d e:D)(P:D->Prop):Prop:=match d,e with
 |.int i,.int j=>P^.bl (decide (i<j))
 |.str i,.str j=>P^.bl (decide (i.cps.toList<j.cps.toList))
 |.tup xs,.tup ys=>∃ks ls,IR xs=P3 ks/\IR ys=P3 ls/\BY ks ls=s_/\P^.bl^Co ks ls
 |_,_=>False
def eJ(K:Frag):R2:=λx y H Q=>bZ x y H Q\/eI K x y H Q
def D8{k:Nat}(hr:Room k X.A):OpR X (compareOp .Lt)^eJ X.K:=op_ltU.or^b8 hr.units0
def G3:D3 X.K .sh (eJ X.K) Gi:=λU M H d e x y P Q dom vM hx hy w q=>by
 unfold Gi at w
 split at w
 .exact .inl^aj U M H _ _ x y P Q dom vM hx hy w q
 .exact .inl^aj U M H _ _ x y P Q dom vM hx hy w q
 .let#[ks,ls,h1,h2,h3,w]:=w
  let#[a,vs,rfl,ha,hs]:=hx.tup;let#[b,us,rfl,hb,ht]:=hy.tup;have e1:=Dt h1 hs;have e2:=Dt h2 ht;subst e1 e2;exact .inr #[a,b,ks,ls,rfl,rfl,ha.sq,hb.sq,h3,q _ H (.bl _) .refl rfl w]
 grind
end
end Dp
namespace L2
section
variable {prog:Program}{w:World}{A:Around}{E:Value->Shared->Prop}{s:Shared}
def Oq{t sl:Ch}{items:Array Db}{vl vu:Db}{lo hi:v_ Int}{Q:Db->No->Prop}(ht:IsTup s.heap t items)(hs:s.heap.IsSliceOf sl vl vu .none)(pl:nI vl lo)(pu:nI vu hi)
  (hw:HT.sIx items.size 0 lo=0/\HT.sIx items.size items.size hi=items.size) (h:Q (.ref t) s):wpAny (model prog w) A (getItem (.ref t)^.ref sl) Q E s:=by
 let#[os,hos,hcs,hds]:=id hs;have hTs:s.TypeIs (.ref sl) "slice":=#[os,hos,hcs];unfold getItem
 (try with_reducible refine jX ?_);(first|refine Cn^Op ?_|skip)
 refine Cn^wpAny_sequenceKey ht.typeIs (by cbv)^Cn^jR (name:=jH "__getitem__") ht.typeIs jS^jm jS ht.typeIs entry_tuple_getitem ?_^args_tuple_getitem _ _;show wpAny (model prog w) _ (oF^.ref t >>=_) _ _ s;refine Cn^tupleItemsOf_ ht^Cn^mJ hTs ?_;rw[if_pos^by cbv]
 refine Cn^HT.sliceApplied_gen hs pl pu ?_;have hyes:(((HT.sIx items.size 0 lo:Nat):Int)==0&&(1:Int)==1&&(HT.sIx items.size items.size hi - HT.sIx items.size 0 lo)==items.size)=s_:=by rw[hw.1,hw.2];simp
 show wpAny (model prog w) _ (if(((HT.sIx items.size 0 lo:Nat):Int)==0&&(1:Int)==1&&(HT.sIx items.size items.size hi - HT.sIx items.size 0 lo)==items.size)=s_ then _ else _) _ _ s;rw[if_pos hyes];refine Cn (m:=oH _) ?_;unfold oH;refine Cn^mJ ht.typeIs^Op ?_;show wpAny (model prog w) _ (if((jE "tuple"==jE "tuple")=s_)then _ else _) _ _ s;rw[if_pos^by cbv]
 first
  |grind
  |exact Cn^mT^Op #[_,rfl,Op h]
  |grind
end
section
variable {X:Cx}
def Z_(K:Frag):V->v_ Int->v_ Int->Hp->VK->Prop:=λx lo hi H Q=>∃a xs,x=.ref a/\SqT K H a xs/\(HT.sIx xs.length 0 lo=0/\HT.sIx xs.length xs.length hi=xs.length)/\Q (.ref a) H
def Yl:SlR X^Z_ X.K:=by
 intro zF s Z H x v vl vu lo hi sl Q I rx hs pl pu h;let#[a,xs,rfl,hx,hw,q]:=h;cases rx;let#[its,r,ht,hz]:=I.tuple hx;have hlen:=r.length.symm;exact#[_,_,jS.lookup,ht.typeIs,Oq ht hs pl pu (by grind) #[.ref a,H,I,rfl,q]]
end
section
variable {X:Cx}
def WN(K:Frag):R2:=λx y H Q=>∃a b ys,x=.ref a/\y=.ref b/\SqT K H a []/\SqT K H b ys/\Q (.ref b) H
def Ww:OpR X (binaryOp .Add)^WN X.K:=by
 intro zF s Z H x y v u Q I rx ry h;let#[a,b,ys,rfl,rfl,ha,hb,q]:=h;cases rx;cases ry;let#[its,r1,p1,_]:=I.tuple ha;let#[its2,r2,p2,_]:=I.tuple hb;cases r1;let#[#[cls,dd,data,sl],ho,hc,n,hd]:=id p1;let#[#[cls2,dd2,data2,sl2],ho2,hc2,n2,hd2]:=id p2;subst hc hd hc2 hd2;exact concat_meets #[_,ho,rfl] #[_,ho2,rfl] oZ seq_tuple_add PySem.F.slot_tuple_add PySem.F.entry_tuple_add (PySem.F.args_tuple_add_2 _ _) (tuple_addW0 a b _ _ n n2 dd _ sl _^by simp) #[ho,ho2,#[.ref b,H,I,rfl,q]]
def bI(b:Bool):Int:=if b=s_ then 1 else 0
def fm(g:Int->Int->Int):R2:=λx y H Q=>∃k j,x=.bl k/\y=.int j/\Q (.int^g (bI k) j) H
def gy(g:Int->Int->Int):R2:=λx y H Q=>∃i k,x=.int i/\y=.bl k/\Q (.int^g i^bI k) H
def op_add_bi:OpR X (binaryOp .Add) (fm λi j=>i+j):=by
 intro zF s Z H x y v u Q I rx ry h;let#[k,j,rfl,rfl,q]:=h;cases rx;let#[t,rfl]:=ry;exact PySem.IntBool.add_bool_int #[.int _,H,I.tok _,#[_,rfl],q]
def op_sub_bi:OpR X (binaryOp .Sub) (fm λi j=>i - j):=by
 intro zF s Z H x y v u Q I rx ry h;let#[k,j,rfl,rfl,q]:=h;cases rx;let#[t,rfl]:=ry;exact PySem.IntBool.sub_bool_int #[.int _,H,I.tok _,#[_,rfl],q]
def UU:OpR X (binaryOp .Sub) (gy λi j=>i - j):=by
 intro zF s Z H x y v u Q I rx ry h;let#[i,k,rfl,rfl,q]:=h;let#[t,rfl]:=rx;cases ry;exact PySem.IntBool.sub_int_bool #[.int _,H,I.tok _,#[_,rfl],q]
def Z9:u_ V->Hp->VK->Prop:=λxs H Q=>(∃i,xs=[.int i]/\i.natAbs.log2<1920/\Q (.str^toString i) H)\/∃b,xs=[.bl b]/\Q (.str (if b then "True" else "False")) H
def MZ:CallR X (.type "str") Z9:=by
 intro zF s Z H xs us Q I r h
 rcases h with h|⟨b,rfl,q⟩
 .exact N8 _ s Z H xs us Q I r h
 .let#[u,rfl,rx]:=vals1 r
  cases rx;exact PySem.P.str_of_bool #[.str _,H,I.tok _,#[_,rfl],q]
end
end L2
namespace Dp
open L2
section
variable {K:Frag}{X:Cx}
def BX(d e:D)(P:D->Prop):Prop:=match d,e with
 |.int i,.int j=>P^.int (i+j)
 |.bl k,.int j=>P^.int (bI k+j)
 |.str i,.str j=>i.length+j.length<=sizeLine/\P^.str (i++j)
 |.tup i,.tup j=>i.length+j.length<=sizeLine/\P^.tup (i++j)
 |.lst i,.lst j=>i.length+j.length<=sizeLine/\P^.lst (i++j)
 |_,_=>False
def aK(K:Frag):R2:=λx y H Q=>WP K x y H Q\/(fm λi j=>i+j) x y H Q\/WN K x y H Q
def A9:OpR X (binaryOp .Add)^aK X.K:=op_addU.or^op_add_bi.or Ww
def BZ:D3 X.K .sh (aK X.K) BX:=λU M H d e x y P Q dom vM hx hy w q=>by
 unfold BX at w
 split at w
 .exact .inl^OF U M H (.int _) (.int _) x y P Q dom vM hx hy w q
 .rename_i k j
  exact .inr^.inl #[k,j,hx,hy,q _ H (.int _) .refl rfl w]
 .exact .inl^OF U M H _ (.str _) x y P Q dom vM hx hy w q
 .rename_i i j
  cases i with
  |nil=>
   let#[a,vs,rfl,ha,hs]:=hx.tup;let#[b,us,rfl,hb,ht]:=hy.tup;cases(hs);exact .inr^.inr #[a,b,us,rfl,rfl,ha.sq,hb.sq,q _ H (.tup j) .refl #[b,us,rfl,hb,ht]^by grind]
  |cons i0 i=>exact .inl^OF U M H _ (.tup j) x y P Q dom vM hx hy #[(by grind),w] q
 .exact .inl^OF U M H (.lst _) (.lst _) x y P Q dom vM hx hy w q
 grind
def Gh(d e:D)(P:D->Prop):Prop:=match d,e with
 |.int i,.int j=>P^.int (i - j)
 |.bl k,.int j=>P^.int (bI k - j)
 |.int i,.bl k=>P^.int (i - bI k)
 |_,_=>False
def Z8:R2:=λx y H Q=>(Iq λi j=>.int (i - j)) x y H Q\/(fm λi j=>i - j) x y H Q\/(gy λi j=>i - j) x y H Q
def JF:OpR X (binaryOp .Sub) Z8:=op_sub.or^op_sub_bi.or UU
def OC:D3 K .sh Z8 Gh:=λU M H d e x y P Q dom vM hx hy w q=>by
 unfold Gh at w
 split at w
 .exact .inl^YJ U M H _ _ x y P Q dom vM hx hy w q
 .rename_i k j
  exact .inr^.inl #[k,j,hx,hy,q _ H (.int _) .refl rfl w]
 .rename_i i k
  exact .inr^.inr #[i,k,hx,hy,q _ H (.int _) .refl rfl w]
 grind
def TJ(ds:u_ D)(P:D->Prop):Prop:=match ds with
 |[.int i]=>i.natAbs.log2<1920/\(jH^toString i).length<=sizeLine/\P^.str^toString i
 |[.bl b]=>P^.str (if b then "True" else "False")
 |_=>False
def YF:B6 K .sh Z9 TJ:=by
 intro U M H ds vs P Q dom vM hp w q;unfold TJ at w
 split at w
 .rename_i i
  let#[v,rfl,hx]:=CV hp;rw[hx.int];exact .inl #[i,rfl,w.1,q _ H (.str _) .refl #[rfl,w.2.1] w.2.2]
 .rename_i b
  let#[v,rfl,hx]:=CV hp;rw[hx.bl];refine .inr #[b,rfl,q _ H (.str _) .refl #[rfl,?_] w];cases b <;>(decide)
 grind
def Pq(d:D)(lo hi:v_ Int)(P:D->Prop):Prop:=match d with
 |.str z=>P^.str^Txt.slice z lo hi
 |.lst xs=>P^.lst^cutD xs lo hi
 |.tup xs=>P^.tup^cutD xs lo hi
 |_=>False
def eE(K:Frag):V->v_ Int->v_ Int->Hp->VK->Prop:=λx lo hi H Q=>eA x lo hi H Q\/eC K x lo hi H Q\/eB K x lo hi H Q\/Z_ K x lo hi H Q
def Vv:SlR X^eE X.K:=sl_U.or^sl_list.or^sl_tup.or Yl
def Ta{M:Ch->Prop}{H:Hp}{ds:u_ D}{vs:u_ V}(lo hi:v_ Int)(h:Ats K M H ds vs):Ats K M H (cutD ds lo hi)^P7 vs lo hi:=by
 unfold cutD P7;rw[h.length];exact(h.drop _).take _
def QP:g_ K .sh (eE K) Pq:=by
 intro U M H d x lo hi P Q dom vM hx w q;unfold Pq at w
 split at w
 .rename_i z
  exact .inl #[z,hx.str.1,hx.str.2,q _ H (.str^Txt.slice z lo hi) .refl #[rfl,iU (Txt.slice_le z lo hi) hx.str.2] w]
 .rename_i xs
  let#[a,vs,rfl,_,ha,hs]:=hx;exact .inr^.inl #[a,vs,rfl,.inl ha,λp hp=>q _ _ (.lst _) (Ap hp) ((B4 (U:=U) hp^Ta lo hi hs).shOf dom^by grind) w]
 .rename_i xs
  let#[a,vs,rfl,ha,hs]:=hx.tup
  by_cases hw:HT.sIx vs.length 0 lo=0/\HT.sIx vs.length vs.length hi=vs.length
  .refine .inr^.inr^.inr #[a,vs,rfl,ha.sq,hw,?_]
   have e:cutD xs lo hi=xs:=by
    unfold cutD;rw[←hs.length,hw.1,hw.2,List.drop_zero,Nat.sub_zero,hs.length,m6]
   rw[e]at w;exact q _ H (.tup xs) .refl #[a,vs,rfl,ha,hs] w
  .exact .inr^.inr^.inl #[a,vs,rfl,ha.sq,hw,λp hp=>q _ _ (.tup _) (Ap hp) (C9 dom hp^Ta lo hi hs) w]
 grind
end
end Dp
namespace Nt
open L2 Dp
def BU:W2:=λss n P=>∃m:Int,ss=[.fd,.sh^.int m]/\1<=m/\m<1073741824/\1<=n.n/\∀r:Int,0<=r->r<m->P (.int r) (n - 1)
end Nt
namespace K68
open L2 Dp Nt
def top(i:Nat):ii:=PySem.Challenge.pw_thinnet_k68_whole_what_turns.main.body.getD i^.Pass #[0,0,0,0]
def Dx(j:Nat)(s:ii):ii:=match s with
 |.ClassDef _ _ _ b _ _ _ _ _ _ _=>b.getD j^.Pass #[0,0,0,0]
 |_=>.Pass #[0,0,0,0]
abbrev J1:ii:=top 12
abbrev IA:ii:=top 13
abbrev MD:ii:=top 14
abbrev MC:ii:=top 15
abbrev Jx:ii:=top 16
abbrev Fs:ii:=top 17
abbrev V1:ii:=top 18
abbrev MA:ii:=top 19
abbrev Jz:ii:=top 20
abbrev O7:ii:=top 22
abbrev Yo:ii:=top 23
abbrev IB:ii:=top 24
abbrev FP:ii:=top 25
abbrev EL:ii:=top 26
abbrev Hy:ii:=top 27
abbrev GG:ii:=top 28
abbrev Jw:ii:=top 29
abbrev Hz:ii:=top 31
abbrev GF:ii:=top 32
abbrev GH:ii:=top 33
abbrev Z6:ii:=top 34
abbrev O6:ii:=top 36
abbrev H_:ii:=top 38
abbrev Jy:ii:=top 39
abbrev MB:ii:=top 40
abbrev A7:ii:=Dx 0^top 42
abbrev Dl:ii:=Dx 1^top 42
abbrev Jv:ii:=top 43
abbrev Eb:ii:=top 45
abbrev DL:ii:=top 46
abbrev GK:ii:=top 47
abbrev FR:ii:=top 48
abbrev FT:ii:=top 49
abbrev ID:ii:=top 50
abbrev GI:ii:=top 51
abbrev IE:ii:=top 52
abbrev GJ:ii:=top 53
abbrev FS:ii:=top 54
abbrev IF:ii:=top 55
abbrev ME:ii:=top 56
abbrev FW:ii:=Dx 5^top 42
abbrev C2:ii:=Dx 2^top 42
abbrev GP:ii:=Dx 11^top 42
abbrev IH:ii:=Dx 6^top 42
abbrev CU:ii:=Dx 3^top 42
abbrev GO:ii:=Dx 7^top 42
abbrev Ci:ii:=Dx 4^top 42
abbrev FV:ii:=Dx 8^top 42
abbrev IC:ii:=top 57
abbrev FQ:ii:=top 58
abbrev IG:ii:=top 59
abbrev GL:ii:=top 60
abbrev DK:ii:=top 61
abbrev GN:ii:=Dx 9^top 42
abbrev FU:ii:=Dx 10^top 42
abbrev J0:ii:=top 62
abbrev J3:ii:=Dx 12^top 42
structure Txt (K:Frag) (mg:Str->Option Db):Prop where
 Gap:mg "all"=r_
 Gas:mg "bool"=r_
 Gao:mg "enumerate"=r_
 Gaq:mg "int"=r_
 Gag:mg "isinstance"=r_
 Gaa:mg "len"=r_
 Gan:mg "list"=r_
 Gal:mg "max"=r_
 Gai:mg "min"=r_
 Gak:mg "range"=r_
 Gaj:mg "repr"=r_
 Gar:mg "reversed"=r_
 Gae:mg "sorted"=r_
 Gam:mg "str"=r_
 Gab:mg "tuple"=r_
 Gat:mg "zip"=r_
 Gah:∃t,mg "MOST_SIGNS"=P3 (.int 8 t)
 Gac:∃t,mg "MOST_NUMBER"=P3 (.int 1000000 t)
 Gad:∃t,mg "MOST_PLACES"=P3 (.int 24 t)
 Gaf:∃t,mg "MOST_TIES"=P3^.int 60 t
section
variable {P:Program}{w:World}{K:Frag}{mg:Str->v_ Value}{base:Heap}
def pQ:AY ["_law_feed_here","_law_many","_law_digit","_law_at","_law_cell","_law_first"] ["_law_feed_here","_law_many"]^AJ DL:=#[rfl,rfl,rfl,by decide +kernel,rfl,by decide +kernel,by decide +kernel]
def ZD{f:Ch}{fd:jK}(F:Fun K "_law_next" "_law_next" DL f fd)(ml:mg "len"=r_):FnOk P w K mg base GC 1 f fd ["_law_feed_here","_law_many"]^T6 K .sh BU 2:=by
 refine F.ok pQ (λvs H Q E h=>h.1) λcdv A outer s H vs Q E hr h=>?_;let#[hl,F0,U,V',M,n,ss,Pd,ra,#[m,rfl,hm1,hm2,hn,hP],q]:=h;let#[dom,fU,uV,vM,fd0,pa]:=ra;cases pa with
 |cons r1 pa=>
 cases pa with
 |cons r2 pa=>
 cases pa;let#[#[f0,c],e0,hF]:=r1.1;cases e0;let#[v2,e2,h2]:=r2.1;cases e2;cases(show _=V.int m from h2);let#[a,r,cells,hf,hcf,hc,hcl,ha0,han]:=fd0.1 (f0,c) hF
 have fin:∀(a' r' z:Int) (H':Hp),(∀b o,H b=P3 o->b≠f0->H' b=P3 o)->H' f0=P3^.lst [.ref c,.int a',.int r']->0<=a'->a'<=a+1->0<=z->z<m->Q (.int z) H':=by
  intro a' r' z H' hk' hf' h0 h1 hz0 hz1;refine q (.int z) H' (.int z) (n - 1) (λb o e=>?_) #[λg hg=>?_,λb k hk=>(fd0.2 b k hk).to (λ_ _ z=>z) (λb vs e=>hk' b _ e λz=>by rw[z,hf]at e;cases e) (λb o e=>if z:b=f0 then#[_,z▸hf']else#[o,hk' b o e z]) λu e=>hk' b _ e λz=>by rw[z,hf]at e;cases e] rfl (hP z hz0 hz1)
  .by_cases hb:b=f0
   .subst hb
    exact#[_,hf',λnu _=>absurd (fU (b,c) hF) nu,λvs z=>by rw[z,hf]at e;cases e]
   .exact#[o,hk' b o e hb,λ_ _=>rfl,λ_ _=>rfl]
  .have:g=(f0,c):=eq^hg.symm.trans hF
   subst this;exact#[a',r',cells,hf',hcf,#[hc.1,hk' c _ hc.2 hcf],hcl,h0,by have e:(n - 1:Sg).n=n.n - 1:=rfl;lk]
 have hu:(A.deeper^envOfC "_law_next" (AJ DL) s.heap.objs.size f cdv).units<cLine:=hr.units0;have hsq:∀{H':Hp}{xs:u_ V},H' f0=P3^.lst xs->SqL K H' f0 xs:=λh=>SqL.of h;have ed:∀z:Int,0<=z % m/\z % m<m:=λz=>#[nP _^by lk,mQ _^by lk]
 refine#[_,BR (WW (GR aM (EM ix_list (pv 0) A3 λ_ _=>rfl) A3^Ah _)
   (BR (Ec (i:=2) pQ.nd rfl (ZB rfl) (Bz C6 (EM ix_list (pv 0) A3 λ_ _=>rfl)^pv 1))
   (BR (NN (Bz JG (EM ix_list (pv 0) A3 λ_ _=>rfl)^pv 1)^RB (pv 0) A3 set_list)
   (DM^Fv^pv 2))) NL)
  (BR (Ec (i:=3) pQ.nd rfl (ZB rfl) (EM ix_list (pv 0) A3 λ_ _=>rfl))
  (BR (NN (Bz op_add (pv 3) A3)^RB (pv 0) A3 set_list)
  (BR (Ec (i:=4) pQ.nd rfl (ZB rfl) (PM (GR (UV hu) (EM ix_list (pv 0) A3 λ_ _=>rfl) (RD C5)^Ah _)
   (EM ix_list (EM ix_list (pv 0) A3 λ_ _=>rfl) (Bz C6 (pv 3) (GW As rfl ml PySem.boot_len (B7 (EM ix_list (pv 0) A3 λ_ _=>rfl) C5))) λ_ _=>rfl) A3))
  (BR (WW (PW.pt^WQ (GR eh (pv 4) (Bz RE A3 A3)^Ah _)^Sk^GR op_lt (pv 3) (GW As rfl ml PySem.boot_len (B7 (EM ix_list (pv 0) A3 λ_ _=>rfl) C5))^Ah _)
   (BR (NN (Bz JG (pv 4)^pv 1)^RB (pv 0) A3 set_list)
   (DM^Fv^Bz C6 (pv 4)^pv 1)) NL)
  (BR (Ec (i:=5) pQ.nd rfl (ZB rfl) (Bz C6 (Bz op_mul (Bz op_add (Bz op_add (Bz op_add (Bz C6 (pv 4) A3)^Bz op_mul (Bz op_mul A3^pv 3)^pv 3)^Bz op_mul A3^pv 3) A3) A3) A3))
  (DM^Fv^Bz C6 (Bz JG (Bz C6 (Bz op_mul (Bz op_add (pv 5)^Bz op_mul A3^pv 3) A3) A3) A3)^pv 1)))))),?_]
 refine#[_,rfl,f0,_,2,_,rfl,rfl,hsq hf,rfl,_,_,rfl,rfl,_,rfl,?_];refine DF (λc1=>?_) λc1=>?_
 .refine#[_,rfl,f0,_,2,_,rfl,rfl,hsq hf,rfl,_,rfl,_,_,rfl,rfl,(by show(0:Int)<m;lk),?_]
  refine#[_,rfl,f0,_,2,_,rfl,rfl,hsq hf,rfl,_,rfl,_,_,rfl,rfl,#[(by show(0:Int)<m;lk),hm2],_,rfl,f0,_,2,2,rfl,rfl,hf,rfl,?_];refine#[_,rfl,?_];exact fin a _ _ _ (λb o e hb=>by rw[AO hb];exact e) AQ ha0 (by lk) (ed _).1 (ed _).2
 ·-- at=feed[1];feed[1]=at+1
  refine#[_,rfl,f0,_,1,_,rfl,rfl,hsq hf,rfl,?_];refine#[_,rfl,_,_,rfl,rfl,_,rfl,f0,_,1,1,rfl,rfl,hf,rfl,?_];generalize hH1:Av H f0^.lst^[V.ref c,V.int a,V.int r].set 1^V.int (a+1)=H1;have f1:H1 f0=P3^.lst [.ref c,.int (a+1),.int r]:=by rw[←hH1];exact AQ
  have k1:∀b o,H b=P3 o->b≠f0->H1 b=P3 o:=λb o e hb=>by rw[←hH1,AO hb];exact e
  have c1':H1 c=P3^.lst^cells.map V.int:=k1 c _ hc.2 hcf
  have rest:∀(z:Int) (H2:Hp),(∀b o,H1 b=P3 o->H2 b=P3 o)->
    (T3 (dh (d7 (SQ^Dg (Iq λi j=>V.bl (decide (j<=i))) (B9 4)^Dg (rI YW λi j=>V.int (i ^ j.toNat)) (tC^V.int 10)^tC^V.int 18)^SQ^Dg (Iq λi j=>V.bl (decide (i<j))) (B9 3)^dq (λxs H Q=>∃x n,xs=[x]/\dB K x H n/\Q (V.int n) H)^SR (Dg (bc K) (B9 0)^tC^V.int 0) T4) (T3 (Ow (Dg (rI YX λi j=>V.int (i / j)) (B9 4)^B9 1)^fE (B9 0) (tC^V.int 2) aA)^Yi^Dg (rI (λ_ j=>0<j) λi j=>V.int (i % j)) (B9 4)^B9 1) Z4)^T3 (Ow (Dg (rI (λ_ j=>0<j) λi j=>V.int (i % j)) (Dg (rI CMul λi j=>V.int (i*j)) (Dg (Iq λi j=>V.int (i+j)) (Dg (Iq λi j=>V.int (i+j)) (Dg (Iq λi j=>V.int (i+j)) (Dg (rI (λ_ j=>0<j) λi j=>V.int (i % j)) (B9 4)^tC^V.int 1000003)^Dg (rI CMul λi j=>V.int (i*j)) (Dg (rI CMul λi j=>V.int (i*j)) (tC^V.int 41)^B9 3)^B9 3)^Dg (rI CMul λi j=>V.int (i*j)) (tC^V.int 17)^B9 3)^tC^V.int 3)^tC^V.int 51749)^tC^V.int 999917)^IU 5)^Yi^Dg (rI (λ_ j=>0<j) λi j=>V.int (i % j)) (Dg (rI YX λi j=>V.int (i / j)) (Dg (rI (λ_ j=>0<j) λi j=>V.int (i % j)) (Dg (rI CMul λi j=>V.int (i*j)) (Dg (Iq λi j=>V.int (i+j)) (B9 5)^Dg (rI CMul λi j=>V.int (i*j)) (tC^V.int 8111)^B9 3)^tC^V.int 39373)^tC^V.int 2097143)^tC^V.int 3)^B9 1)
     {nx:=λ_ H'=>Q .non H',rt:=Q} [P3^.ref f0,P3^.int m,r_,P3^.int a,P3^.int z,r_] H2:=by
   intro z H2 k2;have f2:=k2 _ _ f1;have c2:=k2 _ _ c1'
   have lastWay:∀H3:Hp,H3=H2->(T3 (Ow (Dg (rI (λ_ j=>0<j) λi j=>V.int (i % j)) (Dg (rI CMul λi j=>V.int (i*j)) (Dg (Iq λi j=>V.int (i+j)) (Dg (Iq λi j=>V.int (i+j)) (Dg (Iq λi j=>V.int (i+j)) (Dg (rI (λ_ j=>0<j) λi j=>V.int (i % j)) (B9 4)^tC^V.int 1000003)^Dg (rI CMul λi j=>V.int (i*j)) (Dg (rI CMul λi j=>V.int (i*j)) (tC^V.int 41)^B9 3)^B9 3)^Dg (rI CMul λi j=>V.int (i*j)) (tC^V.int 17)^B9 3)^tC^V.int 3)^tC^V.int 51749)^tC^V.int 999917)^IU 5)^Yi^Dg (rI (λ_ j=>0<j) λi j=>V.int (i % j)) (Dg (rI YX λi j=>V.int (i / j)) (Dg (rI (λ_ j=>0<j) λi j=>V.int (i % j)) (Dg (rI CMul λi j=>V.int (i*j)) (Dg (Iq λi j=>V.int (i+j)) (B9 5)^Dg (rI CMul λi j=>V.int (i*j)) (tC^V.int 8111)^B9 3)^tC^V.int 39373)^tC^V.int 2097143)^tC^V.int 3)^B9 1)
     {nx:=λ_ H'=>Q .non H',rt:=Q} [P3^.ref f0,P3^.int m,r_,P3^.int a,P3^.int z,r_] H3:=by
    intro H3 e3;subst e3;have hb:CMul (41*a) a:=.inr #[by lk,by lk];refine#[_,rfl,_,_,rfl,rfl,(by show(0:Int)<1000003;decide),_,rfl,_,_,rfl,rfl,.inl #[by cbv,by cbv],_,rfl,_,_,rfl,rfl,hb,_,_,rfl,rfl,_,rfl,_,_,rfl,rfl,.inl #[by cbv,by cbv],_,_,rfl,rfl,_,_,rfl,rfl,_,_,rfl,rfl,.inr #[by cbv,by cbv],_,_,rfl,rfl,(by show(0:Int)<999917;decide),?_];refine#[_,rfl,_,rfl,_,_,rfl,rfl,.inl #[by cbv,by cbv],_,_,rfl,rfl,_,_,rfl,rfl,.inr #[by cbv,by cbv],_,_,rfl,rfl,(by show(0:Int)<2097143;decide),_,_,rfl,rfl,#[by cbv,by cbv],_,rfl,_,_,rfl,rfl,(by show(0:Int)<m;lk),?_];exact fin (a+1) r _ _ (λb o e hb=>k2 b o^k1 b o e hb) f2 (by lk) (by lk) (ed _).1 (ed _).2
   refine#[_,rfl,_,_,rfl,rfl,#[by cbv,by cbv,by cbv],_,_,rfl,rfl,_,rfl,?_];refine DF (λc3=>?_) λc3=>?_
   .refine#[_,rfl,_,rfl,f0,_,0,_,rfl,rfl,hsq f2,rfl,_,_,rfl,.inl #[_,SqL.of c2,rfl],_,_,rfl,rfl,_,rfl,?_]
    refine DF (λc4=>?_) λc4=>lastWay H2 rfl;refine#[_,rfl,_,rfl,_,_,rfl,rfl,#[(by show(0:Int)<m;lk),hm2],_,rfl,f0,_,2,2,rfl,rfl,f2,rfl,?_];refine#[_,rfl,_,rfl,_,_,rfl,rfl,(by show(0:Int)<m;lk),?_];exact fin (a+1) _ _ _ (λb o e hb=>by rw[AO hb];exact k2 b o^k1 b o e hb) AQ (by lk) (by lk) (ed _).1 (ed _).2
   .refine DF (λc4=>absurd c4^by simp) λ_=>lastWay H2 rfl
  refine#[_,rfl,f0,_,0,_,rfl,rfl,hsq f1,rfl,(by show 0<=sizeLine;decide),λp hp=>?_];have kp:∀b o,H1 b=P3 o->Av H1 p (.lst []) b=P3 o:=λb o e=>by rw[AO^An e hp];exact e
  refine#[c,p,_,rfl,rfl,SqL.of^kp _ _ c1',SqL.of AQ,_,rfl,?_];cases cells with
  |nil=>exact Bs^rest 0 _ kp
  | cons z0 cs=>
   refine Dw ?_;have hlen:(((z0::cs).map V.int).length:Int)=(cs.length:Int)+1:=by simp
   have hpos:(0:Int)<(((z0::cs).map V.int).length:Int):=by lk
   obtain⟨z,hz⟩:∃z,atI ((z0::cs).map V.int) (a % (((z0::cs).map V.int).length:Int))=P3^.int z:=by
    have h1:=nP a (show(((z0::cs).map V.int).length:Int)≠0 by lk);have h2:=mQ a hpos;generalize a % (((z0::cs).map V.int).length:Int)=j at h1 h2;obtain⟨k,rfl⟩:∃k:Nat,j=(k:Int):=#[j.toNat,by lk];have hk:k<(z0::cs).length:=by rw[Ev]at h2;lk
    refine#[(z0::cs)[k],AH ?_];rw[XV,Go hk];rfl
   refine#[_,rfl,f0,_,0,_,rfl,rfl,hsq^kp _ _ f1,rfl,_,rfl,_,rfl,f0,_,0,_,rfl,rfl,hsq^kp _ _ f1,rfl,_,_,rfl,.inl #[_,SqL.of^kp _ _ c1',rfl],_,_,rfl,rfl,hpos,c,_,_,_,rfl,rfl,SqL.of^kp _ _ c1',hz,?_];exact rest z _ kp
end
end K68
namespace Nt
open L2 Dp
def cs(x:Str):u_ Nat:=x.cps.toList
def ci{x y:Str}(h:cs x=cs y):x=y:=by
 let#[a]:=x;unfold cs at h
 simp_all
def EU(x:Str):Prop:=1<=x.length/\x.length<=8/\∀c∈cs x,97<=c/\c<=122
def rising(xs:u_ Str):Prop:=xs.Pairwise λx y=>cs x<cs y
def W_(a b:u_ Nat):ltCps a b=decide (a<b):=ltCps_eq a b
theorem IL:∀(l:u_ Str) (p:Str),risingS p l=s_->(p::l).Pairwise λa b=>¬cs b<cs a
 |[],p,_=>ot _ _
 |x::r,p,h=>by
  have h':(!ltCps _ _&&risingS x r)=s_:=h;rw[ik,lX,W_,decide_eq_false_iff_not]at h';have ih:=IL r x h'.2;refine i7.mpr #[λy hy=>?_,ih]
  rcases UF.mp hy with rfl|hy
  .exact h'.1
  .exact List.le_trans h'.1^(i7.mp ih).1 y hy
def De{l:u_ Str}(h:sortedS l=s_)(nd:l.Nodup):rising l:=by
 have hp:l.Pairwise λa b=>¬cs b<cs a:=by
  cases l with
  |nil=>simp_all
  |cons x r=>exact IL r x h
 exact(hp.and nd).imp λ{a b} #[h1,h2]=>jf λh3=>h2^ci^List.le_antisymm h1 h3
def Dn(lo:Int)(n:Nat):(HL lo n).length=n:=by unfold HL;grind
def V3{lo:Int}{n:Nat}{d:D}(h:d∈HL lo n):∃k:Nat,k<n/\d=.int (lo+k):=by
 let#[k,hk,rfl]:=Rs.mp h;exact#[k,kG.mp hk,rfl]
end Nt
namespace Dp
open L2
section
variable {X:Cx}
def MV{k:Nat}{ps:u_ Str}{κ:Kd}{W:W2}{x:Str}{p pos:Pos}(G:Got X.prog X.w X.K X.mg X.base x k ps κ W)
  (hr:Room k X.A) (hg:Gl X x) (hdb:(x==("__debug__":Str))=t_:=by decide):DE X (.Call (.Name x p) [] [] pos) κ^Ae W AS:=by
 let#[f,fd,G,hm,hk,hb,hW]:=G;refine#[_,Wm G hr hg hm hk hb .nil KI hdb,λC M H n ρ Z P Q R w q=>?_];show T6 X.K κ W ps.length ([]++[]) H Q E0;rw[jA];refine#[hW _ _ _ w,C.F,C.U,C.V,M,n,[],P,#[R.dom,R.fU,R.uV,R.vM,R.feed,.nil],w,λv H2 d n2 e2 f2 r2 p2=>?_];exact q v H2 d n2 e2 f2 r2 p2
end
end Dp
namespace L2
section
variable {X:Cx}{tg elt iter:Expr}{ifs:u_ Expr}{sc:Scope}{pos spos pos':Pos}{N':u_ Str}{js:u_^v_ Nat}{wi:TI}{i:Nat}{x:Str}
def Sn(hc:X.calm=s_)(N':u_ Str)(js:u_^v_ Nat)(hi:PI X tg iter wi)
  (hB:Gs sc X.env.scope X.N N' js=s_) (hN:X.N.Nodup) (hix:X.N[i]?=P3 x) (hx:Loc X.env.scope x)
  (hsw:swapsWith (.ListComp elt [#[tg,iter,ifs,0]] sc pos) (P3^.Name x pos') spos.line X.env=pure s_)
  (hs:∀x,foldedSetIterable iter X.env x=pure x:=by intro _;rfl)
  (hf:X.fn x=s_\/X.env.scope.names.lookup x=P3 .local:=by first|exact .inl rfl|exact .inr rfl|assumption):
  PS X (.Assign [.Name x pos'] (.ListComp elt [#[tg,iter,ifs,0]] sc pos) spos) (Ow (Vr X sc N' js tg elt ifs wi)^IU i):=by
 intro zF s Z H D I h;have O:CompOk X sc N' js:=CompOk.of hB;let#[cl,hclos,hcl,hcl2]:=Ky (scope:=sc) (env:=X.env) λx hx=>I.ok.has x^O.free x hx;rw[exec_Assign_Name_used _ _ _ _ hsw];refine Cn^wpAny_standAt^Cn ?_;show wpAny _ _ (do let _ ←comprehension (.ListComp elt [#[tg,iter,ifs,0]] sc pos) sc X.env _ (newList []) t_ (eval iter X.env)^P3^assign (.Name x pos') X.env) _ _ s
 refine Cn (jT (wpAny_comprehension_free (Q:=λ_ s'=>SP X zF D .next s') (use:=P3^assign (.Name x pos') X.env) rfl hs hclos O.kind O.names (BG (hi zF s Z H _ I h) λv s1 h1=>BG h1 λitv s2 h2=>?_))
  (λ_ s' hq=>Op^Op hq) λ_ _ e=>e)
 let#[it,fp,tn,J,H2,e,I2,T,st2,f2,hq]:=h2;subst e
 have kfree:X.K.lookup s2.heap.objs.size=r_:=by
  cases q:X.K.lookup s2.heap.objs.size with
  |none=>rfl
  |some o=>exact absurd (T0^I2.kIn _ _ q)^jU _
 let#[g,tt,te,W,hg,ht,he,#[m0,w0],hW]:=hq s2.heap.objs.size (I2.hok.fresh^Sc _) kfree cl (s2.heap.objs.size+1) s2 H2 fp;refine jg^wpAny_newFunctionEnv O.cell (by intro y hy;simp at hy) (λh₁ hns₁ hsb₁=>?_) O.kind
 dsimp only at hns₁ hsb₁ ⊢
 generalize hH2:s2.heap.push {cls:=.type "list",dict:=r_,data:=.seq ([]:u_ Db).toArray}=Hh at hns₁ hsb₁ ⊢;have hCe:Hh.objs.size=s2.heap.objs.size+1:=by rw[←hH2,jM]
 have hlt:∀b∈fp,b<s2.heap.objs.size:=λb hb=>by
  let#[o,e,_]:=T.obj _ _ st2 b hb;exact T0 e
 have old:∀b o,s2.heap.get? b=P3 o->h₁.get? b=P3 o:=λb o e=>hsb₁.extBut b o (by rw[hCe];exact ge^jp^T0 e)^FM _ (hH2▸FM _ e);have hD:∃n,h₁.get? s2.heap.objs.size=P3 {cls:=.type "list",data:=.seq #[] n}:=#[_,hsb₁.extBut _ _ (by rw[hCe];exact ge^kX _)^FM _ (hH2▸TW _ rfl)]
 have I3:∀tk,Inv (Ay X sc N' cl (s2.heap.objs.size+1) s2 H2 fp) [] (Cb js Z) (Av H2 s2.heap.objs.size^.lst []) {s2 with heap:=h₁,toks:=tk}:=λtk=>
  Po I2 hc O hcl hcl2 f2 (λb hb=>let #[o,e,_]:=T.obj _ _ st2 b hb;#[o,e]) (by rw[←hCe];exact hns₁) old hD
 have st3:tn 0 h₁:=T.keep _ _ _ st2 λb hb o e=>old b o e
 have fr3:∀b∈fp,Av H2 s2.heap.objs.size (.lst []) b=r_:=λb hb=>by
  rw[AO^ge^hlt b hb];exact(f2 b hb).1
 have loop:∀tk,codeAny (model X.prog X.w) X.A (.compLoop (.ListComp elt [#[tg,iter,ifs,0]] sc pos) 0 (.ref it) (.ref s2.heap.objs.size)^compEnvC sc cl (s2.heap.objs.size+1) X.env)
   (compPost (model X.prog X.w) X.A X.xe (P3^assign (.Name x pos') X.env) (λ_ s'=>SP X zF D .next s') (.ref s2.heap.objs.size) (s2.heap.objs.size+1)) {s2 with heap:=h₁,toks:=tk}:=λtk=>by
  refine MX (W:=W) (m0:=m0) (Q:=λv H1=>IU i v Z H1 λzM H2=>D.nx zM H2) I2 f2 hlt (jP _) T hg ht he hW (λzZ H' s' J' q'=>?_) (I3 tk) st3 fr3 w0;let#[m,hn,_]:=J'.loc;have hCn:H' (s2.heap.objs.size+1)=r_:=J'.free;have I4:Inv X zF Z H' s':=Kg (h':=s'.heap) I2 f2 (jP _) J' λb _=>rfl;let#[g1,g2,g3,g4,g5,g6]:=I2.fpOk (b:=s2.heap.objs.size+1) (jP _) hCn;show wpAny (model X.prog X.w) X.A (assign (.Name x pos') X.env^.ref s2.heap.objs.size) (λ_ s''=>∃m,s''.heap.Ns (s2.heap.objs.size+1) m/\∀h',ki (s2.heap.objs.size+1) s''.heap h'->SP X zF D .next {s'' with heap:=h'}) X.xe s';refine wpAny_assign_Name (L7 (v:=.ref s2.heap.objs.size) I4 hN hix hx rfl (λs5 I5 #[a,hsame,ha]=>?_) hf)
  have na:s2.heap.objs.size+1≠a:=by
   rcases ha with rfl|ha
   .exact g2
   .exact λz=>g5 _ _ ha z.symm
  refine#[m,hn.sameBut hsame na,λh' hs'=>?_];exact#[_,H',I5.turned (t':=s5.toks) (it:=s2.heap.objs.size+1) (λb o hb e=>hs'.extBut b o hb e) hCn g2 g4 g5 g6,q']
 rw[show(newEnv sc Hh.objs.size X.env.globals cl X.env.qual r_ .none (P3 X.env) builtinsNs).locals=s2.heap.objs.size+1 from hCe];show codeAny (model X.prog X.w) X.A (.compStart (.ListComp elt [#[tg,iter,ifs,0]] sc pos) 0 (.ref it) (.ref s2.heap.objs.size)^compEnvC sc cl (s2.heap.objs.size+1) X.env) _ _;exact codeAny_compStart_list (loop _)^T.self _ 0 _ _ _ st3^loop _
end
end L2
namespace Dp
open L2
section
variable {X:Cx}{zR:Kd}{tg elt iter:Expr}{ifs:u_ Expr}{sc:Scope}{pos:Pos}{src:EW}{b:BW}{tt:Ij}{te:DW}
def P8(hc:X.calm=s_)(N':u_ Str)(js:u_^v_ Nat)(hi:dI X tg iter src)(hg:∀cl C s H fp,DG (Ay X sc N' cl C s H fp) tg b)(ht:∀cl C s H fp,dH (Ay X sc N' cl C s H fp) ifs tt)(he:∀cl C s H fp,DE (Ay X sc N' cl C s H fp) elt zR te)
  (hB:Gs sc X.env.scope X.N N' js=s_) (hk:zR≠.tp:=by intro z;cases z)
  (hs:∀x,foldedSetIterable iter X.env x=pure x:=by intro _;rfl):∃wi,PI X tg iter wi/\∀(C:Fm) (M:Ch->Prop) (H:Hp) (n:Sg) (ρ:u_ Slot) (Z:L2.St) (P:D->Sg->Prop) (Q:VK),Rel X.K C M H n ρ Z->Bl js src b tt te n ρ P->
   (∀v H' d n',Ext C.U H H'->FeedC X.K C.F M H' n'->VR X.K C.V M H H' .fr v d->P d n'->Q v H')->Vr X sc N' js tg elt ifs wi Z H Q:=by
 let#[wi,a1,a2]:=hi;refine#[wi,a1,λC M H n ρ Z P Q R w q=>?_];refine a2 C M H n ρ Z _ _ R w λJ H1 ds n1 e1 f1 y w1=>?_;let#[hlen,w1]:=w1;have R1:=R.step e1 f1;intro l hl hkl cl Ca s0 H0 fp;let#[g,g1,g2]:=hg cl Ca s0 H0 fp;let#[tc,c1,c2]:=ht cl Ca s0 H0 fp;let#[tx,x1,x2]:=he cl Ca s0 H0 fp
 have noU:¬C.U l:=λz=>by
  let#[o,z]:=R1.udom l z;rw[hl]at z;cases z
 generalize hM':(λb=>M b\/b=l)=M';have M'l:M' l:=by rw[←hM'];exact .inr rfl
 have M'of:∀b,M b->M' b:=λb z=>by rw[←hM'];exact .inl z
 have ofM':∀b,M' b->M b\/b=l:=λb z=>by rw[←hM']at z;exact z
 have inV:∀b,C.V b\/b=l->M' b:=λb z=>z.elim (λz=>M'of b^R1.vM b z) λz=>by rw[z];exact M'l
 have lenj:js.length=N'.length:=Em (CompOk.of hB).cap
 refine#[g,tc,tx,λi m zZ H'=>m=ds.length - i/\i<=ds.length/\∃n' zX acc vs,Rel X.K #[M',C.F,C.U,λb=>C.V b\/b=l,H1,[],[]] M' H' n' zX zZ/\H' l=P3^.lst vs/\Ats X.K M' H' acc vs/\acc.length<=i/\Pres M H1 M' H' /\
   GZ b tt te (λacc n2=>P (.lst acc) n2) (ds.drop i) acc n' zX,g1,c1,x1,#[ds.length,by simp,iX _,n1,Gb js ρ,[],[],?_],?_]
 .have gr:Grow H1^Av H1 l^.lst []:=Ap hl
  have pr:Pres M H1 M'^Av H1 l^.lst []:=#[λb o e _ _=>gr.all b o e,λb z=>(ofM' b z).elim .inl λz=>.inr (by rw[z];exact hl),λb vs e=>gr.all b _ e,λb o e=>#[o,gr.all b o e]];refine#[#[?_,λa z=>z,λa z=>?_,gr.ext,R1.fU,λa z=>.inl^R1.uV a z,inV,f1.pres pr (λf o _ e=>gr.all f.1 o e) λa u e=>gr.all a _ e,?_,λp hp=>absurd hp^by simp,λi d a q z=>S5 R1.sl q z,λi s a q o _=>absurd o (by rw[EA q];decide),λi j s t a q o _ _ _ _=>absurd o (by rw[EA q];decide),λp hp=>absurd hp^by simp],AQ,rfl,iX _,pr,w1]
  .unfold Gb Cb
   rw[Ev,Ev]
  .rcases ofM' a z with z|z
   .let#[o,z]:=R1.dom a z
    exact#[o,gr.all a o z]
   .subst z
    exact#[_,AQ]
  .refine Pf R1.sl pr λd v h=>h.same pr (λa o _ e=>gr.all a o e) λa e n1 z=>z.elim n1 λz=>?_
   subst e;let#[o,w]:=h.lies;rw[z,hl]at w;cases w
 .rintro i m zZ H' ⟨rfl,hi,n',zX,acc,vs,R',hlv,hac,hal,pr,w'⟩
  by_cases hlt:i<ds.length
  .have ed:ds.drop i=ds[i]::ds.drop (i+1):=jt hlt
   rw[ed]at w';let#[go,yl]:=(y i M' H' pr R'.ext R'.dom).1 ds[i] (Go hlt);refine .inr #[go,λx H2 hy=>?_];let#[gr,hx]:=yl x H2 hy;have R2':=R'.step gr.ext^R'.feed.grow gr;refine g2 _ M' H2 n' zX zZ ds[i] x _ _ R2' hx w' λzQ zV R3 w3=>?_;refine c2 _ M' H2 n' zQ zV _ _ R3 w3 λc H4 n4 e4 f4 w4=>?_;have R4:=R3.step e4 f4;have p4:Pres M' H' M' H4:=gr.pres.trans^R3.pres e4;have l4:H4 l=P3^.lst vs:=e4.keep (gr.all _ _ hlv) noU;cases c with
   |false=>exact#[ds.length - (i+1),by lk,rfl,hlt,n4,zQ,acc,vs,R4,l4,hac.pres p4,by lk,pr.trans p4,w4]
   | true=>
    refine x2 _ M' H4 n4 zQ zV _ _ R4 w4 λyv H5 d5 n5 e5 f5 r5 w5=>?_;have R5:=R4.step e5 f5;have p5:Pres M' H4 M' H5:=R4.pres e5;have l5:H5 l=P3^.lst vs:=e5.keep l4 noU;have hy5:=r5.shOf R4.dom hk;have a5:=(hac.pres p4).pres p5;have pu:Pres M' H5 M'^Av H5 l^.lst (vs++[yv]):=CO M'l l5;have hvl:vs.length=acc.length:=hac.length;refine#[vs,l5,by rw[i9];lk,ds.length - (i+1),by lk,rfl,hlt,n5,zQ,acc++[d5],vs++[yv],?_,AQ,(a5.append^Ats.one hy5).pres pu,by rw[iT,jC];lk,(pr.trans p4).trans^p5.trans pu,w5];refine#[R5.len,R5.sub,λa z=>?_,λb o e=>?_,R5.fU,R5.uV,R5.vM,?_,λj s hs=>?_,λp hp=>absurd hp^by simp,R5.br0,R5.new,R5.two,λp hp=>absurd hp^by simp]
    .by_cases ha:a=l
     .subst ha;exact#[_,AQ]
     .rw[AO ha];exact R5.dom a z
    .let#[o',q1,q2]:=R5.ext b o e
     by_cases hb:b=l
     .subst hb
      have e':H1 b=P3 o:=e;rw[hl]at e';cases e'
     .exact#[o',by rw[AO hb];exact q1,q2]
    .refine f5.pres pu (λf o hf e=>?_) λa u e=>by rw[AO λz=>by rw[z,l5]at e;cases e];exact e
     rw[AO λz=>noU^by rw[←z];exact R1.fU f hf];exact e
    .have hs5:=R5.sl j s hs
     cases s with
     |no=>trivial
     |sh d=>let#[v,e1,h2]:=hs5;exact#[v,e1,h2.pres pu]
     |ex a nm ks ds=>let#[e1,h2]:=hs5;exact#[e1,h2.pres pu]
     | br d=>
      let#[v,e1,h2]:=hs5;refine#[v,e1,h2.same pu (λa o z e=>?_) λ_ _ z=>z];subst z;let#[o3,w]:=R5.br0 j d a hs e1
      have hal:a≠l:=λz=>by
       have w':H1 a=P3 o3:=w;rw[z,hl]at w';cases w'
      rw[AO hal];exact e
     |ow d=>
      let#[a,e1,h2,_]:=hs5;exact absurd h2 (R5.new j _ a hs rfl e1).1
     |lt a d=>
      let#[e1,h2,_]:=hs5;exact absurd h2 (R5.new j _ a hs rfl e1).1
     |fd=>exact hs5
  .have e:i=ds.length:=by lk
   subst e;rw[og]at w';refine .inl #[(y _ M' H' pr R'.ext R'.dom).2 (Sc _),?_];have eb:Ext C.U H1 H':=R'.ext;have less:Pres M' H' M H':=Pres.less M'of;refine q _ H' (.lst acc) n' (e1.trans eb) (R'.feed.pres less (λ_ _ _ z=>z) λ_ _ z=>z) (VR.back e1 ?_) w';exact#[l,rfl,hl,vs,hlv,by rw[hM'];exact hac]
def JO{κ:Kd}{i:Nat}{x:Str}{pos' spos:Pos}(hN:X.N.Nodup)(hix:X.N[i]?=P3 x)(hx:Loc X.env.scope x)(hc:X.calm=s_)(N':u_ Str)(js:u_^v_ Nat)(hi:dI X tg iter src)(hg:∀cl C s H fp,DG (Ay X sc N' cl C s H fp) tg b)(ht:∀cl C s H fp,dH (Ay X sc N' cl C s H fp) ifs tt)(he:∀cl C s H fp,DE (Ay X sc N' cl C s H fp) elt zR te)
  (hB:Gs sc X.env.scope X.N N' js=s_) (hsw:swapsWith (.ListComp elt [#[tg,iter,ifs,0]] sc pos) (P3^.Name x pos') spos.line X.env=pure s_:=by rfl) (hk:zR≠.tp:=by intro z;cases z)
  (hs:∀x,foldedSetIterable iter X.env x=pure x:=by intro _;rfl)
  (hf:X.fn x=s_\/X.env.scope.names.lookup x=P3 .local:=by first|exact .inl rfl|exact .inr rfl|assumption):DS X κ (.Assign [.Name x pos'] (.ListComp elt [#[tg,iter,ifs,0]] sc pos) spos)^A6 i^Bl js src b tt te:=by
 let#[wi,a1,a2]:=P8 hc N' js hi hg ht he hB hk hs;exact#[_,Sn hc N' js a1 hB hN hix hx hsw hs hf,λC M H n ρ Z D2 E R L w=>a2 C M H n ρ Z _ _ R w λv H' d n' e1 f1 r1 p=>L.nx M H' n' _ _ ((R.step e1 f1).set^r1.shOf R.dom^by grind) p]
end
section
variable {X:Cx}{zR:Kd}{tg elt iter:Expr}{ifs:u_ Expr}{sc:Scope}{pos:Pos}{src:EW}{b:BW}{tt:Ij}{te:DW}
def Xv{κ:Kd}{i:Nat}{x:Str}{pos' spos:Pos}(hN:X.N.Nodup)(hix:X.N[i]?=P3 x)(hx:Loc X.env.scope x)(hc:X.calm=s_)(N':u_ Str)(js:u_^v_ Nat)(hi:dI X tg iter src)(hg:∀cl C s H fp,DG (Ay X sc N' cl C s H fp) tg b)(ht:∀cl C s H fp,dH (Ay X sc N' cl C s H fp) ifs tt)(he:∀cl C s H fp,DE (Ay X sc N' cl C s H fp) elt zR te)
  (hB:Gs sc X.env.scope X.N N' js=s_) (hsw:swapsWith (.ListComp elt [#[tg,iter,ifs,0]] sc pos) (P3^.Name x pos') spos.line X.env=pure s_:=by rfl) (hk:zR≠.tp:=by intro z;cases z)
  (hs:∀x,foldedSetIterable iter X.env x=pure x:=by intro _;rfl)
  (hf:X.fn x=s_\/X.env.scope.names.lookup x=P3 .local:=by first|exact .inl rfl|exact .inr rfl|assumption):DS X κ (.Assign [.Name x pos'] (.ListComp elt [#[tg,iter,ifs,0]] sc pos) spos)^DH i^Bl js src b tt te:=by
 let#[wi,a1,a2]:=P8 hc N' js hi hg ht he hB hk hs;refine#[_,Sn hc N' js a1 hB hN hix hx hsw hs hf,λC M H n ρ Z D2 E R L w=>?_];refine a2 C M H n ρ Z _ _ R w λv H' d n' e1 f1 r1 p=>?_;let#[a,rfl,h1,h2]:=r1;exact L.nx _ H' n' _ _ (R.setOw e1 f1 h1 h2) p
end
abbrev Fu(K:Frag)(x:Str)(st:ii)(f:Ch)(fd:jK):Prop:=Fun K x x st f fd
def EN{P:ic}{w:ip}{K:Frag}{mg:Str->v_ Db}{base:iQ}{x:Str}{st:ii}{f:Ch}{fd:jK}{N ps:u_ Str}{k:Nat}{κ:Kd}{W:W2}{wb:Af}(F:Fu K x st f fd)(S:AY N ps^AJ st)
  (hb:∀{cdv:Db}{A:i5}{outer:u_ Env}{s:No}{H:Hp}{E:XK},Room k^A.deeper^envOfC x (AJ st) s.heap.objs.size f cdv->VP (Kw GC P w K mg base N x (AJ st) f cdv A outer s H E).nox κ (Be st) wb)
  (hW:∀{ss n Pd},W ss n Pd->wb {nx:=λn _=>κ=.sh/\Pd .non n,rt:=Pd} n (ss++Tk (N.length - ps.length) .no)) (hNp:ps.length<=N.length:=by decide):
  FnOk P w K mg base GC (k+1) f fd ps (T6 K κ W ps.length):=g0 F S hNp (λ_ _ _ _ _ _ h=>hb h) λ_ _ _ _ h=>hW h
section
variable {X:Cx}
def cg{m:Nat}(hr:Room m X.A){e:ie}{es:u_ ie}{k:Nat}{ps:u_ Str}{κ:Kd}{W:W2}{x:Str}{p pos:Pos}{was:VO}(G:Got X.prog X.w X.K X.mg X.base x k ps κ W)(ha:Zx X (e::es) was)(hk:k<=m:=by decide)(hg:Gl X x:=by rfl)
  (hdb:(x==("__debug__":Str))=t_:=by decide) (he:starEach (e::es) X.env=(t_,eval e X.env)::starEach es X.env:=by rfl) (hpl:(backTo pos^starEach es X.env).any (·.1)=t_:=by rfl):DE X (.Call (.Name x p) (e::es) [] pos) κ^Ae W was:=X7 G (hr.mono hk) hg ha hdb he hpl
variable {tg iter elt:Expr}{ifs:u_ Expr}{sc:Scope}{pos:Pos}{b:BW}{tt:Ij}{te:DW}{zR:Kd}{src:EW}
def Qg(N':u_ Str)(js:u_^v_ Nat)(hi:dI X tg iter src)(hg:∀{cl C s H fp},DG (Ay X sc N' cl C s H fp) tg b)(ht:∀{cl C s H fp},dH (Ay X sc N' cl C s H fp) ifs tt)(he:∀{cl C s H fp},DE (Ay X sc N' cl C s H fp) elt zR te)
  (hB:Gs sc X.env.scope X.N N' js=s_) (hc:X.calm=s_:=by rfl) (hk:zR≠.tp:=by intro z;cases z) (hs:∀x,foldedSetIterable iter X.env x=pure x:=by intro _;rfl):DE X (.ListComp elt [#[tg,iter,ifs,0]] sc pos) .fr^Bl js src b tt te:=Ze hc N' js hi (λ_ _ _ _ _=>hg) (λ_ _ _ _ _=>ht) (λ_ _ _ _ _=>he) hB hk hs
end
def VT{P:ic}{w:ip}{K:Frag}{mg:Str->v_ Db}{base:iQ}{x q:Str}{st:ii}{f:Ch}{fd:jK}{N ps:u_ Str}{k:Nat}{κ:Kd}{W:W2}{wb:Af}(F:Fun K x q st f fd)(S:AY N ps^AJ st)
  (hb:∀{cdv:Db}{A:i5}{outer:u_ Env}{s:No}{H:Hp}{E:XK},Room k^A.deeper^envOfC q (AJ st) s.heap.objs.size f cdv->VP (Kw GC P w K mg base N q (AJ st) f cdv A outer s H E).nox κ (Be st) wb)
  (hW:∀{ss n Pd},W ss n Pd->wb {nx:=λn _=>κ=.sh/\Pd .non n,rt:=Pd} n (ss++Tk (N.length - ps.length) .no)) (hNp:ps.length<=N.length:=by decide):
  FnOk P w K mg base GC (k+1) f fd ps (T6 K κ W ps.length):=g0 F S hNp (λ_ _ _ _ _ _ h=>hb h) λ_ _ _ _ h=>hW h
end Dp
namespace Nt
open L2 Dp
theorem MJ{α β:Type}{f:α->β}:∀{l:u_ α},l.Nodup->(∀a∈l,∀b∈l,f a=f b->a=b)->(l.map f).Nodup
 |[],_,_=>jI
 |a::l,h,hf=>by
  rw[iW]at h;rw[iZ,iW];refine#[λhm=>?_,MJ h.2 λx hx y hy=>hf x (TM _ hx) y^TM _ hy];let#[b,hb,e]:=Rs.mp hm;exact h.1 (hf a On b (TM _ hb) e.symm▸hb)
def K7(ss:u_ Str):Rp^ss.map .str=P3 ss:=by
 induction ss with
 |nil=>rfl
 |cons y r ih=>
  rw[iZ];unfold Rp
  grind
structure Aw where
 a:Str
 b:Str
 len:Int
structure Net where
 ps:List Str
 ts:List Aw
def Aj(t:Aw):D:=.tup [.str t.a,.str t.b,.int t.len]
def Bx(N:Net):D:=.tup [.tup^N.ps.map .str,.tup^N.ts.map Aj]
def Bg(s t:Aw):Prop:=cs s.a<cs t.a\/(s.a=t.a/\cs s.b<cs t.b)
structure Net.Ok (N:Net):Prop where
 names:∀x∈N.ps,EU x
 rise:rising N.ps
 tin:∀t∈N.ts,t.a∈N.ps/\t.b∈N.ps/\cs t.a<cs t.b/\1<=t.len/\t.len<=1000000
 trise:N.ts.Pairwise Bg
structure Ix where
 i:Nat
 j:Nat
 len:Int
abbrev EE(Pd:D->Sg->Prop):E2:={nx:=λn _=>Kd.sh=.sh/\Pd .non n,rt:=Pd}
theorem Bk{b:BW}{te:DW}{P:u_ D->Sg->Prop}(g:D->D)(I:u_ Slot->Prop):∀(ds acc:u_ D) (n:Sg) (ρ:u_ Slot),
  (∀d∈ds,∀(ρ:u_ Slot) (n:Sg) (nx:D->Sg->u_ Slot->Prop),I ρ->(∀zX,I zX->nx (g d) n zX)->b d ρ λzS=>te n zS λy n2=>nx y n2 zS)->I ρ->P (acc++ds.map g) n->GZ b Il te P ds acc n ρ
 |[],acc,n,ρ,_,_,h=>by rw[List.map_nil,jA]at h;exact h
 |d::ds,acc,n,ρ,ht,hρ,h=>ht d On ρ n _ hρ λzX hρ'=>
  Bk g I ds _ n _ (λd hd=>ht d^TM _ hd) hρ' (by simp_all)
section
def gg{α:Type}(xs:u_ α):Dp.cutD xs (P3 1) r_=xs.drop 1:=by
 unfold Dp.cutD;rw[HT.sIx_none,show 1=((1:Nat):Int)from rfl,HT.sIx_nat]
 by_cases h:1<=xs.length
 .rw[Nat.min_eq_left h]
  exact kg^by simp_all
 grind
end
def strsOf(xs:u_ D):u_ Str:=(Rp xs).getD []
def cq{α:Type}(p:α->Bool)(l:u_ α):(l.map p).all id=l.all p:=by simp_all
def Oz{x:Str}(h:∀c∈cs x,c<1114112):PyData.strOk x=s_:=by
 unfold PyData.strOk;rw[←Array.all_toList,lw];intro c hc;exact decide_eq_true^h c hc
def CA{x:Str}(h:EU x):Cw^.str x:=#[rfl,Oz λc hc=>by have:=h.2.2 c hc;lk,iX _]
def Ph{ps:u_ Str}(h:∀p∈ps,EU p):Df^ps.map .str=s_/\kz^By^ps.map .str=s_/\j_^By^ps.map .str=0:=by
 induction ps with
 |nil=>exact#[rfl,rfl,rfl]
 | cons p r ih=>
  let#[h1,h2,h3]:=ih λq hq=>h q^TM _ hq;refine#[by assumption,?_,?_]
  .rw[iZ,By,kz,h2,Bool.and_true]
   exact(CA^h p On).2.1
  assumption
def FA{ps:u_ Str}(h:∀p∈ps,EU p):Cw^.tup^ps.map .str:=by
 let#[h1,h2,h3]:=Ph h;refine#[h1,h2,?_];show j_ _+1<=100
 simp_all
def Jh(ps:u_ Str):strsOf^ps.map .str=ps:=by unfold strsOf;rw[K7];rfl
mutual
def Iw(B:Nat):D->Prop
 |.int i=>i.natAbs<=B
 |.str x=>∀c∈cs x,c<1114112
 |.tup ds=>Kl B ds
 |.lst ds=>Kl B ds
 |.dic _ _=>False
 |.fdi _ _=>False
 |.dit _ _=>False
 |.ob _=>False
 |_=>True
def Kl(B:Nat):u_ D->Prop
 |[]=>True
 |d::ds=>Iw B d/\Kl B ds
end
mutual
def VS:D->Nat
 |.int _=>200
 |.str x=>x.length
 |.tup ds=>Ox ds
 |.lst ds=>Ox ds
 |_=>0
def Ox:u_ D->Nat
 |[]=>0
 |d::ds=>VS d+1+Ox ds
end
mutual
def VU:D->Nat
 |.tup ds=>MU ds+1
 |.lst ds=>MU ds+1
 |_=>0
def MU:u_ D->Nat
 |[]=>0
 |d::ds=>max (VU d)^MU ds
end
theorem fines_iff{B:Nat}:∀{ds:u_ D},Kl B ds↔∀d∈ds,Iw B d
 |[]=>#[(λ_ d h=>by cases h),λ_=>trivial]
 | d::ds=>by
  have ih:=@fines_iff B ds;constructor
  .rintro⟨h1,h2⟩ e he
   rcases UF.mp he with rfl|he
   .exact h1
   .exact ih.mp h2 e he
  .exact λh=>#[h d On,ih.mpr λe he=>h e^TM _ he]
theorem dps_le{k:Nat}:∀{ds:u_ D},MU ds<=k↔∀d∈ds,VU d<=k
 |[]=>#[(λ_ d h=>by cases h),λ_=>iX _]
 | d::ds=>by
  have ih:=@dps_le k ds;show max (VU d)^MU ds<=k↔_;rw[Nat.max_le,ih];constructor
  .rintro⟨h1,h2⟩ e he
   rcases UF.mp he with rfl|he
   .exact h1
   .exact h2 e he
  .exact λh=>#[h d On,λe he=>h e^TM _ he]
theorem SU:∀(xs:u_ D),xs.length<=Ox xs
 |[]=>iX _
 |d::xs=>by
  have:=SU xs
  show xs.length+1<=VS d+1+Ox xs;lk
mutual
theorem Nq{B:Nat}(hB:B<10 ^ 45):∀{d:D},Iw B d->FZ d=s_/\(toPy d).showable=s_/\(toPy d).canLay0=s_/\(toPy d).depth=VU d/\(toPy d).leavesShort 60=s_/\(toPy d).weight<=VS d
 |.non,_=>#[rfl,rfl,rfl,rfl,rfl,Sc _]
 |.bl b,_=>#[rfl,rfl,rfl,rfl,rfl,Sc _]
 | .int i,h=>by
  have h':i.natAbs<=B:=h;have hlt:i.natAbs<10 ^ 45:=kH h' hB;have h2:i.natAbs<2 ^ 150:=Nat.lt_trans hlt^by cbv
  have hl:i.natAbs.log2<150:=by
   by_cases h0:i.natAbs=0
   .rw[h0];decide
   .exact(Nat.log2_lt h0).mpr h2
  refine#[rfl,?_,rfl,rfl,?_,?_]
  .show decide (i.natAbs.log2<1920)=s_
   exact decide_eq_true^by lk
  .show decide ((PyData.shown^.int i).length<=60)=s_
   refine decide_eq_true ?_
   have:=int_text_length_le10 (a:=i) (k:=45) (by cbv) hlt
   show(jH^toString i).length<=60;rw[PySem.ofString_length];lk
  .show(if i==0 then 0 else i.natAbs.log2+1)<=200
   split <;>lk
 |.str x,h=>by
  have h':∀c∈cs x,c<1114112:=h;refine#[rfl,rfl,Oz h',rfl,?_,Sc _];show(x.cps.toList.all λc=>decide (c<16 ^ 8))=s_;rw[lw];intro c hc;exact decide_eq_true^Nat.lt_trans (h' c hc)^by cbv
 |.tup ds,h=>by
  let#[h1,h2,h3,h4,h5,h6]:=Kk hB (ds:=ds) h;refine#[h1,h2,h3,?_,h5,h6];show j_^By ds+1=MU ds+1;rw[h4]
 |.lst ds,h=>by
  let#[h1,h2,h3,h4,h5,h6]:=Kk hB (ds:=ds) h;refine#[h1,h2,h3,?_,h5,h6];show j_^By ds+1=MU ds+1;rw[h4]
 |.dic ks ds,h=>(show False from h).elim
 |.fdi ks ds,h=>(show False from h).elim
 |.dit ks ds,h=>(show False from h).elim
 |.ob _,h=>(show False from h).elim
theorem Kk{B:Nat}(hB:B<10 ^ 45):∀{ds:u_ D},Kl B ds->Df ds=s_/\PyData.showableAll^By ds=s_/\kz^By ds=s_/\j_^By ds=MU ds/\pE 60^By ds=s_/\PyData.weightAll^By ds<=Ox ds
 |[],_=>#[rfl,rfl,rfl,rfl,rfl,Sc _]
 | d::ds,h=>by
  let#[h1,h2,h3,h4,h5,h6]:=Nq hB (d:=d) h.1;let#[g1,g2,g3,g4,g5,g6]:=Kk hB (ds:=ds) h.2;refine#[?_,?_,?_,?_,?_,?_]
  .show(FZ d&&Df ds)=s_
   rw[h1,g1];rfl
  .show((toPy d).showable&&PyData.showableAll^By ds)=s_
   rw[h2,g2];rfl
  .show((toPy d).canLay0&&kz^By ds)=s_
   rw[h3,g3];rfl
  .show max (toPy d).depth^j_^By ds=max (VU d)^MU ds
   rw[h4,g4]
  .show((toPy d).leavesShort 60&&pE 60^By ds)=s_
   rw[h5,g5];rfl
  .show(toPy d).weight+1+PyData.weightAll^By ds<=VS d+1+Ox ds
   omega
end
def Vw{B:Nat}{d:D}(hB:B<10 ^ 45)(h:Iw B d)(hd:VU d<=100)(hs:VS d<=270000):O2 d:=by
 let#[h1,h2,h3,h4,h5,h6]:=Nq hB h;refine#[h1,h2,by rw[h4];exact hd,?_]
 have:=PyData.shown_le 60 (by cbv) (toPy d) h5
 rw[PySem.sizeLine_eq]
 have:62*(toPy d).weight<=62*270000:=Nat.mul_le_mul_left _^by lk
 omega
def SY{B:Nat}{d:D}(hB:B<10 ^ 45)(h:Iw B d)(hd:VU d<=100)(hs:VS d<=200000):O2 d:=Vw hB h hd^by lk
def Fz{B:Nat}{d:D}(hB:B<10 ^ 45)(h:Iw B d)(hd:VU d<=100):Cw d:=by
 let#[h1,h2,h3,h4,h5,h6]:=Nq hB h;exact#[h1,h3,by rw[h4];exact hd]
def item(d:D):Prop:=Iw 1000001 d/\VS d<=450/\VU d<=1
theorem Jg{k:Nat}:∀{ds:u_ D},(∀d∈ds,VS d+1<=k)->Ox ds<=k*ds.length
 |[],_=>iX _
 |d::ds,h=>by
  have h2:=Jg λe he=>h e^TM _ he;show VS d+1+Ox ds<=k*(ds.length+1)
  grind
def Ge{B:Nat}{xs:u_ D}(h:∀d∈xs,Iw B d):Iw B^.tup xs:=fines_iff.mpr h
def item_str{x:Str}(h1:x.length<=8)(h2:∀c∈cs x,c<1114112):item^.str x:=#[h2,by show x.length<=450;lk,iX _]
def Dv{x:Str}(h:EU x):item^.str x:=item_str h.2.1 λc hc=>by have:=h.2.2 c hc;lk
def XQ{a b:Str}{l:Int}(ha:item^.str a)(hb:item^.str b)(la:a.length<=8)(lb:b.length<=8)(hl:l.natAbs<=1000001):item^.tup [.str a,.str b,.int l]:=by
 refine#[Ge λd hd=>?_,?_,?_]
 .simp at hd
  rcases hd with rfl|rfl|rfl
  .exact ha.1
  .exact hb.1
  .exact hl
 .show a.length+1+(b.length+1+(200+1+0))<=450
  omega
 .show max 0^max 0^max 0 0+1<=1
  decide
def C8{N:Net}(ok:N.Ok):∀d∈N.ts.map Aj,item d:=λd hd=>by
 let#[t,ht,rfl]:=Rs.mp hd;let#[h1,h2,_,h3,h4]:=ok.tin t ht;have n1:=ok.names _ h1;have n2:=ok.names _ h2;exact XQ (Dv n1) (Dv n2) n1.2.1 n2.2.1^by lk
def ZM{N:Net}(ok:N.Ok):∀d∈N.ps.map D.str,item d:=λd hd=>by
 let#[x,hx,rfl]:=Rs.mp hd;exact Dv^ok.names x hx
def bE{xs ys:u_ D}(hx:∀d∈xs,item d)(hy:∀d∈ys,item d)(lx:xs.length<=26)(ly:ys.length<=80):Iw 1000001^.tup [.tup xs,.tup ys]/\VS^.tup [.tup xs,.tup ys]<=48000/\VU^.tup [.tup xs,.tup ys]<=3:=by
 have s1:=Jg λd hd=>lr (hx d hd).2.1;have s2:=Jg λd hd=>lr (hy d hd).2.1;have d1:=dps_le.mpr λd hd=>(hx d hd).2.2;have d2:=dps_le.mpr λd hd=>(hy d hd).2.2;refine#[Ge λd hd=>?_,?_,?_]
 .simp at hd
  rcases hd with rfl|rfl
  .exact Ge λd hd=>(hx d hd).1
  .exact Ge λd hd=>(hy d hd).1
 .show Ox xs+1+(Ox ys+1+0)<=48000
  omega
 .show max (MU xs+1)^max (MU ys+1) 0+1<=3
  omega
def BD(x:Str):¬cs x<cs x:=lD _
def z2:2<=sizeLine:=by cbv
def z3:3<=sizeLine:=by cbv
def z0:0<=sizeLine:=iX _
def g8:YW 10 6:=#[by cbv,by cbv,by cbv]
end Nt
namespace L2
def eR:R2:=λy x H Q=>∃a o,x=.ref a/\DGet H a y o/\Q (.bl o.isSome) H
def aJ:R2:=λy x H Q=>∃a o,x=.ref a/\DGet H a y o/\Q (.bl (!o.isSome)) H
def WM:R2:=λx y H Q=>∃a v,x=.ref a/\DGet H a y^P3 v/\Q v H
def cB{X:Cx}{k:Nat}(hr:Room k X.A):OpR X (compareOp .In) eR:=by
 intro zF s Z H y x iv u Q I ry rx #[a,ov,ex,g,q];subst ex;obtain rfl:u=iR a:=rx;exact gf (IT hr) I g ry λs3 I3=>#[.bl _,H,I3,rfl,q]
def E7{X:Cx}{k:Nat}(hr:Room k X.A):OpR X (compareOp .NotIn) aJ:=by
 intro zF s Z H y x iv u Q I ry rx #[a,ov,ex,g,q];subst ex;obtain rfl:u=iR a:=rx;exact Zi (IT hr) I g ry λs3 I3=>#[.bl _,H,I3,rfl,q]
end L2
namespace Dp
open L2
def Bw:u_ Key->u_ D->Key->v_ D
 |k0::ks,d::ds,k=>if k0=k then P3 d else Bw ks ds k
 |_,_,_=>r_
section
variable {K:Frag}{X:Cx}
theorem JA{M:Ch->Prop}{H:Hp}{k:Key}:∀{ks:u_ Key}{ds:u_ D}{vs:u_ V},Ats K M H ds vs->
  match Bw ks ds k with
  |some z=>∃v,Cu (ks.zip vs) k=P3 v/\At K M H z v
  |none=>Cu (ks.zip vs) k=r_
 |[],ds,vs,h=>by exact rfl
 |k0::ks,[],vs,h=>by cases h;exact rfl
 | k0::ks,d::ds,vs,h=>by
  let#[v,r,rfl,h1,h2]:=h;have ih:=JA (k:=k) (ks:=ks) h2;unfold Bw
  by_cases e:k0=k
  .rw[if_pos e]
   refine#[v,?_,h1];show Cu ((k0,v)::ks.zip r) k=P3 v;rw[Di e]
  .have:Cu ((k0,v)::ks.zip r) k=Cu _ k:=Dk e
   simp_all
def keyOf:D->v_ Key
 |.int i=>P3^.inl i
 |.str x=>P3^.inr x
 |_=>r_
def Eh{U M:Ch->Prop}{H:Hp}{d:D}{v:V}{k:Key}(e:keyOf d=P3 k)(h:AtT K U M H d v):v=kV k:=by
 cases d with
 |int i=>cases e;exact h
 |str x=>cases e;exact h.str.1
 |_=>cases e
def Xz:D->v_ (u_ Key×u_ D)
 |.dic ks ds=>P3 (ks,ds)
 |.fdi ks ds=>P3 (ks,ds)
 |_=>r_
def Rb{U M:Ch->Prop}{H:Hp}{d:D}{x:V}{ks:u_ Key}{ds:u_ D}(e:Xz d=P3 (ks,ds))(h:AtT K U M H d x):∃a vs,x=.ref a/\Rd H a^.dK^ks.zip vs/\Ats K M H ds vs:=by
 cases d with
 |dic k2 d2=>cases e;let#[a,vs,rfl,_,ha,_,hs]:=h;exact#[a,vs,rfl,.inl ha,hs]
 |fdi k2 d2=>cases e;let#[a,vs,rfl,#[o,_,ha],_,hs]:=h;exact#[a,vs,rfl,.inr #[o,ha],hs]
 |_=>cases e
def Nz{H:Hp}{a:Ch}{kvs:u_ (Key×V)}{k:Key}(e:Rd H a^.dK kvs):DGet H a (kV k)^Cu kvs k:=.inl #[_,k,e,rfl,rfl]
def Nv(neg:Bool)(e d:D)(P:D->Prop):Prop:=∃ks ds k,Xz d=P3 (ks,ds)/\keyOf e=P3 k/\P^.bl (if neg then !(Bw ks ds k).isSome else(Bw ks ds k).isSome)
def BK(d e:D)(P:D->Prop):Prop:=∃ks ds k z,Xz d=P3 (ks,ds)/\keyOf e=P3 k/\Bw ks ds k=P3 z/\P z
def fV:D3 K .sh eR^Nv t_:=λU M H e d y x P Q dom vM hy hx w q=>by
 let#[ks,ds,k,hd,he,w]:=w;let#[a,vs,rfl,ha,hs]:=Rb hd hx;refine#[a,_,rfl,by rw[Eh he hy];exact Nz ha,q _ H (.bl _) .refl rfl ?_];have h:=JA (k:=k) (ks:=ks) hs;cases c:Bw ks ds k with
 |none=>simp_all
 |some z=>rw[c]at h w;let#[v,h1,_]:=h;simp_all
def G5:D3 K .sh aJ^Nv s_:=λU M H e d y x P Q dom vM hy hx w q=>by
 let#[ks,ds,k,hd,he,w]:=w;let#[a,vs,rfl,ha,hs]:=Rb hd hx;refine#[a,_,rfl,by rw[Eh he hy];exact Nz ha,q _ H (.bl _) .refl rfl ?_];have h:=JA (k:=k) (ks:=ks) hs;cases c:Bw ks ds k with
 |none=>simp_all
 |some z=>rw[c]at h w;let#[v,h1,_]:=h;simp_all
def cz:D3 K .sh WM BK:=λU M H d e x y P Q dom vM hx hy w q=>by
 let#[ks,ds,k,z,hd,he,hz,w]:=w;let#[a,vs,rfl,ha,hs]:=Rb hd hx;have h:=JA (k:=k) (ks:=ks) hs;rw[hz]at h;let#[v,h1,h2]:=h;exact#[a,v,rfl,by rw[Eh he hy,←h1];exact Nz ha,q v H z .refl h2 w]
variable {a b:Expr}{zU zT:Kd}{wa wb:DW}{pos:Pos}
def BF{k:Nat}(hr:Room k X.A)(ha:DE X a zU wa)(hb:DE X b zT wb)(hs:Zv b:=by intro _ _;rfl):DE X (.Subscript a b pos) .sh^AZ BK wa wb:=by
 let#[ta,ha1,ha2]:=ha;let#[tb,hb1,hb2]:=hb;exact#[_,JD (IT hr) ha1 hb1 hs,λC M H n ρ Z P Q R w q=>EJ cz ha2 hb2 C M H n ρ Z P Q R w q]
end
def Vf(i:Nat)(w:DW):Af:=λD2 n ρ=>∃a:Int,ρ[i]?=P3^.sh^.int a/\w n ρ λd n1=>∃b:Int,d=.int b/\D2.nx n1^ρ.set i^.sh^.int (a+b)
def ZZ{X:Cx}{κ zR:Kd}{e:ie}{wa:DW}{pos:Pos}{i:Nat}{x:Str}{pos':Pos}(hN:X.N.Nodup)(hi:X.N[i]?=P3 x)(hx:Loc X.env.scope x)(he:DE X e zR wa)
  (hf:X.fn x=s_\/X.env.scope.names.lookup x=P3 .local:=by first|exact .inl rfl|exact .inr rfl|assumption):DS X κ (.AugAssign (.Name x pos') .Add e pos)^Vf i wa:=by
 let#[t,a1,a2]:=he;refine#[_,bn hN hi hx a1 cU hf,λC M H n ρ Z D2 E R L w=>?_];let#[a,ha,w]:=w;let#[v,e1,h1]:=R.sl i _ ha;cases(h1);refine#[_,getD_some e1,a2 C M H n ρ Z _ _ R w λv H' d n' e1 f1 r1 p=>?_];let#[b,rfl,p]:=p;exact#[a,b,rfl,RU r1,L.nx M H' n' _ _ ((R.step e1 f1).set (d:=.int _) rfl) p]
end Dp
namespace So
open PySem.W
section
variable {O:KeyOrd}{key:Nat->O.α}{N:Nat}{cmp:Nat->Nat->(Bool->Shared->Prop)->Shared->Prop}{s:Shared}{p p0:Array Nat}
def KN(O:KeyOrd)(key:Nat->O.α)(p:Array Nat)(i:Nat):O.α:=key^p.getD i 0
def Srt(O:KeyOrd)(key:Nat->O.α)(p:Array Nat)(k:Nat):Prop:=∀i j,i<=j->j<k->O.kle (KN O key p i)^KN O key p j
def fg(O:KeyOrd)(key:Nat->O.α)(p:Array Nat)(k:Nat):Prop:=∀i j,i<=j->j<k->O.kle (KN O key p j)^KN O key p i
def av(O:KeyOrd)(key:Nat->O.α)(N:Nat)(cmp:Nat->Nat->(Bool->No->Prop)->No->Prop)(s:No):Prop:=∀(i j:Nat) (C:Bool->No->Prop),i<N->j<N->C (O.blt (key i)^key j) s->cmp i j C s
def Bd(N:Nat)(p:Array Nat):Prop:=0<N/\∀x∈p,x<N
def ZP(p:Array Nat)(i:Nat):p.getD i 0=(p[i]?).getD 0:=by
 simp
def Bd.get(h:Bd N p)(i:Nat):p.getD i 0<N:=by
 rw[ZP];cases e:p[i]? with
 |none=>exact h.1
 |some x=>exact h.2 x^Array.mem_of_getElem? e
def Bd.perm{p':Array Nat}(h:Bd N p)(hp:p'.Perm p):Bd N p':=#[h.1,λx hx=>h.2 x^hp.mem_iff.mp hx]
def Ez{p q:Array Nat}{i j:Nat}(h:p[i]?=q[j]?):KN O key p i=KN O key q j:=by
 unfold KN
 simp_all
def Mn{src d:Nat}(hs:src<p.size)(hd:d<=src)(k:Nat):
  KN O key (bubble p src d) k=if k=src - d then KN O key p src else if src - d<k/\k<=src then KN O key p (k - 1)else KN O key p k:=by
 have e:=getElem?_bubble hs d hd k
 by_cases h1:k=src - d
 .rw[if_pos h1]at e ⊢;exact Ez e
 .rw[if_neg h1]at e ⊢
  by_cases h2:src - d<k/\k<=src
  .rw[if_pos h2]at e ⊢;exact Ez e
  .rw[if_neg h2]at e ⊢;exact Ez e
def Hu{i j:Nat}(hj:j<=p.size)(k:Nat):KN O key (kas_rev p i j) k=if i<=k/\k<j then KN O key p (i+j - 1 - k)else KN O key p k:=by
 have e:=getElem?_mirror_all (i:=i) hj k
 by_cases h1:i<=k/\k<j
 .rw[if_pos h1]at e ⊢;exact Ez e
 .rw[if_neg h1]at e ⊢;exact Ez e
def Bu{i j:Nat}(hj:j<=p.size)(heq:∀k,i<=k->k<j->KN O key p k=KN O key p (j - 1))(k:Nat):KN O key (kas_rev p i j) k=KN O key p k:=by
 rw[Hu hj]
 grind
def CM(p:Array Nat)(i j:Nat):(kas_rev p i j).Perm p:=mirror_perm _ _ _ _
def yes{α:Type}{T₁ T₂:KasT α}{Q:α->No->Prop}(h:T₁.kasWp cmp Q s):(if s_=s_ then T₁ else T₂).kasWp cmp Q s:=by grind
def no{α:Type}{T₁ T₂:KasT α}{Q:α->No->Prop}(h:T₂.kasWp cmp Q s):(if t_=s_ then T₁ else T₂).kasWp cmp Q s:=by grind
theorem Ro(hC:av O key N cmp s)(hb:Bd N p){nrem:Nat}{G:Nat->No->Prop}:∀(f n:Nat),1<=n->n+f=nrem->Srt O key p n->
  (∀m,n<=m->m<=nrem->Srt O key p m->(m=nrem\/O.klt (KN O key p m)^KN O key p (m - 1))->G m s)->(kas_asc p f n).kasWp cmp G s
 |0,n,_,e,hs,h=>h n (Sc _) (by lk) hs^.inl^by lk
 | f+1,n,h1,e,hs,h=>by
  show cmp (p.getD n 0) (p.getD (n - 1) 0) (λc s'=>(if c=s_ then KasT.ret n else kas_asc p f (n+1)).kasWp cmp G s') s;refine hC _ _ _ (hb.get n) (hb.get _) ?_;cases hless:O.blt (key^p.getD n 0)^key^p.getD (n - 1) 0 with
  |true=>exact yes^h n (Sc _) (by lk) hs^.inr hless
  | false=>
   refine no^Ro hC hb f (n+1) (by lk) (by lk) (λi j hij hj=>?_) λm m1 m2 m3 m4=>h m (by lk) m2 m3 m4
   by_cases hjx:j<n
   .exact hs i j hij hjx
   .have hj':j=n:=by lk
    subst hj'
    by_cases hi':i=j
    .subst hi';exact ju _
    .exact m7 (hs i (j - 1) (by lk)^by lk) hless
theorem JP(hC:av O key N cmp s){nrem:Nat}{G:Array Nat×Nat×Nat->No->Prop}:∀(f:Nat) (p:Array Nat) (n q:Nat),p.Perm p0->Bd N p->nrem<=p.size->1<=n->n+f=nrem->fg O key p n->q+1<=n->
  (∀i,n - (q+1)<=i->i<n->KN O key p i=KN O key p (n - 1))->
  (∀p' m q',p'.Perm p0->Bd N p'->p'.size=p.size->n<=m->m<=nrem->fg O key p' m->q'+1<=m->(∀i,m - (q'+1)<=i->i<m->KN O key p' i=KN O key p' (m - 1))->G (p',m,q') s)->(kas_desc f p n q).kasWp cmp G s
 |0,p,n,q,hp,hb,hz,h1,e,hs,hq,he,h=>h p n q hp hb rfl (Sc _) (by lk) hs hq he
 | f+1,p,n,q,hp,hb,hz,h1,e,hs,hq,he,h=>by
  show cmp (p.getD n 0) (p.getD (n - 1) 0) (λc s'=>(if c=s_ then(if q > 0 then kas_desc f (kas_rev p (n - (q+1)) n) (n+1) 0 else kas_desc f p (n+1) 0)
   else .ask (p.getD (n - 1) 0) (p.getD n 0) λd=>if d=s_ then .ret (p,n,q)else kas_desc f p (n+1) (q+1)).kasWp cmp G s') s
  refine hC _ _ _ (hb.get n) (hb.get _) ?_;cases hless:O.blt (key^p.getD n 0)^key^p.getD (n - 1) 0 with
  | true=>
   have hl:O.klt (KN O key p n)^KN O key p (n - 1):=hless
   have step1:∀xs:Array Nat,(∀k,KN O key xs k=KN O key p k)->fg O key xs (n+1):=by
    intro xs hk i j hij hj;rw[hk,hk]
    by_cases hjx:j<n
    .exact hs i j hij hjx
    .have hj':j=n:=by lk
     subst hj'
     by_cases hi':i=j
     .subst hi';exact ju _
     .exact m7 (mZ hl)^hs i (j - 1) (by lk)^by lk
   refine yes ?_;have hsz:n<=p.size:=by lk
   by_cases hq0:q > 0
   .rw[if_pos hq0]
    refine JP hC f _ (n+1) 0 ((CM _ _ _).trans hp) (hb.perm^CM _ _ _) (by rw[kas_rev_size];exact hz) (by lk) (by lk) (step1 _^Bu hsz he) (by lk) (λi a b=>by congr 1;lk) λp' m q' a1 a2 a3 a4 a5 a6 a7 a8=>h p' m q' a1 a2 (a3.trans^kas_rev_size _ _) (by lk) a5 a6 a7 a8
   .rw[if_neg hq0]
    exact JP hC f _ (n+1) 0 hp hb hz (by lk) (by lk) (step1 _ λ_=>rfl) (by lk) (λi a b=>by congr 1;lk) λp' m q' a1 a2 a3 a4 a5 a6 a7 a8=>h p' m q' a1 a2 a3 (by lk) a5 a6 a7 a8
  | false=>
   refine no ?_;show cmp (p.getD (n - 1) 0) (p.getD n 0) (λd s'=>(if d=s_ then KasT.ret (p,n,q)else kas_desc f p (n+1) (q+1)).kasWp cmp G s') s;refine hC _ _ _ (hb.get _) (hb.get n) ?_;cases hlarger:O.blt (key^p.getD (n - 1) 0)^key^p.getD n 0 with
   |true=>exact yes (h p n q hp hb rfl (Sc _) (by lk) hs hq he)
   | false=>
    have heqx:KN O key p n=KN O key p (n - 1):=pM (O:=O) hlarger hless;refine no^JP hC f p (n+1) (q+1) hp hb hz (by lk) (by lk) (λi j hij hj=>?_) (by lk) (λi a b=>?_) λp' m q' a1 a2 a3 a4 a5 a6 a7 a8=>h p' m q' a1 a2 a3 (by lk) a5 a6 a7 a8
    .by_cases hjx:j<n
     .exact hs i j hij hjx
     .have hj':j=n:=by lk
      subst hj'
      by_cases hi':i=j
      .subst hi';exact ju _
      .rw[heqx];exact hs i (j - 1) (by lk)^by lk
    .rw[show n+1 - 1=n by lk]
     by_cases hix:i=n
     .subst hix;rfl
     .rw[heqx];exact he i (by lk)^by lk
def Ov(hC:av O key N cmp s){n nrem:Nat}{G:Nat×Array Nat->No->Prop}(hp:p.Perm p0)(hb:Bd N p)(hz:nrem<=p.size)(h1:1<=n)(hn:n<=nrem)(hs:fg O key p n)
  (h:∀m p',p'.Perm p0->Bd N p'->p'.size=p.size->1<=m->m<=nrem->Srt O key p' m->G (m,p') s):(kas_tail3 n nrem p).kasWp cmp G s:=by
 unfold kas_tail3;rw[KasT.kasWp_bind];have hsz:n<=p.size:=by lk
 refine Ro hC (hb.perm^CM _ _ _) _ n h1 (by lk) (λi j hij hj=>?_) λm m1 m2 m3 _=>h m _ ((CM _ _ _).trans hp) (hb.perm^CM _ _ _) (kas_rev_size _ _) (by lk) m2 m3;rw[Hu hsz,Hu hsz,if_pos^by lk,if_pos^by lk];exact hs _ _ (by lk)^by lk
def IW(hC:av O key N cmp s){n nrem:Nat}{G:Nat×Array Nat->No->Prop}(hp:p.Perm p0)(hb:Bd N p)(hz:nrem<=p.size)(hn:n+1<=nrem)(hs:fg O key p (n+1))
  (h:∀m p',p'.Perm p0->Bd N p'->p'.size=p.size->1<=m->m<=nrem->Srt O key p' m->G (m,p') s):(kas_descPart n nrem p).kasWp cmp G s:=by
 unfold kas_descPart;rw[KasT.kasWp_bind];refine JP (p0:=p0) hC (nrem - (n+1)) p (n+1) 0 hp hb hz (by lk) (by lk) hs (by lk) (λi a b=>by grind) λp' m q' a1 a2 a3 a4 a5 a6 a7 a8=>?_;have hsz:m<=p'.size:=by lk
 show(if q' > 0 then kas_tail3 m nrem^kas_rev p' (m - (q'+1)) m else kas_tail3 m nrem p').kasWp cmp G s
 by_cases hq0:q' > 0
 .rw[if_pos hq0]
  refine Ov hC ((CM _ _ _).trans a1) (a2.perm^CM _ _ _) (by rw[kas_rev_size];lk) (by lk) a5 (λi j hij hj=>?_) λm' p'' b1 b2 b3 b4 b5 b6=>h m' p'' b1 b2 (b3.trans^(kas_rev_size _ _).trans a3) b4 b5 b6;rw[Bu hsz a8,Bu hsz a8];exact a6 i j hij hj
 .rw[if_neg hq0]
  exact Ov hC a1 a2 (by lk) (by lk) a5 a6 λm' p'' b1 b2 b3 b4 b5 b6=>h m' p'' b1 b2 (b3.trans a3) b4 b5 b6
def X9(hC:av O key N cmp s){nrem:Nat}{G:Nat×Array Nat->No->Prop}(hp:p.Perm p0)(hb:Bd N p)(hz:nrem<=p.size)(h1:1<=nrem)
  (h:∀m p',p'.Perm p0->Bd N p'->p'.size=p.size->1<=m->m<=nrem->Srt O key p' m->G (m,p') s):(kas_count nrem p).kasWp cmp G s:=by
 unfold kas_count;rw[KasT.kasWp_bind];refine Ro (nrem:=nrem) hC hb (nrem - 1) 1 (Sc _) (by lk) (λi j hij hj=>by have:i=j:=(by lk);subst this;exact ju _) λn hn1 hn2 hsn hor=>?_
 by_cases hnn:n=nrem
 .rw[if_pos^by simpa using hnn]
  exact h n p hp hb rfl hn1 hn2 hsn
 .rw [if_neg^by simpa using hnn]
  have hlt:O.klt (KN O key p n)^KN O key p (n - 1):=hor.resolve_left hnn
  by_cases hgt:n > 1
  .rw[if_pos hgt]
   show cmp (p.getD 0 0) (p.getD (n - 1) 0) (λc s'=>(if c=s_ then KasT.ret (n,p)else kas_descPart n nrem^kas_rev p 0 n).kasWp cmp G s') s;refine hC _ _ _ (hb.get _) (hb.get _) ?_;cases hrose:O.blt (key^p.getD 0 0)^key^p.getD (n - 1) 0 with
   |true=>exact yes (h n p hp hb rfl hn1 hn2 hsn)
   | false=>
    have hrose':O.kle (KN O key p (n - 1))^KN O key p 0:=hrose;have hsz:n<=p.size:=by lk
    have hall:∀k,0<=k->k<n->KN O key p k=KN O key p (n - 1):=by
     intro k _ hk;have a1:=hsn 0 k (by lk) hk;have a2:=hsn k (n - 1) (by lk) (by lk);exact pM a2^m7 hrose' a1
    refine no^IW hC ((CM _ _ _).trans hp) (hb.perm^CM _ _ _) (by rw[kas_rev_size];exact hz) (by lk) (λi j hij hj=>?_) λm' p'' b1 b2 b3 b4 b5 b6=>h m' p'' b1 b2 (b3.trans^kas_rev_size _ _) b4 b5 b6;rw[Bu hsz hall,Bu hsz hall]
    by_cases hjn:j<n
    .rw[hall i (by lk)^by lk,hall j (by lk) hjn];exact ju _
    .have hj':j=n:=by lk
     subst hj'
     by_cases hi':i=j
     .subst hi';exact ju _
     .rw[hall i (by lk)^by lk];exact mZ hlt
  .rw[if_neg hgt]
   have hn1':n=1:=by lk
   subst hn1';refine IW hC hp hb hz (by lk) (λi j hij hj=>?_) h
   by_cases hi':i=j
   .subst hi';exact ju _
   .have hi0:i=0:=by lk
    have hj1:j=1:=by lk
    subst hi0;subst hj1
    exact mZ hlt
theorem KD(hC:av O key N cmp s)(hb:Bd N p){k:Nat}(hs:Srt O key p k){G:Nat->No->Prop}
  (h:∀l,l<=k->(∀i,i<l->O.kle (KN O key p i)^KN O key p k)->(∀i,l<=i->i<k->O.klt (KN O key p k)^KN O key p i)->G l s):∀(f l r:Nat),l<=r->r<=k->r - l<=f->
  (∀i,i<l->O.kle (KN O key p i)^KN O key p k)->(∀i,r<=i->i<k->O.klt (KN O key p k)^KN O key p i)->(kas_place p k f l r).kasWp cmp G s
 |0,l,r,hlr,hrk,hm,hlo,hhi=>by
  have:l=r:=by lk
  subst this;exact h l hrk hlo hhi
 | f+1,l,r,hlr,hrk,hm,hlo,hhi=>by
  unfold kas_place
  by_cases hge:l≥r
  .rw[if_pos hge]
   have:l=r:=by lk
   subst this;exact h l hrk hlo hhi
  .rw[if_neg hge]
   refine hC _ _ _ (hb.get _) (hb.get _) ?_;cases hless:O.blt (key^p.getD k 0)^key^p.getD ((l+r) / 2) 0 with
   |true=>
    have hl:O.klt (KN O key p k)^KN O key p ((l+r) / 2):=hless;exact yes^KD hC hb hs h f l ((l+r) / 2) (by lk) (by lk) (by lk) hlo λi h1 h2=>KeyOrd.klt_of_klt_of_kle hl^hs _ _ h1 h2
   |false=>
    have hl:O.kle (KN O key p ((l+r) / 2))^KN O key p k:=hless;exact no^KD hC hb hs h f ((l+r) / 2+1) r (by lk) (by lk) (by lk) (λi h1=>m7 (hs i ((l+r) / 2) (by lk)^by lk) hl) hhi
theorem EJ(hC:av O key N cmp s){n:Nat}{G:Array Nat->No->Prop}(h:∀p',p'.Perm p0->Srt O key p' n->G p' s):∀(f:Nat) (p:Array Nat) (k:Nat),p.Perm p0->Bd N p->n<=p.size->k+f=n->Srt O key p k->(kas_bin f p k).kasWp cmp G s
 |0,p,k,hp,hb,hz,e,hs=>h p hp^by rw[←e];exact hs
 | f+1,p,k,hp,hb,hz,e,hs=>by
  rw[show kas_bin (f+1) p k=(kas_place p k k 0 k).bind λl=>kas_bin f (bubble p k (k - l)) (k+1)from rfl,KasT.kasWp_bind];refine KD hC hb hs (λl hlk hlo hhi=>?_) k 0 k (iX _) (Sc _) (by lk) (λi hi=>by lk) λi a b=>by lk
  have hks:k<p.size:=by lk
  refine EJ hC h f _ (k+1) ((bubble_perm _ _ _).trans hp) (hb.perm^bubble_perm _ _ _) (by rw[bubble_size];exact hz) (by lk) λi j hij hj=>?_;rw[Mn hks^by lk,Mn hks^by lk,show k - (k - l)=l by lk]
  by_cases hi1:i=l
  .rw[if_pos hi1]
   by_cases hj1:j=l
   .rw[if_pos hj1];exact ju _
   .rw[if_neg hj1,if_pos^by lk]
    exact mZ^hhi (j - 1) (by lk)^by lk
  .rw [if_neg hi1]
   by_cases hi2:l<i/\i<=k
   .rw[if_pos hi2,if_neg^by lk,if_pos^by lk]
    exact hs (i - 1) (j - 1) (by lk)^by lk
   .rw[if_neg hi2]
    by_cases hj1:j=l
    .rw[if_pos hj1];exact hlo i^by lk
    .rw[if_neg hj1]
     by_cases hj2:l<j/\j<=k
     .rw[if_pos hj2]
      exact hs i (j - 1) (by lk)^by lk
     .rw[if_neg hj2]
      exact hs i j hij^by lk
def sort_ok{n:Nat}(h1:1<=n)(hC:av O key n cmp s){G:Array Nat->No->Prop}(h:∀p,p.Perm^im^i4 n->Srt O key p n->G p s):(kas_sort n).kasWp cmp G s:=by
 unfold kas_sort;rw[KasT.kasWp_bind];have hb:Bd n^im^i4 n:=#[h1,λx hx=>by grind];have hsz:(im^i4 n).size=n:=by simp
 refine X9 hC (oy _) hb (by lk) h1 λm p' a1 a2 a3 a4 a5 a6=>?_
 by_cases hlt:m<n
 .rw[if_pos hlt,show max m 1=m by lk]
  exact EJ hC h _ p' m a1 a2 (by lk) (by lk) a6
 .rw[if_neg hlt]
  exact h p' a1^by grind
end
end So
namespace L2
open PySem.W
def cG:Key->Key->Bool
 |.inl i,.inl j=>decide (i<j)
 |.inr x,.inr y=>decide (x.cps.toList<y.cps.toList)
 |.inl _,.inr _=>s_
 |.inr _,.inl _=>t_
def A8:u_ Key->u_ Key->Bool
 |[],[]=>t_
 |[],_::_=>s_
 |_::_,[]=>t_
 |x::xs,y::ys=>if x=y then A8 xs ys else cG x y
theorem RQ:∀x:Key,cG x x=t_
 |.inl i=>decide_eq_false^Int.lt_irrefl i
 |.inr x=>decide_eq_false^lD _
theorem Um:∀x y z:Key,cG x y=s_->cG y z=s_->cG x z=s_
 |.inl i,.inl j,.inl k,h1,h2=>decide_eq_true^Int.lt_trans (of_decide_eq_true h1)^of_decide_eq_true h2
 |.inr i,.inr j,.inr k,h1,h2=>decide_eq_true^l8 (of_decide_eq_true h1)^of_decide_eq_true h2
 |.inl i,.inl j,.inr k,_,_=>rfl
 |.inl i,.inr j,.inr k,_,_=>rfl
 |.inl i,.inr j,.inl k,_,h=>by cases h
 |.inr i,.inl j,_,h,_=>by cases h
 |.inr i,.inr j,.inl k,_,h=>by cases h
theorem HR:∀x y:Key,cG x y=t_->cG y x=t_->x=y
 |.inl i,.inl j,h1,h2=>congrArg _^by have a:=of_decide_eq_false h1;have b:=of_decide_eq_false h2;lk
 |.inr x,.inr y,h1,h2=>by
  have e:=List.le_antisymm (of_decide_eq_false h2)^of_decide_eq_false h1;let#[u]:=x
  simp_all
 |.inl i,.inr j,h,_=>by cases h
 |.inr i,.inl j,_,h=>by cases h
theorem Ck:∀x:u_ Key,A8 x x=t_
 |[]=>rfl
 |x::xs=>by unfold A8;rw[if_pos rfl];exact Ck xs
theorem Cc:∀x y z:u_ Key,A8 x y=s_->A8 y z=s_->A8 x z=s_
 |[],[],_,h,_=>by cases h
 |[],_::_,[],_,h=>by cases h
 |[],_::_,_::_,_,_=>rfl
 |_::_,[],_,h,_=>by cases h
 |_::_,_::_,[],_,h=>by cases h
 | x::xs,y::ys,z::zs,h1,h2=>by
  unfold A8 at h1 h2 ⊢
  by_cases e1:x=y
  .subst e1
   rw[if_pos rfl]at h1
   by_cases e2:x=z
   .subst e2
    rw[if_pos rfl]at h2 ⊢;exact Cc xs ys zs h1 h2
   grind
  .rw[if_neg e1]at h1
   by_cases e2:y=z
   .grind
   .rw[if_neg e2]at h2
    have h3:=Um x y z h1 h2
    by_cases e3:x=z
    .subst e3
     rw[RQ]at h3;cases h3
    grind
theorem CH:∀x y:u_ Key,A8 x y=t_->A8 y x=t_->x=y
 |[],[],_,_=>rfl
 |[],_::_,h,_=>by cases h
 |_::_,[],_,h=>by cases h
 | x::xs,y::ys,h1,h2=>by
  unfold A8 at h1 h2
  by_cases e:x=y
  .subst e
   rw[if_pos rfl]at h1 h2;rw[CH xs ys h1 h2]
  .rw[if_neg e]at h1
   rw[if_neg λz=>e z.symm]at h2;exact absurd (HR x y h1 h2) e
def UT:KeyOrd:=#[u_ Key,A8,Ck,Cc,λa b c h=>by
 cases h1:A8 a b with
 |true=>exact .inl rfl
 |false=>
  cases h2:A8 b a with
  |true=>exact .inr^Cc b a c h2 h
  |false=>rw[←CH a b h1 h2];exact .inr h,CH]
theorem JH:∀x y:u_ Key,BY x y=s_->Co x y=A8 x y
 |[],[],_=>rfl
 |[],_::_,_=>rfl
 |_::_,[],_=>rfl
 | x::xs,y::ys,h=>by
  have h':(Hx x y&&BY xs ys)=s_:=h;rw[ik]at h';unfold Co A8
  by_cases e:x=y
  .rw[if_pos e,if_pos e];exact JH xs ys h'.2
  .rw[if_neg e,if_neg e]
   cases x with
   |inl i=>cases y with
    |inl j=>rfl
    |inr z=>cases h'.1
   |inr i=>cases y with
    |inl j=>cases h'.1
    |inr z=>rfl
section
variable {prog:Program}{w:World}{A:Around}{E:Value->Shared->Prop}{s:Shared}
theorem XH{b:Bool}{Q:Bool->No->Prop}{nx ny:Nat}:∀(ns ms:u_ Key) (us ws:u_ Db) (i:Nat),Vals (ns.map kOf) us->Vals (ms.map kOf) ws->BY ns ms=s_->ns.length+ny=ms.length+nx->Q (Co ns ms) s->
  KatLex prog w A b (decide (nx<ny)) Q (us.zip ws) i s
 |[],[],us,ws,i,h1,h2,_,hl,q=>by
  cases h1;cases h2;refine kat_nil ?_;rw[show decide (nx<ny)=t_ from decide_eq_false^by simp only[jN]at hl;lk];exact q
 |[],m::ms,us,ws,i,h1,h2,_,hl,q=>by
  cases h1;rw[oO];refine kat_nil ?_;rw[show decide (nx<ny)=s_ from decide_eq_true^by simp only[jN,ij]at hl;lk];exact q
 |n::ns,[],us,ws,i,h1,h2,_,hl,q=>by
  cases h2;rw[nt];refine kat_nil ?_;rw[show decide (nx<ny)=t_ from decide_eq_false^by simp only[jN,ij]at hl;lk];exact q
 | n::ns,m::ms,us,ws,i,h1,h2,hs,hl,q=>by
  have hs':(Hx n m&&BY ns ms)=s_:=hs;rw[ik]at hs';have q':Q (if n=m then Co ns ms else dM n m) s:=q;cases h1 with
  | @cons _ u _ ur r1 t1=>
   cases h2 with
   | @cons _ v _ vr r2 t2=>
    rw[jy];have ih:n=m->KatLex prog w A b (decide (nx<ny)) Q (ur.zip vr) (i+1) s:=λe=>XH ns ms ur vr (i+1) t1 t2 hs'.2 (by simp only[ij]at hl;lk) (by rw[if_pos e]at q';exact q');cases n with
    | inl x=>
     cases m with
     |inr y=>cases hs'.1
     | inl y=>
      let#[tu,rfl]:=r1;let#[tv,rfl]:=r2;refine kat_cons^wpAny_eqBool_int ?_
      by_cases e:x=y
      .rw[show(x==y)=s_ by simpa using e]
       exact kat_yes^ih^by rw[e]
      .rw[show(x==y)=t_ by simpa using e]
       refine kat_no ?_;rw[if_neg λz=>e^Sum.inl.inj z]at q';cases hf:(b&&i==0)with
       |true=>exact oneLt_int q'
       |false=>exact kat_one _ _^o5 (show PySem.W.BoolBack Q (.bool (decide (x<y))) s from q')
    | inr x=>
     cases m with
     |inl y=>cases hs'.1
     | inr y=>
      let#[tu,rfl]:=r1;let#[tv,rfl]:=r2;refine kat_cons^wpAny_eqBool_str ?_
      by_cases e:x=y
      .rw[show decide (x=y)=s_ by simpa using e]
       exact kat_yes^ih^by rw[e]
      .rw[show decide (x=y)=t_ by simpa using e]
       refine kat_no ?_;rw[if_neg λz=>e^jo z]at q';cases hf:(b&&i==0)with
       |true=>exact oneLt_str q'
       |false=>exact kat_one _ _^PySem.P.lt_str (show PySem.W.BoolBack Q (.bool (decide (x.cps.toList<y.cps.toList))) s from q')
structure Ts (h:iQ) (ks:List Db) (keys:List^List Key):Prop where
 at_:∀(i:Nat) (ns:List Key),keys[i]?=P3 ns->∃a o its n,ks[i]?=P3^.ref a/\h.get? a=P3 o/\o.cls=.type "tuple"/\o.data=.seq its n/\Vals (ns.map kOf) its.toList
 len:ks.length=keys.length
 same:∀x∈keys,∀y∈keys,BY x y=s_
 ne:∀x∈keys,x≠[]
def fk:Key->String
 |.inl _=>"int"
 |.inr _=>"str"
theorem firsts{h:iQ}:∀(ks:u_ Db) (keys:u_^u_ Key) (T:String),ks.length=keys.length->(∀(i:Nat) (ns:u_ Key),keys[i]?=P3 ns->∃a o its n,ks[i]?=P3^.ref a/\h.get? a=P3 o/\o.cls=.type "tuple"/\o.data=.seq its n/\Vals (ns.map kOf) its.toList)->
  (∀x∈keys,∃k r,x=k::r/\fk k=T)->∃fs:u_ Db,KatTups h ks fs/\fs.length=keys.length/\∀v∈fs,typeOf v=pure^.type T
 |[],[],T,_,_,_=>#[[],trivial,rfl,λv hv=>by cases hv]
 |[],_::_,T,hl,_,_=>by cases hl
 |_::_,[],T,hl,_,_=>by cases hl
 | k::ks,x::keys,T,hl,h1,h2=>by
  let#[fs,g1,g2,g3]:=firsts ks keys T (by simpa using hl) (λi ns e=>by
   let#[a,o,its,n,e1,r]:=h1 (i+1) ns (by simpa using e);exact#[a,o,its,n,by simpa using e1,r]) λy hy=>h2 y^TM _ hy
  let#[a,o,its,n,e1,e2,e3,e4,e5]:=h1 0 x rfl;have e1:k=.ref a:=by simpa using e1
  subst e1;let#[k,r,rfl,hk]:=h2 x On;rw[iZ]at e5;cases hits:its.toList with
  |nil=>rw[hits]at e5;cases e5
  | cons f tl=>
   rw[hits]at e5;cases e5 with
   | cons r1 r2=>
    refine#[f::fs,KatTups.cons e2 e3 e4 (by rw[←lg,hits];rfl) g1,by rw[ij,ij,g2],λv hv=>?_]
    rcases UF.mp hv with rfl|hv
    .cases k with
     |inl i=>let#[t,rfl]:=r1;subst hk;rfl
     |inr i=>let#[t,rfl]:=r1;subst hk;rfl
    .exact g3 v hv
def L4{ks:u_ Db}{keys:u_^u_ Key}(K:Ts s.heap ks keys)(h2:2<=ks.length){G:Array Nat->No->Prop}(h:∀p,p.Perm^im^i4 ks.length->So.Srt UT (λi=>keys.getD i []) p ks.length->G p s):
  wpAny (model prog w) A (keyKind' ks.toArray) (λκ s'=>(kas_sort ks.length).kasWp (kas_ask prog w A κ ks) G s') (λ_ _=>False) s:=by
 obtain⟨x0,xr,hx⟩:∃x0 xr,keys=x0::xr:=by
  cases e:keys with
  |nil=>have:=K.len;rw[e]at this;simp only[jN]at this;lk
  |cons x r=>exact#[x,r,rfl]
 have m0:x0∈keys:=by rw[hx];exact On
 obtain⟨k0,r0,e0⟩:∃k r,x0=k::r:=by
  cases e:x0 with
  |nil=>exact absurd e^K.ne x0 m0
  |cons k r=>exact#[k,r,rfl]
 have hty:∀x∈keys,∃k r,x=k::r/\fk k=fk k0:=λx hm=>by
  cases e:x with
  |nil=>exact absurd e^K.ne x hm
  | cons k r=>
   refine#[k,r,rfl,?_];have hsm:=K.same x hm x0 m0;rw[e,e0]at hsm;have hsm:(Hx k k0&&BY r r0)=s_:=hsm;rw[ik]at hsm;cases k with
   |inl i=>cases k0 with
    |inl j=>rfl
    |inr j=>cases hsm.1
   |inr i=>cases k0 with
    |inl j=>cases hsm.1
    |inr j=>rfl
 let#[fs,g1,g2,g3]:=firsts ks keys (fk k0) K.len K.at_ hty;refine kat_kind g1 (by rw[g2,←K.len];lk) (λv hv=>by rw[g3 v hv];exact Looks.now) (by simp) ?_;refine So.sort_ok (O:=UT) (key:=λi=>keys.getD i []) (by lk) (λi j C hi hj hC=>?_) h;have hi':i<keys.length:=by rw[←K.len];exact hi
 have hj':j<keys.length:=by rw[←K.len];exact hj
 let#[a,o,its,n,e1,e2,e3,e4,e5]:=K.at_ i keys[i] (Go hi');let#[a',o',its',n',e1',e2',e3',e4',e5']:=K.at_ j keys[j] (Go hj');unfold kas_ask;rw[show ks.getD i iu=.ref a by rw[ia,e1];rfl,show ks.getD j iu=.ref a' by rw[ia,e1'];rfl];have hsm:=K.same _ (jQ hi') _^jQ hj';refine kat_lt e2 e4 e2' e4' (XH keys[i] keys[j] _ _ 0 e5 e5' hsm ?_ ?_)
 .have l1:=e5.length
  have l2:=e5'.length;have l3:(keys[i].map kOf).length=keys[i].length:=Ev ..;have l4:(keys[j].map kOf).length=keys[j].length:=Ev ..;have l5:its.toList.length=its.size:=i8;have l6:its'.toList.length=its'.size:=i8;lk
 .rw[JH _ _ hsm]
  have g1:keys.getD i []=keys[i]:=by rw[ia,Go hi'];rfl
  have g2:keys.getD j []=keys[j]:=by rw[ia,Go hj'];rfl
  have hC':C (A8 (keys.getD i [])^keys.getD j []) s:=hC;rw[g1,g2]at hC';exact hC'
def Cv{v:Db}{kw:u_ (Str×Db)}{Q:Db->No->Prop}(ha1:argsOk "sorted" #[[v],kw])(ha2:∀x,argsOk "list.sort" #[[.ref x],kw])
  (hc:wpAny (model prog w) A.in1 (collect v) (λvs s1=>vs.length<=sizeLine/\wpAny (model prog w) A.in1.in1 (kM.«list.sort» #[[.ref s1.heap.objs.size],kw]) (λfin s'=>fin=.done^.ret .none/\Q (.ref s1.heap.objs.size) s') E {s1 with heap:=s1.heap.push^seqObj "list" vs.toArray 0}) E s):
  wpAny (model prog w) A (call (.builtin "sorted") [v] kw) Q E s:=call_function_entry_kw kind_sorted plain_sorted entry_sorted ha1^Cn^Op^Cn^jT hc (λvs s1 h=>Cn^oI (Cn^jX^wpAny_call_entry_kw PyProof.Rows.slot_list_sort #[_,TW _ rfl,rfl] PyProof.Rows.entry_list_sort (jT h.2 (λfin s' hf=>#[_,hf.1,Op #[_,rfl,hf.2]]) λ_ _ x=>x)^ha2 _) h.1) λ_ _ x=>x
def DJ(h:iQ)(D:Ch)(vs:u_ Db):iQ:=((h.update D^jF λ_=>(#[]:Array Db)).push^seqObj "tuple" vs.toArray 0).push^seqObj "list" #[] 0
def HJ{h:iQ}{D:Ch}{vs:u_ Db}{b:Ch}{o:Obj}(hb:b≠D)(e:h.get? b=P3 o):(DJ h D vs).get? b=P3 o:=
 FM _ (FM _^(iO _ _^i_ hb).trans e)
def Jl{h:iQ}{D:Ch}{vs:u_ Db}{n:Nat}(ho:h.get? D=P3^seqObj "list" vs.toArray n):∃e1,(DJ h D vs).get? D=P3^seqObj "list" #[] e1/\(h.update D^jF λ_=>(#[]:Array Db)).get? D=P3^seqObj "list" #[] e1:=by
 obtain⟨e1,ho1⟩:∃e1,(h.update D _).get? D=P3^seqObj _ _ e1:=#[_,lR ho _];exact#[e1,FM _^FM _ ho1,ho1]
def Pb{D:Ch}{vs:u_ Db}{n:Nat}{P:PySem.Fin->No->Prop}{G:Array Nat->Prop}(ho:s.heap.get? D=P3^seqObj "list" vs.toArray n)(h64:vs.length<64)
  (hk:2<=vs.length->wpAny (model prog w) A (keyKind' vs.toArray) (λκ s'=>(kas_sort vs.length).kasWp (kas_ask prog w A κ vs) (λp s''=>s''={s with heap:=DJ s.heap D vs}/\G p) s') (λ_ _=>False) {s with heap:=DJ s.heap D vs})
  (h1:vs.length<2->G^im^i4 vs.length) (hfin:∀(p:Array Nat) (h':iQ) (c:Nat),p.size=vs.length->G p->(∀b o,b≠D->s.heap.get? b=P3 o->h'.get? b=P3 o)->h'.get? D=P3^seqObj "list" (im^p.toList.map λi=>vs.getD i iu) c->P (.done^.ret .none) {s with heap:=h'}):
  wpAny (model prog w) A (kM.«list.sort» #[[.ref D],[]]) P E s:=by
 let#[e1,ho6,ho1]:=Jl ho
 have fin:∀(p:Array Nat),p.size=vs.length->G p->P (.done^.ret .none) {s with heap:=(DJ s.heap D vs).update D^jF λ_=>im^p.toList.map λi=>vs.getD i iu}:=λp hp hg=>by
  obtain⟨c2,hc2⟩:∃c2,((DJ s.heap D vs).update D^jF λ_=>im^p.toList.map λi=>vs.getD i iu).get? D=P3^seqObj "list" (im^p.toList.map λi=>vs.getD i iu) c2:=#[_,lR ho6 λ_=>im^p.toList.map λi=>vs.getD i iu];exact hfin p _ c2 hp hg (λb o hb e=>(iO _ _^i_ hb).trans^HJ hb e) hc2
 rw[list_sort_plain];refine Cn (nQ ho rfl ?_);refine Cn (kr ho rfl ?_ (by rw[f8,i9];lk) (iX _));refine Cn (nk ho1 rfl ?_);refine Cn (wpAny_newTuple ?_^by show vs.length<=_;rw[i9];lk);refine Cn^oI ?_^iX _;refine jX ?_;show wpAny (model prog w) A _ P E {s with heap:=DJ s.heap D vs}
 dsimp only
 by_cases h2:vs.length<2
 .have h2':vs.toArray.size<2:=by rw[f8];exact h2
  rw[if_pos h2',if_pos h2'];refine Cn^Op ?_;rw[StateT.run_pure];refine Cn^Op ?_
  dsimp only
  refine Cn (nk ho6 rfl ?_);have hsz:(im^i4 vs.length).size=vs.length:=by simp
  have hout:(arrOf^SortSt.mk' general' (vs.toArray.zip vs.toArray) #[] 7 r_).map (·.2)=im ((im^i4 vs.length).toList.map λi=>vs.getD i iu):=by
   refine kat_snds rfl ?_;have e:=kas_range^vs.toArray.zip vs.toArray;rw[show(vs.toArray.zip vs.toArray).size=vs.length by simp]at e;exact e.symm
  rw[hout];refine Cn (kr ho6 rfl ?_ (iX _) (by rw[f8,Ev,i8,hsz,i9];lk));simp only[bne_self_eq_false,jD,if_false];exact Op^fin _ hsz^h1 h2
 .have h2':¬vs.toArray.size<2:=by rw[f8];exact h2
  rw[if_neg h2',if_neg h2'];refine Cn^jT (hk^by lk) (λκ s0 hk=>?_) λ_ _ x=>x.elim
  refine Cn (jT (kat_run (Q:=λst' s'=>∃p:Array Nat,p.size=vs.length/\arrOf st'=p.map^kas_item^vs.toArray.zip vs.toArray/\failedOf st'=r_/\s'={s with heap:=DJ s.heap D vs}/\G p)
   rfl (by lk) h64 (λp' st' s' a1 a2 a3 a4=>#[p',a1,a2,a3,a4]) hk) ?_ λ_ _ e=>e)
  rintro⟨⟨⟩,st'⟩ s' ⟨p,hp,har,hf,rfl,hg⟩
  dsimp only
  have hout:=kat_snds rfl har;have hsz:(im^p.toList.map λi=>vs.getD i iu).size=vs.length:=by rw[f8,Ev,i8,hp]
  rw[hout];refine Cn (nk ho6 rfl ?_);refine Cn (kr ho6 rfl ?_ (iX _) (iU (nH hsz)^by rw[i9];lk));rw[hf];simp only[bne_self_eq_false,jD,if_false];exact Op^fin p hp hg
def Uo{D:Ch}{f:Db}{vs:u_ Db}{n:Nat}{P:PySem.Fin->No->Prop}(ho:s.heap.get? D=P3^seqObj "list" vs.toArray n)(h64:vs.length<64)(J:u_ Db->No->Prop)(kS:Ch)(hkS:kS=s.heap.objs.size+1)
  (h0:∀e1,(DJ s.heap D vs).get? D=P3^seqObj "list" #[] e1->J [] {s with heap:=DJ s.heap D vs})
  (hstep:∀(ks:u_ Db) (s':No) (e:Nat) (v:Db),J ks s'->s'.heap.get? kS=P3^seqObj "list" ks.toArray e->vs[ks.length]?=P3 v->wpAny (model prog w) A (call f [v]) (λk s''=>s''.heap.get? kS=P3^seqObj "list" ks.toArray e/\J (ks++[k]) {s'' with heap:=s''.heap.update kS (jF (·.push k))}) (λ_ _=>False) s')
  (hend:∀(e1:Nat),(DJ s.heap D vs).get? D=P3^seqObj "list" #[] e1->∀(ks:u_ Db) (s':No),J ks s'->ks.length=vs.length->s'.heap.get? D=P3^seqObj "list" #[] e1/\∃G:Array Nat->Prop,
   (2<=vs.length->wpAny (model prog w) A (keyKind' ks.toArray) (λκ s2=>(kas_sort vs.length).kasWp (kas_ask prog w A κ ks) (λp s''=>s''=s'/\G p) s2) (λ_ _=>False) s')/\(vs.length<2->G^im^i4 vs.length) /\
   ∀(p:Array Nat) (h':iQ) (c:Nat),p.size=vs.length->G p->(∀b o,b≠D->b≠kS->s'.heap.get? b=P3 o->h'.get? b=P3 o)->h'.get? D=P3^seqObj "list" (im^p.toList.map λi=>vs.getD i iu) c->(∃o,h'.get? kS=P3 o)->P (.done^.ret .none) {s' with heap:=h'}):
  wpAny (model prog w) A (ksk_tree D f t_) P E s:=by
 let#[e1,ho6,ho1]:=Jl ho;have hsz1:((s.heap.update D^jF λ_=>(#[]:Array Db)).push^seqObj "tuple" vs.toArray 0).objs.size=kS:=by rw[size_push',Heap.size_update,hkS]
 have hD:D<s.heap.objs.size:=T0 ho;have hDk:D≠kS:=by rw[hkS];exact ge^jp hD
 have hk0:(DJ s.heap D vs).get? kS=P3^seqObj "list" #[] 0:=by rw[←hsz1];exact TW _ rfl
 unfold ksk_tree;refine Cn (nQ ho rfl ?_);refine Cn (kr ho rfl ?_ (by rw[f8,i9];lk) (iX _));refine Cn (nk ho1 rfl ?_);refine Cn (wpAny_newTuple ?_^by show vs.length<=_;rw[i9];lk);refine Cn^oI ?_^iX _;refine jX ?_;show wpAny (model prog w) A (ksk_rest D f t_ vs.toArray e1^.ref ((s.heap.update D^jF λ_=>(#[]:Array Db)).push^seqObj "tuple" vs.toArray 0).objs.size) P E {s with heap:=DJ s.heap D vs};rw[hsz1];unfold ksk_rest;refine Cn^mT ?_
 first
  |rw[List.forIn_toArray]
  |(rw[←Array.forIn_toList];simp only[List.toList_toArray])
  |rw[←Array.forIn_toList]
 refine Cn^ksk_fold (I:=λi s'=>∃ks e,mi ks=i/\J ks s'/\s'.heap.get? kS=P3^seqObj "list" ks.toArray e) vs 0 _ #[[],0,rfl,h0 e1 ho6,hk0] (λj x s' hx hI=>?_) λs' hI=>?_
 .let#[ks,e,hl,hJ,hk]:=hI
  have hj:j<vs.length:=(Uf.mp hx).1;have hl:ks.length=j:=by lk
  refine Cn^mx^jT (hstep ks s' e x hJ hk^by rw[hl];exact hx) (λk s'' hk2=>?_) λ_ _ hF=>hF.elim;have ea:(im ks).push k=im (ks++[k]):=by simp
  obtain⟨c2,hc2⟩:∃c2,(s''.heap.update kS (jF (·.push k))).get? kS=P3^seqObj "list" (im (ks++[k])) c2:=#[_,by rw[←ea];exact lR hk2.1 (·.push k)]
  try dsimp only
  refine Cn (kr hk2.1 rfl ?_ (by rw[f8,i9];lk) (iU (nH (Array.size_push ..))^by rw[f8,i9];lk));exact Op #[rfl,ks++[k],c2,by rw[iT,jC];lk,hk2.2,hc2]
 .let#[ks,e,hl,hJ,hk]:=hI
  have hl:ks.length=vs.length:=by lk
  let#[hD',G,g2,g1,g3]:=hend e1 ho6 ks s' hJ hl
  try dsimp only
  refine Cn (nQ hk rfl ?_)
  have tail:∀(st:SortSt) (p:Array Nat),p.size=vs.length->G p->(arrOf st).map (·.2)=im (p.toList.map λi=>vs.getD i iu)->failedOf st=r_->wpAny (model prog w) A (ksk_tail D t_ e1 (.ref kS) st) P E s':=λst p hp hg hout hf=>by
   have hsz:(im^p.toList.map λi=>vs.getD i iu).size=vs.length:=by rw[f8,Ev,i8,hp]
   obtain⟨ck,hck⟩:∃ck,(s'.heap.update kS^jF λ_=>(#[]:Array Db)).get? kS=P3^seqObj "list" #[] ck:=#[_,lR hk λ_=>#[]];have hD2:(s'.heap.update kS^jF λ_=>(#[]:Array Db)).get? D=P3^seqObj "list" #[] e1:=(iO _ _^i_ hDk).trans hD';obtain⟨c2,hc2⟩:∃c2,((s'.heap.update kS^jF λ_=>(#[]:Array Db)).update D^jF λ_=>im^p.toList.map λi=>vs.getD i iu).get? D=P3^seqObj "list" (im^p.toList.map λi=>vs.getD i iu) c2:=#[_,lR hD2 λ_=>im^p.toList.map λi=>vs.getD i iu];unfold ksk_tail
   try dsimp only
   rw[hout];refine Cn (kr hk rfl ?_ (by rw[f8,i9];lk) (iX _));refine Cn^ke ?_;refine Cn (nk hD2 rfl ?_);refine Cn (kr hD2 rfl ?_ (iX _) (iU (nH hsz)^by rw[i9];lk));rw[hf];simp only[bne_self_eq_false,jD,if_false];refine Op^g3 p _ c2 hp hg (λb o hb1 hb2 e=>(iO _ _^i_ hb1).trans^(iO _ _^i_ hb2).trans e) hc2 #[_,(iO _ _ hDk).trans hck]
  unfold ksk_end
  try dsimp only
  simp only[jD,if_false]
  by_cases h2:vs.length<2
  .have h2':vs.toArray.size<2:=by rw[f8];exact h2
   rw[if_pos h2',if_pos h2'];refine Cn^Op ?_;rw[StateT.run_pure];refine Cn^Op ?_
   try dsimp only
   refine tail _ (im^i4 vs.length) (by simp) (g1 h2) (kat_snds hl ?_) rfl;have er:=kas_range^ks.toArray.zip vs.toArray;rw[show(ks.toArray.zip vs.toArray).size=vs.length by simp[hl]]at er;exact er.symm
  .have h2':¬vs.toArray.size<2:=by rw[f8];exact h2
   rw[if_neg h2',if_neg h2'];refine Cn^jT (g2^by lk) (λκ s0 hk=>?_) λ_ _ x=>x.elim
   refine Cn (jT (kat_run (Q:=λst' s2=>∃p:Array Nat,p.size=vs.length/\arrOf st'=p.map^kas_item^ks.toArray.zip vs.toArray/\failedOf st'=r_/\s2=s'/\G p)
    hl (by lk) h64 (λp' st' s2 a1 a2 a3 a4=>#[p',a1,a2,a3,a4]) hk) ?_ λ_ _ e=>e)
   rintro⟨⟨⟩,st'⟩ s2 ⟨p,hp,har,hf,rfl,hg⟩
   try dsimp only
   exact tail st' p hp hg (kat_snds hl har) hf
end
section
variable {X:Cx}{zF:u_ (Addr×Obj)}{Z:L2.St}{H:Hp}{s:Shared}{h':Heap}
structure VN (X:Cx) (zF:List (Ch×Obj)) (D:Ch):Prop where
 new:X.s₀.heap.objs.size<=D
 loc:D≠X.env.locals
 cell:∀x c,X.env.cells.lookup x=P3 c->c≠D
 pin:∀p∈X.pn++zF,p.1≠D
 fs:D∉X.fs
def Inv.mine(I:Inv X zF Z H s){D:Ch}(h:s.heap.objs.size<=D):VN X zF D:=by
 refine#[iU I.sz h,λz=>?_,λx c e z=>?_,λp hp z=>?_,I.nofs h]
 .have:=I.lt
  rw[←z]at this;exact absurd this^mS.mpr h
 .let#[v,o,ho,_]:=I.cell x c e
  have:=T0 ho
  rw[z]at this;exact absurd this^mS.mpr h
 .let#[e,_]:=I.pin p hp
  have:=T0 e
  rw[z]at this;exact absurd this^mS.mpr h
structure KeysAt (K:Frag) (H:Hp) (vs:List V) (keys:List^List Key):Prop where
 len:vs.length=keys.length
 at_:∀(i:Nat) (ns:List Key),keys[i]?=P3 ns->∃a,vs[i]?=P3^.ref a/\SqT K H a (ns.map kOf)
 same:∀x∈keys,∀y∈keys,BY x y=s_
 ne:∀x∈keys,x≠[]
def Ih(keys:u_^u_ Key)(ix:u_ Nat):Prop:=ix.Perm^i4 keys.length/\∀i j,i<=j->j<keys.length->A8 (keys.getD (ix.getD j 0) [])^keys.getD (ix.getD i 0) []=t_
def KeysAt.tups{vs:u_ V}{us:u_ Db}{keys:u_^u_ Key}(I:Inv X zF Z H s)(r:Vals vs us)(k:KeysAt X.K H vs keys){h':iQ}(hk:∀b o,s.heap.get? b=P3 o->h'.get? b=P3 o):Ts h' us keys:=by
 refine#[λi ns e=>?_,r.length.symm.trans k.len,k.same,k.ne];let#[a,e1,h1]:=k.at_ i ns e;let#[u,e2,r2]:=r.get e1;cases r2;let#[its,r3,#[o,ho,hc,n,hd],_]:=I.tuple h1;exact#[a,o,_,n,e2,hk a o ho,hc,hd,by grind]
theorem HG:∀{vs:u_ V}{us:u_ Db},Vals vs us->∀i:Nat,RelV (vs.getD i .non)^us.getD i iu
 |_,_,.nil,i=>by simp[RelV]
 |_,_,.cons r t,0=>by simpa using r
 |_,_,.cons r t,i+1=>by simpa using HG t i
theorem Jd{f:Nat->V}{g:Nat->Db}(h:∀i,RelV (f i)^g i):∀ix:u_ Nat,Vals (ix.map f)^ix.map g
 |[]=>.nil
 |i::ix=>.cons (h i)^Jd h ix
def getD_list(p:Array Nat)(i:Nat):p.getD i 0=p.toList.getD i 0:=by simp
def Wp{keys:u_^u_ Key}{n:Nat}{p:Array Nat}(hn:keys.length=n)(h1:p.Perm^im^i4 n)(h2:So.Srt UT (λi=>keys.getD i []) p n):Ih keys p.toList:=by
 subst hn;refine#[Array.perm_iff_toList_perm.mp h1,λi j hij hj=>?_];have h:=h2 i j hij hj;unfold So.KN at h;rw[getD_list,getD_list]at h;exact h
def L8{A':i5}{E':Db->No->Prop}{vs:u_ V}{us:u_ Db}{keys:u_^u_ Key}{Q:VK}(I:Inv X zF Z H s)(r:Vals vs us)(h64:vs.length<64)(k:KeysAt X.K H vs keys)
  (q:∀(ix:u_ Nat) (l:Ch),Ih keys ix->H l=r_->Q (.ref l)^Av H l^.lst^ix.map λi=>vs.getD i .non):
  wpAny (model X.prog X.w) A' (kM.«list.sort» #[[.ref s.heap.objs.size],[]]) (λfin s'=>fin=.done^.ret .none/\EP X zF Z Q (.ref s.heap.objs.size) s') E' {s with heap:=s.heap.push^seqObj "list" us.toArray 0}:=by
 have hl:=r.length;have hkl:keys.length=us.length:=k.len.symm.trans hl;refine Pb (G:=λp=>p.Perm _/\So.Srt UT (λi=>keys.getD i []) p us.length) (n:=0) (TW _ rfl) (by lk) (λh2=>?_) (λh1=>#[oy _,λi j hij hj=>?_]) λp h' c hp hg hold hD=>#[rfl,?_]
 .refine L4 (keys:=keys) (k.tups I r λb o e=>?_) h2 λp a b=>#[rfl,a,b]
  exact HJ (ge^T0 e)^FM _ e
 .have:i=j:=by lk
  subst this;exact ju _
 .have hf:H s.heap.objs.size=r_:=I.fresh
  have hix:(p.toList.map λi=>vs.getD i .non).length=us.length:=by grind
  refine#[.ref s.heap.objs.size,Av H s.heap.objs.size^.lst _,I.laid (t':=s.toks) (λb o e=>hold b o (ge^T0 e)^FM _ e) (Sc _) #[by rw[hix,←hl,i9];lk,_,c,Jd (HG r) p.toList,hD],rfl,q _ _ (Wp hkl hg.1 hg.2) hf]
def P9{prog:ic}{w:ip}{A:i5}{E:Db->No->Prop}{s:No}{l:Ch}{vs:u_ Db}{Q:u_ Db->No->Prop}(hl:IsTup s.heap l vs.toArray)
  (h:Q vs {s with heap:=(s.heap.push^seqObj "list" #[] 0).update s.heap.objs.size (jF (·++vs.toArray))}) (hsz:vs.length<=sizeLine):
  wpAny (model prog w) A (collect^.ref l) Q E s:=by
 let#[o,ho,hc,n,hd]:=id hl;unfold collect;refine Cn^wpAny_runValue^jv entry_proto_collect' ?_;show wpAny _ _ (do again (.builtin "list.__iadd__" #[[←newList [],.ref l],[]])) _ _ s;refine Cn^oI^Op #[Code.quiet_builtin _ (by decide +kernel),jv entry_list_iadd' ?_];show wpAny _ _ (km (.ref s.heap.objs.size) (.ref l)^.ref s.heap.objs.size) _ _ {s with heap:=s.heap.push^seqObj "list" #[] 0};unfold km;have ho':(s.heap.push^seqObj "list" #[] 0).get? l=P3 o:=FM _ ho;refine Cn^mJ (T:="tuple") #[o,ho',hc] ?_;have ht:(jE "tuple"==jE "tuple")=s_:=by rfl
 rw[if_pos^by rw[ht];simp];refine Cn^nQ ho' hd ?_;refine Cn (nQ (xs:=#[]) (n:=0) (TW _ rfl) rfl ?_);rw[if_neg^by simp];refine Cn (kr (xs:=#[]) (n:=0) (TW _ rfl) rfl ?_ (iX _) (by show(#[]++vs.toArray).size<=sizeLine+1;simp only[Array.size_append,f8,jN];lk));refine Op ?_
 show wpAny (model prog w) A (do
   let o ←load s.heap.objs.size
   match o.data with
   |.seq xs _=>pure xs.toList
   |_=>unsupported "internal:collect") Q E {s with heap:=(s.heap.push^seqObj "list" #[] 0).update s.heap.objs.size (jF (·++vs.toArray))}
 refine Cn^wpAny_load (lR (TW _ rfl) _) ?_;show wpAny _ _ (pure ((#[]:Array Db)++vs.toArray).toList) Q E _;rw[show((#[]:Array Db)++vs.toArray).toList=vs by simp];exact Op h
def P_{h:iQ}{g:Array Db->Array Db}{b:Ch}{o:Obj}(e:h.get? b=P3 o):((h.push^seqObj "list" #[] 0).update h.objs.size^jF g).get? b=P3 o:=
 (iO _ _^i_^ge^T0 e).trans (FM _ e)
def Kx{κ:Bool}{A':i5}{E':Db->No->Prop}{p:Ch}{vs:u_ V}{Q:u_ Db->No->Prop}(I:Inv X zF Z H s)(h:SqK κ X.K H p vs)(q:∀us s1,Vals vs us->vs.length<=sizeLine->Inv X zF Z H s1->Q us s1):
  wpAny (model X.prog X.w) A' (collect^.ref p) Q E' s:=by
 cases κ with
 |true=>
  let#[its,r,pl,hz]:=I.list h;exact collect_list pl.isList (q _ _ r hz^I.kept λb o e=>P_ e)^by rw[←r.length];exact hz
 |false=>
  let#[its,r,pl,hz]:=I.tuple h;exact P9 pl (q _ _ r hz^I.kept λb o e=>P_ e)^by rw[←r.length];exact hz
def WJ(K:Frag):u_ V->Hp->VK->Prop:=λxs H Q=>∃(κ:Bool) (p:Ch) (vs:u_ V) (keys:u_^u_ Key),xs=[.ref p]/\SqK κ K H p vs/\vs.length<64/\KeysAt K H vs keys /\
 ∀(ix:u_ Nat) (l:Ch),Ih keys ix->H l=r_->Q (.ref l)^Av H l^.lst^ix.map λi=>vs.getD i .non
def Rl:CallR X (.builtin "sorted")^WJ X.K:=by
 intro zF s Z H xs us Q I r h;let#[κ,p,vs,keys,rfl,hq,h64,hk,q]:=h;let#[u,rfl,rx]:=vals1 r;cases rx;exact Cv (args_sorted1 _) (λx=>args_list_sort _)^Kx I hq λus s1 r1 hz I1=>#[by rw[←r1.length];exact hz,L8 I1 r1 h64 hk q]
end
def F1(H:Hp)(L:u_ Ch)(f:Ch->Obj):Hp:=λb=>if b∈L then(H b).map^HO.frz^f b else H b
def Dy{H:Hp}{L:u_ Ch}{f:Ch->Obj}{b:Ch}(h:b∉L):F1 H L f b=H b:=by unfold F1;rw[if_neg h]
def TB{H:Hp}{L:u_ Ch}{f:Ch->Obj}{b:Ch}{o:HO}(h:b∈L)(e:H b=P3 o):F1 H L f b=P3^.frz (f b) o:=by unfold F1;grind
section
variable {X:Cx}{zF:u_ (Addr×Obj)}{Z:L2.St}{H:Hp}{s:Shared}
def Inv.frz{L:u_ Ch}(I:Inv X zF Z H s)(hL:∀b∈L,∃kvs,H b=P3^.dK kvs):∃f,Inv X zF Z (F1 H L f) s:=by
 have keep:∀(f:Ch->Obj) b o,H b=P3 o->(∀kvs,o≠.dK kvs)->F1 H L f b=P3 o:=λf b o e n=>by
  rw[Dy λhm=>by grind];exact e
 refine#[λb=>(s.heap.get? b).getD {cls:=.none,data:=.fields #[]},?_];refine I.step (g':=s.gens) (d':=s.drawn) (t':=s.toks) (h':=s.heap) (ch:=[]) (λ_ z=>nomatch z) (λ_ _ _ _ _ e _=>e) (λb o _ _ _ e _=>#[o.slots,e]) (λb o _ e n=>?_) (λb o _ e=>#[o,e]) (λb xs e=>keep _ b _ e λ_ z=>by cases z) (λb o u e=>keep _ b _ e λ_ z=>by cases z) (λb ps e=>#[#[],by grind]) (λ_ h=>h) (λb u e=>?_) I.bare
 .unfold F1
  simp_all
 .by_cases hb:b∈L
  .let#[kvs,e2]:=hL b hb
   rw[TB hb e2]at e;cases e;let#[z,y,vs,r,ob,es,ep,e3,c]:=(show ObjOk X.prog X.w H s.heap b^.dK kvs from I.hok b _ e2);exact#[by rw[e3];rfl,z,y,vs,r,ob,es,ep,e3,c]
  .rw[Dy hb]at e
   exact(I.hok b u e).stay (λ_ _ _ q=>q) (λc q=>keep _ c _ q λ_ z=>by cases z) λc xs q=>keep _ c _ q λ_ z=>by cases z
def gE(t:TE):TE:=λZ H Q=>t Z H λv H1=>∃L:u_ Ch,(∀b∈L,∃kvs,H1 b=P3^.dK kvs)/\∀f:Ch->Obj,Q v^F1 H1 L f
def bv{e:ie}{t:TE}(h:PE X e t):PE X e^gE t:=by
 intro zF s Z H Q I hq;refine BG (h _ s Z H _ I hq) λu s1 #[v,H1,I1,r,L,hL,q]=>?_;let#[f,I2]:=I1.frz hL;exact#[v,_,I2,r,q f]
end
end L2
namespace Nt
open L2 Dp
def Dr(ts:u_ Aw)(p:Str):u_ (Str×Int):=ts.flatMap λt=>(if t.a=p then [(t.b,t.len)]else [])++(if t.b=p then [(t.a,t.len)]else [])
def YY(ts:u_ Aw)(p:Str):D:=.fdi ((Dr ts p).map λx=>.inr x.1)^(Dr ts p).map λx=>.int x.2
def Ea(N:Net):D:=.dic (N.ps.map .inr)^N.ps.map^YY N.ts
def OT:W2:=λss n P=>∃N:Net,ss=[.sh^Bx N]/\N.Ok/\N.ps.length<=1000/\N.ts.length<=1000/\P (Ea N) n
def kv(x:Str×Int):Key×V:=(.inr x.1,.int x.2)
structure Stp (H:Hp) (d:Ch) (as:List (Str×Ch)) (tb:Str->List (Key×V)) (H':Hp):Prop where
 old:∀b o,H b=P3 o->H' b=P3 o
 new:H d=r_
 top:H' d=P3 (.dK^as.map λx=>(.inr x.1,.ref x.2))
 inn:∀x∈as,H x.2=r_/\x.2≠d/\H' x.2=P3 (.dK^tb x.1)
 ads:(as.map (·.2)).Nodup
 nms:(as.map (·.1)).Nodup
def I_{as:u_ (Str×Ch)}(hn:(as.map (·.1)).Nodup){p:Str}{a:Ch}(h:(p,a)∈as):Cu (as.map λx=>((.inr x.1:Key),V.ref x.2))^.inr p=P3^.ref a:=by
 induction as with
 |nil=>cases h
 | cons x r ih=>
  rw[iZ,iW]at hn
  rcases UF.mp h with e|h
  .rw[←e]
   exact Di rfl
  .exact(Dk λe=>hn.1^by rw[jo e];exact Rs.mpr #[_,h,rfl]).trans^ih hn.2 h
def Q9{as:u_ (Str×Ch)}{p:Str}{v:V}(h:p∉as.map (·.1)):putK (as.map λx=>((.inr x.1:Key),V.ref x.2)) (.inr p) v=(as.map λx=>((.inr x.1:Key),V.ref x.2))++[(.inr p,v)]:=by
 unfold putK
 simp_all
def Sm{xs:u_ (Str×Int)}{p:Str}{l:Int}(h:p∉xs.map (·.1)):putK (xs.map kv) (.inr p)^.int l=(xs++[(p,l)]).map kv:=by
 unfold putK;rw[if_neg,iq]
 .rfl
 .rw[kZ]
  rintro⟨y,hy,e⟩;let#[x,hx,rfl]:=Rs.mp hy;exact h^Rs.mpr #[x,hx,jo^of_decide_eq_true e]
def Stp.more{H H':Hp}{d q:Ch}{as:u_ (Str×Ch)}{tb:Str->u_ (Key×V)}{p:Str}(s:Stp H d as tb H')(hq:H' q=r_)(hp:p∉as.map (·.1))(ht:tb p=[]):
  Stp H d (as++[(p,q)]) tb (Av (Av H' q^.dK []) d^.dK^putK (as.map λx=>((.inr x.1:Key),V.ref x.2)) (.inr p)^.ref q):=by
 have nq:q≠d:=λe=>by rw[e,s.top]at hq;cases hq
 have hHq:H q=r_:=by
  cases c:H q with
  |none=>rfl
  |some o=>rw[s.old q o c]at hq;cases hq
 refine#[λb o e=>?_,s.new,?_,λx hx=>?_,?_,?_]
 .have n1:b≠d:=λz=>by rw[z,s.new]at e;cases e
  have n2:b≠q:=λz=>by rw[z,hHq]at e;cases e
  rw[AO n1,AO n2];exact s.old b o e
 .rw[AQ,Q9 hp,iq];rfl
 .rcases iP.mp hx with hx|hx
  .let#[h1,h2,h3]:=s.inn x hx
   have n2:x.2≠q:=λz=>by rw[z,hq]at h3;cases h3
   exact#[h1,h2,by rw[AO h2,AO n2];exact h3]
  .rw[Re.mp hx]
   exact#[hHq,nq,by rw[AO nq,AQ,ht]]
 .rw[iq,jh]
  refine#[s.ads,iW.mpr #[(λh=>by cases h),jI],λa ha b hb e=>?_];let#[x,hx,rfl]:=Rs.mp ha;have hb:b=q:=Re.mp hb;let#[h1,h2,h3]:=s.inn x hx;rw[e,hb,hq]at h3;cases h3
 .rw[iq,jh]
  refine#[s.nms,iW.mpr #[(λh=>by cases h),jI],λa ha b hb e=>?_];have hb:b=p:=Re.mp hb;exact hp^by rw[←hb,←e];exact ha
def Ud{as:u_ (Str×Ch)}(hn:(as.map (·.1)).Nodup){p:Str}{a b:Ch}(h1:(p,a)∈as)(h2:(p,b)∈as):a=b:=by
 have:=(I_ hn h1).symm.trans^I_ hn h2
 grind
def Uc{as:u_ (Str×Ch)}(hn:(as.map (·.2)).Nodup){p q:Str}{a:Ch}(h1:(p,a)∈as)(h2:(q,a)∈as):p=q:=by
 induction as with
 |nil=>cases h1
 | cons x r ih=>
  rw[iZ,iW]at hn
  rcases UF.mp h1 with e1|g1
  .rcases UF.mp h2 with e2|g2
   .grind
   .exact absurd (Rs.mpr #[_,g2,by rw[←e1]]) hn.1
  .rcases UF.mp h2 with e2|g2
   .exact absurd (Rs.mpr #[_,g1,by rw[←e2]]) hn.1
   .exact ih hn.2 g1 g2
def Stp.put{H H':Hp}{d a:Ch}{as:u_ (Str×Ch)}{tb tb2:Str->u_ (Key×V)}{p:Str}{kvs:u_ (Key×V)}(s:Stp H d as tb H')(ha:(p,a)∈as)(h1:tb2 p=kvs)(h2:∀q,q≠p->tb2 q=tb q):
  Stp H d as tb2 (Av H' a^.dK kvs):=by
 let#[i1,i2,i3]:=s.inn _ ha;refine#[λb o e=>?_,s.new,?_,λx hx=>?_,s.ads,s.nms]
 .have n1:b≠a:=λz=>by grind
  rw[AO n1];exact s.old b o e
 .rw[AO^i_ i2]
  exact s.top
 .let#[g1,g2,g3]:=s.inn x hx
  refine#[g1,g2,?_]
  by_cases e:x.2=a
  .have:=Uc s.ads (show(x.1,a)∈as by grind) ha
   rw[e,AQ,this,h1]
  .have:x.1≠p:=λz=>e^Ud s.nms (show(p,x.2)∈as by grind) ha
   rw[AO e,h2 _ this];exact g3
def PX(ts:u_ Aw)(t:Aw)(p:Str):Dr (ts++[t]) p=Dr ts p++((if t.a=p then [(t.b,t.len)]else [])++(if t.b=p then [(t.a,t.len)]else [])):=by
 unfold Dr
 simp_all
def Nk{ts:u_ Aw}{p q:Str}(h:q∈(Dr ts p).map (·.1)):∃t∈ts,(t.a=p/\t.b=q)\/(t.b=p/\t.a=q):=by
 let#[x,hx,rfl]:=Rs.mp h;let#[t,ht,hx]:=kF.mp hx;refine#[t,ht,?_]
 rcases iP.mp hx with hx|hx
 .simp_all
 simp_all
def S3(ts:u_ Aw)(p:Str):(Dr ts p).length<=2*ts.length:=by
 induction ts with
 |nil=>exact iX _
 |cons t r ih=>
  unfold Dr at ih ⊢;rw[kN,iT,iT];have h1:(if t.a=p then [(t.b,t.len)]else []).length<=1:=by grind
  grind
def Xr{ts:u_ Aw}{t:Aw}(hp:(ts++[t]).Pairwise Bg)(hlt:∀s∈ts++[t],cs s.a<cs s.b):t.b∉(Dr ts t.a).map (·.1)/\t.a∉(Dr ts t.b).map (·.1):=by
 rw[nR]at hp
 have key:∀s∈ts,¬((s.a=t.a/\s.b=t.b)\/(s.b=t.a/\s.a=t.b)):=λs hs e=>by
  have h1:=hp.2.2 s hs t (Re.mpr rfl);have h2:=hlt s^jZ _ hs;have h3:=hlt t^iV _ (Re.mpr rfl)
  rcases e with⟨e1,e2⟩|⟨e1,e2⟩
  .unfold Bg at h1
   grind
  grind
 refine#[λh=>?_,λh=>?_]
 .let#[s,hs,e]:=Nk h
  exact key s hs e
 .let#[s,hs,e]:=Nk h
  exact key s hs^e.elim (λz=>.inr #[z.2,z.1]) λz=>.inl #[z.2,z.1]
def NB{xs:u_ Str}(h:rising xs):xs.Nodup:=h.imp λ{a b} hlt e=>by grind
def RK{xs:u_ Str}(h:xs.Nodup){i:Nat}(hi:i<xs.length):xs[i]∉xs.take i:=by
 have e:xs=xs.take i++xs[i]::xs.drop (i+1):=by
  simp_all
 intro hm;rw[e,jh]at h;exact h.2.2 _ hm _ On rfl
def Stp.at_{K:Frag}{M:Ch->Prop}{H H':Hp}{d:Ch}{as:u_ (Str×Ch)}{N:Net}(dom:∀a,M a->∃o,H a=P3 o)(s:Stp H d as (λp=>(Dr N.ts p).map kv) H')(hp:as.map (·.1)=N.ps)(f:Ch->Obj):At K M (F1 H' (as.map (·.2)) f) (Ea N)^.ref d:=by
 have nd:∀b,H b=r_->¬M b:=λb e m=>by let#[o,h]:=dom b m;rw[h]at e;cases e
 have zip1:∀as:u_ (Str×Ch),(as.map λx=>((.inr x.1:Key),V.ref x.2))=((as.map (·.1)).map (.inr:Str->Key)).zip (as.map λx=>V.ref x.2):=λas=>by
  grind
 refine#[d,as.map λx=>.ref x.2,rfl,#[nd d s.new,by rw[Dy (λhm=>by let#[x,hx,e]:=Rs.mp hm;exact(s.inn x hx).2.1 e),s.top,zip1,hp]],by rw[Ev,Ev],?_];rw[←hp]
 have go:∀bs:u_ (Str×Ch),(∀x∈bs,x∈as)->Ats K M (F1 H' (as.map (·.2)) f) ((bs.map (·.1)).map^YY N.ts) (bs.map λx=>V.ref x.2):=λbs=>by
  induction bs with
  |nil=>intro _;rfl
  | cons x r ih=>
   intro hx;refine#[.ref x.2,r.map λx=>V.ref x.2,rfl,?_,ih λy hy=>hx y^TM _ hy];let#[g1,g2,g3]:=s.inn x^hx x On
   have zip2:∀xs:u_ (Str×Int),xs.map kv=(xs.map λx=>(.inr x.1:Key)).zip (xs.map λx=>V.int x.2):=λxs=>by
    induction xs with
    |nil=>rfl
    |cons x r ih=>rw[iZ,ih];rfl
   refine#[x.2,(Dr N.ts x.1).map λx=>V.int x.2,rfl,#[f x.2,nd _ g1,by rw[TB (Rs.mpr #[x,hx x On,rfl]) g3,zip2]],by rw[Ev,Ev],?_];generalize Dr N.ts x.1=xs
   induction xs with
   |nil=>rfl
   |cons x r ih=>exact#[.int x.2,_,rfl,rfl,ih]
 exact go as λ_ h=>h
end Nt
namespace L2
open PySem.W
section
variable {X:Cx}{zF:u_ (Addr×Obj)}{Z:L2.St}{H:Hp}{s:Shared}{h':Heap}
def Inv.adopt2{D e:Ch}{o:HO}(I:Inv X zF Z H s)(m:VN X zF D)(hn:H D=r_)(m2:VN X zF e)(hn2:H e=r_)(hne:D≠e)(k:∀b u,b≠D->b≠e->s.heap.get? b=P3 u->h'.get? b=P3 u)(new:ObjOk X.prog X.w (Av H D o) h' D o):Inv X zF Z (Av H D o) {s with heap:=h'}:=by
 have nin:∀b,b∉[D,e]->b≠D/\b≠e:=λb hc=>#[λz=>hc (by rw[z];exact On),λz=>hc^by rw[z];exact TM _ (Re.mpr rfl)]
 refine I.step (g':=s.gens) (d':=s.drawn) (t':=s.toks) (ch:=[D,e]) (λb hb=>?_) (λb u _ _ hc q _=>k b u (nin b hc).1 (nin b hc).2 q) (λb u _ _ hc q _=>#[u.slots,k b u (nin b hc).1 (nin b hc).2 q]) (λb u hc q n=>?_)
  (λb u hc q=>#[u,k b u (nin b hc).1 (nin b hc).2 q]) (λb xs q=>?_) (λb u v q=>?_) (λb ps q=>#[#[],?_]) (λmm hm=>?_) (λb u q=>?_) I.bare
 .rcases UF.mp hb with rfl|hb
  .exact#[.inr m.new,m.loc,m.cell,m.pin]
  .rw[Re.mp hb]
   exact#[.inr m2.new,m2.loc,m2.cell,m2.pin]
 .rw[AO (nin b hc).1];exact n
 .rw[AO^An q hn];exact q
 .rw[AO^An q hn];exact q
 .rw[AO^An q hn,q];simp
 .let#[u,es,ep,ho,r]:=hm
  exact#[u,es,ep,k _ u (i_ m.loc) (i_ m2.loc) ho,r]
 .by_cases hb:b=D
  .subst hb;rw[AQ]at q;cases q;exact new
  .rw[AO hb]at q
   refine(I.hok b u q).stay (λc v hc q2=>k c v ?_ ?_ q2) (λc q2=>by rw[AO^An q2 hn];exact q2) λc xs q2=>by rw[AO^An q2 hn];exact q2
   .grind
   grind
def bM(K:Frag)(sp:Sp)(te:TE):TE:=λZ H Q=>te Z H λx H1=>∃(κ:Bool) (l:Ch) (vs:u_ V) (keys:u_^u_ Key) (J:u_ V->Hp->Prop),x=.ref l/\SqK κ K H1 l vs/\vs.length<64/\J [] H1 /\
 (∀ks H2 v,J ks H2->vs[ks.length]?=P3 v->sp [v] H2 (λk H3=>J (ks++[k]) H3) E0) /\
 ∀ks H2,J ks H2->ks.length=vs.length->KeysAt K H2 ks keys/\∀(ix:u_ Nat) (l:Ch),Ih keys ix->H2 l=r_->Q (.ref l)^Av H2 l^.lst^ix.map λi=>vs.getD i .non
def Wh{k:Nat}{f:Ch}{fd:jK}{pn fn:Str}{sp:Sp}{te:TE}{e:ie}{p fp kp pos:Pos}(F:FnOk X.prog X.w X.K X.mg X.base GC k f fd [pn] sp)(hr:Room (k+2) X.A)(hg:Gl X "sorted")(hm:X.mg "sorted"=r_)
  (hgf:Gl X fn) (hmf:X.mg fn=P3^.ref f) (hb:Binds X.K fd [pn] []) (he:PE X e te) (hs:starEach [e] X.env=[(t_,eval e X.env)]:=by rfl) (hdf:(fn==("__debug__":Str))=t_:=by decide):
  PE X (.Call (.Name "sorted" p) [e] [#[P3 "key",.Name fn fp,kp]] pos) (bM X.K sp te):=by
 intro zF s Z H Q I h;refine jl^EB I hg hm lV ?_
 refine callWith_kw (BG (B7 he C5 hs pos zF s Z H (λvs H1=>∃x,vs=[x]/\∃(κ:Bool) (l:Ch) (vs:u_ V) (keys:u_^u_ Key) (J:u_ V->Hp->Prop),x=.ref l/\SqK κ X.K H1 l vs/\vs.length<64/\J [] H1 /\
   (∀ks H2 v,J ks H2->vs[ks.length]?=P3 v->sp [v] H2 (λk H3=>J (ks++[k]) H3) E0) /\
   ∀ks H2,J ks H2->ks.length=vs.length->KeysAt X.K H2 ks keys/\∀(ix:u_ Nat) (l:Ch),Ih keys ix->H2 l=r_->Q (.ref l)^Av H2 l^.lst^ix.map λi=>vs.getD i .non) I ?first) λus s1 #[xs,H1,I1,r1,q1]=>kws_cons^Gc I1 hgf hmf (kws_nil ?_) hdf) (by rw[hs];rfl)^by rw[hs];rfl
 case first=>
  show te Z H _;refine cast (congrArg (te Z H) ?_) h
  funext x H1
  refine propext #[λz=>#[x,rfl,z],fun#[y,e,z]=>?_];cases e;exact z
 let#[x,rfl,κ,l,vs,keys,J,rfl,hq,h64,j0,jstep,jend]:=q1;let#[u,rfl,ru]:=vals1 r1;cases ru;show wpAny (model X.prog X.w) X.A (call (.builtin "sorted") [.ref l] [(jH "key",.ref f)]) _ _ s1;refine Cv (ksk_s1 _ _) (λx=>ksk_l1 _ _)^Kx I1 hq λus s2 r2 hz I2=>#[by rw[←r2.length];exact hz,?_];rw[ksk_t1];have hl:=r2.length;generalize hD:s2.heap.objs.size=D;have hsz3:(s2.heap.push^seqObj "list" us.toArray 0).objs.size=D+1:=by rw[size_push',hD]
 have hoD:(s2.heap.push^seqObj "list" us.toArray 0).get? D=P3^seqObj "list" us.toArray 0:=by rw[←hD];exact TW _ rfl
 have mD:VN X zF D:=I2.mine (by rw[hD];exact Sc _);have mK:VN X zF (D+2):=I2.mine (by rw[hD];exact Nat.le_add_right _ _);have nD:H1 D=r_:=I2.hok.fresh (by rw[hD];exact Sc _);have nK:H1 (D+2)=r_:=I2.hok.fresh (by rw[hD];exact Nat.le_add_right _ _);have hne:D≠D+2:=ge^jp^kX D;have nstk:∀b,VN X zF b->b∉TC X.stack:=λb m z=>(UF.mp^I2.stkSub b z).elim m.loc m.fs
 refine Uo (s:={s2 with heap:=s2.heap.push^seqObj "list" us.toArray 0}) (n:=0) hoD (by rw[←hl];exact h64)
  (λks s'=>∃kV H',Vals kV ks/\J kV H'/\Inv X zF Z H' s'/\H' D=r_/\H' (D+2)=r_/\s'.heap.get? D=(DJ (s2.heap.push^seqObj "list" us.toArray 0) D us).get? D) (D+2) (by show D+2=(s2.heap.push _).objs.size+1;rw[hsz3]) (λe1 he1=>?_) (λks s' e v hJ hk hv=>?_) λe1 he1 ks s' hJ hkl=>?_
 .refine#[[],H1,.nil,j0,?_,nD,nK,rfl]
  exact I2.kept (t':=s2.toks) λb o q=>HJ (by rw[←hD];exact ge^T0 q)^FM _ q
 .let#[kV,H',rk,hJ,I',n1,n2,hD']:=hJ
  have hi:ks.length<us.length:=(Uf.mp hv).1;have hvi:vs[kV.length]?=P3 (vs[kV.length]'(by rw[rk.length];lk)):=Go _;let#[u',e2,ru]:=r2.get hvi;rw[rk.length,hv]at e2;cases e2;have hsp:=jstep kV H' _ hJ hvi;have E1:Env0 X.prog X.w X.K X.mg X.base X.A.in1.in1 X.stack s' H':=I'.env0.in1.in1;refine wpAny_call^mI (F.run X.A.in1.in1 X.stack s' H' #[[v],[]] [v] _ _ E0 (hr.in1).in1 E1 (by simpa using hb s' [v] I'.kIn rfl) (.cons ru .nil) hsp) λr s'' hq'=>?_;cases r with
  |error e=>exact jL hq'
  | ok fl=>
   cases fl with
   |next=>exact jL hq'
   |brk=>exact jL hq'
   |cont=>exact jL hq'
   | ret u=>
    let#[w',H3,os,bare,un,hok,rw',q3]:=id hq'
    obtain⟨oD,eD⟩:∃o,s'.heap.get? D=P3 o:=by
     let#[c,hc,_]:=Jl hoD;exact#[_,hD'.trans hc]
    have kD:s''.heap.get? D=P3 oD:=un.keep D oD eD n1 (nstk D mD) (by simp);have kK:s''.heap.get? (D+2)=P3^seqObj "list" ks.toArray e:=un.keep _ _ hk n2 (nstk _ mK) (by simp);have f1:H3 D=r_:=un.free D oD eD n1 (by simp);have f2:H3 (D+2)=r_:=un.free _ _ hk n2 (by simp);have I3:Inv X zF Z H3 s'':=I'.call' os un hok bare (λb z=>absurd z^by simp);refine#[kK,kV++[w'],H3,rk.append^.cons rw' .nil,q3,?_,f1,f2,?_]
    .exact I3.turned (t':=s''.toks) (λb o hb q=>(iO _ _^i_ hb).trans q) f2 mK.loc (.inr mK.new) mK.cell mK.pin
    .show(s''.heap.update (D+2) _).get? D=_
     rw[iO _ _^i_ hne,kD,←eD,hD']
 .let#[kV,H',rk,hJ,I',n1,n2,hD']:=hJ
  let#[hka,q]:=jend kV H' hJ (by rw[rk.length,hkl,hl]);have hkk:keys.length=us.length:=by rw[←hka.len,rk.length,hkl]
  refine#[hD'.trans he1,λp=>p.Perm^im^i4 us.length/\So.Srt UT (λi=>keys.getD i []) p us.length,λh2=>?_,λh1=>#[oy _,λi j hij hj=>?_],λp h' c hp hg hold hDn _=>#[rfl,?_]]
  .have ts:=L4 (prog:=X.prog) (w:=X.w) (A:=X.A.in1.in1) (keys:=keys) (hka.tups I' rk λb o e=>e) (by lk) (G:=λp s''=>s''=s'/\p.Perm^im^i4 us.length/\So.Srt UT (λi=>keys.getD i []) p us.length) λp a b=>#[rfl,by rw[←hkl];exact a,by rw[←hkl];exact b]
   rw[hkl]at ts;exact ts
  .have:i=j:=by lk
   subst this;exact ju _
  .have hix:(p.toList.map λi=>vs.getD i .non).length=us.length:=by rw[Ev,i8,hp]
   refine#[.ref D,Av H' D^.lst^p.toList.map λi=>vs.getD i .non,I'.adopt2 mD n1 mK n2 hne hold #[by rw[hix,←hl,i9];lk,_,c,Jd (HG r2) p.toList,hDn],rfl,q _ _ (Wp hkk hg.1 hg.2) n1]
theorem KJ{α β:Type}{F:α->β->Prop}:∀{l₁:u_ α}{l₂:u_ β}{j:Nat}{a:α}{b:β},Paired F l₁ l₂->l₁[j]?=P3 a->l₂[j]?=P3 b->F a b
 |_,_,_,_,_,.nil,h,_=>by simp at h
 |_,_,0,_,_,.cons r t,h1,h2=>by
  grind
 |_,_,j+1,_,_,.cons r t,h1,h2=>KJ (j:=j) t (by simp_all)^by simp_all
theorem HF:∀as:u_ Ch,Vals (as.map V.ref)^as.map iR
 |[]=>.nil
 |a::as=>.cons rfl (HF as)
end
end L2
namespace Dp
open L2
section
variable {K:Frag}
def Xj(ds:u_ D)(P:D->Prop):Prop:=match ds with
 |[.int i,.int j]=>P^.int (if j > i then j else i)
 |_=>False
def Xi(ds:u_ D)(P:D->Prop):Prop:=match ds with
 |[.int i,.int j]=>P^.int (if j<i then j else i)
 |_=>False
def cw:B6 K .sh (λxs H Q=>∃i j,xs=[.int i,.int j]/\Q (.int (if j > i then j else i)) H) Xj:=by
 intro U M H ds vs P Q dom vM hp w q;unfold Xj at w
 split at w
 .rename_i i j
  cases hp with
  | cons r1 r2=>cases r2 with
   |cons r3 r4=>
    cases r4;cases r1.int;cases r3.int;exact#[i,j,rfl,q _ H (.int _) .refl rfl w]
 grind
def cv:B6 K .sh (λxs H Q=>∃i j,xs=[.int i,.int j]/\Q (.int (if j<i then j else i)) H) Xi:=by
 intro U M H ds vs P Q dom vM hp w q;unfold Xi at w
 split at w
 .rename_i i j
  cases hp with
  | cons r1 r2=>cases r2 with
   |cons r3 r4=>
    cases r4;cases r1.int;cases r3.int;exact#[i,j,rfl,q _ H (.int _) .refl rfl w]
 grind
end
def Cd:D->v_^u_ Key
 |.tup xs=>IR xs
 |_=>r_
def Ii(kf:D->v_^u_ Key)(xs:u_ D):Prop:=xs.Pairwise λa b=>∀ka kb,kf a=P3 ka->kf b=P3 kb->A8 kb ka=t_
def Keyed(kf:D->v_^u_ Key)(xs:u_ D):Prop:=(∀x∈xs,∃k,kf x=P3 k/\k≠[])/\∀x∈xs,∀y∈xs,∀ka kb,kf x=P3 ka->kf y=P3 kb->BY ka kb=s_
def range_getD(xs:u_ D):(i4 xs.length).map (λi=>xs.getD i .non)=xs:=by
 apply om
 .simp
 simp_all
def Sy{kf:D->v_^u_ Key}{xs:u_ D}{keys:u_^u_ Key}{ix:u_ Nat}(hl:keys.length=xs.length)(hk:∀(i:Nat) (x:D),xs[i]?=P3 x->∃k,keys[i]?=P3 k/\kf x=P3 k)(h:Ih keys ix):
  (ix.map λi=>xs.getD i .non).Perm xs/\Ii kf (ix.map λi=>xs.getD i .non):=by
 let#[hp,hs]:=h;constructor
 .have:=hp.map λi=>xs.getD i D.non
  rw[hl,range_getD]at this;exact this
 .unfold Ii
  rw[mC];intro i j hi hj hij ka kb ea eb;rw[on]at ea eb;rw[Ev]at hi hj;have il:ix.length=keys.length:=by rw[hp.length_eq,md]
  have g:∀i (h:i<ix.length) k,kf (xs.getD ix[i] .non)=P3 k->keys.getD (ix.getD i 0) []=k:=λi h k e=>by
   have hm:ix[i]<keys.length:=kG.mp^hp.mem_iff.mp^jQ h;have hx:ix[i]<xs.length:=by rw[←hl];exact hm
   let#[k',e1,e2]:=hk ix[i] xs[ix[i]] (Go hx);have e3:xs.getD ix[i] .non=xs[ix[i]]:=by rw[ia,Go hx];rfl
   rw[e3,e2]at e;have e4:ix.getD i 0=ix[i]:=by rw[ia,Go h];rfl
   rw[e4,ia,e1];exact eq e
  have:=hs i j (nF hij)^by rw[←il];exact hj
  rw[g i hi ka ea,g j hj kb eb]at this;exact this
theorem FC{kf:D->v_^u_ Key}:∀{xs:u_ D},(∀x∈xs,∃k,kf x=P3 k/\k≠[])->∃keys:u_^u_ Key,keys.length=xs.length/\(∀(i:Nat) (x:D),xs[i]?=P3 x->∃k,keys[i]?=P3 k/\kf x=P3 k/\k≠[])
 |[],_=>#[[],rfl,λi x e=>by simp at e]
 | x::xs,h=>by
  let#[k,e1,e2]:=h x On;let#[keys,l,g]:=FC (xs:=xs) λy hy=>h y^TM _ hy;refine#[k::keys,by simp_all,λi y e=>?_];cases i with
  |zero=>
   simp_all
  |succ i=>
   simp_all
section
variable {K:Frag}{M:Addr->Prop}{H:Hp}
theorem Ats.getD:∀{ds:u_ D}{vs:u_ V},Ats K M H ds vs->∀i:Nat,At K M H (ds.getD i .non)^vs.getD i .non
 |[],vs,h,i=>by cases(h);simp[At]
 |d::ds,vs,h,0=>by
  let#[v,r,e,h1,h2]:=h
  grind
 |d::ds,vs,h,i+1=>by
  let#[v,r,e,h1,h2]:=h;subst e
  simpa using Ats.getD h2 i
theorem Ats.pick{ds:u_ D}{vs:u_ V}(h:Ats K M H ds vs):∀ix:u_ Nat,Ats K M H (ix.map λi=>ds.getD i .non)^ix.map λi=>vs.getD i .non
 |[]=>rfl
 |i::ix=>#[_,_,rfl,h.getD i,Ats.pick h ix]
def HW{kf:D->v_^u_ Key}{ds:u_ D}{vs:u_ V}{keys:u_^u_ Key}(hkf:∀d k v,d∈ds->kf d=P3 k->At K M H d v->∃a,v=.ref a/\SqT K H a^k.map kOf)(hs:Ats K M H ds vs)(hK:Keyed kf ds)(hl:keys.length=ds.length)(hk:∀(i:Nat) (x:D),ds[i]?=P3 x->∃k,keys[i]?=P3 k/\kf x=P3 k/\k≠[]):KeysAt K H vs keys:=by
 have from_:∀(i:Nat) (ns:u_ Key),keys[i]?=P3 ns->∃x,ds[i]?=P3 x/\kf x=P3 ns/\ns≠[]:=λi ns e=>by
  have hi:i<ds.length:=by rw[←hl];exact(Uf.mp e).1
  let#[k,e1,e2,e3]:=hk i ds[i] (Go hi);rw[e]at e1;cases e1;exact#[ds[i],Go hi,e2,e3]
 refine#[hs.length.trans hl.symm,λi ns e=>?_,λx hx y hy=>?_,λx hx=>?_]
 .let#[d,e1,e2,_]:=from_ i ns e
  let#[v,e3,h3]:=hs.get e1;let#[a,rfl,h4]:=hkf d ns v (j6 e1) e2 h3;exact#[a,e3,h4]
 .let#[i,hi]:=li.mp hx
  let#[j,hj]:=li.mp hy;let#[d,e1,e2,_]:=from_ i x hi;let#[d',e1',e2',_]:=from_ j y hj;exact hK.2 d (j6 e1) d' (j6 e1') x y e2 e2'
 .let#[i,hi]:=li.mp hx
  let#[d,e1,e2,e3]:=from_ i x hi;exact e3
def HY{d:D}{k:u_ Key}{v:V}(e:Cd d=P3 k)(h:At K M H d v):∃a,v=.ref a/\SqT K H a^k.map kOf:=by
 cases d with
 |tup xs=>
  let#[a,vs,e1,hn,hs]:=h
  have:=Dt (e) hs
  subst this;exact#[a,e1,hn.sq]
 |_=>cases e
def Xg(ds:u_ D)(P:D->Prop):Prop:=∃d xs,ds=[d]/\Mw d=P3 xs/\xs.length<64/\Keyed Cd xs/\∀xs':u_ D,xs'.Perm xs->Ii Cd xs'->P^.lst xs'
def Zq:B6 K .fr (WJ K) Xg:=by
 intro U M H ds vs P Q dom vM hp w q;let#[d,xs,rfl,e,h64,hK,w]:=w;let#[v,rfl,hx]:=CV hp;let#[κ,a,us,rfl,hs,sq]:=Vy hx e (λ_ z=>z) vM;let#[keys,hl,hk]:=FC hK.1;refine#[κ,a,us,_,rfl,sq M H (Pres.refl _ _)^Ext.refl _ _,by rw[hs.length];exact h64,HW (λd k v _=>HY) hs hK hl hk,λix l ho hn=>?_];let#[o1,o2]:=Sy (kf:=Cd) hl (λi x e=>by let#[k,a,b,_]:=hk i x e;simp_all) ho;exact q _ _ _ (Ap hn) (B4 hn^hs.pick ix)^w _ o1 o2
end
section
variable {X:Cx}{a e:Expr}{zU:Kd}{wa:DW}{pos p fp kp:Pos}
def Qk(W:W2)(wa:DW):DW:=λn ρ P=>wa n ρ λd n1=>∃(xs:u_ D) (rk:D->D),Mw d=P3 xs/\xs.length<64/\(∀x∈xs,∀Pd:D->Sg->Prop,Pd (rk x) n1->W [.sh x] n1 Pd)/\Keyed (λx=>Cd^rk x) xs /\
 ∀xs':u_ D,xs'.Perm xs->Ii (λx=>Cd^rk x) xs'->P (.lst xs') n1
def P1{k:Nat}{fn pn:Str}{W:W2}(G:Got X.prog X.w X.K X.mg X.base fn k [pn] .sh W)(hr:Room (k+2) X.A)(hg:Gl X "sorted")(hm:X.mg "sorted"=r_)(hgf:Gl X fn)(he:DE X e zU wa)
  (hs:starEach [e] X.env=[(t_,eval e X.env)]:=by rfl) (hdf:(fn==("__debug__":Str))=t_:=by decide):DE X (.Call (.Name "sorted" p) [e] [#[P3 "key",.Name fn fp,kp]] pos) .fr^Qk W wa:=by
 let#[f,fd,F,hmf,hkf,hb,hW]:=G;let#[t,h1,h2]:=he;refine#[_,Wh F hr hg hm hgf hmf hb h1 hs hdf,λC M H n ρ Z P Q R w q=>?_];refine h2 C M H n ρ Z _ _ R w λv H1 d n1 e1 f1 r1 p=>?_;let#[xs,rk,hd,h64,hw,hK,w]:=p;have R1:=R.step e1 f1;let#[κ,l,us,rfl,hs,sq]:=Vy (U:=C.U) (r1.tpOf R.dom R.vM) hd R.uV R1.vM;let#[keys,hl,hk]:=FC hK.1;have hlen:=hs.length;refine#[κ,l,us,keys,λks H2=>Ext C.U H1 H2/\FeedC X.K C.F M H2 n1/\ks.length<=xs.length/\∀(i:Nat) (k:V),ks[i]?=P3 k->∃x,xs[i]?=P3 x/\At X.K M H2 (rk x) k,rfl,sq M H1 (Pres.refl _ _)^Ext.refl _ _,by rw[hlen];exact h64,#[Ext.refl _ _,f1,iX _,λi k z=>absurd (show(r_:v_ V)=P3 k from z) λh=>nomatch h],λks H2 v hJ hv=>?_,λks H2 hJ hkl=>?_]
 .let#[ex,fd2,hle,hat]:=hJ
  have R2':=R1.step ex fd2;have hi:ks.length<xs.length:=by rw[←hlen];exact(Uf.mp hv).1
  have hxi:xs[ks.length]?=P3 xs[ks.length]:=Go hi;let#[v',e2,hA]:=(hs.pres^R1.pres ex).get hxi;rw[hv]at e2;cases e2;refine#[rfl,C.F,C.U,C.V,M,n1,[.sh xs[ks.length]],λd n=>d=rk xs[ks.length]/\n=n1,#[R2'.dom,R2'.fU,R2'.uV,R2'.vM,fd2,.cons #[#[v,rfl,hA],rfl] .nil],hw _ (jQ hi) _ #[rfl,rfl],λr H3 d n' ex3 f3 vr hd=>?_];let#[rfl,rfl]:=hd;refine#[ex.trans ex3,f3,by rw[iT,jC];lk,λi k hik=>?_]
  by_cases hlt:i<ks.length
  .rw[kI hlt]at hik
   let#[x,h3,h4]:=hat i k hik;exact#[x,h3,h4.pres^R2'.pres ex3]
  .rw[jY^by lk]at hik
   have hi0:i=ks.length:=by
    have:=(Uf.mp hik).1
    rw[jC]at this;lk
   subst hi0;rw[nS]at hik;cases(show P3 r=P3 k from hik);exact#[_,hxi,vr]
 .let#[ex,fd2,hle,hat]:=hJ
  have R2':=R1.step ex fd2;have hkx:ks.length=xs.length:=by rw[hkl,hlen]
  have hs2:Ats X.K M H2 (xs.map rk) ks:=by
   have go:∀(xs:u_ D) (ks:u_ V),ks.length=xs.length->(∀(i:Nat) (k:V),ks[i]?=P3 k->∃x,xs[i]?=P3 x/\At X.K M H2 (rk x) k)->Ats X.K M H2 (xs.map rk) ks:=by
    intro xs
    induction xs with
    |nil=>intro ks h _;exact lJ.mp h
    | cons x xs ih=>
     intro ks h hh;cases ks with
     |nil=>cases h
     | cons k ks=>
      let#[x',e3,h3]:=hh 0 k rfl;cases(show P3 x=P3 x' from e3)
      exact#[k,ks,rfl,h3,ih ks (by simpa using h) λi k' e4=>by
       let#[y,e5,h5]:=hh (i+1) k' (by simpa using e4);exact#[y,by simpa using e5,h5]]
   exact go xs ks hkx hat
  have hK2:Keyed Cd^xs.map rk:=by
   refine#[λy hy=>?_,λy hy z hz ka kb ea eb=>?_]
   .let#[x,hx,rfl]:=Rs.mp hy
    exact hK.1 x hx
   .let#[x,hx,rfl]:=Rs.mp hy
    let#[x',hx',rfl]:=Rs.mp hz;exact hK.2 x hx x' hx' ka kb ea eb
  refine#[HW (λd k v _=>HY) hs2 hK2 (by rw[hl,Ev]) λi x e=>?_,λix l ho hn=>?_]
  .rw[XV]at e
   let#[x',hx',rfl]:=io.mp e;exact hk i x' hx'
  .let#[o1,o2]:=Sy (kf:=λx=>Cd^rk x) hl (λi x e=>by let#[k,a,b,_]:=hk i x e;exact#[k,a,b]) ho
   have g:Grow H2 (Av H2 l^.lst^ix.map λi=>us.getD i .non):=Ap hn;refine q _ _ (.lst^ix.map λi=>xs.getD i .non) n1 ((e1.trans ex).trans g.ext) (fd2.grow g) (VR.back (e1.trans ex) ?_)^w _ o1 o2;exact B4 hn^(hs.pres^R1.pres ex).pick ix
def aY:Key->D
 |.inl i=>.int i
 |.inr x=>.str x
def DP:Key->Prop
 |.inl _=>True
 |.inr x=>x.length<=sizeLine
def X8{K:Frag}{M:Ch->Prop}{H:Hp}{k:Key}(h:DP k):At K M H (aY k)^kOf k:=by
 cases k with
 |inl i=>exact rfl
 |inr x=>exact#[rfl,h]
end
end Dp
namespace L2
section
open PySem.MeetsSeq
open PySem.AutoSeq1 (wpAny_loadPart')
def V6(l:Ch)(items:Array Db)(n:Nat)(x:Db)(e:Db->Bool)(j:Nat)(hj:j<items.size)(hit:e items[j]=s_)(hs1:items.size<=sizeLine)(prog:ic)(w:ip)(A:i5)(R:Result->No->Prop)(hp:iQ)(g:Array GenState)(d:Drawn)(tk:Nat)(os:_)
  (hl:hp.get? l=P3 {cls:=.type "list",dict:=r_,data:=.seq items n,slots:=#[]}) (he:∀y,y∈items->PySem.SeqAt.EqAt A.in1 #[hp,g,d,tk,os] y x^e y) (h:R (.ok^.ret .none) #[hp.update l^jF λxs=>xs.eraseIdxIfInBounds j,g,d,tk,os]):
  ∀k i:Nat,j - i=k->i<=j->(∀m (hm:m<items.size),i<=m->m<j->e items[m]=t_)->
   wpAny (model prog w) A.in1 (kM.«list.remove.loop» #[[.ref l,x,rawInt i],[]]) (λfin s'=>match fin with|.done f=>R (.ok f) s'|.again c'=>c'.quiet=s_/\codeAny (model prog w) A c' R s') (λe s'=>R (.error e) s') #[hp,g,d,tk,os]:=by
 intro k
 induction k with
 |zero=>
  intro i hk hij hno;have hij':i=j:=by lk
  subst hij'
  wp_walk using jO hl
  have hi:items[((i:Nat):Int).toNat]?=P3 items[i]:=by simp[hj]
  rw[hi];refine Cn^he _ (Array.getElem_mem hj) prog w _ _ ?_;rw[hit];have hz':(items.eraseIdxIfInBounds i).size<=sizeLine+1:=iU (size_erased items _)^me hs1
  wp_walk using (lS hl rfl (hz:=hs1) (_hz':=hz')),jO hl
  simpa using h
 | succ k ih=>
  intro i hk hij hno;have hlt:i<items.size:=by lk
  wp_walk using jO hl
  have hi:items[((i:Nat):Int).toNat]?=P3 items[i]:=by simp[hlt]
  have hc:((i:Int)+1)=((i+1:Nat):Int):=by push_cast;rfl
  rw[hi];refine Cn^he _ (Array.getElem_mem hlt) prog w _ _ ?_;rw[hno i hlt (Sc _)^by lk]
  wp_walk
  rw[hc]
  exact#[kA plain_remove_loop _,jv entry_remove_loop (by
   rw[kJ plain_remove_loop _];exact ih (i+1) (by lk) (by lk) λm hm h1 h2=>hno m hm (by lk) h2)]
def V7{prog:ic}{w:ip}{A:i5}{E:Db->No->Prop}{s:No}{Q:Db->No->Prop}(l:Ch)(items:Array Db)(n:Nat)(x:Db)(e:Db->Bool)(j:Nat)(hj:j<items.size)(hit:e items[j]=s_)(hno:∀m (hm:m<items.size),m<j->e items[m]=t_)
  (hs1:items.size<=sizeLine) (hl:s.heap.get? l=P3 {cls:=.type "list",dict:=r_,data:=.seq items n,slots:=#[]}) (he:∀y,y∈items->PySem.SeqAt.EqAt A.in1 s y x^e y)
  (h:Q .none {s with heap:=s.heap.update l^jF λxs=>xs.eraseIdxIfInBounds j}):wpAny (model prog w) A (call (.builtin "list.remove") [.ref l,x]) Q E s:=by
 have key:wpAny (model prog w) A.in1 (kM.«list.remove» #[[.ref l,x],[]]) (λfin s'=>match fin with|.done f=>wants Q E (.ok f) s'|.again c'=>c'.quiet=s_/\codeAny (model prog w) A c' (wants Q E) s') (λe s'=>wants Q E (.error e) s') s:=by
  let#[hp,g,d,tk,os]:=s
  wp_walk using jO hl
  exact#[kA plain_remove_loop _,jv entry_remove_loop (V6 l _ n x e j hj hit hs1 _ w A _ hp g d tk os hl he h _ 0 rfl (iX _) (λm hm _ h2=>hno m hm h2))]
 exact wpAny_call^codeAny_call_builtin PySem.F.slot_list_remove.plain PySem.F.entry_list_remove^PySem.F.slot_list_remove.check _ _ _ _ _ _ _ _ #[_,hl,rfl] (PySem.F.args_list_remove_2 _ _) key
end
section
variable {X:Cx}
def Sf:V->u_ V->Hp->VK->Prop:=λx vs H Q=>∃(l:Ch) (xs:u_ V) (y:V) (ds:u_ mN) (d:mN) (j:Nat),x=.ref l/\vs=[y]/\H l=P3^.lst xs/\RVs H ds xs/\RV H d y/\kz ds=s_/\d.canLay0=s_/\d.depth<=100 /\
 (∃dj,ds[j]?=P3 dj/\lz dj d=s_)/\(∀m dm,m<j->ds[m]?=P3 dm->lz dm d=t_)/\Q .non^Av H l^.lst^xs.eraseIdx j
def MK{k:Nat}(hr:Room k X.A):am X "list.remove" Sf:=by
 intro zF s Z H x vs v us Q I rx rv h;let#[l,xs,y,ds,d,j,rfl,rfl,hH,hds,hd,c1,c2,dd,#[dj,hj,hit],hno,q]:=h;cases rx;let#[u,rfl,ru]:=rv.one;let#[z,its,n,r,hl,e]:=I.lstM hH;let#[as,ra]:=RVs.reads I hds r;let#[bs,rb]:=RV.reads I hd ru;have hm:=PySem.SeqAt.readsAll_map ds its as c1 ra;have hlen:ds.length=its.length:=by rw[←hm,Ev]
 have hu:=hr.un;have hmin:min (j_ ds) d.depth<=d.depth:=oh _ _
 have at_:∀m dm,ds[m]?=P3 dm->∀(h:m<its.toArray.size),PySem.SeqAt.readOf s.heap its.toArray[m]=dm:=λm dm e h=>by
  rw[←hm,XV]at e;have h':m<its.length:=by simpa using h
  rw[Go h']at e;have e:=eq e
  simpa using e
 have hjl:j<its.length:=by rw[←hlen];exact(Uf.mp hj).1
 refine V7 l its.toArray n u (λy=>lz (PySem.SeqAt.readOf s.heap y) d) j (by rw[f8];exact hjl) (by rw[at_ j dj hj];exact hit) (λm hm' hlt=>?_) (by rw[f8];lk) e (PySem.SeqAt.items_eqAt (vs:=its.toArray) (by rw[List.toList_toArray];exact ra) rb c1 c2^by lk) ?_
 .have hml:m<ds.length:=by rw[hlen];simpa using hm'
  rw[at_ m ds[m] (Go hml) hm'];exact hno m ds[m] hlt (Go hml)
 .refine#[.non,_,I.lset (t':=s.toks) (its':=its.eraseIdx j) hH e ?_ (r.eraseIdx j) ?_,rfl,q]
  .show its.toArray.eraseIdxIfInBounds j=(its.eraseIdx j).toArray
   rw[List.eraseIdxIfInBounds_toArray]
  .have:=MO xs j
   omega
end
end L2
namespace Dp
open L2
def cW(d:D)(ds:u_ D)(P:D->D->Prop):Prop:=∃(xs:u_ D) (y:D) (j:Nat),d=.lst xs/\ds=[y]/\Cw^.lst xs/\Cw y/\(∃x,xs[j]?=P3 x/\Fb x y=s_)/\(∀m x,m<j->xs[m]?=P3 x->Fb x y=t_)/\P (.lst^xs.eraseIdx j) .non
def ag{K:Frag}:SF K Sf cW:=by
 intro M H a d ds vs P Q m t hv w q;let#[xs,y,j,rfl,rfl,#[n1,l1,_],#[n2,l2,d2],#[x,hx,hit],hno,w]:=w;let#[us,h1,h2]:=t;let#[u,r,rfl,hu,hr]:=hv;cases(show r=[]from hr)
 have get:∀(m:Nat) (p:mN),(By xs)[m]?=P3 p->∃x,xs[m]?=P3 x/\p=toPy x:=λm p e=>by
  rw[E4,XV]at e;let#[x,e1,rfl]:=io.mp e
  grind
 refine#[a,us,u,By xs,toPy y,j,rfl,rfl,h1,h2.rv n1,hu.rv n2,l1,l2,d2,#[toPy x,by rw[E4,XV,hx];rfl,hit],λm p hm e=>?_,q _ (.lst^xs.eraseIdx j) .non _ #[us.eraseIdx j,AQ,?_] rfl w]
 .let#[x',e1,rfl]:=get m p e
  exact hno m x' hm e1
 .exact(h2.eraseIdx j).pres^CO m h1
def Mp(c:Ij)(wb:Af):Af:=λD2 n ρ=>∃W:Nat->Sg->u_ Slot->Prop,(∃m,W m n ρ)/\∀m n ρ,W m n ρ->
 c n ρ λb n1=>if b=s_ then ∃N:Sg->u_ Slot->Prop,(∀n' zX,N n' zX->∃m',m'<m/\W m' n' zX)/\wb {D2 with nx:=N,ct:=N,bk:=D2.nx} n1 ρ else D2.nx n1 ρ
section
variable {X:Cx}{κ:Kd}{c:Expr}{body:u_ Stmt}{wc:Ij}{wb:Af}{pos:Pos}
def Py(hp:ou (model X.prog X.w) X.A X.env X.xe)(hc:DT X c wc)(hb:VP X κ body wb):DS X κ (.While c body [] pos)^Mp wc wb:=by
 let#[tc,c1,c2]:=hc;let#[tb,b1,b2]:=hb;refine#[_,WV hp c1 b1,λC M H n ρ Z D2 E R L w=>?_];let#[W,#[m0,w0],turn]:=w;refine#[λm zZ H'=>∃M' n' zX,Rel X.K C M' H' n' zX zZ/\W m n' zX,#[m0,M,n,ρ,R,w0],?_];rintro m zZ H' ⟨M',n',zX,R',w'⟩;refine c2 C M' H' n' zX zZ _ _ R' (turn m n' zX w') λb H2 n2 e f p=>?_;have R2:=R'.step e f;cases b with
 | true=>
  rw[if_pos rfl]at p ⊢;let#[N,hN,p]:=p;refine#[λzV H3=>∃M3 n3 zQ,Rel X.K C M3 H3 n3 zQ zV/\N n3 zQ,λzV H3 #[M3,n3,zQ,R3,w3]=>?_,?_]
  .let#[m',hm,w4]:=hN n3 zQ w3
   exact#[m',hm,M3,n3,zQ,R3,w4]
  .exact b2 C M' H2 n2 zX zZ {D2 with nx:=N,ct:=N,bk:=D2.nx} _ R2 #[λM4 H4 n4 zO zP R4 w4=>#[M4,n4,zO,R4,w4],L.rt,λM4 H4 n4 zO zP R4 w4=>L.nx M4 H4 n4 zO zP R4 w4,λM4 H4 n4 zO zP R4 w4=>#[M4,n4,zO,R4,w4]] p
 |false=>
  rw[if_neg^by cbv]at p ⊢;exact L.nx M' H2 n2 zX zZ R2 p
def Lw{D2:E2}{n:Sg}{ρ:u_ Slot}(I:Nat->Sg->u_ Slot->Prop)(m0:Nat)(h0:I m0 n ρ)
  (hs:∀m n ρ (N:Sg->u_ Slot->Prop),I m n ρ->(∀m' n' zX,m'<m->I m' n' zX->N n' zX)->wc n ρ λb n1=>if b=s_ then wb {D2 with nx:=N,ct:=N,bk:=D2.nx} n1 ρ else D2.nx n1 ρ)
  (mono:∀n ρ (P Q:Bool->Sg->Prop),(∀b n1,P b n1->Q b n1)->wc n ρ P->wc n ρ Q):Mp wc wb D2 n ρ:=by
 refine#[I,#[m0,h0],λm n ρ h=>?_];refine mono n ρ _ _ (λb n1 p=>?_)^hs m n ρ (λn' zX=>∃m',m'<m/\I m' n' _) h λm' n' zX hm hi=>#[m',hm,hi];cases b with
 |true=>exact#[_,λ_ _ z=>z,p]
 |false=>exact p
end
end Dp
namespace Nt
open L2 Dp
def dZ(s t:Aw):Decidable (s=t):=
 if h:s.a=t.a/\s.b=t.b/\s.len=t.len then .isTrue (by let#[a,b,l]:=s;let#[a',b',l']:=t;let#[h1,h2,h3]:=h;simp only at h1 h2 h3;subst h1 h2 h3;rfl)else .isFalse λe=>h^by rw[e];exact#[rfl,rfl,rfl]
instance:DecidableEq Aw:=dZ
abbrev EF(Pd:D->Sg->Prop):E2:={nx:=λn _=>Kd.fr=.sh/\Pd .non n,rt:=Pd}
def Bn(t:Aw):u_ Key:=[.inl t.len,.inr t.a,.inr t.b]
def EI(ts:u_ Aw):Prop:=ts.Pairwise λs t=>A8 (Bn t)^Bn s=t_
def Se:D->D
 |.tup [x,y,z]=>.tup [z,x,y]
 |d=>d
def gQ(x:Str×Int):D:=.tup [.str x.1,.int x.2]
abbrev Ig:W2:=λss n P=>∃x y z:D,ss=[.sh^.tup [x,y,z]]/\P (.tup [z,x,y]) n
def Ex:W2:=λss n P=>∃(d:D) (ts:u_ Aw),ss=[.sh d]/\Mw d=P3^ts.map Aj/\ts.length<64/\∀ts':u_ Aw,ts'.Perm ts->EI ts'->P (.lst^ts'.map Aj) n
def VA:Af:=(Aq^BA^AE (AZ A2 (AB 0)^wC^D.int 2)^AE (AZ A2 (AB 0)^wC^D.int 0)^AE (AZ A2 (AB 0)^wC^D.int 1) AT)
def K3:Af:=(Aq^Qk Ig^AB 0)
def V4{s t:Aw}(h:Bn s=Bn t):s=t:=by
 let#[a,b,l]:=s;let#[a',b',l']:=t;unfold Bn at h
 grind
theorem E6{α:Type}{R:α->α->Prop}(anti:∀a b,R a b->R b a->a=b):∀{l1 l2:u_ α},l1.Perm l2->l1.Pairwise R->l2.Pairwise R->l1=l2
 |[],l2,p,_,_=>(List.nil_perm.mp p).symm
 |a::l1,[],p,_,_=>absurd (List.perm_nil.mp p)^jd _ _
 | a::l1,b::l2,p,h1,h2=>by
  have e:a=b:=by
   rcases UF.mp^p.mem_iff.mp On with e|h
   .exact e
   .rcases UF.mp^p.mem_iff.mpr^On with e|h'
    .exact e.symm
    .exact anti a b ((i7.mp h1).1 b h')^(i7.mp h2).1 a h
  subst e;rw[E6 anti ((List.perm_cons a).mp p) (i7.mp h1).2 (i7.mp h2).2]
def Cj{l1 l2:u_ Aw}(p:l1.Perm l2)(h1:EI l1)(h2:EI l2):l1=l2:=E6 (λa b x y=>V4^CH _ _ y x) p h1 h2
def Z2{α:Type}{f:α->D}{g:D->α}(hg:∀x,g^f x=x){xs:u_ D}{ts:u_ α}(h:xs.Perm^ts.map f):∃ts':u_ α,ts'.Perm ts/\xs=ts'.map f:=by
 refine#[xs.map g,?_,?_]
 .have:=h.map g
  rw[jb,show g∘f=id from funext hg,lB]at this;exact this
 .rw[jb]
  have:∀x∈xs,(f∘g) x=x:=λx hx=>by
   let#[t,_,rfl]:=Rs.mp^h.mem_iff.mp hx
   grind
  rw[jr this,List.map_id']
def U3:D->Aw
 |.tup [.str a,.str b,.int l]=>#[a,b,l]
 |_=>#["","",0]
section
variable {ss:u_ Slot}{n:Sg}{Pd:D->Sg->Prop}
def J5(h:Ig ss n Pd):VA (EE Pd) n (ss++Tk 0 .no):=by
 let#[x,y,z,rfl,p]:=h;exact#[_,AH rfl,_,AH rfl,_,AH rfl,z3,p]
def Wn{ts:u_ Aw}(h:Ii (λx=>Cd^Se x)^ts.map Aj):EI ts:=by
 unfold Ii at h;rw[lY]at h;exact h.imp λ{s t} z=>z _ _ rfl rfl
def II(h:Ex ss n Pd):K3 (EF Pd) n (ss++Tk 0 .no):=by
 let#[d,ts,rfl,hd,h64,p]:=h;unfold K3;refine#[ts.map Aj,Se,hd,by rw[Ev];exact h64,λx hx Q hq=>?_,#[λx hx=>?_,λx hx y hy ka kb ea eb=>?_],λxs' hp ho=>?_]
 .let#[t,_,rfl]:=Rs.mp hx
  exact#[_,_,_,rfl,hq]
 .let#[t,_,rfl]:=Rs.mp hx
  exact#[Bn t,rfl,jd _ _]
 .let#[t,_,rfl]:=Rs.mp hx
  let#[u,_,rfl]:=Rs.mp hy;cases(show P3^Bn t=P3 ka from ea);cases(show P3^Bn u=P3 kb from eb);rfl
 .let#[ts',h1,rfl]:=Z2 (g:=U3) (λ_=>rfl) hp
  exact p ts' h1^Wn ho
def RL{N:Net}(ok:N.Ok){x:Str}{p:Str×Int}(h:p∈Dr N.ts x):p.1∈N.ps/\1<=p.2/\p.2<=1000000/\∃t∈N.ts,t.len=p.2/\((t.a=x/\t.b=p.1)\/(t.b=x/\t.a=p.1)):=by
 let#[t,ht,h]:=kF.mp h;let#[m1,m2,m3,m4,m5]:=ok.tin t ht
 rcases iP.mp h with h|h
 .split at h
  .rename_i e
   rw[Re.mp h];exact#[m2,m4,m5,t,ht,rfl,.inl #[e,rfl]]
  .cases h
 .split at h
  .rename_i e
   rw[Re.mp h];exact#[m1,m4,m5,t,ht,rfl,.inr #[e,rfl]]
  .cases h
def TQ(s t:Aw):Fb (Aj s)^Aj t=s_↔s=t:=by
 let#[a,b,l]:=s;let#[a',b',l']:=t;show(a==a'&&(b==b'&&(l==l'&&s_)))=s_↔_
 simp_all
def Ds{xs:u_ D}(h:∀d∈xs,item d):Cw^.lst xs:=by
 have d1:=dps_le.mpr λd hd=>(h d hd).2.2;exact Fz (by cbv) (fines_iff.mpr λd hd=>(h d hd).1)^by show MU xs+1<=100;lk
theorem MS{α β:Type}(f:α->β):∀(l:u_ α) (i:Nat),(l.map f).eraseIdx i=(l.eraseIdx i).map f
 |[],i=>rfl
 |x::l,0=>rfl
 |x::l,i+1=>by
  show f x::(l.map f).eraseIdx i=f x::(l.eraseIdx i).map f;rw[MS f l i]
def ZV{N:Net}(ok:N.Ok){x o:Str}{s t:Aw}(hs:s∈N.ts)(ht:t∈N.ts)(e:Bg s t)(h1:(s.a=x/\s.b=o)\/(s.b=x/\s.a=o))(h2:(t.a=x/\t.b=o)\/(t.b=x/\t.a=o)):False:=by
 have ls:=(ok.tin s hs).2.2.1;have lt:=(ok.tin t ht).2.2.1;have irr:∀a,¬cs a<cs a:=λa=>lD _
 rcases h1 with⟨a1,b1⟩|⟨a1,b1⟩ <;>rcases h2 with⟨a2,b2⟩|⟨a2,b2⟩ <;>rw[a1,b1]at ls <;>rw[a2,b2]at lt
 .rcases e with e|⟨_,e⟩
  .rw[a1,a2]at e;exact irr _ e
  grind
 .grind
 .exact irr _^l8 ls lt
 .rcases e with e|⟨_,e⟩
  .rw[b1,b2]at e;exact irr _ e
  grind
def Ug{N:Net}(ok:N.Ok)(x:Str):((Dr N.ts x).map (·.1)).Nodup:=by
 have go:∀ts:u_ Aw,(∀t∈ts,t∈N.ts)->ts.Pairwise Bg->((Dr ts x).map (·.1)).Nodup:=by
  intro ts
  induction ts with
  |nil=>intro _ _;exact jI
  | cons t ts ih=>
   intro hin hp;have i1:=ih (λs hs=>hin s^TM _ hs) (i7.mp hp).2;have lt:=(ok.tin t^hin t On).2.2.1
   have new:∀y,((t.a=x/\t.b=y)\/(t.b=x/\t.a=y))->y∉(Dr ts x).map (·.1):=λy hy hm=>by
    let#[s,hs,h]:=Nk hm;exact ZV ok (hin t On) (hin s^TM _ hs) ((i7.mp hp).1 s hs) hy h
   have e:Dr (t::ts) x=((if t.a=x then [(t.b,t.len)]else [])++(if t.b=x then [(t.a,t.len)]else []))++Dr ts x:=by
    unfold Dr;rw[kN]
   rw[e]
   by_cases h1:t.a=x
   .have h2:¬t.b=x:=λz=>by rw[h1,z]at lt;exact lD _ lt
    rw[if_pos h1,if_neg h2,jA,m9,iZ,iW];exact#[new _^.inl #[h1,rfl],i1]
   .rw[if_neg h1,iw]
    by_cases h2:t.b=x
    .rw[if_pos h2,m9,iZ,iW]
     exact#[new _^.inr #[h2,rfl],i1]
    .rw[if_neg h2,iw]
     exact i1
 exact go N.ts (λ_ h=>h) ok.trise
end
def Im(t:Aw):u_ Key:=[.inr t.a,.inr t.b,.inl t.len]
def Mc(ts:u_ Aw):Prop:=ts.Pairwise λs t=>A8 (Im t)^Im s=t_
def Lg(s:Aw):¬Bg s s:=by
 rintro(h|⟨_,h⟩) <;>exact BD _ h
def Yg{s t:Aw}(h:Bg s t):A8 (Im s)^Im t=s_:=by
 show(if jx _=.inr _ then(if jx _=.inr _ then(if m8 _=.inl _ then t_ else decide _)else decide (cs _<cs _))else decide (cs _<cs _))=s_
 rcases h with h|⟨h,h'⟩
 .rw[if_neg λe=>BD s.a^by simp_all,decide_eq_true h]
 .rw[if_pos (by rw[h]),if_neg λe=>BD s.b^by grind,decide_eq_true h']
def BS{ts:u_ Aw}(h:ts.Pairwise Bg):ts.Nodup:=h.imp λ{s t} h e=>by rw[e]at h;exact Lg _ h
def sub_len{l m:u_ Aw}(hl:l.Nodup)(hm:m.Nodup)(h:∀t∈l,t∈m):l.length<=m.length:=by
 have:l.Perm (m.filter λt=>decide (t∈l)):=(kB hl^hm.filter _).mpr λt=>by
  simp_all
 rw[this.length_eq];exact iz _ _
def bQ{N:Net}(ok:N.Ok){ts:u_ Aw}(h:∀t∈ts,t∈N.ts)(hp:ts.Pairwise Bg):Net.Ok #[N.ps,ts]:=#[ok.names,ok.rise,λt ht=>ok.tin t^h t ht,hp]
end Nt
namespace L2
open PySem.W
end L2
namespace Dp
open L2
end Dp
namespace Nt
open L2 Dp
def look(ts:u_ Aw)(x y:Str):v_ Int:=((Dr ts x).find? λz=>decide (z.1=y)).map (·.2)
def Nl(ts:u_ Aw):Str->u_ Str->Int->v_ Int
 |_,[],s=>P3 s
 |x,y::r,s=>match look ts x y with
  |some l=>Nl ts y r (s+l)
  |none=>r_
def FL:v_ Int->D
 |some i=>.int i
 |none=>.non
def Ei:D->Bool
 |.str _=>s_
 |_=>t_
def cH(N:Net):u_ Str->D
 |x::r=>if x∈N.ps then FL^Nl N.ts x r 0 else .non
 |[]=>.non
def e7(N:Net):D->D
 |.tup xs=>if xs.all Ei then cH N^strsOf xs else .non
 |_=>.non
def fI(d:D):Prop:=Iw (10 ^ 40) d/\VS d<=160000/\VU d<=50
abbrev c7:W2:=λss n P=>∃(N:Net) (d:D),ss=[.sh^Bx N,.sh d]/\N.Ok/\N.ps.length<=26/\N.ts.length<=60/\fI d/\P (e7 N d) n
def QF:Af:=(Ac (A_ (FJ (Dh^Ab^Tw "tuple"^AB 1)^Ab^AZ (FN t_) (Bi B5^AE (AB 1) AT)^wC^D.int 0) (Aq^wC D.non) Au)
 (Ac (A_ (Dh^Ab^Bi U1^AE (Bl [r_] (BM^AB 1) (Az 0) Il^Tw "str"^AB 0) AT) (Aq^wC D.non) Au)
 (Ac (A6 2^Ae OT^AD (AM^AB 0) AS)
 (Ac (A_ (Ab^AZ (Nv s_) (AZ A2 (AB 1)^wC^D.int 0)^AB 2) (Aq^wC D.non) Au)
 (Ac (A6 3^wC^D.int 0)
 (Ac (Oe (dS^AE (AB 1)^AE (a9 Pq (AB 1) (Jc^wC^D.int 1) D4) AT) (N9 2^Br (Az 4)^Br (Az 5) Gv) (Ac (A_ (Ab^AZ (Nv s_) (AB 5)^AZ BK (AB 2)^AB 4) (Aq^wC D.non) Au)
 (Vf 3^AZ BK (AZ BK (AB 2)^AB 4)^AB 5)))
 (Aq^AB 3)))))))
theorem Oy:∀{xs:u_ D},xs.all Ei=s_->∃ys:u_ Str,xs=ys.map .str
 |[],_=>#[[],rfl]
 |d::r,h=>by
  rw[List.all_cons,ik]at h;let#[ys,e]:=Oy h.2;cases d with
  |str x=>exact#[x::ys,by grind]
  |_=>cases h.1
def all_strs(ys:u_ Str):(ys.map D.str).all Ei=s_:=by rw[List.all_map];exact lw.mpr λ_ _=>rfl
theorem Mq{g:Str->D}{x:Str}:∀{ps:u_ Str},Bw (ps.map .inr) (ps.map g)^.inr x=if x∈ps then P3^g x else r_
 |[]=>rfl
 |p::ps=>by
  show(if jx p=.inr x then P3 _ else Bw _ _ _)=_;rw[Mq]
  grind
theorem Mr{y:Str}:∀{xs:u_ (Str×Int)},Bw (xs.map λx=>.inr x.1) (xs.map λx=>.int x.2)^.inr y=((xs.find? λz=>decide (z.1=y)).map (·.2)).map .int
 |[]=>rfl
 |p::ps=>by
  show(if jx _=.inr y then P3 _ else Bw _ _ _)=_;rw[Mr]
  by_cases e:p.1=y
  .simp_all
  simp_all
def XD{N:Net}(ok:N.Ok){x y:Str}{l:Int}(h:look N.ts x y=P3 l):y∈N.ps/\1<=l/\l<=1000000:=by
 unfold look at h;cases c:(Dr N.ts x).find? λz=>decide (z.1=y)with
 |none=>grind
 |some z=>
  have h1:=List.find?_some c;let#[t,ht,hz]:=kF.mp^oU c;let#[m1,m2,_,m3,m4]:=ok.tin t ht
  rcases iP.mp hz with hz|hz
  .simp_all
  simp_all
section
variable {ss:u_ Slot}{n:Sg}{Pd:D->Sg->Prop}
theorem Pc{N:Net}(ok:N.Ok){D2:E2}{b0 b1:Slot}:∀(r:u_ Str) (x:Str) (s:Int) (s4 s5:Slot),x∈N.ps->(match Nl N.ts x r s with|some l=>∀s4 s5,D2.nx n [b0,b1,.sh^Ea N,.sh^.int l,s4,s5]|none=>D2.rt .non n)->
  CW (N9 2^Br (Az 4)^Br (Az 5) Gv) (Ac (A_ (Ab^AZ (Nv s_) (AB 5)^AZ BK (AB 2)^AB 4) (Aq^wC D.non) Au)^Vf 3^AZ BK (AZ BK (AB 2)^AB 4)^AB 5) D2 (Ik ((x::r).map .str)^r.map .str) n [b0,b1,.sh^Ea N,.sh^.int s,s4,s5]
 |[],x,s,s4,s5,hx,h=>h s4 s5
 | y::r,x,s,s4,s5,hx,h=>by
  have v1:Bw (N.ps.map .inr) (N.ps.map^YY N.ts)^.inr x=P3^YY N.ts x:=by rw[Mq,if_pos hx]
  refine#[rfl,rfl,?_];refine#[_,_,.inr x,_,rfl,rfl,v1,_,_,.inr y,rfl,rfl,?_];rw[Mr];unfold Nl at h;have hl:((Dr N.ts x).find? λz=>decide (z.1=y)).map (·.2)=look N.ts x y:=rfl;rw[hl];cases c:look N.ts x y with
  |none=>rw[c]at h;exact Dw h
  |some l=>
   rw[c]at h;have v2:Bw ((Dr N.ts x).map λz=>.inr z.1) ((Dr N.ts x).map λz=>.int z.2)^.inr y=P3^.int l:=by rw[Mr,hl,c];rfl
   refine Bs #[s,rfl,_,_,.inr x,_,rfl,rfl,v1,_,_,.inr y,_,rfl,rfl,v2,l,rfl,?_];exact Pc ok r y (s+l) _ _ (XD ok c).1 h
def NG(h0:c7 ss n Pd):QF (EE Pd) n (ss++Tk 4 .no):=by
 let#[N,d,rfl,ok,lp,lt,fd,p]:=h0;cases d with
 | tup xs=>
  have hl:=SU xs;have hz:Ox xs<=160000:=fd.2.1;have p':Pd (if xs.all Ei then cH N^strsOf xs else .non) n:=p;refine#[_,_,rfl,rfl,?_];show if((xs.length:Int)==0)=s_ then _ else _
  cases xs with
  |nil=>exact Dw p'
  | cons x0 r0=>
   rw[show(((x0::r0).length:Int)==0)=t_ from beq_eq_false_iff_ne.mpr^by rw[ij];lk];refine Bs #[by lk,?_];refine Bk (λd=>.bl^Ei d) (λρ=>∃s,ρ=[s]) _ _ _ _ ?_ #[_,rfl] ?_
   .rintro d hd ρ m nx ⟨s,rfl⟩ hnx
    have:=hnx [.sh d] #[_,rfl]
    have hf:=fines_iff.mp (show Kl _ _ from fd.1) d hd;cases d <;>first|exact this|exact hf.elim
   rw[iw];refine#[_,_,rfl,K9 Ei (x0::r0),?_];rw[cq];show if(!(x0::r0).all Ei)=s_ then _ else _
   cases ha:(x0::r0).all Ei with
   |false=>rw[ha]at p';exact Dw p'
   | true=>
    rw[ha]at p';let#[ys,e]:=Oy ha;rw[e,Jh]at p';cases ys with
    |nil=>cases e
    | cons y r=>
     rw[iZ]at e;cases e;refine Bs #[N,rfl,ok,by lk,by lk,?_];refine#[.str y,AH (j:=0) rfl,_,_,.inr y,rfl,rfl,?_];show if(!(Bw (N.ps.map .inr) (N.ps.map^YY N.ts)^.inr y).isSome)=s_ then _ else _
     rw[Mq];have p2:Pd (if y∈N.ps then FL^Nl N.ts y r 0 else .non) n:=p'
     by_cases hy:y∈N.ps
     .rw[if_pos hy]at p2 ⊢
      refine Bs #[_,_,(y::r).map .str,r.map .str,rfl,rfl,by show P3^Dp.cutD (D.str y::r.map .str) (P3 1) r_=_;rw[gg];rfl,?_];refine Pc ok r y 0 _ _ hy ?_;cases c:Nl N.ts y r 0 with
      |none=>rw[c]at p2;exact p2
      |some l=>rw[c]at p2;exact λ_ _=>p2
     .rw[if_neg hy]at p2 ⊢
      exact Dw p2
 |ob a=>exact(show False from fd.1).elim
 |_=>exact p
theorem B1{b:BW}{tt:Ij}{te:DW}{P:u_ D->Sg->Prop}(c:D->Bool)(g:D->D)(I:u_ Slot->Prop):∀(ds acc:u_ D) (n:Sg) (ρ:u_ Slot),
  (∀d∈ds,∀(ρ:u_ Slot) (n:Sg) (nx:D->Sg->u_ Slot->Prop) (sk:Sg->u_ Slot->Prop),I ρ->(∀zX,I zX->c d=s_->nx (g d) n zX)->(∀zX,I zX->c d=t_->sk n zX)->b d ρ λzS=>tt n zS λc n1=>if c=s_ then te n1 zS λy n2=>nx y n2 zS else sk n1 zS)->I ρ->P (acc++(ds.filter c).map g) n->GZ b tt te P ds acc n ρ
 |[],acc,n,ρ,_,_,h=>by rw[oz,List.map_nil,jA]at h;exact h
 |d::ds,acc,n,ρ,ht,hρ,h=>ht d On ρ n _ _ hρ
  (λzX hρ' hc=>B1 c g I ds _ n _ (λd hd=>ht d^TM _ hd) hρ'^by simp_all)
  (λzX hρ' hc=>B1 c g I ds _ n _ (λd hd=>ht d^TM _ hd) hρ'^by grind)
end
def K4:Af:=(Aq^Ae Ex^AD (AM^Bl [P3 1,r_] (BM^AZ A2 (AB 0)^wC^D.int 1) (Az 1) (Ab^AZ (EG s_) (AB 1)^AZ A2 (AB 0)^wC^D.int 1)^AB 1) AS)
def Y9{ts:u_ Aw}(h:Ii Cd^ts.map Aj):Mc ts:=by
 unfold Ii at h;rw[lY]at h;exact h.imp λ{s t} z=>z _ _ rfl rfl
def Pg{N:Net}(ok:N.Ok){ts:u_ Aw}(h:∀t∈ts,t∈N.ts):Cw^.tup^ts.map Aj/\Cw^.lst^ts.map Aj:=by
 have it:∀d∈ts.map Aj,item d:=λd hd=>by
  let#[t,ht,rfl]:=Rs.mp hd;exact C8 ok _^Rs.mpr #[t,h t ht,rfl]
 have d1:MU^ts.map Aj<=1:=dps_le.mpr λd hd=>(it d hd).2.2;exact#[Fz (B:=1000001) (by cbv) (fines_iff.mpr λd hd=>(it d hd).1) (by show MU^ts.map Aj+1<=100;lk),Ds it]
def JI{N:Net}(ok:N.Ok){t:Aw}(h:t∈N.ts):Cw^Aj t:=by
 have it:=C8 ok _^Rs.mpr #[t,h,rfl];exact Fz (B:=1000001) (by cbv) it.1^by have:=it.2.2;lk
def OA{ts:u_ Aw}{t:Aw}:((ts.map Aj).any λy=>Fb y^Aj t)=decide (t∈ts):=by
 rw[i6,kZ,decide_eq_true_eq];constructor
 .rintro⟨d,hd,e⟩
  let#[s,hs,rfl]:=Rs.mp hd;rw[←(TQ s t).mp e];exact hs
 .intro h
  exact#[Aj t,Rs.mpr #[t,h,rfl],(TQ t t).mpr rfl]
def Vp{s t:Aw}(h:Im s=Im t):s=t:=by
 let#[a,b,l]:=s;let#[a',b',l']:=t;unfold Im at h;simp only[List.cons.injEq,Sum.inl.injEq,Sum.inr.injEq,and_true]at h;let#[rfl,rfl,rfl]:=h;rfl
def Fo{l1 l2:u_ Aw}(p:l1.Perm l2)(h1:Mc l1)(h2:Mc l2):l1=l2:=E6 (λa b x y=>Vp^CH _ _ y x) p h1 h2
def F9{ts:u_ Aw}(h:ts.Pairwise Bg):Mc ts:=h.imp λ{s t} z=>by
 cases e:A8 (Im t)^Im s with
 |false=>rfl
 |true=>
  have:=Cc _ _ _ (Yg z) e
  rw[Ck]at this;cases this
def OQ:W2:=λss n P=>∃l t b x:Int,ss=[.sh^.int l,.sh^.tup [.int t,.int b],.sh^.int x]/\1<=b/\b<=1000000/\1<=t/\t<=1000000/\P (.bl (decide (l*b<=x*t))) n
def QG:Af:=(Aq^AZ Kp (AZ Pr (AB 0)^AZ A2 (AB 1)^wC^D.int 1)^AZ Pr (AB 2)^AZ A2 (AB 1)^wC^D.int 0)
section
variable {ss:u_ Slot}{n:Sg}{Pd:D->Sg->Prop}
def gi{i j:Int}(h0:0<=j)(h1:j<=1000000):CMul i j:=.inr #[by lk,by lk]
def NI(h:OQ ss n Pd):QG (EE Pd) n (ss++Tk 0 .no):=by
 let#[l,t,b,x,rfl,b0,b1,t0,t1,p]:=h;exact#[_,AH rfl,gi (by lk) b1,_,AH rfl,gi (by lk) t1,p]
end
end Nt
namespace L2
open PySem.W
section
variable {prog:Program}{w:World}{A:Around}{E:Value->Shared->Prop}{R:Result->Shared->Prop}{I:Addr}{fp wr:u_ Addr}{n:Nat}{P:Nat->Value->Prop}{St:Nat->Heap->Prop}
def ar(prog:ic)(w:ip)(A:i5)(op:CmpOp)(P:Nat->Db->Prop)(Cm:iQ->Prop)(bt:Nat->Nat->Bool):Prop:=
 ∀i j vi vj (s:No) (Q:Db->No->Prop) (E:Db->No->Prop),Cm s.heap->P i vi->P j vj->Q (.bool^bt i j) s->wpAny (model prog w) A (richCompare op vi vj) Q E s
def Uk(W:Walks prog w A.in1 I fp wr n P St)(bt:Nat->Nat->Bool)(Cm:iQ->Prop)(hcmp:ar prog w A.in1 .Lt P Cm bt)(S:Ch)(hSf:S∉fp)(hmono:∀h h':iQ,Cm h->(∀b o,b∉wr->b≠S->h.get? b=P3 o->h'.get? b=P3 o)->Cm h'):
  ∀(k j:Nat) (s:No) (vb:Db) (c:Nat),n - (j+1)=k->j+1<=n->St (j+1) s.heap->Cm s.heap->P (argBest bt j) vb->
  s.heap.get? S=P3 {cls:=.type "list",dict:=r_,data:=.seq #[ vb,vb] c,slots:=#[]}->
  (∀v h' tk,P (argBest bt (n - 1)) v->(∀b o,b∉wr->b≠S->s.heap.get? b=P3 o->h'.get? b=P3 o)->R (.ok^.ret v) {s with heap:=h',toks:=tk})->
  codeAny (model prog w) A (.builtin "min.loop" #[[.ref I,.none,.ref S],[]]) R s:=by
 have hSw:S∉wr:=λh=>hSf^W.sub _ h;have hname:(toString "min"++toString ".loop":String)="min.loop":=by cbv
 intro k
 induction k with
 |zero=>
  intro j s vb c hk hj hst hcm hPb hS hR;have hin:j+1=n:=by lk
  refine jv PySem.F.entry_min_loop ?_;rw[kJ PySem.F.plain_min_loop _];show wpAny _ A.in1 (seqItems?^.ref S >>=_) _ _ s;refine Cn (jn hS rfl ?_);show wpAny _ A.in1 (tryCatch (pyNext^.ref I) _ >>=_) _ _ s;refine Cn^nh^W.done s _ _ (hin▸hst) λh' tk hk'=>?_;have hS':=hk' S _ hSw hS;show wpAny _ A.in1 (updateSeq S (λ_=>#[]) >>=_) _ _ _;refine Cn ?_;refine lS hS' rfl (Cn^ke^Op ?_);refine hR vb _ tk (by rw[←hin];exact hPb) λb o hbw hbS e=>(iO _ _^i_ hbS).trans^hk' b o hbw e
 | succ k ih=>
  intro j s vb c hk hj hst hcm hPb hS hR;have hlt:j+1<n:=by lk
  refine jv PySem.F.entry_min_loop ?_;rw[kJ PySem.F.plain_min_loop _];show wpAny _ A.in1 (seqItems?^.ref S >>=_) _ _ s;refine Cn (jn hS rfl ?_);show wpAny _ A.in1 (tryCatch (pyNext^.ref I) _ >>=_) _ _ s;refine Cn^nh^W.item (j+1) s _ _ hlt hst λv h' tk hP hst' hk'=>?_;have hS':=hk' S _ hSw hS;have hcm':Cm h':=hmono _ _ hcm λb o h1 _ e=>hk' b o h1 e;show wpAny _ A.in1 (tryCatch (holding [v,v] (richCompare .Lt v vb >>=_)) _ >>=_) _ _ _;refine Cn^nh^jX^Cn^hcmp (j+1) (argBest bt j) v vb _ _ _ hcm' hP hPb ?_;refine Cn^jX^jV ?_;refine Cn^ke^Op ?_;cases hb:bt (j+1)^argBest bt j with
  | true=>
   simp only[if_true];refine Cn ?_;refine lS hS' rfl (Cn^ke ?_);rw[hname]
   refine Op #[kA PySem.F.plain_min_loop _,ih (j+1) _ v _ (by lk) hlt (W.frame _ _ _ hst' λb hbf o e=>?_) (hmono _ _ hcm' λb o _ h2 e=>(iO _ _^i_ h2).trans e) (by simp only[argBest,hb,if_true];exact hP) (ji _ hS' rfl)
    λv' h'' tk'' hP' hk''=>?_]
   .exact(iO _ _ λh:S=b=>hSf^by rw[h];exact hbf).trans e
   .exact hR v' h'' tk'' hP' λb o hbw hbS e=>hk'' b o hbw hbS^(iO _ _^i_ hbS).trans^hk' b o hbw e
  |false=>
   simp only[jD,if_false];refine Cn^ke ?_;rw[hname];refine Op #[kA PySem.F.plain_min_loop _,ih (j+1) _ vb c (by lk) hlt hst' hcm' (by simp only[argBest,hb,jD,if_false];exact hPb) hS' λv' h'' tk'' hP' hk''=>?_];exact hR v' h'' tk'' hP' λb o hbw hbS e=>hk'' b o hbw hbS^hk' b o hbw e
def RM(W:Walks prog w A.in1 I fp wr n P St)(bt:Nat->Nat->Bool)(Cm:iQ->Prop)(hcmp:ar prog w A.in1 .Lt P Cm bt)(S:Ch)(hSf:S∉fp)(hmono:∀h h':iQ,Cm h->(∀b o,b∉wr->b≠S->h.get? b=P3 o->h'.get? b=P3 o)->Cm h')(hn:0<n){s:No}{c:Nat}(hst:St 0 s.heap)(hcm:Cm s.heap)
  (hS:s.heap.get? S=P3 {cls:=.type "list",dict:=r_,data:=.seq #[] c,slots:=#[]})
  (hR:∀v h' tk,P (argBest bt (n - 1)) v->(∀b o,b∉wr->b≠S->s.heap.get? b=P3 o->h'.get? b=P3 o)->R (.ok^.ret v) {s with heap:=h',toks:=tk}):
  codeAny (model prog w) A (.builtin "min.loop" #[[.ref I,.none,.ref S],[]]) R s:=by
 have hSw:S∉wr:=λh=>hSf^W.sub _ h;have hname:(toString "min"++toString ".loop":String)="min.loop":=by cbv
 refine jv PySem.F.entry_min_loop ?_;refine Cn (jn hS rfl ?_);refine Cn^nh^W.item 0 s _ _ hn hst λv h' tk hP hst' hk'=>?_;have hS':=hk' S _ hSw hS;have hcm':Cm h':=hmono _ _ hcm λb o h1 _ e=>hk' b o h1 e;show wpAny _ A.in1 (updateSeq S (λ_=>#[ v,v]) >>=_) _ _ _;refine Cn ?_;refine lS hS' rfl ?_;rw[hname];refine Op #[kA PySem.F.plain_min_loop _,Uk W bt Cm hcmp S hSf hmono _ 0 _ v _ rfl hn (W.frame _ _ _ hst' λb hbf o e=>?_) (hmono _ _ hcm' λb o _ h2 e=>(iO _ _^i_ h2).trans e) hP (ji _ hS' rfl) λv' h'' tk'' hP' hk''=>?_]
 .exact(iO _ _ λh:S=b=>hSf^by grind).trans e
 .exact hR v' h'' tk'' hP' λb o hbw hbS e=>hk'' b o hbw hbS^(iO _ _^i_ hbS).trans^hk' b o hbw e
def min_list{s:No}{l:Ch}{items:Array Db}{Q:Db->No->Prop}(bt:Nat->Nat->Bool)(hh:A.handled=r_)(hl:s.heap.IsList l items)(hn:0<items.size)
  (hcmp:∀i j vi vj (s':No) (Q:Db->No->Prop) (E:Db->No->Prop),(∀b o,s.heap.get? b=P3 o->s'.heap.get? b=P3 o)->items[i]?=P3 vi->items[j]?=P3 vj->Q (.bool^bt i j) s'->wpAny (model prog w) A.in1 (richCompare .Lt vi vj) Q E s')
  (h:∀v h' tk,items[argBest bt (items.size - 1)]?=P3 v->(∀b o,s.heap.get? b=P3 o->h'.get? b=P3 o)->Q v {s with heap:=h',toks:=tk}):wpAny (model prog w) A (call (.builtin "min") [.ref l]) Q E s:=by
 have hname:(toString "min"++toString ".loop":String)="min.loop":=by cbv
 have hlt:l<s.heap.objs.size:=by let#[_,e,_]:=hl;exact T0 e
 refine call_function_tree PySem.F.kind_min PySem.F.plain_min PySem.F.entry_min (PySem.F.args_min1 _) ?_;show wpAny _ A.in1 (n8 "min" ["key","default"] 0 #[[],[]] >>=_) _ _ s;refine Cn^o7 (show n8 "min" ["key","default"] 0 #[[],[]]=pure [r_,r_]from rfl) ?_;refine Cn^Op ?_;refine Cn^jq hl ?_;refine Cn^jg ?_;rw[hname];have W:=Walks.list (prog:=prog) (w:=w) (A:=A.in1) hh s.heap.objs.size l (ge hlt) items;have hs1:(s.heap.push {cls:=.type "list_iterator",data:=.fields #[ .ref l,.int 0 0]}).objs.size=s.heap.objs.size+1:=jM _ _;refine Op #[kA PySem.F.plain_min_loop _,RM W bt (λh'=>∀b o,s.heap.get? b=P3 o->h'.get? b=P3 o) (λi j vi vj s' Q E hc h1 h2 q=>hcmp i j vi vj s' Q E hc h1 h2 q) (s.heap.push {cls:=.type "list_iterator",data:=.fields #[ .ref l,.int 0 0]}).objs.size (λhm=>?_) (λh1 h2 hc hk b o e=>hk b o (λhm=>?_) ?_^hc b o e) hn #[#[_,FM _ (TW _ rfl),rfl,rfl],(hl.push _).push _] (λb o e=>FM _^FM _ e) (TW _ rfl) λv h' tk hP hk=>?_]
 .rw[hs1]at hm
  rcases UF.mp hm with e|hm
  .exact absurd e^Nat.succ_ne_self _
  .rw[←Re.mp hm]at hlt
   exact absurd hlt^mS.mpr^jP _
 .rw[Re.mp hm]at e
  exact absurd (T0 e)^jU _
 .rw[hs1]
  exact ge^jp^T0 e
 .refine h v h' tk hP λb o e=>hk b o (λhm=>?_) ?_^FM _^FM _ e
  .rw[Re.mp hm]at e
   exact absurd (T0 e)^jU _
  .rw[hs1]
   exact ge^jp^T0 e
end
theorem K6(keys:u_^u_ Key):∀m:Nat,argBest (λi j=>A8 (keys.getD i [])^keys.getD j []) m<=m/\∀i,i<=m->A8 (keys.getD i [])^keys.getD (argBest (λi j=>A8 (keys.getD i [])^keys.getD j []) m) []=t_
 |0=>#[Sc _,λi hi=>by
  have:i=0:=by lk
  subst this;exact Ck _]
 | m+1=>by
  let#[h1,h2]:=K6 keys m;unfold argBest
  by_cases c:A8 (keys.getD (m+1) [])^keys.getD (argBest (λi j=>A8 (keys.getD i [])^keys.getD j []) m) []=s_
  .rw[if_pos c]
   refine#[Sc _,λi hi=>?_]
   by_cases e:i=m+1
   .subst e;exact Ck _
   .cases z:A8 (keys.getD i [])^keys.getD (m+1) [] with
    |false=>rfl
    |true=>
     have:=Cc _ _ _ z c
     rw[h2 i^by lk]at this;cases this
  grind
section
variable {X:Cx}
def aG(K:Frag):u_ V->Hp->VK->Prop:=λxs H Q=>∃(p:Ch) (vs:u_ V) (keys:u_^u_ Key),xs=[.ref p]/\SqL K H p vs/\0<vs.length/\KeysAt K H vs keys /\
 ∀j v,vs[j]?=P3 v->(∀i,i<vs.length->A8 (keys.getD i [])^keys.getD j []=t_)->Q v H
def Ma{k:Nat}(hr:Room k X.A):CallR X (.builtin "min")^aG X.K:=by
 intro zF s Z H xs us Q I r h;let#[p,vs,keys,rfl,hq,hn,hk,q]:=h;let#[u,rfl,rx]:=vals1 r;cases rx;let#[its,r',pl,hz]:=I.list hq;have hl:=r'.length;have tk:=hk.tups I r' λb o e=>e;have hu:=hr.un;refine min_list (λi j=>A8 (keys.getD i [])^keys.getD j []) hr.hd pl.isList (by rw[f8];lk) (λi j vi vj s' Q' E' hold h1 h2 q'=>?_) λv h' tk' hv hold=>?_
 .have hi:i<keys.length:=by rw[←hk.len,hl];have:=(oJ.mp h1).1;simpa using this
  have hj:j<keys.length:=by rw[←hk.len,hl];have:=(oJ.mp h2).1;simpa using this
  let#[a,#[cls,dd,data,sl],xs,n,e1,e2,e3,e4,e5]:=tk.at_ i keys[i] (Go hi);let#[a',#[cls',dd',data',sl'],xs',n',e1',e2',e3',e4',e5']:=tk.at_ j keys[j] (Go hj);simp only at e3 e4 e3' e4';subst e3 e4 e3' e4';have e1:its.toArray[i]?=P3^.ref a:=by rw[←e1];simp
  have e1':its.toArray[j]?=P3^.ref a':=by rw[←e1'];simp
  rw[e1]at h1;rw[e1']at h2;cases h1;cases h2;have hsm:=hk.same _ (jQ hi) _^jQ hj;have g1:keys.getD i []=keys[i]:=by rw[ia,Go hi];rfl
  have g2:keys.getD j []=keys[j]:=by rw[ia,Go hj];rfl
  simp only[g1,g2]at q';rw[←JH _ _ hsm]at q'
  exact mo (op:=.Lt) #[_,hold _ _ e2,rfl] #[_,hold _ _ e2',rfl] PySem.F.slot_tuple_lt PySem.F.entry_tuple_lt (PySem.F.args_tuple_lt_2 _ _) (FO a a' xs xs' n n' dd dd' sl sl' keys[i] keys[j] e5 e5' hsm)
   #[hold _ _ e2,hold _ _ e2',show lM (Co keys[i] keys[j])≠pK/\Q' (.bool (Co keys[i] keys[j])) s' from#[(λx=>nomatch x),q']] (by show X.A.units+1<cLine;lk)
 .let#[b1,b2]:=K6 keys (its.toArray.size - 1)
  rw[f8]at hv b1 b2;have hj:argBest (λi j=>A8 (keys.getD i [])^keys.getD j []) (its.length - 1)<vs.length:=by lk
  let#[u,e1,ru]:=r'.get^Go hj;have e2:its.toArray[argBest (λi j=>A8 (keys.getD i [])^keys.getD j []) (its.length - 1)]?=P3 u:=by rw[←e1];simp
  rw[e2]at hv;cases hv;exact#[_,H,I.kept (t':=tk') hold,ru,q _ _ (Go hj) λi hi=>b2 i^by lk]
end
end L2
namespace Dp
open L2
def Xh(ds:u_ D)(P:D->Prop):Prop:=∃xs,ds=[.lst xs]/\0<xs.length/\Keyed Cd xs/\∀x∈xs,(∀y∈xs,∀kx ky,Cd x=P3 kx->Cd y=P3 ky->A8 ky kx=t_)->P x
def YI{K:Frag}:B6 K .sh (aG K) Xh:=by
 intro U M H ds vs P Q dom vM hp w q;let#[xs,rfl,hn,hK,w]:=w;let#[v,rfl,hx]:=CV hp;let#[a,us,rfl,_,hq,hs]:=hx;let#[keys,hl,hk]:=FC hK.1;have hlen:=hs.length;refine#[a,us,keys,rfl,.inl hq,by lk,HW (λd k v _=>HY) hs hK hl hk,λj v hv hle=>?_];have hj:j<xs.length:=by rw[←hlen];exact(Uf.mp hv).1
 let#[v',e1,h1]:=hs.get^Go hj;rw[hv]at e1;cases e1;refine q v H xs[j] .refl h1 (w _ (jQ hj) λy hy kx ky ex ey=>?_);let#[i,hi]:=li.mp hy;have hil:i<xs.length:=(Uf.mp hi).1;let#[k1,a1,b1,_]:=hk i y hi;let#[k2,a2,b2,_]:=hk j xs[j] (Go hj)
 grind
end Dp
namespace L2
def gs(d:Ch)(o:Obj)(kvs:u_ (Key×V)):It:=
 #[λi H=>H d=P3^.frz o^.dK kvs/\i<kvs.length,λi H x H'=>∃T p,x=.ref T/\H T=r_/\kvs[i]?=P3 p/\H'=Av H T^.tup [kV p.1,p.2],λi H=>H d=P3^.frz o^.dK kvs/\kvs.length<=i]
def cP{P:ic}{w:ip}{k:Key}{u:Db}(h:(BI P w).is k u=s_):RelV (kV k) u:=by
 rcases BP h with⟨i,t,rfl,rfl⟩|⟨x,t,rfl,rfl⟩
 .exact#[t,rfl]
 .exact#[t,rfl]
def Ny{X:Cx}{zF:u_ (Ch×Obj)}{Z:L2.St}{H:Hp}{s:No}{d:Ch}{o:Obj}{kvs:u_ (Key×V)}{es:Array lO}{ep:Nat}(I:Inv X zF Z H s)(h:H d=P3^.frz o^.dK kvs)(hd:o.data=.dict es ep):
  ∃ws,KV kvs ws/\s.heap.DictAt (BI X.prog X.w) d ws ep:=by
 let#[e0,_,_,ws,kv,o',es',ep',e1,e2,e3,e4]:=(I.hok d _ h);rw[e0]at e1;cases e1;rw[hd]at e3;cases e3;exact#[ws,kv,o,es,e0,e2,hd,e4]
def Qp{P:ic}{w:ip}{K:Frag}{els:u_ ie}{j:Nat}{pos:Pos}(d it:Ch)(o:Obj)(kvs:u_ (Key×V))(es:Array lO)(ep:Nat)(hdat:o.data=.dict es ep):
  Turn P w K (.Tuple els j pos) (gs d o kvs) [it] it (λi h=>∃ok ov,IsItemIter h it d i kvs.length ep ok ov) where
 mem:=by simp
 obj:=λi h #[ok,ov,st] c hc=>by
  rw[Re.mp hc];exact#[_,st,λv q=>by cases q]
 keep:=λi h h' #[ok,ov,st] k=>#[ok,ov,k it (by simp) _ st]
 item:=by
  intro X hP hw hK hc i zF s Z H E I hf st hg;subst hP hw hK;let#[hH,hi]:=hg;let#[ok,ov,st]:=st;let#[ws,kv,D]:=Ny I hH hdat
  have hl:=kv.length;have hiw:i<ws.length:=by lk
  rw[hl]at st;obtain⟨k,v,hkv⟩:∃k v,ws[i]=(k,v):=#[_,_,rfl];have hx:ws[i]?=P3 (k,v):=by rw[Go hiw,hkv]
  have hp:kvs[i]?=P3 kvs[i]:=Go hi;let#[ek,rv]:=KJ kv hp hx;have ek:kvs[i].1=k:=ek;refine wpAny_pyNext_items_item st D hx λkey h' hkey hout htup hsz hold=>#[_,rfl,?_];refine wpAny_letOwnedTupleGo_items hout λh2 hit2 hsame=>?_;have hT:H s.heap.objs.size=r_:=I.hok.fresh^Sc _;have nit:s.heap.objs.size≠it:=mG^T0 st
  have kk:∀c o,c∉[it]->s.heap.get? c=P3 o->h2.get? c=P3 o:=λc o hc e=>by
   have hc:c≠it:=λz=>hc (by rw[z];exact Re.mpr rfl);exact(hsame.2 c hc).trans^hold c o hc e
  have I2:Inv X zF Z (Av H s.heap.objs.size^.tup [kV kvs[i].1,kvs[i].2]) {s with heap:=h2}:=by
   refine I.turnLaid (t':=s.toks) (ch:=[it]) (λc hc=>hf c hc) kk (Sc _) ?_;exact#[by show 2<=sizeLine;decide,[key,v],.cons (cP^by rw[ek];exact hkey)^.cons rv .nil,#[_,(hsame.2 _ nit).trans htup,rfl,_,rfl,rfl,rfl]]
  refine#[.ref s.heap.objs.size,_,I2,rfl,#[_,_,rfl,hT,hp,rfl],#[key,v,by rw[hl];exact hit2],λc hc=>?_];rw[Re.mp hc,AO^i_ nit];exact(hf it^by simp).1
 done:=by
  intro X hP hw hK hc i zF s Z H E I hf st hg;subst hP hw hK;let#[hH,hi]:=hg;let#[ok,ov,st]:=st;let#[ws,kv,D]:=Ny I hH hdat
  have hl:=kv.length;rw[hl]at st;refine wpAny_pyNext_items_end (I.ok.hd hc) st D (lj^by lk) λh' ext=>#[rfl,?_];exact I.turnedL (t':=s.toks) (ch:=[it]) (λc hc=>hf c hc) λc o hc e=>ext c o (λz=>hc^by rw[z];exact Re.mpr rfl) e
 self:=λA i s Q E #[ok,ov,st] h=>PySem.W.kcp_self st h
def cV(to:TE):TI:=λZ H R=>to Z H λx H1=>∃d o kvs,x=.ref d/\H1 d=P3^.frz o^.dK kvs/\∀r,H1 r=r_->R (gs d o kvs)^Av H1 r^.ext λh=>h.IsItemsView r d
def We{X:Cx}{e:ie}{els:u_ ie}{j:Nat}{tpos apos cpos:Pos}{to:TE}(ho:PE X e to)(hbase:attributeBase e "items" X.env^eval e X.env=eval e X.env:=by rfl)(hline:(apos.endLine==cpos.line)=s_:=by rfl):
  PI X (.Tuple els j tpos) (.Call (.Attribute e "items" apos) [] [] cpos) (cV to):=by
 intro zF s Z H R I h;refine wpAny_Call_method0_late hbase hline^BG (ho zF s Z H _ I h) λv s1 #[x,H1,I1,r1,d,o,kvs,ex,hd,q]=>?_;subst ex;cases r1;let#[h1,h2,lo]:=cT I1^.inl #[kvs,.inr #[o,hd]];let#[_,_,ws,kv,D]:=IV I1.hok^.inr #[o,hd];refine#["dict","dict.items",PySem.F.plainAttrs_dict,PySem.F.slot_dict_items,PySem.F.type_dict_items,h1,h2,mj rfl (PySem.evalArgs_none ?_)];refine call_meetsIn PySem.F.slot_dict_items D.typeIs PySem.F.entry_dict_items (PySem.F.args_dict_items_1 _) (meets_dict_items (BI X.prog X.w) d lo) #[#[ws,D],?_];have hf:H1 s1.heap.objs.size=r_:=I1.fresh;have hv:(s1.heap.push {cls:=.type "dict_items",data:=.fields #[ .ref d]}).IsItemsView s1.heap.objs.size d:=#[_,TW _ rfl,rfl,rfl]
 have I2:Inv X zF Z (Av H1 s1.heap.objs.size^.ext λh=>h.IsItemsView s1.heap.objs.size d) {s1 with heap:=s1.heap.push {cls:=.type "dict_items",data:=.fields #[ .ref d]}}:=
  I1.laid (t':=s1.toks) (λb o e=>FM _ e) (Sc _) #[hv,#[_,TW _ rfl],λh1 h2 #[o,e,c] k=>#[o,k o e,c]]
 have hd2:(Av H1 s1.heap.objs.size^.ext λh=>h.IsItemsView s1.heap.objs.size d) d=P3^.frz o^.dK kvs:=by rw[AO^An hd hf];exact hd
 obtain⟨es,ep,hdat⟩:∃es ep,o.data=.dict es ep:=by
  let#[e0,_,_,ws,kv,o',es',ep',e1,e2,e3,e4]:=(show ObjOk X.prog X.w H1 s1.heap d^.frz o^.dK kvs from I1.hok d _ hd)
  grind
 let#[ws2,kv2,D2]:=Ny I2 hd2 hdat
 have hl:=kv2.length;refine wpAny_pyIter_items (s:={s1 with heap:=s1.heap.push {cls:=.type "dict_items",data:=.fields #[ .ref d]}}) hv D2 ?_;refine#[_,[(s1.heap.push {cls:=.type "dict_items",data:=.fields #[ .ref d]}).objs.size],_,gs d o kvs,_,rfl,I2.kept (t':=s1.toks) λb o e=>FM _ e,Qp d _ o kvs es ep hdat,#[.none,.none,by rw[hl];exact TW _ rfl],λc hc=>?_,q _ hf];rw[Re.mp hc];exact I2.fpOk (Sc _) I2.fresh
end L2
namespace Dp
open L2
def wItems(wa:DW):EW:=λn ρ P=>wa n ρ λd n1=>∃ks ds,d=.fdi ks ds/\(∀k∈ks,DP k)/\P (Ik (ks.map aY) ds) n1
def cQ(k:Key):kV k=kOf k:=by cases k <;>rfl
section
variable {X:Cx}{a:Expr}{zU:Kd}{wa:DW}{els:u_ Expr}{j:Nat}{tpos apos cpos:Pos}
def X0(ha:DE X a zU wa)(hbase:attributeBase a "items" X.env^eval a X.env=eval a X.env:=by rfl)(hline:(apos.endLine==cpos.line)=s_:=by rfl):DI X (.Tuple els j tpos) (.Call (.Attribute a "items" apos) [] [] cpos)^wItems wa:=by
 let#[t,a1,a2]:=ha;refine#[_,We a1 hbase hline,λC M H n ρ Z P Rr R w q=>?_];refine a2 C M H n ρ Z _ _ R w λv H1 d n1 ee f1 r1 p=>?_;let#[ks,ds,rfl,hfit,p]:=p;have R1:=R.step ee f1;obtain⟨ad,vs,rfl,⟨o,nM,hd⟩,hlen,hs⟩:∃a vs,v=.ref a/\NdF M H1 a ks vs/\ks.length=ds.length/\Ats X.K M H1 ds vs:=r1.tpOf R.dom R.vM;have hl:=hs.length;refine#[ad,o,_,rfl,hd,λr hr=>?_];have g:Grow H1 (Av H1 r^.ext λh=>h.IsItemsView r ad):=Ap hr;refine q _ _ _ n1 (ee.trans g.ext) (f1.grow g) (λi M' H' pr dom=>?_) p;have pr2:Pres M H1 M' H':=g.pres.trans pr;have hd':H' ad=P3^.frz o^.dK^ks.zip vs:=(pr2.nd nM hd).2;have zl:(ks.zip vs).length=ks.length:=by rw[jw];lk
 have zd:(Ik (ks.map aY) ds).length=ks.length:=by unfold Ik;rw[List.length_zipWith,Ev];lk
 refine#[λe he=>?_,λhle=>#[hd',by lk]];have hi:i<ks.length:=by rw[←zd];exact(Uf.mp he).1
 have hid:i<ds.length:=by lk
 refine#[#[hd',by lk],λx H2 y=>?_];let#[T,pp,rfl,hT,hp,rfl]:=y;let#[v',e1,h1]:=(hs.pres pr2).get^Go hid
 have e2:(ks.zip vs)[i]?=P3 (ks[i],v'):=by
  rw[mE];exact#[Go hi,e1]
 rw[e2]at hp;cases hp
 have e3:e=.tup [aY ks[i],ds[i]]:=by
  unfold Ik at he;rw[pD,XV,Go hi,Go hid]at he;exact(eq he).symm
 subst e3;refine#[Ap hT,C9 dom hT #[_,_,rfl,?_,_,_,rfl,h1,rfl]];show At X.K M' H' (aY ks[i]) (kV ks[i]);rw[cQ];exact X8^hfit _^jQ hi
end
section
variable {K:Frag}{C:Fm}{M:Addr->Prop}{H:Hp}{n:Sg}{ρ:u_ Slot}{Z:L2.St}
def Rel.hold(R:Rel K C M H n ρ Z){p:Ch}{o:HO}(hp:H p=r_)(nv:¬VW o:=by rintro⟨_,z⟩;cases z):Rel K C (λb=>M b\/b=p) (Av H p o) n ρ Z:=by
 have g:Grow H^Av H p o:=Ap hp;have pr:Pres M H _^Av H p o:=F2 hp;refine#[R.len,λa z=>.inl^R.sub a z,λa z=>?_,R.ext.trans g.ext,R.fU,R.uV,λa z=>.inl^R.vM a z,(R.feed.grow g).more p (λf hf q=>?_) λu z=>nv #[u,by rw[AQ]at z;exact eq z],λi s q=>(R.sl i s q).pres pr (λ_ z=>.inl z) g.ext R.uV,λq hq=>(R.pin q hq).trans pr,R.br0,R.new,R.two,λq hq=>?_]
 .rcases z with z|z
  .let#[u,h1]:=R.dom a z
   exact#[u,g.all a u h1]
  .rw[z];exact#[o,AQ]
 .let#[_,_,_,_,_,h3,_]:=R.feed.1 f hf
  have:=h3.2
  grind
 .let#[h1,h2,h3,h4]:=R.kept q hq
  exact#[g.all _ _ h1,#[.inl h2.1,h2.2],h3,h4]
end
def Ki(ks:u_ Key)(k:Key):Bool:=ks.any λk0=>decide (k0=k)
def hasK_iff{ks:u_ Key}{k:Key}:Ki ks k=s_↔k∈ks:=by
 unfold Ki
 simp_all
def C4(ks:u_ Key)(k:Key):u_ Key:=if Ki ks k=s_ then ks else ks++[k]
def C3{α:Type}(ks:u_ Key)(ds:u_ α)(k:Key)(d:α):u_ α:=if Ki ks k=s_ then j4 (λk0 d0=>if k0=k then d else d0) ks ds else ds++[d]
def Zm{ks:u_ Key}{vs:u_ V}(hl:ks.length=vs.length)(k:Key):((ks.zip vs).any λkv=>decide (kv.1=k))=Ki ks k:=by
 rw[i6,kZ,hasK_iff];constructor
 .rintro⟨⟨a,b⟩,hm,e⟩
  have e:=of_decide_eq_true e;rw[←e];exact(l9 hm).1
 .intro h
  let#[i,hi,e]:=k8.mp h;exact#[(ks[i],vs[i]'(by lk)),k8.mpr #[i,by grind,by grind],by grind]
def WR{ks:u_ Key}{vs:u_ V}(hl:ks.length=vs.length)(k:Key)(v:V):putK (ks.zip vs) k v=(C4 ks k).zip^C3 ks vs k v:=by
 unfold putK C4 C3;rw[Zm hl]
 by_cases h:Ki ks k=s_
 .have go:∀(ks:u_ _) (vs:u_ V),((ks.zip vs).map λkv=>if kv.1=k then(kv.1,v)else kv)=ks.zip^j4 (λk0 d0=>if k0=k then v else d0) ks vs:=by
   intro ks
   induction ks with
   |nil=>intro vs;rfl
   | cons a ks ih=>
    intro vs;cases vs with
    |nil=>rfl
    |cons b vs=>
     show(if a=k then(a,v)else(a,b))::_=(a,if a=k then v else b)::_;exact List.cons_eq_cons.mpr #[by split <;>rfl,ih vs]
  simp_all
 .rw[if_neg h,if_neg h,if_neg h,List.zip_append hl]
  rfl
theorem Ats.put{K:Frag}{M:Ch->Prop}{H:Hp}{k:Key}{d:D}{v:V}(hd:At K M H d v):∀{ks:u_ Key}{ds:u_ D}{vs:u_ V},Ats K M H ds vs->Ats K M H (j4 (λk0 d0=>if k0=k then d else d0) ks ds)^j4 (λk0 d0=>if k0=k then v else d0) ks vs
 |[],ds,vs,h=>rfl
 |a::ks,[],vs,h=>by cases(h);rfl
 |a::ks,e::ds,vs,h=>by
  let#[u,r,rfl,h1,h2]:=h;refine#[_,_,rfl,?_,Ats.put hd h2]
  grind
def Ats.putX{K:Frag}{M:Ch->Prop}{H:Hp}{k:Key}{d:D}{v:V}{ks:u_ Key}{ds:u_ D}{vs:u_ V}(hd:At K M H d v)(h:Ats K M H ds vs):Ats K M H (C3 ks ds k d)^C3 ks vs k v:=by
 unfold C3
 split
 .exact Ats.put hd h
 .exact h.append^Ats.one hd
def Sl{α:Type}{ks:u_ Key}{ds:u_ α}{k:Key}{d:α}(hl:ks.length=ds.length):(C4 ks k).length=(C3 ks ds k d).length:=by
 unfold C4 C3
 grind
theorem L3:∀{ks:u_ Key}{ds:u_ D}{k:Key},k∉ks->Bw ks ds k=r_
 |[],ds,k,_=>by rfl
 |a::ks,[],k,_=>rfl
 |a::ks,d::ds,k,h=>by
  unfold Bw;rw[if_neg λe=>h^by grind];exact L3 λz=>h^TM _ z
theorem L1:∀{ks:u_ Key}{ds:u_ D}{k:Key},ks.length=ds.length->k∈ks->∃z,Bw ks ds k=P3 z
 |[],ds,k,_,h=>by cases h
 |a::ks,[],k,h,_=>by cases h
 | a::ks,d::ds,k,hl,h=>by
  unfold Bw
  by_cases e:a=k
  .simp_all
  .rw[if_neg e]
   exact L1 (by simp_all)^(UF.mp h).resolve_left λz=>e z.symm
def Vh{ks:u_ Key}{ds:u_ D}{k:Key}{d:D}(hl:ks.length=ds.length)(j:Key):Bw (C4 ks k) (C3 ks ds k d) j=if j=k then P3 d else Bw ks ds j:=by
 unfold C4 C3
 by_cases h':Ki ks k=s_
 .have h:=hasK_iff.mp h'
  rw[if_pos h',if_pos h']
  have go:∀(ks:u_ Key) (ds:u_ D),ks.length=ds.length->(j=k->k∈ks)->Bw ks (j4 (λk0 d0=>if k0=k then d else d0) ks ds) j=if j=k then P3 d else Bw ks ds j:=by
   intro ks
   induction ks with
   |nil=>
    intro ds _ hm
    by_cases e:j=k
    .exact absurd (hm e) ig
    .rw[if_neg e];cases ds <;>rfl
   | cons a ks ih=>
    intro ds hl hm;cases ds with
    |nil=>cases hl
    | cons e ds=>
     show(if a=j then P3 (if a=k then d else e)else Bw ks _ j)=if j=k then P3 d else if a=j then P3 e else Bw ks ds j
     by_cases e1:a=j
     .rw[if_pos e1,if_pos e1]
      by_cases e2:j=k
      .rw[if_pos e2,if_pos^e1.trans e2]
      .rw[if_neg e2,if_neg λz=>e2^e1.symm.trans z]
     .rw[if_neg e1,if_neg e1]
      refine ih ds (by simpa using hl) λz=>(UF.mp^hm z).resolve_left λw=>e1^w.symm.trans z.symm
  exact go ks ds hl λ_=>h
 .have h:k∉ks:=λz=>h'^hasK_iff.mpr z
  rw[if_neg h',if_neg h']
  have go:∀(ks:u_ Key) (ds:u_ D),ks.length=ds.length->k∉ks->Bw (ks++[k]) (ds++[d]) j=if j=k then P3 d else Bw ks ds j:=by
   intro ks
   induction ks with
   | nil=>
    intro ds hl _;cases ds with
    |nil=>
     show(if k=j then P3 d else r_)=if j=k then P3 d else r_
     by_cases e:j=k
     .rw[if_pos e,if_pos e.symm]
     .rw[if_neg e,if_neg λz=>e z.symm]
    |cons e ds=>cases hl
   | cons a ks ih=>
    intro ds hl hm;cases ds with
    |nil=>cases hl
    |cons e ds=>
     show(if a=j then P3 e else Bw (ks++[k]) (ds++[d]) j)=if j=k then P3 d else if a=j then P3 e else Bw ks ds j
     rw[ih ds (by simpa using hl) λz=>hm^TM _ z]
     by_cases e1:a=j
     .rw[if_pos e1,if_pos e1,if_neg λz=>hm^by rw[←z,←e1];exact On]
     .rw[if_neg e1,if_neg e1]
  exact go ks ds hl h
section
variable {X:Cx}{a b e:Expr}{κ zU zT:Kd}{wa wb:DW}{pos pos':Pos}
def Ve(wk wv:DW):DW:=λn ρ P=>wk n ρ λk n1=>wv n1 ρ λd n2=>∃key,keyOf k=P3 key/\P (.dic [key] [d]) n2
def X5(ha:DE X a zU wa)(hb:DE X b zT wb)(hk:zT≠.tp:=by intro z;cases z):DE X (.Dict [P3 a] [b] pos) .fr^Ve wa wb:=by
 let#[t,h1,h2]:=ha;let#[u,g1,g2]:=hb;refine#[_,Sw (KC h1 g1 Sr) rfl rfl (jd _ _) (by show 1<=15;decide),λC M H n ρ Z P Q R w q=>λp hp=>?_];have R1:=R.hold (o:=.dK []) hp
 have np:¬C.U p:=λz=>by
  let#[o,w]:=R.dom p^R.vM p^R.uV p z;rw[hp]at w;cases w
 refine h2 C _ _ n ρ Z _ _ R1 w λx H2 k n1 e1 f1 r1 p1=>?_;have R2:=R1.step e1 f1;refine g2 C _ _ n1 ρ Z _ _ R2 p1 λy H3 d n2 e2 f2 r2 p2=>?_;let#[key,hkey,p2]:=p2;have R3:=R2.step e2 f2;have hat:At X.K (λb=>M b\/b=p) H3 d y:=r2.shOf R2.dom hk;have hp3:H3 p=P3^.dK []:=e2.keep (e1.keep AQ np) np;have hx:x=kV key:=Eh hkey^r1.tpOf R1.dom R1.vM;refine#[hp3,[(key,y)],by rw[hx];rfl,by show 1<=15;decide,?_];show Q (.ref p)^Av H3 p^.dK [(key,y)];refine q _ _ (.dic [key] [d]) n2 (λb o eb=>?_) ?_ #[p,rfl,hp,[y],AQ,rfl,?_] p2
 .have nb:b≠p:=An eb hp
  let#[o1,z1,k1,t1]:=e1 b o (by rw[AO nb];exact eb);let#[o2,z2,k2,t2]:=e2 b o1 z1;exact#[o2,by rw[AO nb];exact z2,λnu nv=>(k2 nu^by rw[k1 nu nv];exact nv).trans^k1 nu nv,λvs z=>(t2 vs^(t1 vs z).trans z).trans^t1 vs z]
 .refine f2.pres #[λb o eb nb _=>by rw[AO λz=>nb^.inr z];exact eb,λb z=>.inl^.inl z,λb vs eb=>by rw[AO λz=>by rw[z,hp3]at eb;cases eb];exact eb,λb o eb=>(lF (b=p)).elim (λz=>by rw[z];exact#[_,AQ]) λz=>#[o,by rw[AO z];exact eb]] (λf o hf eb=>?_) λb u eb=>by rw[AO λz=>by rw[z,hp3]at eb;cases eb];exact eb
  rw[AO λz=>np^by rw[←z];exact R.fU f hf];exact eb
 .exact#[y,[],rfl,hat.pres^CO (.inr rfl) hp3,rfl]
def Of(i:Nat)(wk wv:DW):Af:=λD2 n ρ=>∃ks ds,ρ[i]?=P3^.ow^.dic ks ds/\wv n ρ λd n1=>wk n1 ρ λk n2=>∃key,keyOf k=P3 key/\ks.length<sizeLine/\D2.nx n2^ρ.set i^.ow^.dic (C4 ks key)^C3 ks ds key d
def TR{i k:Nat}{x:ie}(hr:Room k X.A)(hx:PE X x^B9 i)(ha:DE X a zU wa)(hb:DE X b zT wb)(hk:zT≠.tp:=by intro z;cases z)
  (hs:swapsWith b (P3^.Subscript x a pos') pos.line X.env=pure t_:=by rfl):DS X κ (.Assign [.Subscript x a pos'] b pos)^Of i wa wb:=by
 let#[t,h1,h2]:=ha;let#[u,g1,g2]:=hb;refine#[_,GS (IT hr) hx h1 g1 hs,λC M H n ρ Z D2 E R L w=>?_];let#[ks,ds,hd,w]:=w;refine g2 C M H n ρ Z _ _ R w λv H1 d n1 e1 f1 r1 p=>?_;have R1:=R.step e1 f1;let#[ad,ea,m,nv,tt]:=R1.sl i _ hd;refine#[.ref ad,getD_some ea,?_];refine h2 C M H1 n1 ρ Z _ _ R1 p λy H2 kk n2 e2 f2 r2 p=>?_;let#[key,hkey,hlt,p]:=p;have R2:=R1.step e2 f2;let#[ad',ea',m',nv',tt']:=R2.sl i _ hd;rw[ea]at ea';cases ea';let#[vs,hH,hl,hs']:=tt';have hat:At X.K M H2 d v:=(r1.shOf R.dom hk).pres^R1.pres e2;have hvl:ks.length=vs.length:=by rw[hl,hs'.length]
 refine#[ad,_,rfl,by rw[Eh hkey^r2.tpOf R1.dom R1.vM];exact DPut.k hH (by rw[jw];lk),L.nx M _ n2 _ Z (R2.mut (e:=.dic (C4 ks key)^C3 ks ds key d) hd ea #[C3 ks vs key v,by rw[AQ,WR hvl],Sl hl,(hs'.putX hat).pres^CO m' hH]) p]
def bG:D->v_ Bool
 |.lst xs=>P3 (!xs.isEmpty)
 |.tup xs=>P3 (!xs.isEmpty)
 |.bl b=>P3 b
 |.non=>P3 t_
 |_=>r_
def Qj(wa:DW):Ij:=λn ρ P=>wa n ρ λd n1=>∃c,bG d=P3 c/\P c n1
def Ml{K:Frag}{M:Ch->Prop}{H:Hp}{ds:u_ D}{vs:u_ V}(h:Ats K M H ds vs):vs.isEmpty=ds.isEmpty:=by
 have:=h.length
 cases vs <;>cases ds <;>first|rfl|cases this
def Vn{U M:Ch->Prop}{H:Hp}{K:Frag}{d:D}{x:V}{c:Bool}(h:AtT K U M H d x)(e:bG d=P3 c):Zu K x H c:=by
 cases d with
 |lst ds=>cases e;let#[a,vs,rfl,_,hq,hs]:=h;exact .inl #[vs,.inl hq,by rw[Ml hs]]
 |tup ds=>cases e;let#[a,vs,rfl,hq,hs]:=h;exact .inr^.inl #[vs,.inl^.inl hq,by rw[Ml hs]]
 |bl b=>cases e;rw[h.bl];exact rfl
 |non=>cases e;rw[h];exact rfl
 |_=>cases e
def Kr(h:DE X e κ wa)(he:∀whole,isTrue e X.env whole=(do let v ←whole;standAt e.pos;holding [v]^truthy v):=by intro _;rfl):DT X e^Qj wa:=by
 let#[t,h1,h2]:=h;refine#[_,WT h1 he,λC M H n ρ Z P Q R w q=>?_];refine h2 C M H n ρ Z _ _ R w λv H' d n' e1 f1 r1 p=>?_;let#[c,hc,p]:=p;exact#[c,Vn (r1.tpOf R.dom R.vM) hc,q c H' n' e1 f1 p]
def Pu(neg:Bool)(d e:D)(P:D->Prop):Prop:=e=.non/\P^.bl (if neg then !XS d else XS d)
def ak{K:Frag}:D3 K .sh (λx y H Q=>y=.non/\Q (.bl (decide (x=.non))) H)^Pu t_:=λU M H d e x y P Q dom vM hx hy w q=>by
 let#[rfl,w]:=w;exact#[hy,q _ H _ .refl (by rw[Pn hx];rfl) w]
def YH{K:Frag}:D3 K .sh (λx y H Q=>y=.non/\Q (.bl (!decide (x=.non))) H)^Pu s_:=λU M H d e x y P Q dom vM hx hy w q=>by
 let#[rfl,w]:=w;exact#[hy,q _ H _ .refl (by rw[Pn hx];rfl) w]
end
end Dp
namespace L2
open AutoSeq1 (wpAny_loadPart')
def Ub:typeLookup (.type "list_reverseiterator") "__len__"=pure r_:=by kernel_rfl
def XZ:typeLookup (.type "list_reverseiterator") "__length_hint__"=pure^P3^.builtin "list_reverseiterator.__length_hint__":=by kernel_rfl
def boot_reversed:bootBuiltins "reversed"=P3^.type "reversed":=by decide +kernel
def fi(prog:ic)(w:ip)(St:Nat->No->Prop)(I:Ch):Prop:=∀(A:i5) (E:Db->No->Prop) (s':No) (Q:Bool->No->Prop),St 0 s'->(∀b tk,s'.toks<=tk->Q b {s' with toks:=tk})->wpAny (model prog w) A (n9^.ref I) Q E s'
section
variable {prog:Program}{w:World}{A:Around}{E:Value->Shared->Prop}{s:Shared}{I:Addr}{fp wr:u_ Addr}{G:Array GenState->Array GenState->Prop}{n:Nat}{P:Nat->Value->Prop}{St:Nat->Shared->Prop}{c:String}
def Ri{Q:u_ Db->No->Prop}(nc:(jE c==jE "list")=t_/\(jE c==jE "tuple")=t_)(hH:fi prog w St I)
  (W:WalksS prog w A.in1 I fp wr G n P St) (hT:∀i s,St i s->s.TypeIs (.ref I) c) (hst:St 0 s) (hfp:∀b∈fp,b<s.heap.objs.size) (hI:I∈fp)
  (hQ:∀s' acc,Moved wr G s s'->ItemsOf P acc n->Q acc.toList s') (hn:n<=sizeLine):wpAny (model prog w) A (collect^.ref I) Q E s:=by
 have hSf:s.heap.objs.size∉fp:=λhm=>jU _^hfp _ hm;have hSI:s.heap.objs.size≠I:=λe=>hSf (e▸hI);unfold collect;refine Cn^wpAny_runValue^jv F.entry_proto_collect ?_;rw[kJ F.plain_proto_collect _];show wpAny _ A.in1 (newList [] >>=λl=>again^.builtin "list.__iadd__" #[[l,.ref I],[]]) _ _ s;refine Cn^jg ?_;refine Op #[kA F.plain_list_iadd _,jv F.entry_list_iadd ?_];rw[kJ F.plain_list_iadd _];have hst₁:=W.frame 0 s (s.heap.push {cls:=.type "list",data:=.seq ([]:u_ Db).toArray}) s.toks hst (Sc _) λb _ o e=>FM _ e;have hS₁:(s.heap.push {cls:=.type "list",data:=.seq ([]:u_ Db).toArray}).get? s.heap.objs.size=P3 {cls:=.type "list",data:=.seq ([]:u_ Db).toArray}:=TW _ rfl;have h1:oo (.ref s.heap.objs.size)^.ref I=t_:=by simp[oo,hSI]
 show wpAny _ A.in1 (km (.ref s.heap.objs.size) (.ref I)^.ref s.heap.objs.size) _ _ _;unfold km;refine Cn^mJ (hT 0 _ hst₁) ?_;rw[if_neg^by rw[h1,nc.1,nc.2];decide];refine Cn^W.self 0 _ _ _ hst₁ ?_;refine Cn^jX ?_;refine hH _ _ _ _ hst₁ λb tk htk=>?_
 have fin:∀(h:iQ) (c₁ tk':Nat),s.toks<=tk'->St 0 {s with heap:=h,toks:=tk'}->h.get? s.heap.objs.size=P3 {cls:=.type "list",data:=.seq #[] c₁}->(∀b o,b≠s.heap.objs.size->s.heap.get? b=P3 o->h.get? b=P3 o)->
   ∀R:Result->No->Prop,(∀s' acc c,s'.heap.get? s.heap.objs.size=P3 {cls:=.type "list",dict:=r_,data:=.seq acc c,slots:=#[]}->Moved wr G s s'->ItemsOf P acc n->R (.ok^.ret^.ref s.heap.objs.size) s')->
   codeAny (model prog w) A (.builtin "list.extend.loop" #[[.ref s.heap.objs.size,.ref I,.ref s.heap.objs.size],[]]) R {s with heap:=h,toks:=tk'}:=by
  intro h c₁ tk' ht st0 hS hk R hR;refine codeAny_extend_loopS W hn _ hSf _ n 0 _ _ _ rfl (iX _) st0 hS (ItemsOf.nil P) λs' acc' c' hm hS' hacc=>hR s' acc' c' hS' #[λb o hb e=>hm.heap b o (λhmem=>?_)^hk b o (ge^T0 e) e,hm.gens,hm.drawn,hm.os,iU ht hm.toks] hacc
  rcases UF.mp hmem with e'|hmem
  .exact absurd (T0 e)^by rw[e'];exact jU _
  .exact hb hmem
 have last:∀s' acc c,s'.heap.get? s.heap.objs.size=P3 {cls:=.type "list",dict:=r_,data:=.seq acc c,slots:=#[]}->Moved wr G s s'->ItemsOf P acc n->wpAny (model prog w) A (load s.heap.objs.size >>=λo=>match o.data with
   |.seq xs _=>pure xs.toList
   |_=>unsupported "internal:collect") Q E s':=λs' acc c h1 h2 h3=>Cn^wpAny_load h1^Op^hQ s' acc h2 h3
 have st2:=W.frame 0 _ (s.heap.push {cls:=.type "list",data:=.seq ([]:u_ Db).toArray}) tk hst₁ htk λb _ o e=>e;refine wpAny_ite_split (λ_=>?_) λ_=>Op #[kA F.plain_extend_loop _,fin _ 0 tk htk st2 hS₁ (λb o _ e=>FM _ e) _ last];refine Cn^mT ?_;refine Cn ?_;show wpAny _ _ (updateSeq s.heap.objs.size (·.push .none) >>=λ_=>updateSeq s.heap.objs.size (·.pop)) _ _ _;refine Cn (lS hS₁ rfl ?_);have hS₂:=ji (jF (·.push iu)) hS₁ rfl;refine lS (hz:=by seq_fits) hS₂ rfl ?_;have hS₃:=ji (jF (·.pop)) hS₂ rfl;refine Op #[kA F.plain_extend_loop _,fin _ _ tk htk ?_ hS₃ (λb o hb e=>?_) _ last]
 .refine W.frame 0 {s with heap:=s.heap.push {cls:=.type "list",data:=.seq ([]:u_ Db).toArray},toks:=tk} _ tk st2 (Sc _) λb hb o e=>?_
  have hbS:b≠s.heap.objs.size:=λh=>hSf (h▸hb);exact(iO _ _^i_ hbS).trans^(iO _ _^i_ hbS).trans e
 .exact(iO _ _^i_ hb).trans^(iO _ _^i_ hb).trans^FM _ e
def Lh{Q₁:Db->No->Prop}(nc:(jE c==jE "list")=t_/\(jE c==jE "tuple")=t_)(hH:fi prog w St I)(W:WalksS prog w A.in1.in1 I fp wr G n P St)(hT:∀i s,St i s->s.TypeIs (.ref I) c)(hst:St 0 s)(hfp:∀b∈fp,b<s.heap.objs.size)(hI:I∈fp)
  (h:∀s' acc,Moved wr G s s'->ItemsOf P acc n->Q₁ (.ref s'.heap.objs.size) {s' with heap:=s'.heap.push {cls:=.type "tuple",data:=.seq acc}}) (hsz:n<=sizeLine):
  codeAny (model prog w) A (.call (.builtin "tuple.__new__") #[[.type "tuple",.ref I],[]]) (wants Q₁ E) s:=by
 refine codeAny_of_tree ?_;show wpAny _ A.in1 (do checkBuiltinCall "tuple.__new__" #[[.type "tuple",.ref I],[]];again^.builtin "tuple.__new__" #[[.type "tuple",.ref I],[]]) _ _ s;refine Cn^o7 (F.newCall_tuple_1 _)^Op #[kA F.plain_tuple_new _,jv F.entry_tuple_new ?_];rw[kJ F.plain_tuple_new _];have hsub:=sub_tuple_self;have hinit:=init_tuple_lookup;have hmh:=madeHere_tuple;have hTI:=hT 0 s hst;have nc2:=nc.2
 wp_walk using mJ hTI,Ri (hn:=hsz) nc hH W hT hst hfp hI
 intro s' acc hm hacc;show wpAny _ _ (mL acc.toList.toArray >>=λv=>ret v) _ _ _;unfold mL;refine Cn (jg ?_^by show acc.toList.toArray.size<=sizeLine;simp only[Array.toArray_toList];rw[hacc.1];exact hsz);refine Op ?_;have e:acc.toList.toArray=acc:=by simp
 rw[e];exact h s' acc hm hacc
def Li{Q:Db->No->Prop}(nc:(jE c==jE "list")=t_/\(jE c==jE "tuple")=t_)(hH:fi prog w St I)(W:WalksS prog w A.in1.in1.in1 I fp wr G n P St)(hT:∀i s,St i s->s.TypeIs (.ref I) c)(hst:St 0 s)(hfp:∀b∈fp,b<s.heap.objs.size)(hI:I∈fp)
  (hQ:∀s' acc,Moved wr G s s'->ItemsOf P acc n->Q (.ref s'.heap.objs.size) {s' with heap:=s'.heap.push {cls:=.type "tuple",data:=.seq acc}}) (hsz:n<=sizeLine):
  wpAny (model prog w) A (call (.type "tuple") [.ref I]) Q E s:=by
 refine callType_codes (Q₁:=λobj s₁=>s₁.TypeIs obj "tuple"/\Q obj s₁) pF (F.typeCall_tuple_1 _) F.entry_object_init
  (Lh (hsz:=hsz) nc hH W hT hst hfp hI λs' acc hm hacc=>#[#[_,TW _ rfl,rfl],hQ s' acc hm hacc]) λobj s₁ h₁=>?_
 exact#[h₁.1,F.args_object_init_2 obj _,object_init_meets pF.init.lookup pF.made (by cbv) prog w A.in1 _ s₁ #[h₁.1,rfl,h₁.2]]
def XA(hT:∀i s,St i s->s.TypeIs (.ref I) "list_reverseiterator"):fi prog w St I:=by
 intro A E s Q hst h;have h0:=hT 0 _ hst;unfold n9;refine Cn^ox h0 Ub ?_;show wpAny _ A (specialOf (iR I)^jH "__length_hint__" >>=_) _ _ _;refine Cn (ox h0 XZ ?_)
 (generalize hid:("list_reverseiterator.__length_hint__":String)=id0;wp_delta;rw[show splitId id0=P3 ("list_reverseiterator","__length_hint__")from by subst hid;decide +kernel];subst hid)
 refine Cn^mz (b:=s_) h0 (by rw[isSubtype_type];kernel_rfl) ?_;exact Op^h _ _^Sc _
end
section
variable {X:Cx}{e:Expr}{te:TE}{p1 p2 q1 q2:Pos}
def fY(X:Cx)(R:Ch->u_ V->Hp->Prop):Prop:=∀{zF:u_ (Ch×Obj)}{Z:St}{H1:Hp}{s1:No}{l:Ch}{xs:u_ V},Inv X zF Z H1 s1->R l xs H1->∃its:u_ Db,Vals xs its/\xs.length<=sizeLine/\l<s1.heap.objs.size /\
 ∀{A:i5}{E:Db->No->Prop}{Q:Db->No->Prop},(∀(o:Obj) (tk0:Nat) (c:String) (St0:Nat->No->Prop),o.isFreed=t_->(jE c==jE "list")=t_/\(jE c==jE "tuple")=t_->WalksS X.prog X.w X.A.in1.in1.in1 s1.heap.objs.size [s1.heap.objs.size,l] [s1.heap.objs.size] (λa b=>b=a) its.toArray.size (λi v=>its.toArray[its.toArray.size - 1 - i]?=P3 v) St0->
  (∀i s,St0 i s->s.TypeIs (.ref s1.heap.objs.size) c)->fi X.prog X.w St0 s1.heap.objs.size->St0 0 {s1 with heap:=s1.heap.push o,toks:=tk0}->Q (.ref s1.heap.objs.size) {s1 with heap:=s1.heap.push o,toks:=tk0})->wpAny (model X.prog X.w) A (call (.type "reversed") [.ref l]) Q E s1
def Z3(R:Ch->u_ V->Hp->Prop)(te:TE):TE:=λZ H Q=>te Z H λx H1=>∃l xs,x=.ref l/\R l xs H1/\∀r,H1 r=r_->Q (.ref r)^Av H1 r^.tup xs.reverse
def Y1{R:Ch->u_ V->Hp->Prop}(ok:fY X R)(he:PE X e te)(hg1:Gl X "tuple")(hm1:X.mg "tuple"=r_)(hg2:Gl X "reversed")(hm2:X.mg "reversed"=r_)(h1:starEach [n_ (.Name "reversed" p2) [e] [] q2] X.env=[(t_,eval (n_ (.Name "reversed" p2) [e] [] q2) X.env)])
  (h2:starEach [e] X.env=[(t_,eval e X.env)]):PE X (.Call (.Name "tuple" p1) [.Call (.Name "reversed" p2) [e] [] q2] [] q1)^Z3 R te:=by
 intro zF s Z H Q I h;refine jl^EB I hg1 hm1 kh ?_;refine jk ?_ h1 rfl;rw[h1];refine mH ?_;refine jl^EB I hg2 hm2 boot_reversed ?_;refine jk ?_ h2 rfl;rw[h2];refine mH^BG (he zF s Z H _ I h) λu s1 #[x,H1,I1,r1,l,xs,ex,hq,q]=>mX ?_;subst ex;cases r1;let#[its,r',hz,hlt,go]:=ok I1 hq;have hlen:=r'.length;refine go λo tk0 c St0 fr nc W hT hH h0=>mX ?_;have hn1:H1 s1.heap.objs.size=r_:=I1.fresh;have I2:Inv X zF Z H1 {s1 with heap:=s1.heap.push o,toks:=tk0}:=I1.kept (t':=tk0) λb o e=>FM _ e;have fpk:HB X zF H1 s1.heap.objs.size:=I1.fpOk (Sc _) hn1;refine Li nc hH W hT h0 (λb hb=>?_) On (λs' acc hm hacc=>?_)^by rw[f8,←hlen];exact hz
 .rcases UF.mp hb with rfl|hb
  .exact T0^TW _ fr
  .obtain rfl:=Re.mp hb
   exact ir hlt^by show s1.heap.objs.size<=(s1.heap.push _).objs.size;rw[size_push'];exact jP _
 .let#[h',g',d',tk',os']:=s'
  have e1:g'=s1.gens:=hm.gens;have e2:d'=s1.drawn:=hm.drawn;have e3:os'=s1.os:=hm.os;subst e1 e2 e3;have I3':=I2.turnedL (h':=h') (t':=tk') (ch:=[s1.heap.objs.size]) (λc hc=>by rw[Re.mp hc];exact fpk) λb o hb e=>hm.heap b o hb e;have I3:Inv X zF Z H1 {s1 with heap:=h',toks:=tk'}:=I3'
  have hv:acc.toList=its.reverse:=by
   refine oP λi=>?_;let#[a1,a2]:=hacc;have e0:acc.toList[i]?=acc[i]?:=by simp
   rw[e0]
   by_cases hi:i<its.length
   .have hi2:i<acc.size:=by rw[a1,f8];exact hi
    have a3:=a2 i acc[i] (k9 hi2);rw[List.getElem?_reverse hi,k9 hi2,←a3,f8];simp
   .rw[lj^by rw[nY];lk]
    exact o9^by rw[a1,f8];lk
  have hv2:acc=its.reverse.toArray:=by rw[←hv]
  have rr:Vals xs.reverse its.reverse:=r'.reverse;refine#[.ref h'.objs.size,Av H1 h'.objs.size^.tup xs.reverse,I3.laid (t':=tk') (λb o e=>FM _ e) (Sc _) (show ObjOk X.prog X.w _ _ _^.tup xs.reverse from#[by rw[nY];exact hz,its.reverse,rr,by rw[hv2];exact IsTupN.new _ _]),rfl,q _^I3.hok.fresh^Sc _]
def Yh(K:Frag)(te:TE):TE:=Z3 (λl xs H=>SqL K H l xs) te
def UR(hc:X.calm=s_)(he:PE X e te)(hg1:Gl X "tuple")(hm1:X.mg "tuple"=r_)(hg2:Gl X "reversed")(hm2:X.mg "reversed"=r_)(h1:starEach [n_ (.Name "reversed" p2) [e] [] q2] X.env=[(t_,eval (n_ (.Name "reversed" p2) [e] [] q2) X.env)]:=by rfl)
  (h2:starEach [e] X.env=[(t_,eval e X.env)]:=by rfl):PE X (.Call (.Name "tuple" p1) [.Call (.Name "reversed" p2) [e] [] q2] [] q1)^Yh X.K te:=by
 refine Y1 (λ{zF Z H1 s1 l xs} I1 hq=>?_) he hg1 hm1 hg2 hm2 h1 h2;let#[its,r',pl,hz]:=I1.list hq;have hl:s1.heap.IsList l its.toArray:=pl.isList;have hlt:l<s1.heap.objs.size:=by let#[_,e,_]:=id hl;exact T0 e
 refine#[its,r',hz,hlt,λ{A E Q} k=>call_reversed_list hl (k (revObj l ((its.toArray.size:Int) - 1)) s1.toks "list_reverseiterator" _ rfl (by cbv) (Walks.listRev (A:=X.A.in1.in1.in1) (I1.ok.hd hc) s1.heap.objs.size l (ge hlt) its.toArray).toS (λi s' hs=>hs.2.1.typeIs) (XA λi s' hs=>hs.2.1.typeIs) #[iX _,#[_,TW _ rfl,rfl,by show Data.fields _=_;simp[revObj]],hl.push _])]
end
end L2
namespace Dp
open L2
def SH(wa:DW):DW:=λn ρ P=>wa n ρ λd n1=>∃xs,d=.lst xs/\P (.tup xs.reverse) n1
section
variable {X:Cx}{a:Expr}{zU:Kd}{wa:DW}{p1 p2 q1 q2:Pos}
def U4(hc:X.calm=s_)(ha:DE X a zU wa)(hg1:Gl X "tuple")(hm1:X.mg "tuple"=r_)(hg2:Gl X "reversed")(hm2:X.mg "reversed"=r_)(h1:starEach [n_ (.Name "reversed" p2) [a] [] q2] X.env=[(t_,eval (n_ (.Name "reversed" p2) [a] [] q2) X.env)]:=by rfl)
  (h2:starEach [a] X.env=[(t_,eval a X.env)]:=by rfl):DE X (.Call (.Name "tuple" p1) [.Call (.Name "reversed" p2) [a] [] q2] [] q1) .sh^SH wa:=by
 let#[t,a1,a2]:=ha;refine#[_,UR hc a1 hg1 hm1 hg2 hm2 h1 h2,λC M H n ρ Z P Q R w q=>?_];refine a2 C M H n ρ Z _ _ R w λv H1 d n1 e1 f1 r1 p=>?_;let#[xs,rfl,p]:=p;have R1:=R.step e1 f1;let#[ad,vs,rfl,nV,hq,hs]:=r1.tpOf R.dom R.vM;refine#[ad,vs,rfl,.inl hq,λr hr=>?_];have g:Grow H1^Av H1 r^.tup vs.reverse:=Ap hr;exact q _ _ (.tup _) n1 (e1.trans g.ext) (f1.grow g) (C9 R1.dom hr^hs.reverse) p
end
end Dp
namespace Nt
open L2 Dp
def Ed(N:Net)(x y:Str)(l:Int):Prop:=(y,l)∈Dr N.ts x
inductive Wk (N:Net) (s:Str):Str->Int->Prop
 |nil:Wk N s s 0
 |snoc {x y:Str}{d l:Int}:Wk N s x d->Ed N x y l->Wk N s y (d+l)
def Least(N:Net)(s x:Str)(d:Int):Prop:=Wk N s x d/\∀d',Wk N s x d'->d<=d'
def Ed.pos{N:Net}(ok:N.Ok){x y:Str}{l:Int}(h:Ed N x y l):1<=l/\l<=1000000:=by
 let#[_,h1,h2,_]:=RL ok h
 simp_all
def Ed.ins{N:Net}(ok:N.Ok){x y:Str}{l:Int}(h:Ed N x y l):y∈N.ps:=(RL ok h).1
def Wk.pos{N:Net}(ok:N.Ok){s x:Str}{d:Int}(h:Wk N s x d):0<=d:=by
 induction h with
 |nil=>lk
 |snoc _ he ih=>have:=he.pos ok;lk
def Least.unique{N:Net}{s x:Str}{d d':Int}(h:Least N s x d)(h':Least N s x d'):d=d':=by
 have:=h.2 d' h'.1
 have:=h'.2 d h.1
 omega
def N5{N:Net}{s:Str}{F:Str->v_ Int}(h0:∃d,F s=P3 d/\d<=0)(hw:∀x d,F x=P3 d->Wk N s x d)(hc:∀x d y l,F x=P3 d->Ed N x y l->∃d',F y=P3 d'/\d'<=d+l):
  (∀x d,F x=P3 d->Least N s x d)/\∀x d,Wk N s x d->F x≠r_:=by
 have main:∀x d,Wk N s x d->∃d',F x=P3 d'/\d'<=d:=by
  intro x d h
  induction h with
  |nil=>exact h0
  |snoc _ he ih=>
   grind
 refine#[λx d e=>#[hw x d e,λd' h=>?_],λx d h e=>?_]
 .let#[d1,e1,h1]:=main x d' h
  simp_all
 .let#[d1,e1,_]:=main x d h
  grind
structure Dmap (ks:List Key) (ds:List D) (Bx:α->D) (F:Str->Option α):Prop where
 len:ks.length=ds.length
 at_:∀x:Str,Bw ks ds^.inr x=(F x).map Bx
 dom:∀k∈ks,∃x:Str,k=.inr x
 nd:ks.Nodup
def Dmap.mem{α:Type}{ks:u_ Key}{ds:u_ D}{Bx:α->D}{F:Str->v_ α}(h:Dmap ks ds Bx F)(x:Str):(.inr x∈ks)↔F x≠r_:=by
 constructor
 .intro hm e
  let#[z,hz]:=L1 h.len hm;rw[h.at_,e]at hz;cases hz
 .intro hn
  by_cases hm:jx x∈ks
  .exact hm
  .have:=L3 (ds:=ds) hm
   rw[h.at_]at this
   simp_all
def Dmap.one{α:Type}{Bx:α->D}{s:Str}{a:α}:Dmap [.inr s] [Bx a] Bx (λx=>if x=s then P3 a else r_):=by
 refine#[rfl,λx=>?_,λk hk=>#[s,Re.mp hk],iW.mpr #[ig,jI]];show(if jx s=.inr x then P3 _ else r_)=(if x=s then P3 a else r_).map _
 by_cases e:x=s
 .simp_all
 .rw[if_neg e,if_neg λz=>e (jo z).symm];rfl
def Jp{α:Type}(F:Str->v_ α)(x:Str)(a:α):Str->v_ α:=λy=>if y=x then P3 a else F y
def CY{α:Type}{F:Str->v_ α}{x:Str}{a:α}:Jp F x a x=P3 a:=if_pos rfl
def CL{α:Type}{F:Str->v_ α}{x y:Str}{a:α}(h:y≠x):Jp F x a y=F y:=if_neg h
def Dmap.put{α:Type}{ks:u_ Key}{ds:u_ D}{Bx:α->D}{F:Str->v_ α}(h:Dmap ks ds Bx F)(x:Str)(a:α):Dmap (C4 ks^.inr x) (C3 ks ds (.inr x)^Bx a) Bx^Jp F x a:=by
 refine#[Sl h.len,λy=>?_,λk hk=>?_,?_]
 .rw[Vh h.len]
  unfold Jp
  by_cases e:y=x
  .rw[if_pos e,if_pos^by rw[e]];rfl
  .rw[if_neg e,if_neg λz=>e^jo z,h.at_]
 .unfold C4 at hk
  split at hk
  .exact h.dom k hk
  .rcases iP.mp hk with hk|hk
   .exact h.dom k hk
   simp_all
 .unfold C4
  split
  .exact h.nd
  .rename_i hn
   rw[jh];refine#[h.nd,iW.mpr #[ig,jI],λa ha b hb e=>hn^hasK_iff.mpr ?_]
   grind
def Dmap.le{α:Type}{ks:u_ Key}{ds:u_ D}{Bx:α->D}{F:Str->v_ α}(h:Dmap ks ds Bx F){ps:u_ Str}(hp:∀x,F x≠r_->x∈ps):ks.length<=ps.length:=by
 have:∀(ks:u_ Key) (ps:u_ Str),ks.Nodup->(∀k∈ks,∃x:Str,k=.inr x/\x∈ps)->ks.length<=ps.length:=by
  intro ks
  induction ks with
  |nil=>simp_all
  | cons k ks ih=>
   intro ps hn hm;let#[x,rfl,hx]:=hm k On;have hn:=iW.mp hn
   have h1:=ih (ps.erase x) hn.2 λj hj=>by
    let#[y,rfl,hy]:=hm j^TM _ hj
    grind
   grind
 refine this ks ps h.nd λk hk=>?_;let#[x,rfl]:=h.dom k hk;exact#[x,rfl,hp x^(h.mem x).mp hk]
abbrev Qe:=Str->v_ (Int×v_ Str)
structure Dj (N:Net) (s:Str) (F:Qe) (Wt:List Str):Prop where
 start:F s=P3 (0,r_)
 ins:∀x,F x≠r_->x∈N.ps
 wk:∀x d p,F x=P3 (d,p)->Wk N s x d
 prev:∀x d p,F x=P3 (d,p)->(p=r_/\x=s)\/∃y dy q l,p=P3 y/\F y=P3 (dy,q)/\y∉Wt/\Ed N y x l/\d=dy+l
 wfound:∀x∈Wt,F x≠r_
 nd:Wt.Nodup
 done:∀x d p y l,F x=P3 (d,p)->x∉Wt->Ed N x y l->∃dy q,F y=P3 (dy,q)/\dy<=d+l
 near:∀x d p y dy q,F x=P3 (d,p)->x∉Wt->F y=P3 (dy,q)->y∈Wt->d<=dy
def Dj.init{N:Net}{s:Str}(hs:s∈N.ps):Dj N s (λx=>if x=s then P3 (0,r_)else r_) [s]:=by
 have iff:∀x d p,(if x=s then P3 ((0:Int),(r_:v_ Str))else r_)=P3 (d,p)->x=s/\d=0/\p=r_:=λx d p e=>by
  grind
 refine#[if_pos rfl,λx e=>?_,λx d p e=>?_,λx d p e=>?_,λx hx=>?_,iW.mpr #[ig,jI],λx d p y l e hx=>?_,λx d p y dy q e hx=>?_]
 .grind
 .let#[rfl,rfl,rfl]:=iff x d p e
  exact .nil
 .let#[rfl,rfl,rfl]:=iff x d p e
  exact .inl #[rfl,rfl]
 .simp_all
 .exact absurd (Re.mpr (iff x d p e).1) hx
 .exact absurd (Re.mpr (iff x d p e).1) hx
structure Dm (N:Net) (s:Str) (F:Qe) (Wt:List Str) (v:Str) (dv:Int) (seen:List (Str×Int)):Prop where
 start:F s=P3 (0,r_)
 ins:∀x,F x≠r_->x∈N.ps
 wk:∀x d p,F x=P3 (d,p)->Wk N s x d
 prev:∀x d p,F x=P3 (d,p)->(p=r_/\x=s)\/∃y dy q l,p=P3 y/\F y=P3 (dy,q)/\y∉Wt/\Ed N y x l/\d=dy+l
 wfound:∀x∈Wt,F x≠r_
 nd:Wt.Nodup
 done:∀x d p y l,F x=P3 (d,p)->x∉Wt->x≠v->Ed N x y l->∃dy q,F y=P3 (dy,q)/\dy<=d+l
 near:∀x d p y dy q,F x=P3 (d,p)->x∉Wt->F y=P3 (dy,q)->y∈Wt->d<=dy
 here:∃p,F v=P3 (dv,p)
 out:v∉Wt
 least:∀x d p,F x=P3 (d,p)->x∉Wt->d<=dv
 gone:∀y l,(y,l)∈seen->∃dy q,F y=P3 (dy,q)/\dy<=dv+l
def Dj.take{N:Net}{s:Str}{F:Qe}{Wt:u_ Str}(h:Dj N s F Wt){v:Str}{dv:Int}{p:v_ Str}(hv:v∈Wt)(e:F v=P3 (dv,p))(hmin:∀y∈Wt,∀dy q,F y=P3 (dy,q)->dv<=dy):Dm N s F (Wt.erase v) v dv []:=by
 have sub:∀x,x∈Wt.erase v->x∈Wt:=λx hx=>List.mem_of_mem_erase hx;have out:v∉Wt.erase v:=λz=>(h.nd.mem_erase_iff.mp z).1 rfl
 have back:∀x,x∉Wt.erase v->x=v\/x∉Wt:=λx hx=>by
  grind
 refine#[h.start,h.ins,h.wk,λx d q ex=>?_,λx hx=>h.wfound x^sub x hx,h.nd.erase v,λx d q y l ex hx nx he=>?_,λx d q y dy q2 ex hx ey hy=>?_,#[p,e],out,λx d q ex hx=>?_,λy l hy=>by cases hy]
 .rcases h.prev x d q ex with z|⟨y,dy,q2,l,e1,e2,e3,e4,e5⟩
  .exact .inl z
  .exact .inr #[y,dy,q2,l,e1,e2,λz=>e3^sub y z,e4,e5]
 .rcases back x hx with z|z
  .exact absurd z nx
  .exact h.done x d q y l ex z he
 .rcases back x hx with z|z
  .subst z
   rw[e]at ex;cases ex;exact hmin y (sub y hy) dy q2 ey
  .exact h.near x d q y dy q2 ex z ey^sub y hy
 .rcases back x hx with z|z
  .grind
  .exact h.near x d q v dv p ex z e hv
def Dm.finish{N:Net}{s:Str}{F:Qe}{Wt:u_ Str}{v:Str}{dv:Int}{seen:u_ (Str×Int)}(h:Dm N s F Wt v dv seen)(hs:∀y l,Ed N v y l->(y,l)∈seen):Dj N s F Wt:=by
 refine#[h.start,h.ins,h.wk,h.prev,h.wfound,h.nd,λx d p y l e hx he=>?_,h.near]
 by_cases z:x=v
 .subst z
  let#[p',e']:=h.here;rw[e']at e;cases e;exact h.gone y l^hs y l he
 .exact h.done x d p y l e hx z he
def Dm.find{N:Net}(ok:N.Ok){s:Str}{F:Qe}{Wt:u_ Str}{v:Str}{dv:Int}{seen:u_ (Str×Int)}(h:Dm N s F Wt v dv seen){y:Str}{l:Int}(he:Ed N v y l)(hy:F y=r_):Dm N s (Jp F y (dv+l,P3 v)) (Wt++[y]) v dv (seen++[(y,l)]):=by
 have hpos:=(he.pos ok).1;let#[pv,ev]:=h.here;have ne:∀x d p,F x=P3 (d,p)->x≠y:=λx d p e z=>by rw[z,hy]at e;cases e
 have keep:∀x d p,F x=P3 (d,p)->Jp F y (dv+l,P3 v) x=P3 (d,p):=λx d p e=>by rw[CL^ne x d p e];exact e
 have yW:y∉Wt:=λz=>h.wfound y z hy
 have cases_:∀x d p,Jp F y (dv+l,P3 v) x=P3 (d,p)->(x=y/\d=dv+l/\p=P3 v)\/(x≠y/\F x=P3 (d,p)):=λx d p e=>by
  by_cases z:x=y
  .rw[z,CY]at e;cases e;exact .inl #[z,rfl,rfl]
  .rw[CL z]at e;exact .inr #[z,e]
 have inW:∀x,x∉Wt++[y]->x∉Wt/\x≠y:=λx hx=>#[λz=>hx^jZ _ z,λz=>hx^iV _^by rw[z];exact Re.mpr rfl]
 have vW:v∉Wt++[y]:=λz=>by
  rcases iP.mp z with z|z
  .exact h.out z
  .exact ne v dv pv ev^Re.mp z
 refine#[keep _ _ _ h.start,λx hx=>?_,λx d p e=>?_,λx d p e=>?_,λx hx=>?_,?_,λx d p z l2 e hx nx he2=>?_,λx d p z dz q e hx ez hz=>?_,#[pv,keep _ _ _ ev],vW,λx d p e hx=>?_,λz l2 hz=>?_]
 .by_cases z:x=y
  .rw[z];exact he.ins ok
  .rw[CL z]at hx;exact h.ins x hx
 .rcases cases_ x d p e with⟨rfl,rfl,_⟩|⟨_,e⟩
  .exact .snoc (h.wk v dv pv ev) he
  .exact h.wk x d p e
 .rcases cases_ x d p e with⟨rfl,rfl,rfl⟩|⟨_,e⟩
  .exact .inr #[v,dv,pv,l,rfl,keep _ _ _ ev,vW,he,rfl]
  .rcases h.prev x d p e with z|⟨u,du,q,l2,e1,e2,e3,e4,e5⟩
   .exact .inl z
   .refine .inr #[u,du,q,l2,e1,keep _ _ _ e2,λz=>?_,e4,e5]
    rcases iP.mp z with z|z
    .exact e3 z
    .exact ne u du q e2^Re.mp z
 .rcases iP.mp hx with hx|hx
  .have:=h.wfound x hx
   cases e:F x with
   |none=>exact absurd e this
   |some a=>rw[keep x a.1 a.2 e];intro z;cases z
  .rw[Re.mp hx,CY];intro z;cases z
 .rw[jh]
  exact#[h.nd,iW.mpr #[ig,jI],λa ha b hb e=>yW^by rw[←Re.mp hb,←e];exact ha]
 .let#[w1,w2]:=inW x hx
  rcases cases_ x d p e with⟨z,_⟩|⟨_,e⟩
  .exact absurd z w2
  .let#[d3,q3,e3,h3]:=h.done x d p z l2 e w1 nx he2
   exact#[d3,q3,keep _ _ _ e3,h3]
 .let#[w1,w2]:=inW x hx
  rcases cases_ x d p e with⟨z,_⟩|⟨_,ex⟩
  .exact absurd z w2
  .rcases cases_ z dz q ez with⟨_,e2,_⟩|⟨nz,ez⟩
   .have:=h.least x d p ex w1
    omega
   .rcases iP.mp hz with hz|hz
    .exact h.near x d p z dz q ex w1 ez hz
    .exact absurd (Re.mp hz) nz
 .let#[w1,w2]:=inW x hx
  rcases cases_ x d p e with⟨z,_⟩|⟨_,e⟩
  .exact absurd z w2
  .exact h.least x d p e w1
 .rcases iP.mp hz with hz|hz
  .let#[d3,q3,e3,h3]:=h.gone z l2 hz
   exact#[d3,q3,keep _ _ _ e3,h3]
  .cases Re.mp hz
   exact#[_,_,CY,o_ _]
def Dm.nearer{N:Net}(ok:N.Ok){s:Str}{F:Qe}{Wt:u_ Str}{v:Str}{dv:Int}{seen:u_ (Str×Int)}(h:Dm N s F Wt v dv seen){y:Str}{l dy:Int}{qy:v_ Str}(he:Ed N v y l)(hy:F y=P3 (dy,qy))(hlt:dv+l<dy):Dm N s (Jp F y (dv+l,P3 v)) Wt v dv (seen++[(y,l)]):=by
 have hpos:=(he.pos ok).1;let#[pv,ev]:=h.here
 have yW:y∈Wt:=by
  by_cases z:y∈Wt
  .exact z
  .have:=h.least y dy qy hy z
   omega
 have vy:v≠y:=λz=>h.out (by rw[z];exact yW);have keep:∀x,x∉Wt->Jp F y (dv+l,P3 v) x=F x:=λx hx=>CL λz=>hx^by rw[z];exact yW
 have cases_:∀x d p,Jp F y (dv+l,P3 v) x=P3 (d,p)->(x=y/\d=dv+l/\p=P3 v)\/(x≠y/\F x=P3 (d,p)):=λx d p e=>by
  by_cases z:x=y
  .rw[z,CY]at e;cases e;exact .inl #[z,rfl,rfl]
  .rw[CL z]at e;exact .inr #[z,e]
 have less:∀x d p,F x=P3 (d,p)->∃d' q,Jp F y (dv+l,P3 v) x=P3 (d',q)/\d'<=d:=λx d p e=>by
  by_cases z:x=y
  .subst z
   rw[hy]at e;cases e;exact#[_,_,CY,by lk]
  .exact#[d,p,by rw[CL z];exact e,o_ _]
 have sy:s≠y:=λz=>by
  have:=h.start
  rw[z,hy]at this;cases this
  have:=(h.wk v dv pv ev).pos ok
  omega
 refine#[by rw[CL sy];exact h.start,λx hx=>?_,λx d p e=>?_,λx d p e=>?_,λx hx=>?_,h.nd,λx d p z l2 e hx nx he2=>?_,λx d p z dz q e hx ez hz=>?_,#[pv,by rw[CL vy];exact ev],h.out,λx d p e hx=>?_,λz l2 hz=>?_]
 .by_cases z:x=y
  .rw[z];exact he.ins ok
  .rw[CL z]at hx;exact h.ins x hx
 .rcases cases_ x d p e with⟨rfl,rfl,_⟩|⟨_,e⟩
  .exact .snoc (h.wk v dv pv ev) he
  .exact h.wk x d p e
 .rcases cases_ x d p e with⟨rfl,rfl,rfl⟩|⟨_,e⟩
  .exact .inr #[v,dv,pv,l,rfl,by rw[CL vy];exact ev,h.out,he,rfl]
  .rcases h.prev x d p e with z|⟨u,du,q,l2,e1,e2,e3,e4,e5⟩
   .exact .inl z
   .exact .inr #[u,du,q,l2,e1,by rw[keep u e3];exact e2,e3,e4,e5]
 .by_cases z:x=y
  .rw[z,CY];intro w;cases w
  .rw[CL z];exact h.wfound x hx
 .rw[keep x hx]at e
  let#[d3,q3,e3,h3]:=h.done x d p z l2 e hx nx he2;let#[d4,q4,e4,h4]:=less z d3 q3 e3;exact#[d4,q4,e4,by lk]
 .rw[keep x hx]at e
  rcases cases_ z dz q ez with⟨rfl,rfl,_⟩|⟨nz,ez⟩
  .have:=h.least x d p e hx
   omega
  .exact h.near x d p z dz q e hx ez hz
 .rw[keep x hx]at e
  exact h.least x d p e hx
 .rcases iP.mp hz with hz|hz
  .let#[d3,q3,e3,h3]:=h.gone z l2 hz
   let#[d4,q4,e4,h4]:=less z d3 q3 e3;exact#[d4,q4,e4,by lk]
  .cases Re.mp hz
   exact#[_,_,CY,o_ _]
def Dm.skip{N:Net}{s:Str}{F:Qe}{Wt:u_ Str}{v:Str}{dv:Int}{seen:u_ (Str×Int)}(h:Dm N s F Wt v dv seen){y:Str}{l dy:Int}{qy:v_ Str}(hy:F y=P3 (dy,qy))(hle:dy<=dv+l):Dm N s F Wt v dv (seen++[(y,l)]):=by
 refine#[h.start,h.ins,h.wk,h.prev,h.wfound,h.nd,h.done,h.near,h.here,h.out,h.least,λz l2 hz=>?_]
 rcases iP.mp hz with hz|hz
 .exact h.gone z l2 hz
 simp_all
structure Told (N:Net) (s:Str) (F:Qe):Prop where
 start:F s=P3 (0,r_)
 ins:∀x,F x≠r_->x∈N.ps
 least:∀x d p,F x=P3 (d,p)->Least N s x d
 all:∀x d,Wk N s x d->F x≠r_
 prev:∀x d p,F x=P3 (d,p)->(p=r_/\x=s)\/∃y dy q l,p=P3 y/\F y=P3 (dy,q)/\Ed N y x l/\d=dy+l
def Dj.told{N:Net}{s:Str}{F:Qe}(h:Dj N s F []):Told N s F:=by
 have cl:=N5 (N:=N) (s:=s) (F:=λx=>(F x).map (·.1)) #[0,by rw[h.start];rfl,o_ _] (λx d e=>by
  let#[#[d',p],e1,e2]:=io.mp e;cases e2;exact h.wk x _ p e1) (λx d y l e he=>by
  let#[#[d',p],e1,e2]:=io.mp e;cases e2;let#[dy,q,e3,h3]:=h.done x _ p y l e1 ig he;exact#[dy,by rw[e3];rfl,h3])
 refine#[h.start,h.ins,λx d p e=>cl.1 x d (by rw[e];rfl),λx d hw e=>cl.2 x d hw (by rw[e];rfl),λx d p e=>?_]
 rcases h.prev x d p e with z|⟨y,dy,q,l,e1,e2,_,e4,e5⟩
 .exact .inl z
 simp_all
abbrev Kn:=Str->v_ Int
structure Bf (N:Net) (s:Str) (c:Nat) (K:Kn):Prop where
 start:∃d,K s=P3 d/\d<=0
 ins:∀x,K x≠r_->x∈N.ps
 wk:∀x d,K x=P3 d->Wk N s x d
 top:∀x d,K x=P3 d->d<=1000000*(c:Int)
structure hZ (N:Net) (s:Str) (K:Kn):Prop where
 ins:∀x,K x≠r_->x∈N.ps
 least:∀x d,K x=P3 d->Least N s x d
 all:∀x d,Wk N s x d->K x≠r_
 top:∀x d,K x=P3 d->d<=30000000
def walk(N:Net):u_ Str->Int->Prop
 |[],_=>False
 |[_],d=>d=0
 |x::y::r,d=>∃l e,Ed N x y l/\walk N (y::r) e/\d=l+e
def Tv{N:Net}{x y:Str}{r:u_ Str}{d l:Int}(he:Ed N x y l)(h:walk N (y::r) d):walk N (x::y::r) (l+d):=#[l,d,he,h,rfl]
def gu(N:Net)(a b:Str):v_ Int->Prop
 |some d=>Least N a b d
 |none=>∀d,¬Wk N a b d
def Told.far{N:Net}{s:Str}{F:Qe}(h:Told N s F)(x:Str):gu N s x ((F x).map (·.1)):=by
 cases e:F x with
 |none=>exact λd hw=>h.all x d hw e
 |some a=>exact h.least x _ _ e
def Way(N:Net)(a b:Str)(o:v_^u_ Str):Prop:=match o with
 |some w=>∃d r,w=a::r/\w.getLast?=P3 b/\walk N w d/\Least N a b d/\w.length<=30/\∀x∈w,x∈N.ps
 |none=>∀d,¬Wk N a b d
def eZ:v_ Str->D
 |some y=>.str y
 |none=>.non
def eg:v_ Int->D
 |some y=>.int y
 |none=>.non
def eY:v_^u_ Str->D
 |some w=>.tup^w.map .str
 |none=>.non
def Iy(p:Int×v_ Str):D:=.tup [.int p.1,eZ p.2]
def okN(N:Net):Prop:=N.Ok/\N.ps.length<=25/\N.ts.length<=60
def YQ:W2:=λss n P=>∃(Wt:u_ Str) (ks:u_ Key) (ds:u_ D) (F:Qe),ss=[.br^.lst^Wt.map .str,.br^.dic ks ds]/\Dmap ks ds Iy F/\(∀x∈Wt,F x≠r_)/\Wt≠[]/\Wt.length<=100 /\
 ∀v∈Wt,(∀y∈Wt,∀dv pv dy py,F v=P3 (dv,pv)->F y=P3 (dy,py)->dv<=dy)->P (.str v) n
def OW:W2:=λss n P=>∃(N:Net) (s:Str),ss=[.sh^Bx N,.sh^.str s]/\okN N/\s∈N.ps/\∀(ks:u_ Key) (ds:u_ D) (F:Qe),Dmap ks ds Iy F->Told N s F->P (.dic ks ds) n
def Zt:W2:=λss n P=>∃(N:Net) (a b:Str),ss=[.sh^Bx N,.sh^.str a,.sh^.str b]/\okN N/\a∈N.ps/\b∈N.ps/\∀o,gu N a b o->P (eg o) n
def c6:W2:=λss n P=>∃(N:Net) (a b:Str),ss=[.sh^Bx N,.sh^.str a,.sh^.str b]/\okN N/\a∈N.ps/\b∈N.ps/\∀o,Way N a b o->P (eY o) n
def Gy:Af:=(Aq^AZ A2 (Bi Xh^AE (Bl [P3 1,r_] (BM^Al 0) (Az 1) Il^BA^AE (AZ A2 (AZ BK (Al 0)^AB 1)^wC^D.int 0)^AE (AB 1) AT) AT)^wC^D.int 1)
def G0:Af:=(Ac (A6 2^Ae OT^AD (AM^AB 0) AS)
 (Ac (DH 3^Ve (AB 1)^BA^AE (wC^D.int 0)^AE (wC D.non) AT)
 (Ac (DH 4^Ct^AE (AB 1) AT)
 (Ac (Mp (Qj^Al 4) (Ac (A6 5^Ae YQ^AD (BB^Al 4)^AD (BB^Al 3) AS)
 (Ac (SJ 4 "list" cW^AE (AB 5) AT)
 (Oe (wItems^AZ BK (AB 2)^AB 5) (N9 2^Br (Az 6)^Br (Az 7) Gv) (Ac (A6 8^AZ BX (AZ A2 (AZ BK (Al 3)^AB 5)^wC^D.int 0)^AB 7)
 (A_ (Ab^AZ (Nv s_) (AB 6)^Al 3) (Ac (SJ 4 "list" Hb^AE (AB 6) AT)
 (Of 3 (AB 6)^BA^AE (AB 8)^AE (AB 5) AT))^A_ (Ab^AZ Gi (AB 8)^AZ A2 (AZ BK (Al 3)^AB 6)^wC^D.int 0) (Of 3 (AB 6)^BA^AE (AB 8)^AE (AB 5) AT) Au))))))
 (Vb 3)))))
def af:Af:=(Ac (A6 3^Ae OW^AD (AM^AB 0)^AD (AM^AB 1) AS)
 (Aq^Yd (Ab^AZ (Nv t_) (AB 2)^AB 3) (AZ A2 (AZ BK (AB 3)^AB 2)^wC^D.int 0)^wC D.non))
def QD:Af:=(Ac (A6 3^Ae OW^AD (AM^AB 0)^AD (AM^AB 1) AS)
 (Ac (A_ (Ab^AZ (Nv s_) (AB 2)^AB 3) (Aq^wC D.non) Au)
 (Ac (DH 4^Ct AT)
 (Ac (A6 5^AB 2)
 (Ac (Mp (Ab^AZ (Pu s_) (AB 5)^wC D.non) (Ac (SJ 4 "list" Hb^AE (AB 5) AT)
 (A6 5^AZ A2 (AZ BK (AB 3)^AB 5)^wC^D.int 1)))
 (Aq^SH^Al 4))))))
def gh{i j:Int}{x y:Str}(h:A8 [.inl j,.inr y] [.inl i,.inr x]=t_):i<=j:=by
 have h:(if m8 j=.inl i then(if jx y=.inr x then t_ else decide _)else decide _)=t_:=h
 grind
section
variable {ss:u_ Slot}{n:Sg}{Pd:D->Sg->Prop}
def LQ(h:YQ ss n Pd):Gy (EE Pd) n (ss++Tk 0 .no):=by
 let#[Wt,ks,ds,F,rfl,M,hF,hne,hl,p]:=h;unfold Gy;refine#[by show(Wt.map D.str).length<=10000000;rw[Ev];lk,?_]
 have dist:∀x∈Wt,∃d q,F x=P3 (d,q):=λx hx=>by
  cases e:F x with
  |none=>exact absurd e^hF x hx
  |some a=>exact#[a.1,a.2,rfl]
 refine Bk (λd=>match d with|.str x=>.tup [.int ((F x).getD (0,r_)).1,.str x]|d=>d) (λρ=>∃s,ρ=[.br^.dic ks ds,s]) _ _ _ _ ?_ #[_,rfl] ?_
 .rintro d hd ρ m nx ⟨s,rfl⟩ hnx
  let#[x,hx,rfl]:=Rs.mp hd;let#[dx,q,ex]:=dist x hx;refine#[ks,ds,_,Iy (dx,q),rfl,rfl,by rw[M.at_,ex];rfl,_,AH (j:=0) rfl,(by cbv:2<=sizeLine),?_]
  grind
 rw[iw,jb];refine#[_,rfl,?_,#[λx hx=>?_,λx hx y hy ka kb ea eb=>?_],λx hx hmin=>?_]
 .rw[Ev]
  cases Wt with
  |nil=>exact absurd rfl hne
  |cons a r=>exact Nat.succ_pos _
 .let#[z,_,rfl]:=Rs.mp hx
  exact#[_,rfl,jd _ _]
 .let#[z,_,rfl]:=Rs.mp hx
  let#[u,_,rfl]:=Rs.mp hy;cases(show P3 [m8 _,jx _]=P3 ka from ea);cases(show P3 [m8 _,jx _]=P3 kb from eb);rfl
 .let#[v,hv,rfl]:=Rs.mp hx
  refine#[_,AH (j:=1) rfl,p v hv λy hy dv pv dy py ev ey=>?_]
  have:=gh (hmin _ (Rs.mpr #[y,hy,rfl]) _ _ rfl rfl)
  rw[ev,ey]at this;exact this
def B2(x:Str):keyOf^.str x=P3^.inr x:=rfl
def Uh{N:Net}(ok:N.Ok){xs:u_ Str}(h:∀x∈xs,x∈N.ps):Cw^.lst^xs.map .str:=Ds λd hd=>by
  let#[x,hx,rfl]:=Rs.mp hd;exact Dv^ok.names x^h x hx
def Qi{N:Net}{Wt:u_ Str}(hn:Wt.Nodup)(h:∀x∈Wt,x∈N.ps):Wt.length<=N.ps.length:=by
 have:∀(xs ps:u_ Str),xs.Nodup->(∀x∈xs,x∈ps)->xs.length<=ps.length:=by
  intro xs
  induction xs with
  |nil=>grind
  |cons x xs ih=>
   intro ps hn hm;have hx:=hm x On;have hn:=iW.mp hn;have h1:=ih (ps.erase x) hn.2 λj hj=>(List.mem_erase_of_ne λe=>hn.1^by simp_all).mpr^hm j^TM _ hj
   grind
 simp_all
def PB(ks:u_ Key)(k:Key):(C4 ks k).length=if Ki ks k=s_ then ks.length else ks.length+1:=by
 unfold C4
 split
 .rfl
 simp_all
def Dmap.has{α:Type}{ks:u_ Key}{ds:u_ D}{Bx:α->D}{F:Str->v_ α}(h:Dmap ks ds Bx F){x:Str}:(F x=r_->Ki ks^.inr x=t_)/\(F x≠r_->Ki ks^.inr x=s_):=by
 constructor
 .intro e
  cases c:Ki ks _ with
  |false=>rfl
  |true=>exact absurd e^(h.mem x).mp^hasK_iff.mp c
 .intro e
  exact hasK_iff.mpr^(h.mem x).mpr e
def T5{N:Net}{x:Str}(hx:x∈N.ps):Bw (N.ps.map .inr) (N.ps.map^YY N.ts)^.inr x=P3^YY N.ts x:=by
 have go:∀ps:u_ _,x∈ps->Bw (ps.map .inr) (ps.map^YY N.ts)^.inr x=P3^YY N.ts x:=by
  intro ps
  induction ps with
  |nil=>grind
  | cons q ps ih=>
   intro h;show(if jx q=.inr x then P3 _ else Bw _ _ _)=_
   by_cases e:q=x
   .grind
   .rw[if_neg λz=>e^jo z]
    exact ih^(UF.mp h).resolve_left λz=>e z.symm
 simp_all
def Yb(l:u_ (Str×Int)):Ik ((l.map λx=>(.inr x.1:Key)).map aY) (l.map λx=>.int x.2)=l.map gQ:=by
 induction l with
 |nil=>rfl
 |cons p l ih=>
  show D.tup _::Ik _ _=gQ p::l.map _;rw[←ih];rfl
def LS(h:OW ss n Pd):G0 (EF Pd) n (ss++Tk 7 .no):=by
 let#[N,s,rfl,#[ok,lp,lt],hs,p]:=h;have szl:=PySem.sizeLine_eq;unfold G0;refine#[N,rfl,ok,by lk,by lk,?_];refine#[(by cbv:2<=sizeLine),_,B2 s,(by cbv:1<=sizeLine),?_];refine Lw (λm n' ρ=>n'=n/\∃(Wt:u_ Str) (ks:u_ Key) (ds:u_ D) (F:Qe) (s5 s6 s7 s8:Slot),ρ=[.sh^Bx N,.sh^.str s,.sh^Ea N,.ow^.dic ks ds,.ow^.lst^Wt.map .str,s5,s6,s7,s8]/\Dmap ks ds Iy F/\Dj N s F Wt/\m+ks.length=N.ps.length+Wt.length) (N.ps.length) #[rfl,[s],[.inr s],[Iy (0,r_)],_,_,_,_,_,rfl,Dmap.one,Dj.init hs,rfl] ?_ ?_
 .rintro m n' ρ N' ⟨rfl,Wt,ks,ds,F,s5,s6,s7,s8,rfl,M,J,hm⟩ hN
  cases Wt with
  |nil=>
   exact#[t_,rfl,_,rfl,p ks ds F M J.told]
  | cons w0 Wr=>
   refine#[s_,rfl,?_];have insW:∀x∈w0::Wr,x∈N.ps:=λx hx=>J.ins x^J.wfound x hx;have wl:=Qi J.nd insW;refine#[w0::Wr,ks,ds,F,rfl,M,J.wfound,jd _ _,by lk,λv hv hmin=>?_]
   obtain⟨dv,pv,ev⟩:∃d q,F v=P3 (d,q):=by
    cases e:F v with
    |none=>exact absurd e^J.wfound v hv
    |some a=>exact#[a.1,a.2,rfl]
   have D0:=J.take hv ev λy hy dy q ey=>hmin y hy dv pv dy q ev ey;have hvp:=insW v hv;have hidx:(w0::Wr).idxOf v<(w0::Wr).length:=List.idxOf_lt_length_of_mem hv;have hget:(w0::Wr)[(w0::Wr).idxOf v]?=P3 v:=by rw[Go hidx,List.getElem_idxOf]
   have ee:((w0::Wr).map D.str).eraseIdx^(w0::Wr).idxOf v=((w0::Wr).erase v).map D.str:=by
    rw[List.erase_eq_eraseIdx_of_idxOf (rfl:(w0::Wr).idxOf v=_),MS]
   refine#[_,rfl,rfl,_,_,(w0::Wr).idxOf v,rfl,rfl,Uh ok insW,CA^ok.names v hvp,#[.str v,by rw[XV,hget];rfl,by show(v==v)=s_;exact beq_self_eq_true v],λk x hk hx=>?_,?_]
   .rw[XV]at hx
    let#[t,ht,rfl]:=io.mp hx;have hkl:k<(w0::Wr).length:=(Uf.mp ht).1;have hh:=List.not_of_lt_findIdx (p:=λy=>y==v) (xs:=w0::Wr) hk;have e2:(w0::Wr)[k]=t:=(Uf.mp ht).2;have h3:((w0::Wr)[k]==v)=t_:=hh;rw[e2]at h3;exact h3
   rw[ee];refine#[_,_,_,YY N.ts v,rfl,B2 v,T5 hvp,_,_,rfl,λk hk=>?_,?_]
   .let#[q,hq,rfl]:=Rs.mp hk
    have:=(ok.names _ (RL ok hq).1).2.1
    show q.1.length<=sizeLine;lk
   rw[Yb];have el:=List.length_erase_of_mem hv
   have inner:∀(rest seen:u_ (Str×Int)) (Wt:u_ Str) (ks:u_ Key) (ds:u_ D) (F:Qe) (s6 s7 s8:Slot),seen++rest=Dr N.ts v->Dmap ks ds Iy F->Dm N s F Wt v dv seen->m+ks.length=N.ps.length+Wt.length+1->
     CW (N9 2^Br (Az 6)^Br (Az 7) Gv) (Ac (A6 8^AZ BX (AZ A2 (AZ BK (Al 3)^AB 5)^wC^D.int 0)^AB 7)
 (A_ (Ab^AZ (Nv s_) (AB 6)^Al 3) (Ac (SJ 4 "list" Hb^AE (AB 6) AT)
 (Of 3 (AB 6)^BA^AE (AB 8)^AE (AB 5) AT))^A_ (Ab^AZ Gi (AB 8)^AZ A2 (AZ BK (Al 3)^AB 6)^wC^D.int 0) (Of 3 (AB 6)^BA^AE (AB 8)^AE (AB 5) AT) Au)) {EF Pd with nx:=N',ct:=N',bk:=Vb 3^EF Pd} (rest.map gQ) n' [.sh^Bx N,.sh^.str s,.sh^Ea N,.ow^.dic ks ds,.ow^.lst^Wt.map .str,.sh^.str v,s6,s7,s8]:=by
    intro rest
    induction rest with
    |nil=>
     intro seen Wt ks ds F s6 s7 s8 e M D0 hm;rw[jA]at e;exact hN (m - 1) n' _ (by have:=M.le D0.ins;lk) #[rfl,Wt,ks,ds,F,_,_,_,_,rfl,M,D0.finish λy l hy=>by rw[e];exact hy,by have:=M.le D0.ins;lk]
    | cons q rest ih=>
     intro seen Wt ks ds F s6 s7 s8 e M D0 hm;let#[y,l]:=q;have he:Ed N v y l:=by show(y,l)∈Dr N.ts v;rw[←e];exact iV _ On
     have e':(seen++[(y,l)])++rest=Dr N.ts v:=by rw[k6];exact e
     let#[pv,ev]:=D0.here;have kl:=M.le D0.ins;have hyp:=he.ins ok;have insW:∀x∈Wt,x∈N.ps:=λx hx=>D0.ins x^D0.wfound x hx;have wl:=Qi D0.nd insW;refine#[rfl,rfl,?_];refine#[ks,ds,_,Iy (dv,pv),rfl,B2 v,by rw[M.at_,ev];rfl,_,AH (j:=0) rfl,?_];refine#[ks,ds,_,rfl,B2 y,?_];show if(!(Bw ks ds^.inr y).isSome)=s_ then _ else _
     cases ey:F y with
     |none=>
      have hno:=(M.has (x:=y)).1 ey;rw[M.at_,ey];refine Dw #[_,rfl,rfl,_,_,rfl,rfl,by rw[Ev];lk,?_];refine#[ks,ds,rfl,(by cbv:2<=sizeLine),_,B2 y,by lk,?_]
      have:=ih (seen++[(y,l)]) (Wt++[y]) (C4 ks^.inr y) (C3 ks ds (.inr y)^Iy (dv+l,P3 v)) _ (.sh^.str y) (.sh^.int l) (.sh^.int (dv+l)) e' (M.put y (dv+l,P3 v)) (D0.find ok he ey)^by rw[PB,if_neg (by rw[hno];decide),iT,jC];lk
      rw[iq]at this;exact this
     | some a=>
      let#[dy,qy]:=a;have hyes:=(M.has (x:=y)).2 (by rw[ey];intro z;cases z);rw[M.at_,ey];refine Bs #[ks,ds,_,Iy (dy,qy),rfl,B2 y,by rw[M.at_,ey];rfl,_,AH (j:=0) rfl,?_];show if decide (dv+l<dy)=s_ then _ else _
      by_cases c:dv+l<dy
      .rw[decide_eq_true c]
       refine Dw #[ks,ds,rfl,(by cbv:2<=sizeLine),_,B2 y,by lk,?_];exact ih (seen++[(y,l)]) Wt (C4 ks^.inr y) (C3 ks ds (.inr y)^Iy (dv+l,P3 v)) _ (.sh^.str y) (.sh^.int l) (.sh^.int (dv+l)) e' (M.put y (dv+l,P3 v)) (D0.nearer ok he ey c)^by rw[PB,if_pos hyes];lk
      .rw[decide_eq_false c]
       exact Bs^ih (seen++[(y,l)]) Wt ks ds F (.sh^.str y) (.sh^.int l) (.sh^.int (dv+l)) e' M (D0.skip ey^by lk) hm
   exact inner (Dr N.ts v) [] ((w0::Wr).erase v) ks ds F _ _ _ rfl M D0 (by have:=List.length_pos_of_mem hv;lk)
 .rintro n' ρ P Q hPQ h
  unfold Qj Al at h ⊢
  split at h
  all_goals first
   |exact h.elim
   |(let#[c,hc,h]:=h;exact#[c,hc,hPQ _ _ h])
def bY(h:Zt ss n Pd):af (EE Pd) n (ss++Tk 1 .no):=by
 let#[N,a,b,rfl,okn,ha,hb,p]:=h;unfold af;refine#[N,a,rfl,okn,ha,λks ds F M T=>?_];refine#[ks,ds,_,rfl,B2 b,?_];show if((Bw ks ds^.inr b).isSome)=s_ then _ else _
 have hp:=p _^T.far b;cases e:F b with
 |none=>
  rw[M.at_,e];rw[e]at hp;exact Bs hp
 |some x=>
  rw[M.at_,e];rw[e]at hp;exact Dw #[ks,ds,_,Iy x,rfl,B2 b,by rw[M.at_,e];rfl,_,AH (j:=0) rfl,hp]
end
structure WInv (N:Net) (F:Qe) (b:Str) (db:Int) (acc:List Str) (pl:Option Str):Prop where
 st:(acc=[]/\pl=P3 b)\/∃z r dz,acc.reverse=z::r/\F z=P3 (dz,pl)/\walk N acc.reverse (db - dz)/\acc.reverse.getLast?=P3 b
 nd:acc.Nodup
 ins:∀x∈acc,x∈N.ps
 less:∀y dy q,pl=P3 y->F y=P3 (dy,q)->∀x∈acc,∃dx qx,F x=P3 (dx,qx)/\dy<dx
 fnd:∀y,pl=P3 y->F y≠r_
def wm(F:Qe):v_ Str->Nat
 |none=>0
 |some y=>((F y).getD (0,r_)).1.toNat+1
def WInv.step{N:Net}(ok:N.Ok){a:Str}{F:Qe}(T:Told N a F){b:Str}{db:Int}{qb:v_ Str}(eb:F b=P3 (db,qb)){acc:u_ Str}{y:Str}{dy:Int}{qy:v_ Str}(h:WInv N F b db acc^P3 y)(ey:F y=P3 (dy,qy)):WInv N F b db (acc++[y]) qy/\wm F qy<wm F^P3 y:=by
 have hy0:=(T.least y dy qy ey).1.pos ok
 have nx:∀w dw q,qy=P3 w->F w=P3 (dw,q)->dw<dy:=λw dw q e ew=>by
  rcases T.prev y dy qy ey with⟨z,_⟩|⟨w',dw',q',l,e1,e2,e3,e4⟩
  .rw[e]at z;cases z
  .rw[e]at e1
   cases e1;rw[ew]at e2;cases e2
   have:=(e3.pos ok).1
   omega
 have hf:∀w,qy=P3 w->F w≠r_:=λw e=>by
  rcases T.prev y dy qy ey with⟨z,_⟩|⟨w',dw',q',l,e1,e2,_⟩
  .rw[e]at z;cases z
  .rw[e]at e1
   cases e1;rw[e2];intro z;cases z
 refine#[#[.inr ?_,?_,λx hx=>?_,λw dw q e ew x hx=>?_,hf],?_]
 .rw [List.reverse_append,List.reverse_singleton,m9]
  rcases h.st with⟨rfl,e⟩|⟨z,r,dz,e1,e2,e3,e4⟩
  .cases e
   rw[eb]at ey;cases ey;exact#[_,_,_,rfl,eb,(by show db - db=0;lk),rfl]
  .refine#[y,acc.reverse,dy,rfl,ey,?_,?_]
   .rw[e1]at e3 ⊢
    rcases T.prev z dz (P3 y) e2 with⟨w,_⟩|⟨w',dw',q',l,k1,k2,k3,k4⟩
    .cases w
    .cases k1
     rw[ey]at k2;cases k2
     have:=Tv k3 e3
     rw[show l+(db - dz)=db - dy by lk]at this;exact this
   .rw[e1]at e4 ⊢
    exact e4
 .rw[jh]
  refine#[h.nd,iW.mpr #[ig,jI],λx hx z hz e=>?_];rw[Re.mp hz]at e;let#[dx,qx,ex,hlt]:=h.less y dy qy rfl ey x hx;rw[e,ey]at ex;cases ex;lk
 .rcases iP.mp hx with hx|hx
  .exact h.ins x hx
  .rw[Re.mp hx]
   exact T.ins y^by rw[ey];intro z;cases z
 .have h1:=nx w dw q e ew
  rcases iP.mp hx with hx|hx
  .let#[dx,qx,ex,hlt]:=h.less y dy qy rfl ey x hx
   exact#[dx,qx,ex,by lk]
  .rw[Re.mp hx]
   exact#[dy,qy,ey,h1]
 .cases qy with
  |none=>exact Nat.succ_pos _
  | some w=>
   cases ew:F w with
   |none=>exact absurd ew (hf w rfl)
   |some p=>
    have h1:=nx w p.1 p.2 rfl ew;have h2:=(T.least w p.1 p.2 ew).1.pos ok;show((F w).getD (0,r_)).1.toNat+1<((F y).getD (0,r_)).1.toNat+1;rw[ew,ey];show p.1.toNat+1<dy.toNat+1;lk
section
variable {ss:u_ Slot}{n:Sg}{Pd:D->Sg->Prop}
def T9(h:c6 ss n Pd):QD (EE Pd) n (ss++Tk 3 .no):=by
 let#[N,a,b,rfl,okn,ha,hb,p]:=h;have szl:=PySem.sizeLine_eq;have ok:=okn.1;unfold QD;refine#[N,a,rfl,okn,ha,λks ds F M T=>?_];refine#[ks,ds,_,rfl,B2 b,?_];show if(!(Bw ks ds^.inr b).isSome)=s_ then _ else _
 have hfar:=T.far b;cases eb:F b with
 |none=>
  rw[M.at_,eb];rw[eb]at hfar;exact Dw^p r_ hfar
 | some x=>
  let#[db,qb]:=x;rw[M.at_,eb];refine Bs #[z0,?_];refine Lw (λm n' ρ=>n'=n/\∃(acc:u_ Str) (pl:v_ Str),ρ=[.sh^Bx N,.sh^.str a,.sh^.str b,.sh^.dic ks ds,.ow^.lst^acc.map .str,.sh^eZ pl]/\WInv N F b db acc pl/\m=wm F pl) (wm F^P3 b) #[rfl,[],P3 b,rfl,#[.inl #[rfl,rfl],jI,(λx hx=>by cases hx),(λ_ _ _ _ _ x hx=>by cases hx),λy e=>by cases e;rw[eb];intro z;cases z],rfl] ?_ ?_
  .rintro m n' ρ N' ⟨rfl,acc,pl,rfl,J,rfl⟩ hN
   have wl:=Qi J.nd J.ins;have l25:=okn.2.1;cases pl with
   | none=>
    refine#[rfl,_,rfl,?_]
    rcases J.st with⟨_,e⟩|⟨z,r,dz,e1,e2,e3,e4⟩
    .cases e
    .have hz:z=a:=by
      rcases T.prev z dz r_ e2 with⟨_,w⟩|⟨w',dw',q',l,k1,_⟩
      .exact w
      .cases k1
     subst hz;rw[T.start]at e2;cases e2;rw[←List.map_reverse];refine p (P3 acc.reverse) #[db - 0,r,e1,e4,e3,?_,by rw[nY];lk,λx hx=>J.ins x^List.mem_reverse.mp hx];rw[show db - 0=db by lk];exact T.least b db qb eb
   | some y=>
    cases ey:F y with
    |none=>exact absurd ey (J.fnd y rfl)
    |some q=>
     let#[dy,qy]:=q;let#[J2,lt2]:=J.step ok T eb ey;refine#[rfl,?_];refine#[_,rfl,rfl,_,_,rfl,rfl,by rw[Ev];lk,?_];refine#[ks,ds,_,Iy (dy,qy),rfl,B2 y,by rw[M.at_,ey];rfl,_,AH (j:=1) rfl,?_];refine hN (wm F qy) _ _ lt2 #[rfl,acc++[y],qy,?_,J2,rfl];rw[iq];rfl
  .rintro n' ρ P Q hPQ h
   unfold Ab AZ AB wC Pu at h ⊢
   split at h
   .exact#[h.1,hPQ _ _ h.2]
   .exact h.elim
end
def bP{N:Net}(okn:okN N):Iw 1000001^Bx N/\VS^Bx N<=48000/\VU^Bx N<=3:=bE (ZM okn.1) (C8 okn.1) (by rw[Ev];have:=okn.2.1;lk)^by rw[Ev];have:=okn.2.2;lk
end Nt
namespace Dp
open L2
section
variable {p:Pos}
def Rel.lessKp{K:Frag}{C:Fm}{q:Ch×HO}{M:Ch->Prop}{H:Hp}{n:Sg}{ρ:u_ Slot}{Z:L2.St}(R:Rel K {C with kp:=q::C.kp} M H n ρ Z):Rel K C M H n ρ Z:=
 #[R.len,R.sub,R.dom,R.ext,R.fU,R.uV,R.vM,R.feed,R.sl,R.pin,R.br0,R.new,R.two,λp hp=>R.kept p^TM _ hp]
end
end Dp
namespace Nt
open L2 Dp
def sub(N:Net)(kept:u_ Aw):Net:=#[N.ps,N.ts.filter λu=>decide (u∈kept)]
def aO(N:Net)(t b:Int)(u:Aw):Prop:=∃d,Least N u.a u.b d/\d*b<=u.len*t
noncomputable def Dq(N:Net)(t b:Int)(u:Aw):Bool:=@decide (aO N t b u)^kQ _
def nearB_iff{N:Net}{t b:Int}{u:Aw}:Dq N t b u=s_↔aO N t b u:=by
 unfold Dq
 grind
noncomputable def B3(N:Net)(t b:Int):u_ Aw->u_ Aw->u_ Aw
 |kept,[]=>kept
 |kept,u::r=>if Dq (sub N kept) t b u=s_ then B3 N t b kept r else B3 N t b (kept++[u]) r
def EK:W2:=λss n P=>∃(N:Net) (z:D) (ts:u_ Aw),ss=[.sh^Bx N,.br z]/\Mw z=P3^ts.map Aj/\ts.length<64/\∀ts':u_ Aw,ts'.Perm ts->Mc ts'->P (Bx #[N.ps,ts']) n
def OV:W2:=λss n P=>∃(N:Net) (u:Aw) (t b:Int),ss=[.sh^Bx N,.sh^.tup [.int t,.int b],.sh^Aj u]/\okN N/\u.a∈N.ps/\u.b∈N.ps/\1<=b/\b<=1000000/\1<=t/\t<=1000000/\∀o:v_^u_ Str,(∀w,o=P3 w->Way N u.a u.b^P3 w/\Dq N t b u=s_)->(o=r_->Dq N t b u=t_)->P (eY o) n
def LB:W2:=λss n P=>∃(N:Net) (t b:Int),ss=[.sh^Bx N,.sh^.tup [.int t,.int b]]/\okN N/\1<=b/\b<=1000000/\1<=t/\t<=1000000/\∀ord:u_ Aw,ord.Perm N.ts->EI ord->P (Bx^sub N^B3 N t b [] ord) n
def QE:Af:=(Aq^BA^AE (AZ A2 (AB 0)^wC^D.int 0)^AE (Bi CD^AE (Bi Xg^AE (Al 1) AT) AT) AT)
def Gz:Af:=(Ac (A6 3^Ae c6^AD (AM^AB 0)^AD (AM^AZ A2 (AB 2)^wC^D.int 0)^AD (AM^AZ A2 (AB 2)^wC^D.int 1) AS)
 (Ac (A_ (FJ (Ab^AZ (Pu t_) (AB 3)^wC D.non)^Dh^Ab^Ae OQ^AD (AM^Ae c7^AD (AM^AB 0)^AD (AM^AB 3) AS)^AD (AM^AB 1)^AD (AM^AZ A2 (AB 2)^wC^D.int 2) AS) (Aq^wC D.non) Au)
 (Aq^AB 3)))
def Ib:Af:=(Ac (DH 2^Ct AT)
 (Ac (Oe (BM^Ae Ex^AD (AM^AZ A2 (AB 0)^wC^D.int 1) AS) (Az 3)^A_ (Ab^AZ (Pu t_) (Ae OV^AD (AM^Ae EK^AD (AM^AB 0)^AD (BB^Al 2) AS)^AD (AM^AB 1)^AD (AM^AB 3) AS)^wC D.non) (SJ 2 "list" Hb^AE (AB 3) AT) Au)
 (Aq^Ae EK^AD (AM^AB 0)^AD (BB^Al 2) AS)))
def sub_mem{N:Net}{kept:u_ Aw}{u:Aw}:u∈(sub N kept).ts↔u∈N.ts/\u∈kept:=by
 show u∈N.ts.filter _↔_
 simp_all
def SV{N:Net}(okn:okN N)(kept:u_ Aw):okN^sub N kept:=#[bQ okn.1 (λt h=>(sub_mem.mp h).1)^okn.1.trise.filter _,okn.2.1,iU (iz _ _) okn.2.2]
def Vs{N:Net}(ok:N.Ok){kept ts:u_ Aw}(hk:∀t∈kept,t∈N.ts)(nd:kept.Nodup)(hp:ts.Perm kept)(hb:Mc ts):(#[N.ps,ts]:Net)=sub N kept:=by
 congr 1
 refine Fo ((kB (hp.nodup_iff.mpr nd)^(BS ok.trise).filter _).mpr λt=>?_) hb^F9^ok.trise.filter _;rw[hp.mem_iff]
 simp_all
def Bp{N:Net}{t b:Int}{kept r:u_ Aw}{u:Aw}:B3 N t b kept (u::r)=if Dq (sub N kept) t b u=s_ then B3 N t b kept r else B3 N t b (kept++[u]) r:=rfl
theorem Ka{α β:Type}:∀{l:u_ (α×β)},(l.map (·.1)).Nodup->∀{p q:α×β},p∈l->q∈l->p.1=q.1->p=q
 |a::l,nd,p,q,hp,hq,e=>by
  rw[iZ,iW]at nd
  rcases UF.mp hp with hp2|hp2 <;>rcases UF.mp hq with hq2|hq2
  .rw[hp2,hq2]
  .grind
  .exact absurd (Rs.mpr #[p,hp2,by rw[e,hq2]]) nd.1
  .exact Ka nd.2 hp2 hq2 e
def ZI{N:Net}(ok:N.Ok){x y:Str}{l:Int}(h:Ed N x y l):look N.ts x y=P3 l:=by
 unfold look;cases e:(Dr _ x).find? _ with
 |none=>exact absurd (List.find?_eq_none.mp e _ h)^by simp
 |some q=>
  have e1:=of_decide_eq_true^List.find?_some (p:=λz=>decide _) e;rw[Ka (Ug ok x) (oU e) h e1];rfl
theorem Od{N:Net}(ok:N.Ok):∀{r:u_ Str}{x:Str}{s d:Int},walk N (x::r) d->Nl N.ts x r s=P3 (s+d)
 |[],x,s,d,h=>by
  have:=h
  subst this;show P3 s=P3 _
  grind
 |y::r,x,s,d,h=>by
  let#[l,e,he,hw,rfl]:=h;show(match look _ x y with|some l=>Nl _ y r _|none=>r_)=_;rw[ZI ok he];show Nl _ y r _=_;rw[Od ok hw,Int.add_assoc]
def ZJ{N:Net}(ok:N.Ok){x:Str}{r:u_ Str}{d:Int}(hx:x∈N.ps)(hw:walk N (x::r) d):e7 N^.tup^(x::r).map .str=.int d:=by
 show(if((x::r).map _).all _ then cH N _ else .non)=_;rw[if_pos^all_strs _,Jh];show(if x∈N.ps then FL _ else .non)=_;rw[if_pos hx,Od ok hw,Int.zero_add];rfl
theorem Lv{N:Net}{B:Nat}(ok:N.Ok):∀{w:u_ Str},(∀x∈w,x∈N.ps)->Kl B^w.map .str/\Ox^w.map .str<=9*w.length/\MU^w.map .str<=0
 |[],_=>#[trivial,Sc _,Sc _]
 | x::r,h=>by
  let#[a,b,c]:=Lv ok λy hy=>h y^TM _ hy;have hx:=ok.names x^h x On;refine#[#[λch hc=>by have:=hx.2.2 ch hc;lk,a],?_,?_]
  .show x.length+1+Ox _<=9*(r.length+1)
   have:=hx.2.1
   omega
  assumption
def Va{N:Net}(ok:N.Ok){w:u_ Str}(hl:w.length<=30)(h:∀x∈w,x∈N.ps):fI^.tup^w.map .str:=by
 let#[a,b,c]:=Lv ok h;exact#[a,by show Ox _<=160000;lk,by show MU _+1<=50;lk]
section
variable {ss:u_ Slot}{n:Sg}{Pd:D->Sg->Prop}
def UH(h:EK ss n Pd):QE (EE Pd) n (ss++Tk 0 .no):=by
 let#[N,z,ts,rfl,hz,h64,p]:=h;unfold QE;refine#[_,AH (j:=0) rfl,z,_,rfl,hz,by simp_all,#[λx hx=>?_,λx hx y hy ka kb ea eb=>?_],λxs' hp ho=>?_]
 .let#[t,_,rfl]:=Rs.mp hx
  exact#[Im t,rfl,jd _ _]
 .let#[t,_,rfl]:=Rs.mp hx
  let#[u,_,rfl]:=Rs.mp hy;cases(show P3^Im t=P3 ka from ea);cases(show P3^Im u=P3 kb from eb);rfl
 .let#[ts',h1,rfl]:=Z2 (g:=U3) (λ_=>rfl) hp
  exact#[z2,p ts' h1^Y9 ho]
def LR(h:OV ss n Pd):Gz (EE Pd) n (ss++Tk 1 .no):=by
 let#[N,u,t,b,rfl,okn,ha,hb,b1,b2,t1,t2,p]:=h;unfold Gz;refine#[_,AH (j:=0) rfl,_,AH (j:=1) rfl,N,u.a,u.b,rfl,okn,ha,hb,λo ho=>#[rfl,?_]];cases o with
 |none=>
  refine p r_ (λw e=>by cases e) λ_=>?_;rw[jB];intro z;let#[d,hd,_]:=nearB_iff.mp z;exact ho d hd.1
 | some w=>
  have ho':=ho;let#[d,r,rfl,hl,hw,hd,h30,hin]:=ho'
  have near:Dq N t b u=decide (d*b<=u.len*t):=by
   rw[i6,nearB_iff,decide_eq_true_eq];exact#[fun#[d',hd',h2]=>by rw[Least.unique hd hd'];exact h2,λh2=>#[d,hd,h2]]
  refine#[N,.tup^(u.a::r).map .str,rfl,okn.1,by have:=okn.2.1;lk,okn.2.2,Va okn.1 h30 hin,?_];rw[ZJ okn.1 (hin _ On) hw];refine#[_,AH (j:=2) rfl,d,t,b,u.len,rfl,b1,b2,t1,t2,?_]
  by_cases c:d*b<=u.len*t
  .rw[decide_eq_true c]
   exact p (P3 _) (λw e=>by cases e;exact#[ho,by rw[near];exact decide_eq_true c]) λe=>by cases e
  .rw[decide_eq_false c]
   exact p r_ (λw e=>by cases e) λ_=>by rw[near];exact decide_eq_false c
def NF(h:LB ss n Pd):Ib (EE Pd) n (ss++Tk 2 .no):=by
 let#[N,t,b,rfl,okn,b1,b2,t1,t2,p]:=h;have ok:=okn.1;have l60:=okn.2.2;have szl:=PySem.sizeLine_eq;unfold Ib;refine#[z0,_,AH (j:=1) rfl,_,N.ts,rfl,rfl,by lk,λord o1 o2=>?_];have hol:=o1.length_eq;have ndo:ord.Nodup:=o1.nodup_iff.mpr^BS ok.trise
 have go:∀(rest done kept:u_ Aw) (s3:Slot),done++rest=ord->(∀u∈kept,u∈done)->kept.Nodup->B3 N t b kept rest=B3 N t b [] ord->
   CW (Az 3) (A_ (Ab^AZ (Pu t_) (Ae OV^AD (AM^Ae EK^AD (AM^AB 0)^AD (BB^Al 2) AS)^AD (AM^AB 1)^AD (AM^AB 3) AS)^wC D.non) (SJ 2 "list" Hb^AE (AB 3) AT) Au) {EE Pd with nx:=Aq (Ae EK^AD (AM^AB 0)^AD (BB^Al 2) AS)^EE Pd} (rest.map Aj) n [.sh^Bx N,.sh^.tup [.int t,.int b],.ow^.lst^kept.map Aj,s3]:=by
  intro rest
  induction rest with
  |nil=>
   intro done kept s3 e h1 h2 h3;rw[jA]at e;subst e;have hin:∀u∈kept,u∈N.ts:=λu hu=>o1.mem_iff.mp^h1 u hu;have hkl:=sub_len h2 (BS ok.trise) hin;refine#[N,_,kept,rfl,rfl,by lk,λts' p1 p2=>?_];rw[Vs ok hin h2 p1 p2,show kept=B3 N t b [] done from h3];exact p done o1 o2
  | cons u rest ih=>
   intro done kept s3 e h1 h2 h3;have hin:∀v∈kept,v∈N.ts:=λv hv=>o1.mem_iff.mp (by rw[←e];exact jZ _^h1 v hv);have hkl:=sub_len h2 (BS ok.trise) hin;have hu:u∈N.ts:=o1.mem_iff.mp^by rw[←e];exact iV _ On
   have hud:u∉done:=by
    rw[←e,jh]at ndo;exact λz=>ndo.2.2 u z u On rfl
   have e':(done++[u])++rest=ord:=by rw[k6];exact e
   let#[m1,m2,_]:=ok.tin u hu;refine#[N,_,kept,rfl,rfl,by lk,λts' p1 p2=>?_];rw[Vs ok hin h2 p1 p2];refine#[sub N kept,u,t,b,rfl,SV okn kept,m1,m2,b1,b2,t1,t2,λo hs hn=>#[rfl,?_]];rw[Bp]at h3;cases o with
   |some w=>
    rw[(hs w rfl).2,if_pos rfl]at h3;exact ih (done++[u]) kept _ e' (λv hv=>jZ _^h1 v hv) h2 h3
   | none=>
    rw[hn rfl,if_neg^by cbv]at h3;refine#[_,rfl,rfl,_,_,rfl,rfl,by rw[Ev];lk,?_]
    have:=ih (done++[u]) (kept++[u]) (.sh^Aj u) e' (λv hv=>by
     rcases iP.mp hv with hv|hv
     .exact jZ _^h1 v hv
     .exact iV _ hv) (by
     rw[jh];exact#[h2,iW.mpr #[ig,jI],λx hx y hy z=>hud^by rw[←Re.mp hy,←z];exact h1 x hx]) h3
    rw[iq]at this;exact this
 exact go ord [] [] _ rfl (λu h=>by cases h) jI rfl
end
end Nt
namespace Dp
open L2
end Dp
namespace Nt
open L2 Dp
end Nt
namespace L2
open AutoSeq1 (wpAny_loadPart')
def boot_enumerate:bootBuiltins "enumerate"=P3^.type "enumerate":=by decide +kernel
section
variable {prog:Program}{w:World}{A:Around}{E:Value->Shared->Prop}{s:Shared}
def U2{κ:Bool}(hh:A.handled=r_)(it l:Ch)(hne:l≠it)(items:Array Db):Draws prog w A it [it,l] items.size (λi v=>items[i]?=P3 v) (λi h=>ItAt κ h it l i/\SqAt κ h l items) where
 live:=λ_ _ st=>let #[o,ho,_]:=st.1.lies;#[o,ho]
 frame:=λ_ _ _ st k=>#[st.1.mv λo e=>k it (by simp) o e,st.2.mv λo e=>k l (by simp) o e]
 item:=λi s Q E hi st hQ=>FG st.1 st.2 (x:=items[i]) (by simp[hi]) λh' a b=>hQ _ h' s.toks (by simp[hi]) #[a,st.2.eb b.extBut hne] b
 done:=λs Q E st hE=>Gm hh st.1 st.2 (by simp) hE
def Ra{κ:Bool}(hh:A.handled=r_)(it l:Ch)(items:Array Db)(k:Nat)(hk:items[k]?=r_):Draws prog w A it [it,l] k (λ_ _=>True) (λi h=>ItAt κ h it l i/\SqAt κ h l items/\i=k) where
 live:=λ_ _ st=>let #[o,ho,_]:=st.1.lies;#[o,ho]
 frame:=λ_ _ _ st k=>#[st.1.mv λo e=>k it (by simp) o e,st.2.1.mv λo e=>k l (by simp) o e,st.2.2]
 item:=λi s Q E hi st hQ=>absurd st.2.2^ge hi
 done:=λs Q E st hE=>Gm hh st.1 st.2.1 hk hE
def W1(κ:Bool)(l:Ch)(items:Array Db):Meets (kM.«enumerate.__new__» #[[.type "enumerate",.ref l],[]]) (λ_ R s=>SqAt κ s.heap l items /\
   R (.ok^.ret^.ref (s.heap.push^IS κ l).objs.size) {s with heap:=(s.heap.push^IS κ l).push {cls:=.type "enumerate",data:=.fields #[ .none,.bool t_,.ref s.heap.objs.size,rawInt 0,.none,.none]}}):=
 .of_wp λprog w A R s h=>by
  let#[hp,g,d,tk,os]:=s;let#[hl,h]:=h
  have hsub:=sub_enumerate;cases κ with
  | true=>
   have hL:o8 (lU #[hp,g,d,tk,os]) l items:=hl;let#[#[c,dct,dt,sl],ho,hc,n,hd]:=id hL;replace hc:c=.type "list":=hc;replace hd:dt=.seq items n:=hd;subst hc hd
   wp_walk using jO ho
   refine wpAny_stack_any λst=>Op ?_
   split
   .rename_i c _ _ _ _ _
    cases(c==jE "enumerate") <;>(wp_walk using jO ho,jq hL;exact#[_,rfl,h])
   ·(wp_walk using jO ho,jq hL;exact#[_,rfl,h])
  | false=>
   have hL:oj (lU #[hp,g,d,tk,os]) l items:=hl;let#[#[c,dct,dt,sl],ho,hc,n,hd]:=id hL;replace hc:c=.type "tuple":=hc;replace hd:dt=.seq items n:=hd;subst hc hd
   wp_walk using jO ho
   refine wpAny_stack_any λst=>Op ?_
   split
   .rename_i c _ _ _ _ _
    cases(c==jE "enumerate") <;>(wp_walk using jO ho,ja hL;exact#[_,rfl,h])
   ·(wp_walk using jO ho,ja hL;exact#[_,rfl,h])
def Lj{κ:Bool}{l:Ch}{items:Array Db}{Q:Db->No->Prop}(hl:SqAt κ s.heap l items)
  (h:∀h',IsEnum h' (s.heap.objs.size+1) s.heap.objs.size 0 .none->ItAt κ h' s.heap.objs.size l 0->(∀b o,s.heap.get? b=P3 o->h'.get? b=P3 o)->Q (.ref (s.heap.objs.size+1)) {s with heap:=h'}):
  wpAny (model prog w) A (call (.type "enumerate") [.ref l]) Q E s:=by
 refine callType_new F.called_enumerate (by cbv) (F.typeCall_enumerate_1 _) (F.newCall_enumerate_1 _) (λobj=>F.args_object_init_2 obj _) F.entry_enumerate_new (W1 κ l items) #[hl,?_];have hz:(s.heap.push^IS κ l).objs.size=s.heap.objs.size+1:=jM ..;have g1:((s.heap.push^IS κ l).push {cls:=.type "enumerate",data:=.fields #[ .none,.bool t_,.ref s.heap.objs.size,rawInt 0,.none,.none]}).get? (s.heap.push^IS κ l).objs.size=P3 _:=TW _ rfl;rw[hz]at g1;refine#[#[_,by rw[hz];exact g1,rfl],?_];rw[hz];exact h _ g1 ((Ke κ s.heap l).mv λo e=>FM _ e) λb o e=>FM _^FM _ e
end
def dR(K:Frag)(κ:Bool)(a:Ch)(xs:u_ V):It:=
 #[λi H=>SqK κ K H a xs/\i<xs.length,λi H x H'=>∃T p,x=.ref T/\H T=r_/\H'=Av H T^.tup [.int i,p]/\xs[i]?=P3 p,λi H=>SqK κ K H a xs/\xs.length<=i]
structure dG (κ:Bool) (e it a:Ch) (k:Nat) (h:iQ):Prop where
 e:∃old,IsEnum h e it (k:Int) old
 i:ItAt κ h it a k
def Tz{P:ic}{w:ip}{K:Frag}{es:u_ ie}{j:Nat}{pos:Pos}(κ:Bool)(e it a:Ch)(xs:u_ V)(ei:e≠it)(ae:a≠e)(ai:a≠it):
  Turn P w K (.Tuple es j pos) (dR K κ a xs) [e,it] e (dG κ e it a) where
 mem:=by simp
 obj:=λi h st c hc=>by
  simp only[UF,ig,or_false]at hc
  rcases hc with rfl|rfl
  .let#[o,q]:=st.e
   exact#[_,q,λv q=>by cases q]
  .exact st.i.lies
 keep:=λi h h' st k=>by
  let#[o,q]:=st.e;exact#[#[o,k e (by simp) _ q],st.i.mv λo e=>k it (by simp) o e]
 item:=by
  intro X hP hw hK hc i zF s Z H E I hf st hg;subst hP hw hK;let#[ha,hi]:=hg;let#[us,r1,q1]:=ha.at I;let#[u,hu,ru]:=r1.get^Go hi;let#[old,ee]:=st.e;have l1:=r1.length;refine wpAny_pyNext_enum_itemD (U2 (κ:=κ) (A:=X.A.in1) (I.ok.hd hc) it a ai us.toArray) ee #[st.i,q1] (by simp;lk) ei (by simp[ei,ae.symm]) λx h' tk hp a1 a2 a3 a4 a5=>#[_,rfl,?_]
  have hxu:x=u:=by
   have e2:us[i]?=P3 x:=by simpa using hp
   rw[hu]at e2;exact(eq e2).symm
  subst hxu;refine wpAny_letOwnedTupleGo_enum a1 λh2 b1 b2=>?_;have hT:H s.heap.objs.size=r_:=I.hok.fresh^Sc _
  have kk:∀c o,c∉[e,it]->s.heap.get? c=P3 o->h2.get? c=P3 o:=λc o hc z=>by
   simp only[UF,ig,or_false,not_or]at hc;exact b2.extBut _ _ hc.1^a5 c o hc.1 hc.2 z
  have I2:Inv X zF Z (Av H s.heap.objs.size^.tup [.int i,xs[i]]) {s with heap:=h2,toks:=tk+1}:=by
   refine I.turnLaid (t':=tk+1) (ch:=[e,it]) hf kk (Sc _) ?_;have nT:s.heap.objs.size≠e:=mG^T0 ee;exact#[by show 2<=sizeLine;decide,[.int i tk,x],.cons #[_,rfl]^.cons ru .nil,#[_,b2.extBut _ _ nT a3,rfl,_,rfl,rfl,rfl]]
  refine#[.ref s.heap.objs.size,_,I2,rfl,#[_,_,rfl,hT,rfl,Go hi],#[#[_,b1],a2.1.eb b2.extBut ei.symm],λc hc=>?_];have hcn:H c=r_:=(hf c hc).1
  have hlt:c≠s.heap.objs.size:=λz=>by
   obtain⟨o,ho⟩:∃o,s.heap.get? c=P3 o:=by
    simp only[UF,ig,or_false]at hc
    rcases hc with rfl|rfl
    .exact#[_,ee]
    .let#[o,q,_]:=st.i.lies;exact#[o,q]
   rw[z]at ho;exact jU _^T0 ho
  rw[AO hlt];exact hcn
 done:=by
  intro X hP hw hK hc i zF s Z H E I hf st hg;subst hP hw hK;let#[ha,hi]:=hg;let#[us,r1,q1]:=ha.at I;let#[old,ee]:=st.e;have l1:=r1.length;refine wpAny_pyNext_enum_endD (Ra (κ:=κ) (A:=X.A.in1) (I.ok.hd hc) it a us.toArray i^by simp;lk) ee #[st.i,q1,rfl] λh' kk=>#[rfl,?_];refine I.turnedL (t':=s.toks) (ch:=[e,it]) hf λc o hc e=>?_;simp only[UF,ig,or_false,not_or]at hc;exact kk c o hc.2 e
 self:=λA i s Q E st h=>by
  let#[old,ee]:=st.e;exact wpAny_pyIter_enum ee h
section
variable {X:Cx}{e1:Expr}{es:u_ Expr}{j:Nat}{tpos p pos:Pos}{te:TE}
def fD(K:Frag)(te:TE):TI:=λZ H R=>te Z H λv H1=>∃κ a xs,v=.ref a/\SqK κ K H1 a xs/\R (dR K κ a xs) H1
def Y0(hg:Gl X "enumerate")(hm:X.mg "enumerate"=r_)(he:PE X e1 te)(hs:starEach [e1] X.env=[(t_,eval e1 X.env)]:=by rfl):
  PI X (.Tuple es j tpos) (.Call (.Name "enumerate" p) [e1] [] pos) (fD X.K te):=by
 intro zF s Z H R I h;refine jl^EB I hg hm boot_enumerate ?_;refine jk ?_ hs rfl;rw[hs];refine mH^BG (he zF s Z H _ I h) λu s1 #[x,H1,I1,r1,κ,a,xs,ex,hq,q]=>mX ?_;subst ex;cases r1;let#[us,r1',q1]:=hq.at I1;have la:a<s1.heap.objs.size:=by let#[o,e]:=q1.lies;exact T0 e
 refine Lj q1 λh' hz hi hk=>?_;refine wpAny_pyIter_enum hz ?_;refine#[s1.heap.objs.size+1,[s1.heap.objs.size+1,s1.heap.objs.size],_,dR X.K κ a xs,H1,rfl,I1.kept (t':=s1.toks) hk,Tz κ _ _ a xs (by show(_:Nat)≠(_:Nat);lk) (ge^jp la)^ge la,#[#[_,hz],hi],λc hc=>?_,q]
 have hge:s1.heap.objs.size<=c:=by
  simp only[UF,ig,or_false]at hc
  rcases hc with rfl|rfl
  .exact jP _
  .exact Sc _
 exact I1.fpOk hge^I1.hok.fresh hge
end
end L2
namespace Dp
open L2
def CQ:Nat->u_ D->u_ D
 |_,[]=>[]
 |k,x::r=>.tup [.int (k:Int),x]::CQ (k+1) r
theorem FF:∀(k:Nat) (ds:u_ D),(CQ k ds).length=ds.length
 |_,[]=>rfl
 |k,x::r=>by show(CQ (k+1) r).length+1=r.length+1;rw[FF (k+1) r]
theorem Hd:∀(k:Nat) (ds:u_ D) (i:Nat),(CQ k ds)[i]?=(ds[i]?).map λx=>.tup [.int ((k+i:Nat):Int),x]
 |_,[],i=>by simp[CQ]
 |k,x::r,0=>rfl
 |k,x::r,i+1=>by
  show(CQ (k+1) r)[i]?=(r[i]?).map _;rw[Hd (k+1) r i,show k+1+i=k+(i+1) by lk]
section
variable {K:Frag}
def Px{M:Ch->Prop}{H:Hp}{κ:Bool}{a:Ch}{vs:u_ V}{ds:u_ D}(hs:Ats K M H ds vs){i:Nat}{M':Ch->Prop}{H':Hp}(pr:Pres M H M' H')(h1:SqK κ K H' a vs)(dom:∀a,M' a->∃o,H' a=P3 o):
  (∀d,(CQ 0 ds)[i]?=P3 d->(dR K κ a vs).go i H'/\∀x H2,(dR K κ a vs).yld i H' x H2->Grow H' H2/\At K M' H2 d x)/\((CQ 0 ds).length<=i->(dR K κ a vs).stop i H'):=by
 have l1:=hs.length;refine#[λd hd=>?_,λhl=>#[h1,by rw[FF]at hl;lk]];rw[Hd,Nat.zero_add]at hd;cases q1:ds[i]? with
 |none=>rw[q1]at hd;cases hd
 |some d1=>
  rw[q1]at hd;have hd':D.tup [.int (i:Int),d1]=d:=eq hd;have i1:i<ds.length:=(Uf.mp q1).1;refine#[#[h1,by lk],λx H2 y=>?_];let#[T,p,rfl,hT,rfl,e1]:=y;let#[v1,f1,a1]:=(hs.pres pr).get q1;rw[e1]at f1;cases f1;subst hd';exact#[Ap hT,C9 dom hT #[.int (i:Int),[p],rfl,rfl,p,[],rfl,a1,rfl]]
end
end Dp
namespace L2
end L2
namespace Dp
open L2
end Dp
namespace Nt
open L2 Dp
end Nt
namespace Dp
open L2
section
variable {X:Cx}{pos:Pos}
def Qm:DW:=λn _ P=>P (.dic [] []) n
def X6:DE X (.Dict [] [] pos) .fr Qm:=by
 refine#[_,KH,λC M H n ρ Z P Q R w q=>λp hp=>?_];have g:Grow H^Av H p^.dK []:=Ap hp;exact q _ _ (.dic [] []) n g.ext (R.feed.grow g) #[p,rfl,hp,[],AQ,rfl,rfl] w
end
end Dp
namespace L2
end L2
namespace Dp
open L2
section
variable {a:Expr}
mutual
theorem At.frz{K:Frag}{M:Ch->Prop}{H:Hp}{a:Ch}{f:Ch->Obj}{kvs:u_ (Key×V)}(ha:H a=P3^.dK kvs):∀{d:D}{v:V},FZ d=s_->At K M H d v->At K M (F1 H [a] f) d v
 |.non,v,_,h=>h
 |.bl b,v,_,h=>h
 |.int i,v,_,h=>h
 |.str x,v,_,h=>h
 |.tup ds,v,hn,h=>by
  let#[b,vs,e,n2,hs]:=h;refine#[b,vs,e,?_,Ats.frz ha hn hs];unfold NdT at n2 ⊢;rw[Dy λz=>by rw[Re.mp z,ha]at n2;cases n2];exact n2
 |.lst ds,v,hn,h=>by
  let#[b,vs,e,#[n1,n2],hs]:=h;refine#[b,vs,e,#[n1,?_],Ats.frz ha hn hs];rw[Dy λz=>by rw[Re.mp z,ha]at n2;cases n2];exact n2
 |.dic _ _,v,hn,h=>by cases hn
 |.fdi _ _,v,hn,h=>by cases hn
 |.dit _ _,v,hn,h=>by cases hn
 |.ob _,v,hn,h=>by cases hn
theorem Ats.frz{K:Frag}{M:Ch->Prop}{H:Hp}{a:Ch}{f:Ch->Obj}{kvs:u_ (Key×V)}(ha:H a=P3^.dK kvs):∀{ds:u_ D}{vs:u_ V},Df ds=s_->Ats K M H ds vs->Ats K M (F1 H [a] f) ds vs
 |[],vs,_,h=>h
 |d::ds,vs,hn,h=>by
  let#[v,r,e,h1,h2]:=h;have hn:(FZ d&&Df ds)=s_:=hn;rw[ik]at hn;exact#[v,r,e,At.frz ha hn.1 h1,Ats.frz ha hn.2 h2]
end
end
def Cg:u_^u_ Key->u_ D->u_ Key->v_ D
 |k0::ks,d::ds,k=>if k0=k then P3 d else Cg ks ds k
 |_,_,_=>r_
def Pl:u_ D->v_^u_ Key
 |[]=>P3 []
 |d::ds=>match keyOf d,Pl ds with
  |some k,P3 ks=>P3 (k::ks)
  |_,_=>r_
def keysOf:D->v_^u_ Key
 |.tup ds=>Pl ds
 |_=>r_
section
variable {K:Frag}{X:Cx}
theorem Oj{M:Ch->Prop}{H:Hp}{k:u_ Key}:∀{ks:u_^u_ Key}{ds:u_ D}{vs:u_ V},Ats K M H ds vs->
  match Cg ks ds k with
  |some z=>∃v,Cu (ks.zip vs) k=P3 v/\At K M H z v
  |none=>Cu (ks.zip vs) k=r_
 |[],ds,vs,h=>by unfold Cg;exact rfl
 |k0::ks,[],vs,h=>by cases h;exact rfl
 | k0::ks,d::ds,vs,h=>by
  let#[v,r,rfl,h1,h2]:=h;have ih:=Oj (k:=k) (ks:=ks) h2;unfold Cg
  by_cases e:k0=k
  .rw[if_pos e]
   refine#[v,?_,h1];show Cu ((k0,v)::ks.zip r) k=P3 v;rw[Di e]
  .rw[if_neg e]
   have:Cu ((k0,v)::ks.zip r) k=Cu (ks.zip r) k:=Dk e
   rw[show(k0::ks).zip (v::r)=(k0,v)::ks.zip r from rfl,this];exact ih
def XO{M:Ch->Prop}{H:Hp}{d:D}{v:V}{k:Key}(e:keyOf d=P3 k)(h:At K M H d v):v=kV k:=by
 cases d with
 |int i=>cases e;exact h
 |str x=>cases e;exact h.1
 |_=>cases e
theorem Pk{M:Ch->Prop}{H:Hp}:∀{ds:u_ D}{vs:u_ V}{ks:u_ Key},Pl ds=P3 ks->Ats K M H ds vs->vs=ks.map kV
 |[],vs,ks,e,h=>by cases e;exact h
 | d::ds,vs,ks,e,h=>by
  let#[v,r,rfl,h1,h2]:=h;unfold Pl at e;cases c1:keyOf d with
  |none=>rw[c1]at e;cases e
  | some k=>
   cases c2:Pl ds with
   |none=>rw[c1,c2]at e;cases e
   |some k2=>
    rw[c1,c2]at e;cases e;rw[Pk c2 h2,XO c1 h1];rfl
def FD{U M:Ch->Prop}{H:Hp}{d:D}{v:V}{k:u_ Key}(e:keysOf d=P3 k)(h:AtT K U M H d v):∃b,v=.ref b/\H b=P3^.tup^k.map kV:=by
 cases d with
 |tup ds=>
  let#[a,vs,rfl,ha,hs]:=h.tup;refine#[a,rfl,?_];rw[←Pk e hs];exact ha
 |_=>cases e
def Kt{U M:Ch->Prop}{H:Hp}{x:V}{ks:u_^u_ Key}{ds:u_ D}(h:AtT K U M H (.dit ks ds) x):∃a vs,x=.ref a/\Rd H a^.dT^ks.zip vs/\Ats K M H ds vs:=by
 let#[a,vs,rfl,_,ha,_,hs]:=h;exact#[a,vs,rfl,.inl ha,hs]
def Za{H:Hp}{a b:Ch}{kvs:u_ (u_ Key×V)}{k:u_ Key}(e:Rd H a^.dT kvs)(eb:H b=P3^.tup^k.map kV):DGet H a (.ref b)^Cu kvs k:=.inr #[kvs,k,b,e,rfl,eb,rfl]
def TF(d e:D)(P:D->Prop):Prop:=∃ks ds k z,d=.dit ks ds/\keysOf e=P3 k/\Cg ks ds k=P3 z/\P z
def cr:D3 K .sh WM TF:=λU M H d e x y P Q dom vM hx hy w q=>by
 let#[ks,ds,k,z,rfl,he,hz,w]:=w;let#[a,vs,rfl,ha,hs]:=Kt hx;let#[b,rfl,eb]:=FD he hy;have h:=Oj (k:=k) (ks:=ks) hs;rw[hz]at h;let#[v,h1,h2]:=h;exact#[a,v,rfl,by rw[←h1];exact Za ha eb,q v H z .refl h2 w]
variable {a b:Expr}{zU zT:Kd}{wa wb:DW}{pos:Pos}
def TX{k:Nat}(hr:Room k X.A)(ha:DE X a zU wa)(hb:DE X b zT wb)(hs:Zv b:=by intro _ _;rfl):DE X (.Subscript a b pos) .sh^AZ TF wa wb:=by
 let#[ta,ha1,ha2]:=ha;let#[tb,hb1,hb2]:=hb;exact#[Dg WM ta tb,JD (IT hr) ha1 hb1 hs,λC M H n ρ Z P Q R w q=>EJ cr ha2 hb2 C M H n ρ Z P Q R w q]
end
def Kh(ks:u_^u_ Key)(k:u_ Key):Bool:=ks.any λk0=>decide (k0=k)
def hasK_iffU{ks:u_^u_ Key}{k:u_ Key}:Kh ks k=s_↔k∈ks:=by
 unfold Kh;rw[kZ];exact#[fun#[x,hx,e]=>by rw[←of_decide_eq_true e];exact hx,λh=>#[k,h,decide_eq_true rfl]]
def Bv(ks:u_^u_ Key)(k:u_ Key):u_^u_ Key:=if Kh ks k=s_ then ks else ks++[k]
def Bj{α:Type}(ks:u_^u_ Key)(ds:u_ α)(k:u_ Key)(d:α):u_ α:=if Kh ks k=s_ then j4 (λk0 d0=>if k0=k then d else d0) ks ds else ds++[d]
def YD{ks:u_^u_ Key}{vs:u_ V}(hl:ks.length=vs.length)(k:u_ Key):((ks.zip vs).any λkv=>decide (kv.1=k))=Kh ks k:=by
 rw[i6,kZ,hasK_iffU];constructor
 .rintro⟨⟨a,b⟩,hm,e⟩
  have e:a=k:=of_decide_eq_true e;rw[←e];exact(l9 hm).1
 .intro h
  let#[i,hi,e]:=k8.mp h;refine#[(ks[i],vs[i]'(by lk)),?_,by rw[e];exact decide_eq_true rfl];exact k8.mpr #[i,by rw[jw];lk,by rw[List.getElem_zip]]
def MG{ks:u_^u_ Key}{vs:u_ V}(hl:ks.length=vs.length)(k:u_ Key)(v:V):putK (ks.zip vs) k v=(Bv ks k).zip^Bj ks vs k v:=by
 unfold putK Bv Bj;rw[YD hl]
 by_cases h:Kh ks k=s_
 .rw [if_pos h,if_pos h,if_pos h]
  have go:∀(ks:u_^u_ Key) (vs:u_ V),((ks.zip vs).map λkv=>if kv.1=k then(kv.1,v)else kv)=ks.zip^j4 (λk0 d0=>if k0=k then v else d0) ks vs:=by
   intro ks
   induction ks with
   |nil=>intro vs;rfl
   | cons a ks ih=>
    intro vs;cases vs with
    |nil=>rfl
    |cons b vs=>
     show(if a=k then(a,v)else(a,b))::_=(a,if a=k then v else b)::_;exact List.cons_eq_cons.mpr #[by split <;>rfl,ih vs]
  exact go ks vs
 .rw[if_neg h,if_neg h,if_neg h,List.zip_append hl]
  rfl
theorem Ats.putU{K:Frag}{M:Ch->Prop}{H:Hp}{k:u_ Key}{d:D}{v:V}(hd:At K M H d v):∀{ks:u_^u_ Key}{ds:u_ D}{vs:u_ V},Ats K M H ds vs->Ats K M H (j4 (λk0 d0=>if k0=k then d else d0) ks ds)^j4 (λk0 d0=>if k0=k then v else d0) ks vs
 |[],ds,vs,h=>rfl
 |a::ks,[],vs,h=>by cases(show vs=[]from h);rfl
 |a::ks,e::ds,vs,h=>by
  let#[u,r,rfl,h1,h2]:=h;refine#[_,_,rfl,?_,Ats.putU hd h2];show At K M H (if a=k then d else e) (if a=k then v else u)
  by_cases e1:a=k
  .rw[if_pos e1,if_pos e1];exact hd
  .rw[if_neg e1,if_neg e1];exact h1
def Ats.putXU{K:Frag}{M:Ch->Prop}{H:Hp}{k:u_ Key}{d:D}{v:V}{ks:u_^u_ Key}{ds:u_ D}{vs:u_ V}(hd:At K M H d v)(h:Ats K M H ds vs):Ats K M H (Bj ks ds k d)^Bj ks vs k v:=by
 unfold Bj
 split
 .exact Ats.putU hd h
 .exact h.append^Ats.one hd
def J_{α:Type}{ks:u_^u_ Key}{ds:u_ α}{k:u_ Key}{d:α}(hl:ks.length=ds.length):(Bv ks k).length=(Bj ks ds k d).length:=by
 unfold Bv Bj
 split
 .rw[List.length_zipWith];lk
 .rw[iT,iT];show ks.length+1=ds.length+1;lk
theorem Fl:∀{ks:u_^u_ Key}{ds:u_ D}{k:u_ Key},ks.length=ds.length->k∈ks->∃z,Cg ks ds k=P3 z
 |[],ds,k,_,h=>by cases h
 |a::ks,[],k,h,_=>by cases h
 | a::ks,d::ds,k,hl,h=>by
  unfold Cg
  by_cases e:a=k
  .exact#[d,if_pos e]
  .rw[if_neg e]
   exact Fl (by simpa using hl)^(UF.mp h).resolve_left λz=>e z.symm
section
variable {X:Cx}{a b e:Expr}{κ zU zT:Kd}{wa wb:DW}{pos pos':Pos}
def Ql:DW:=λn _ P=>P (.dit [] []) n
def P5:DE X (.Dict [] [] pos) .fr Ql:=by
 refine#[_,Wj,λC M H n ρ Z P Q R w q=>λp hp=>?_];have g:Grow H^Av H p^.dT []:=Ap hp;exact q _ _ (.dit [] []) n g.ext (R.feed.grow g) #[p,rfl,hp,[],AQ,rfl,rfl] w
def Zz(i:Nat)(wk wv:DW):Af:=λD2 n ρ=>∃ks ds,ρ[i]?=P3^.ow^.dit ks ds/\wv n ρ λd n1=>wk n1 ρ λk n2=>∃key,keysOf k=P3 key/\ks.length<sizeLine/\D2.nx n2^ρ.set i^.ow^.dit (Bv ks key)^Bj ks ds key d
def ZX{i k:Nat}{x:ie}(hr:Room k X.A)(hx:PE X x^B9 i)(ha:DE X a zU wa)(hb:DE X b zT wb)(hk:zT≠.tp:=by intro z;cases z)
  (hs:swapsWith b (P3^.Subscript x a pos') pos.line X.env=pure t_:=by rfl):DS X κ (.Assign [.Subscript x a pos'] b pos)^Zz i wa wb:=by
 let#[t,h1,h2]:=ha;let#[u,g1,g2]:=hb;refine#[_,GS (IT hr) hx h1 g1 hs,λC M H n ρ Z D2 E R L w=>?_];let#[ks,ds,hd,w]:=w;refine g2 C M H n ρ Z _ _ R w λv H1 d n1 e1 f1 r1 p=>?_;have R1:=R.step e1 f1;let#[ad,ea,m,nv,tt]:=R1.sl i _ hd;refine#[.ref ad,getD_some ea,?_];refine h2 C M H1 n1 ρ Z _ _ R1 p λy H2 kk n2 e2 f2 r2 p=>?_;let#[key,hkey,hlt,p]:=p;have R2:=R1.step e2 f2;let#[ad',ea',m',nv',tt']:=R2.sl i _ hd;rw[ea]at ea';cases ea';let#[vs,hH,hl,hs']:=tt';have hat:At X.K M H2 d v:=(r1.shOf R.dom hk).pres^R1.pres e2;have hvl:ks.length=vs.length:=by rw[hl,hs'.length]
 let#[b,rfl,eb]:=FD hkey^r2.tpOf R1.dom R1.vM;refine#[ad,_,rfl,DPut.t hH eb (by rw[jw];lk),L.nx M _ n2 _ Z (R2.mut (e:=.dit (Bv ks key)^Bj ks ds key d) hd ea #[Bj ks vs key v,by rw[AQ,MG hvl],J_ hl,(hs'.putXU hat).pres^CO m' hH]) p]
end
end Dp
namespace L2
def DRaw(h:iQ)(a:Ch)(es:Array lO)(ep:Nat):Prop:=∃o,h.get? a=P3 o/\o.ExactDict/\o.data=.dict es ep
section
variable {P:Program}{w:World}{A:Around}{E:Value->Shared->Prop}{s:Shared}{d t:Addr}{es:Array DictEntry}{ep i:Nat}
def DRaw.ty(x:DRaw s.heap d es ep):s.TypeIs (.ref d) "dict":=let #[o,h1,h2,_]:=x;#[o,h1,h2.1]
def DRaw.lt{h:iQ}(x:DRaw h d es ep):d<h.objs.size:=let #[_,h1,_]:=x;T0 h1
def DRaw.to{h h':iQ}(x:DRaw h d es ep)(k:∀o,h.get? d=P3 o->h'.get? d=P3 o):DRaw h' d es ep:=let #[o,h1,h2]:=x;#[o,k o h1,h2]
def WC{Q:Db->No->Prop}(lo:(d==sysModules)=t_)(x:DRaw s.heap d es ep)
  (q:Q (.ref s.heap.objs.size) {s with heap:=s.heap.push {cls:=.type "dict_keyiterator",data:=.fields #[ .ref d,.int 0 0,.int es.size 0,.int ep 0]}}):wpAny (model P w) A (pyIter^.ref d) Q E s:=by
 have T:=x.ty;let#[o,h1,h2,h3]:=x;refine wpAny_pyIter_slot T F.slot_dict_iter^jm F.slot_dict_iter T F.entry_dict_iter ?_^F.args_dict_iter_1 _;unfold kM.«dict.__iter__»;refine Cn ?_
 unfold Builtin.Dict.dictSlotNone;refine Cn^m_ T ?_
 show wpAny (model P w) _ (pure^iR d) _ _ s;refine Op ?_
 show wpAny (model P w) _ (nA d >>=_) _ _ s;unfold nA
 rw[if_neg^by rw[lo];decide];refine Cn^Op^Cn^j9 h1 h3^Cn^nU h1 h3 ?_
 refine Cn^jg^Op #[_,rfl,"dict_keyiterator",_,#[_,TW _ rfl,rfl],j8.lookup,?_];simpa [rawInt]using q
def WD{Q:v_ Db->No->Prop}(x:s.heap.IsKeyIter t d i es.size ep)(y:DRaw s.heap d es ep)(hi:i<es.size)
  (q:∀h',h'.IsKeyIter t d (i+1) es.size ep->ki t s.heap h'->Q (P3 es[i].key) {s with heap:=h'}):wpAny (model P w) A (pyNext^.ref t) Q E s:=by
 have T:=x.typeIs;let#[o,g1,g2,g3]:=x;let#[od,h1,h2,h3]:=y;unfold pyNext;refine Cn^mx^jR (name:=jH "__next__") T j8^jm j8 T nX ?_^nW _
 refine Cn^Op^Cn^Cn ?_
 first|refine Cn^kP T^Op ?_|refine Cn^lG T^Op ?_
 refine Cn^wpAny_fieldsOf g1 g3 ?_;have ow:ni "dict_keyiterator"=t_:=by cbv
 simp only[ow,jD,if_false];show wpAny (model P w) _ (if(iR d==iu)=s_ then _ else _) _ _ s;rw[if_neg (show ¬(iR d==iu)=s_ by intro z;cases z)];refine Cn^Op^Cn^j9 h1 h3 ?_
 rw[if_neg^by simp];refine Cn^Op^Cn^nU h1 h3 ?_
 rw[if_neg^by simp];refine Op ?_
 simp only[show ¬(i:Int)<0 by lk,if_false,ku,k9 hi];refine Cn ?_
 first|refine Cn^kP T^Op ?_|refine Cn^lG T^Op ?_
 refine Cn^wpAny_isOneOf_keyiter T ?_;show wpAny (model P w) _ (setField (.ref t) 1^rawInt ((i:Int)+1) >>=_) _ _ s
 refine Cn^ng g1 g3 (by simp) ?_;have g':(s.heap.update t (Obj.mapFields (·.setIfInBounds 1^rawInt ((i:Int)+1)))).IsKeyIter t d (i+1) es.size ep:=#[_,ji _ g1^Obj.isFreed_of_fields^mO g3 _,(Obj.cls_mapFields ..).trans g2,by rw[mO g3];simp[rawInt]];refine Cn (jX (Cn (wpAny_isOneOf_keyiter (s:={s with heap:=s.heap.update t (Obj.mapFields (·.setIfInBounds 1^rawInt ((i:Int)+1)))}) g'.typeIs ?_)));show wpAny (model P w) _ (pure es[i].key) _ _ _;exact Op^Op #[_,rfl,Op^q _ g' (kU ..)]
def Ys{Q:v_ Db->No->Prop}(hh:A.handled=r_)(x:s.heap.IsKeyIter t d i es.size ep)(y:DRaw s.heap d es ep)(hi:es.size<=i)
  (q:∀h',o6 t s.heap h'->Q r_ {s with heap:=h'}):wpAny (model P w) A (pyNext^.ref t) Q E s:=by
 have T:=x.typeIs;let#[o,g1,g2,g3]:=x;let#[od,h1,h2,h3]:=y;unfold pyNext;refine Cn^mx^jR (name:=jH "__next__") T j8^jm j8 T nX ?_^nW _
 refine Cn^Op^Cn^Cn ?_
 first|refine Cn^kP T^Op ?_|refine Cn^lG T^Op ?_
 refine Cn^wpAny_fieldsOf g1 g3 ?_;have ow:ni "dict_keyiterator"=t_:=by cbv
 simp only[ow,jD,if_false];show wpAny (model P w) _ (if(iR d==iu)=s_ then _ else _) _ _ s;rw[if_neg (show ¬(iR d==iu)=s_ by intro z;cases z)];refine Cn^Op^Cn^j9 h1 h3 ?_
 rw[if_neg^by simp];refine Cn^Op^Cn^nU h1 h3 ?_
 rw[if_neg^by simp];refine Op ?_
 simp only[show ¬(i:Int)<0 by lk,if_false,ku,o9 hi];refine Cn ?_
 first|refine Cn^kP T^Op ?_|refine Cn^lG T^Op ?_
 show wpAny (model P w) _ (setField (.ref t) 0 .none >>=_) _ _ s;refine Cn^ng g1 g3 (by simp) ?_
 show wpAny (model P w) _ (newExc (.type "StopIteration") [] >>=_) _ _ _;refine Cn ?_
 simp only[newExc,newTuple];refine Cn^jg ?_^by size_fits
 refine Cn (m:=firstArgMember _ _) (o7 (a:=iu) (by first|rfl|(simp only[firstArgMember];rfl))^jg ?_^by size_fits);simp only[raiseNew];refine Cn^wpAny_handled ?_
 rw[show A.in1.handled=r_ from hh];refine Cn^Op^wpAny_throw ?_;refine Cn^mz (T:="StopIteration") (b:=s_) #[_,TW _ rfl,rfl] isSubtype_stop ?_
 exact Op^q _^((kU ..).extBut.push _).push _
def UN(hh:A.handled=r_)(I d:Ch)(hne:d≠I)(es:Array lO)(ep:Nat):Walks P w A I [I,d] [I] es.size (λi v=>∃e,es[i]?=P3 e/\v=e.key) (λi h=>h.IsKeyIter I d i es.size ep/\DRaw h d es ep) where
 sub:=λb hb=>by rw[Re.mp hb];exact On
 frame:=λ_ _ _ st hk=>#[st.1.at λo e=>hk I (by simp) o e,st.2.to λo e=>hk d (by simp) o e]
 item:=λi s Q E hi st hQ=>WD st.1 st.2 hi λh' it' sb=>hQ _ h' s.toks #[_,k9 hi,rfl] #[it',st.2.to λo e=>sb.extBut d o hne e] λb o hb e=>sb.extBut b o (λh=>hb^by simp[h]) e
 done:=λs Q E st hQ=>Ys hh st.1 st.2 (Sc _) λh' he=>hQ h' s.toks λb o hb e=>he b o (λh=>hb^by simp[h]) e
 self:=λ_ _ _ _ st hQ=>wpAny_pyIter_keyiter st.1 hQ
def Sd(lo:(d==sysModules)=t_):PySem.W.KdlSrc P w "dict" d d es.size (λi v=>∃e,es[i]?=P3 e/\v=e.key) (λh=>DRaw h d es ep) where
 type:=λ_ x=>x.ty
 there:=λ_ x=>#[x.lt,x.lt]
 keep:=λ_ _ x k=>x.to λo e=>k d (.inl rfl) o e
 notList:=by cbv
 notTuple:=by cbv
 hint:=λ_ _ _ _ x q=>PySem.W.kdl_hint_dict x.ty q
 iter:=λ_ _ hh x=>#[_,_,(λ_ _ q=>WC lo x q),UN hh _ d (ge x.lt) es ep,#[#[_,TW _ rfl,rfl,rfl],x.to λo e=>FM _ e]]
end
open PySem.W
def S7(k:Key):kOf k=kV k:=by cases k <;>rfl
def ZL(ks:u_ Key):ks.map kOf=ks.map kV:=jr λk _=>S7 k
section
variable {X:Cx}
def JN{P:ic}{w:ip}{H:Hp}{h:iQ}{d:Ch}{kvs:u_ (u_ Key×V)}(ok:HOk P w H h)(hd:Rd H d^.dT kvs):
  ∃(o:Obj) (es:Array lO) (ep:Nat) (as:u_ Ch),h.get? d=P3 o/\o.ExactDict/\o.data=.dict es ep/\as.length=kvs.length/\es.size=kvs.length /\
   (∀(i:Nat) (e:lO),es[i]?=P3 e->∃a,as[i]?=P3 a/\e.key=.ref a)/\∀(i:Nat) (a:Ch) (p:u_ Key×V),as[i]?=P3 a->kvs[i]?=P3 p->H a=P3^.tup^p.1.map kV:=by
 let#[_,_,xs,r,o,es,ep,h1,h2,h3,h4,h5,h6]:=Ek ok hd
 have hl:kvs.length=xs.length:=by
  have:∀{l:u_ (u_ Key×V)}{m:u_ (u_ Key×Ch×Db)},KT H l m->l.length=m.length:=λq=>q.length
  exact this r
 have hes:es.size=xs.length:=by rw[←i8,h4,Ev]
 refine#[o,es,ep,xs.map λx=>x.2.1,h1,h2,h3,by rw[Ev,hl],by rw[hes,hl],λi e he=>?_,λi a p ha hp=>?_]
 .rw[←lg,h4,XV]at he
  let#[x,hx,rfl]:=io.mp he;exact#[x.2.1,by rw[XV,hx];rfl,rfl]
 .rw[XV]at ha
  let#[x,hx,rfl]:=io.mp ha
  have:=KJ r hp hx
  exact this.2.1
def WI:u_ V->Hp->VK->Prop:=λxs H Q=>∃(d:Ch) (kvs:u_ (u_ Key×V)),xs=[.ref d]/\Rd H d^.dT kvs/\kvs.length<64/\(∀x∈kvs.map (·.1),∀y∈kvs.map (·.1),BY x y=s_)/\(∀x∈kvs.map (·.1),x≠[]) /\
 ∀(as:u_ Ch) (ix:u_ Nat) (l:Ch),as.length=kvs.length->(∀(i:Nat) (a:Ch) (p:u_ Key×V),as[i]?=P3 a->kvs[i]?=P3 p->H a=P3^.tup^p.1.map kV)->Ih (kvs.map (·.1)) ix->H l=r_->
  Q (.ref l) (Av H l^.lst^ix.map λi=>(as.map V.ref).getD i .non)
def F8(hc:X.calm=s_):CallR X (.builtin "sorted") WI:=by
 intro zF s Z H xs us Q I r h;let#[d,kvs,rfl,hd,h64,hsm,hne,q]:=h;let#[u,rfl,rx]:=vals1 r;cases rx;let#[o,es,ep,as,g1,g2,g3,g4,g5,g6,g7]:=JN I.hok hd;have lo:=(Ek I.hok hd).2.1;refine Cv (kw:=[]) (args_sorted1 _) (λx=>args_list_sort _)^PySem.W.kdu_collect (Sd (P:=X.prog) (w:=X.w) (es:=es) (ep:=ep) lo) (show X.A.in1.handled=r_ from by simp[I.ok.hd hc]) #[o,g1,g2,g3] (by rw[i9];lk) λh' tk acc hkp hacc=>#[by rw[i8,hacc.1,i9];lk,?_];have I1:Inv X zF Z H {s with heap:=h',toks:=tk}:=I.kept (t':=tk) hkp
 have hv:acc.toList=as.map iR:=by
  refine oP λi=>?_;cases hx:acc.toList[i]? with
  |some v=>
   let#[e,he,rfl]:=hacc.2 i v (by rw[←lg];exact hx);let#[a,ha,hk]:=g6 i e he;rw[XV,ha,hk];rfl
  |none=>
   have:acc.toList.length<=i:=oV.mp hx
   rw[i8,hacc.1]at this;rw[lj^by rw[Ev];lk]
 rw[hv];refine L8 I1 (HF as) (by rw[Ev];lk) (keys:=kvs.map (·.1)) #[by rw[Ev,Ev];exact g4,λi ns e=>?_,hsm,hne] λix l ho hl=>q as ix l g4 g7 ho hl;rw[XV]at e;let#[p,hp,rfl]:=io.mp e;have hil:i<as.length:=by rw[g4];exact(Uf.mp hp).1
 refine#[as[i],by rw[XV,Go hil];rfl,?_];rw[ZL];exact SqT.of^g7 i _ p (Go hil) hp
end
end L2
namespace Dp
open L2
def tupK(k:u_ Key):D:=.tup^k.map aY
theorem Pj{K:Frag}{M:Ch->Prop}{H:Hp}:∀{k:u_ Key},(∀x∈k,DP x)->Ats K M H (k.map aY)^k.map kV
 |[],_=>rfl
 |x::k,h=>#[kV x,k.map kV,rfl,by rw[←S7];exact X8^h x On,Pj λy hy=>h y^TM _ hy]
theorem Jf{K:Frag}{M:Ch->Prop}{H:Hp}:∀{ks:u_^u_ Key}{as:u_ Ch},as.length=ks.length->(∀k∈ks,∀x∈k,DP x)->(∀(i:Nat) (a:Ch) (k:u_ Key),as[i]?=P3 a->ks[i]?=P3 k->H a=P3^.tup^k.map kV)->Ats K M H (ks.map tupK)^as.map V.ref
 |[],[],_,_,_=>rfl
 |k::ks,a::as,hl,hf,h=>#[.ref a,as.map V.ref,rfl,#[a,k.map kV,rfl,h 0 a k rfl rfl,Pj^hf k On],Jf (by simpa using hl) (λk hk=>hf k^TM _ hk) λi a' k' e1 e2=>h (i+1) a' k' (by simpa using e1)^by simpa using e2]
section
variable {X:Cx}
def Km(ds:u_ D)(P:D->Prop):Prop:=∃(ks:u_^u_ Key) (es:u_ D),ds=[.dit ks es]/\ks.length=es.length/\ks.length<64/\(∀x∈ks,∀y∈ks,BY x y=s_)/\(∀x∈ks,x≠[])/\(∀k∈ks,∀x∈k,DP x) /\
 ∀ks':u_^u_ Key,ks'.Perm ks->ks'.Pairwise (λa b=>A8 b a=t_)->P^.lst^ks'.map tupK
def Wo{ks:u_^u_ Key}{ix:u_ Nat}(h:Ih ks ix):(ix.map λi=>ks.getD i []).Perm ks/\(ix.map λi=>ks.getD i []).Pairwise (λa b=>A8 b a=t_):=by
 let#[h1,h2]:=h;have il:ix.length=ks.length:=by rw[h1.length_eq,md]
 constructor
 .have:=h1.map λi=>ks.getD i []
  have e:(i4 ks.length).map (λi=>ks.getD i [])=ks:=by
   apply om
   .simp
   .intro i h1 h2
    simp[h2]
  rw[e]at this;exact this
 .rw[mC]
  intro i j hi hj hij;rw[Ev]at hi hj
  have:=h2 i j (nF hij)^by lk
  rw[on,on];rw[ia (l:=ix),Go hj,ia (l:=ix),Go hi]at this;exact this
def OD:B6 X.K .fr WI Km:=by
 intro U M H ds vs P Q dom vM hp w q;let#[ks,es,rfl,hl,h64,hsm,hne,hf,w]:=w;let#[v,rfl,hx]:=CV hp;let#[a,us,rfl,ha,hs]:=Kt hx;have hul:=hs.length;have ez:(ks.zip us).map (·.1)=ks:=List.map_fst_zip (by lk);have ezl:(ks.zip us).length=ks.length:=by rw[jw];lk
 refine#[a,_,rfl,ha,by lk,by rw[ez];exact hsm,by rw[ez];exact hne,λas ix l has hat ho hlf=>?_];rw[ez]at ho;let#[o1,o2]:=Wo ho
 have hA:Ats X.K M H (ks.map tupK)^as.map V.ref:=Jf (by lk) hf λi b k e1 e2=>by
  have hi:i<(ks.zip us).length:=by rw[ezl];exact(Uf.mp e2).1
  have:=hat i b _ e1^Go hi
  rw[List.getElem_zip]at this;let#[_,e3]:=Uf.mp e2;rw[e3]at this;exact this
 have e4:(ix.map λi=>(ks.map tupK).getD i .non)=(ix.map λi=>ks.getD i []).map tupK:=by
  rw[jb];refine jr λi hi=>?_;have hil:i<ks.length:=kG.mp^ho.1.mem_iff.mp hi;show(ks.map tupK).getD i .non=tupK^ks.getD i [];rw[ia,ia,XV,Go hil];rfl
 have:=w _ o1 o2
 rw[←e4]at this;exact q _ _ (.lst _) (Ap hlf) (B4 hlf^hA.pick ix) this
end
end Dp
namespace L2
section
variable {prog:Program}{w:World}{A:Around}{E:Value->Shared->Prop}{s:Shared}{x y:Str}{t u:Tok}
def Vj(x y:Str)(i:Nat):Str:=if i=0 then x else y
def SK{i:Nat}{v:Db}(h:(#[ lA x t,lA y u]:Array Db)[i]?=P3 v):∃k,v=.str (Vj x y i) k:=by
 match i with
 |0=>exact#[t,(eq h).symm]
 |1=>exact#[u,(eq h).symm]
 |i+2=>simp at h
def U6:CmpOf prog w A .Lt (λi v=>(#[ lA x t,lA y u]:Array Db)[i]?=P3 v) (λi j=>decide ((Vj x y i).cps.toList<(Vj x y j).cps.toList)):=λi j vi vj s Q E hi hj h=>by
 let#[a,rfl]:=SK hi;let#[b,rfl]:=SK hj;exact richCompare_gives (op:=.Lt) (k7 s _ a) (k7 s _ b) PySem.F.slot_str_lt PySem.F.entry_str_lt (PySem.F.args_str_lt_2 _ _) (gives_str_lt _ _ a b) (λe=>nomatch e) h
def U7:CmpOf prog w A .Gt (λi v=>(#[ lA x t,lA y u]:Array Db)[i]?=P3 v) (λi j=>decide ((Vj x y j).cps.toList<(Vj x y i).cps.toList)):=λi j vi vj s Q E hi hj h=>by
 let#[a,rfl]:=SK hi;let#[b,rfl]:=SK hj;exact richCompare_gives (op:=.Gt) (k7 s _ a) (k7 s _ b) PySem.F.slot_str_gt PySem.F.entry_str_gt (PySem.F.args_str_gt_2 _ _) (gives_str_gt _ _ a b) (λe=>nomatch e) h
def Vk{n c:Nat}(h:c∈[n+1,n]):c<n+1+1:=by
 simp only[UF,ig,or_false]at h;lk
def Om{bt:Nat->Nat->Bool}{v:Db}(h:(#[ lA x t,lA y u]:Array Db)[argBest bt 1]?=P3 v):v=if bt 1 0=s_ then .str y u else .str x t:=by
 have e:argBest bt 1=if bt 1 0=s_ then 1 else 0:=rfl
 rw[e]at h;cases c:bt 1 0 with
 |true=>rw[c]at h;exact(eq h).symm
 |false=>rw[c]at h;exact(eq h).symm
def Uj{Q:Db->No->Prop}(hh:A.handled=r_)(h:∀h' tk,(∀c o,s.heap.get? c=P3 o->h'.get? c=P3 o)->Q (if decide (y.cps.toList<x.cps.toList)=s_ then .str y u else .str x t) {s with heap:=h',toks:=tk}):
  wpAny (model prog w) A (call (.builtin "min") [.str x t,.str y u]) Q E s:=by
 have hT:(s.heap.push {cls:=.type "tuple",data:=.seq #[ .str x t,.str y u]}).IsTuple s.heap.objs.size #[ .str x t,.str y u]:=#[_,TW _ rfl,rfl,0,rfl];refine call_min_two^ja hT ?_;have z1:(s.heap.push {cls:=.type "tuple",data:=.seq #[ .str x t,.str y u]}).objs.size=s.heap.objs.size+1:=jM ..;refine#[_,[_,s.heap.objs.size],[_],_,_,_,_,rfl,Walks.tuple (A:=A.in1) hh _ s.heap.objs.size (by rw[z1];exact ge^kX _) #[ .str x t,.str y u],#[#[_,TW _ rfl,rfl,rfl],hT.push _],λc hc=>?_,by simp,U6,λv h' tk hP k=>?_]
 .rw[jM,z1];rw[z1]at hc;exact Vk hc
 .rw[Om hP]
  refine h h' tk λc o e=>k c o (λm=>?_)^FM _^FM _ e;have l:=T0 e;rw[Re.mp m,z1]at l;exact absurd l^mS.mpr^jP _
def Ul{Q:Db->No->Prop}(hh:A.handled=r_)(h:∀h' tk,(∀c o,s.heap.get? c=P3 o->h'.get? c=P3 o)->Q (if decide (x.cps.toList<y.cps.toList)=s_ then .str y u else .str x t) {s with heap:=h',toks:=tk}):
  wpAny (model prog w) A (call (.builtin "max") [.str x t,.str y u]) Q E s:=by
 have hT:(s.heap.push {cls:=.type "tuple",data:=.seq #[ .str x t,.str y u]}).IsTuple s.heap.objs.size #[ .str x t,.str y u]:=#[_,TW _ rfl,rfl,0,rfl];refine call_max_two^ja hT ?_;have z1:(s.heap.push {cls:=.type "tuple",data:=.seq #[ .str x t,.str y u]}).objs.size=s.heap.objs.size+1:=jM ..;refine#[_,[_,s.heap.objs.size],[_],_,_,_,_,rfl,Walks.tuple (A:=A.in1) hh _ s.heap.objs.size (by rw[z1];exact ge^kX _) #[ .str x t,.str y u],#[#[_,TW _ rfl,rfl,rfl],hT.push _],λc hc=>?_,by simp,U7,λv h' tk hP k=>?_]
 .rw[jM,z1];rw[z1]at hc;exact Vk hc
 .rw[Om hP]
  refine h h' tk λc o e=>k c o (λm=>?_)^FM _^FM _ e;have l:=T0 e;rw[Re.mp m,z1]at l;exact absurd l^mS.mpr^jP _
end
section
variable {X:Cx}
def aF:u_ V->Hp->VK->Prop:=λxs H Q=>∃x y:Str,xs=[.str x,.str y]/\Q (.str (if decide (y.cps.toList<x.cps.toList)=s_ then y else x)) H
def aH:u_ V->Hp->VK->Prop:=λxs H Q=>∃x y:Str,xs=[.str x,.str y]/\Q (.str (if decide (x.cps.toList<y.cps.toList)=s_ then y else x)) H
def Hk(hc:X.calm=s_):CallR X (.builtin "min") aF:=by
 intro zF s Z H xs us Q I r h;let#[x,y,rfl,q]:=h;let#[u,w',rfl,#[t,rfl],#[t',rfl]]:=vals2 r;refine Uj (I.ok.hd hc) λh' tk k=>#[_,H,I.kept k,?_,q];cases decide (y.cps.toList<x.cps.toList) <;>exact#[_,rfl]
def Hl(hc:X.calm=s_):CallR X (.builtin "max") aH:=by
 intro zF s Z H xs us Q I r h;let#[x,y,rfl,q]:=h;let#[u,w',rfl,#[t,rfl],#[t',rfl]]:=vals2 r;refine Ul (I.ok.hd hc) λh' tk k=>#[_,H,I.kept k,?_,q];cases decide (x.cps.toList<y.cps.toList) <;>exact#[_,rfl]
end
end L2
namespace Dp
open L2
section
variable {K:Frag}
def Ps(ds:u_ D)(P:D->Prop):Prop:=∃x y:Str,ds=[.str x,.str y]/\P^.str (if decide (y.cps.toList<x.cps.toList)=s_ then y else x)
def Pt(ds:u_ D)(P:D->Prop):Prop:=∃x y:Str,ds=[.str x,.str y]/\P^.str (if decide (x.cps.toList<y.cps.toList)=s_ then y else x)
def Ol{U M:Ch->Prop}{H:Hp}{x y:Str}{vs:u_ V}(hp:Paired (λv d=>AtT K U M H d v) vs [.str x,.str y]):vs=[.str x,.str y]/\x.length<=sizeLine/\y.length<=sizeLine:=by
 cases hp with
 | cons r1 r2=>cases r2 with
  |cons r3 r4=>
   cases r4;let#[rfl,l1]:=r1.str;let#[rfl,l2]:=r3.str;exact#[rfl,l1,l2]
def Rv:B6 K .sh aF Ps:=by
 intro U M H ds vs P Q dom vM hp w q;let#[x,y,rfl,w]:=w;let#[e,l1,l2]:=Ol hp;exact#[x,y,e,q _ H (.str _) .refl #[rfl,by split <;>assumption] w]
def Rw:B6 K .sh aH Pt:=by
 intro U M H ds vs P Q dom vM hp w q;let#[x,y,rfl,w]:=w;let#[e,l1,l2]:=Ol hp;exact#[x,y,e,q _ H (.str _) .refl #[rfl,by split <;>assumption] w]
end
end Dp
namespace L2
open PySem.W
end L2
namespace Dp
open L2
end Dp
namespace L2
open PySem.W
end L2
namespace Dp
open L2
end Dp
namespace Nt
open L2 Dp
def words26:u_ Str:=["a","aa","ab","abc","b","ba","bb","c","come","d","far","in","lay","m","n","near","out","place","q","r","tie","tree","x","xy","y","zzzzzzzz"]
def JX:W2:=λss n P=>ss=[]/\P (.lst^words26.map .str) n
def LD:W2:=λss n P=>∃m:Nat,ss=[.fd,.sh^.int m]/\m<=26/\2<=n.n/\∀xs:u_ Str,xs.length=m->(∀x∈xs,EU x)->rising xs->P (.tup^xs.map .str) (n - 2)
def LF:W2:=λss n P=>∃s:Int,ss=[.fd,.sh^.int s]/\0<=s/\s<=3/\1<=n.n/\∀r:Int,1<=r->r<=1000000->P (.int r) (n - 1)
def Fh:Af:=(Ac (A6 0^Ct^AE (wC^D.str "a")^AE (wC^D.str "aa")^AE (wC^D.str "ab")^AE (wC^D.str "abc")^AE (wC^D.str "b")^AE (wC^D.str "ba")^AE (wC^D.str "bb")^AE (wC^D.str "c")^AE (wC^D.str "come")^AE (wC^D.str "d")^AE (wC^D.str "far")^AE (wC^D.str "in")^AE (wC^D.str "lay")^AE (wC^D.str "m")^AE (wC^D.str "n")^AE (wC^D.str "near")^AE (wC^D.str "out") AT)
 (Aq^AZ BX (AB 0)^Ct^AE (wC^D.str "place")^AE (wC^D.str "q")^AE (wC^D.str "r")^AE (wC^D.str "tie")^AE (wC^D.str "tree")^AE (wC^D.str "x")^AE (wC^D.str "xy")^AE (wC^D.str "y")^AE (wC^D.str "zzzzzzzz") AT))
def Ep:Af:=(Ac (A6 2^Ae JX AS)
 (Ac (A6 3^Ae BU^AD (A4 0)^AD (AM^wC^D.int 26) AS)
 (Ac (A6 4^AZ A2 (Ct^AE (wC^D.int 1)^AE (wC^D.int 3)^AE (wC^D.int 5)^AE (wC^D.int 7) AT)^Ae BU^AD (A4 0)^AD (AM^wC^D.int 4) AS)
 (Aq^Bi CD^AE (Bi RY^AE (Bl [P3 2,P3 3,P3 4,r_] (SI^AE (AB 1) AT) (Az 3) Il^AZ A2 (AB 0)^AZ (Ya (λ_ j=>0<j) λi j=>D.int (i % j)) (AZ BX (AB 1)^AZ Pr (AB 2)^AB 3)^wC^D.int 26) AT) AT))))
def Er:Af:=(Ac (A_ (Ab^AZ (FN t_) (AB 1)^wC^D.int 3) (Aq^AZ Gh (AZ (Ya YW λi j=>D.int (i ^ j.toNat)) (wC^D.int 10)^wC^D.int 6)^Ae BU^AD (A4 0)^AD (AM^wC^D.int 3) AS) Au)
 (Aq^AZ BX (wC^D.int 1)^Ae BU^AD (A4 0)^AD (AM^AZ A2 (Ct^AE (wC^D.int 3)^AE (wC^D.int 9)^AE (wC^D.int 60) AT)^AB 1) AS))
def Cq(i:Nat):Str:=words26.getD i "a"
def Jb:∀i,i<26->EU^Cq i:=by
 have h:∀i∈i4 26,1<=(Cq i).length/\(Cq i).length<=8/\∀c∈cs^Cq i,97<=c/\c<=122:=by decide +kernel
 exact λi hi=>h i^kG.mpr hi
def Tu:∀i j,i<26->j<26->Cq i=Cq j->i=j:=by
 have h:∀i∈i4 26,∀j∈i4 26,cs^Cq i=cs^Cq j->i=j:=by decide +kernel
 exact λi j hi hj e=>h i (kG.mpr hi) j (kG.mpr hj)^congrArg cs e
def VZ(i:Nat)(h:i<26):(words26.map D.str)[i]?=P3^.str^Cq i:=by
 have hl:i<words26.length:=h;unfold Cq;rw[XV,ia,Go hl];rfl
section
variable {ss:u_ Slot}{n:Sg}{Pd:D->Sg->Prop}
def LU(h:JX ss n Pd):Fh (EE Pd) n (ss++Tk 1 .no):=by
 let#[rfl,p]:=h;unfold Fh;exact#[(by cbv:17<=sizeLine),(by cbv:9<=sizeLine),(by cbv:26<=sizeLine),p]
def RA(f s:Nat):D->D
 |.int k=>.str^Cq ((f+s*k.toNat) % 26)
 |_=>.non
def PK(f s k:Nat):RA f s^.int (0+(k:Int))=.str^Cq ((f+s*k) % 26):=by
 show D.str^Cq ((f+s*(0+(k:Int)).toNat) % 26)=_;rw[show(0+(k:Int)).toNat=k by lk]
def J6(h:LD ss n Pd):Ep (EE Pd) n (ss++Tk 3 .no):=by
 let#[m,rfl,hm,hn,p]:=h;unfold Ep;refine#[rfl,26,rfl,by cbv,by cbv,by lk,λfirst f0 f1=>?_];obtain⟨f,rfl⟩:∃f:Nat,first=(f:Int):=#[first.toNat,by lk]
 refine#[(by cbv:4<=sizeLine),4,rfl,by cbv,by cbv,(by show 1<=n.n - 1;lk),λw w0 w1=>?_]
 obtain⟨s,hs,es⟩:∃s:Nat,(s=1\/s=3\/s=5\/s=7)/\atI [D.int 1,D.int 3,D.int 5,D.int 7] w=P3^.int (s:Int):=by
  rcases(show w=0\/w=1\/w=2\/w=3 by lk)with rfl|rfl|rfl|rfl
  .exact#[1,.inl rfl,rfl]
  .exact#[3,.inr (.inl rfl),rfl]
  .exact#[5,.inr^.inr (.inl rfl),rfl]
  .exact#[7,.inr^.inr (.inr rfl),rfl]
 refine#[_,es,(m:Int),rfl,#[by lk,by lk],by rw[Dn];lk,?_];refine Bk (RA f s) (λρ=>∃s',ρ=[.sh^.lst^words26.map .str,.sh^.int f,.sh^.int s,s']) _ _ _ _ ?_ #[_,rfl] ?_
 .rintro d hd ρ n' nx ⟨s',rfl⟩ hnx
  let#[k,hk,rfl]:=V3 hd;have hlt:(f+s*k) % 26<26:=mU _ (by cbv);have hsk:(s:Int)*(0+(k:Int))=((s*k:Nat):Int):=by rw[Int.zero_add];exact(Int.natCast_mul s k).symm
  refine#[gi (by lk)^by lk,by show(0:Int)<26;decide,.str^Cq ((f+s*k) % 26),?_,?_]
  .rw[hsk,show((f:Int)+((s*k:Nat):Int)) % 26=(((f+s*k) % 26:Nat):Int) by lk]
   exact AH^VZ _ hlt
  .have:=hnx [.sh^.lst^words26.map .str,.sh^.int f,.sh^.int s,.sh^.int (0+(k:Int))] #[_,rfl]
   rw[PK]at this;exact this
 .have e:[]++(HL 0 ((m:Int)).toNat).map^RA f s=((i4 m).map λk:Nat=>Cq ((f+s*k) % 26)).map .str:=by
   unfold HL;rw[iw,jb,jb,ku];refine jr λk _=>?_;exact PK f s k
  rw[e];refine#[_,_,rfl,K7 _,by rw[Ev,md];lk,λss' hp hs'=>p ss' ?_ ?_ ?_]
  .rw[hp.length_eq,Ev,md]
  .intro y hy
   let#[k,_,rfl]:=Rs.mp^hp.mem_iff.mp hy;exact Jb _^mU _^by cbv
  .refine De hs'^hp.nodup_iff.mpr^MJ List.nodup_range λj hj k hk e=>?_
   have e:=Tu _ _ (mU _^by cbv) (mU _^by cbv) e;have hj:=kG.mp hj;have hk:=kG.mp hk
   rcases hs with rfl|rfl|rfl|rfl <;>lk
def J7(h:LF ss n Pd):Er (EE Pd) n (ss++Tk 0 .no):=by
 let#[s,rfl,s0,s3,hn,p]:=h;unfold Er;show if(s==3)=s_ then _ else _
 refine DF (λc=>?_) λc=>?_
 .refine#[g8,_,rfl,by cbv,by cbv,hn,λr r0 r1=>?_]
  have e6:(10:Int) ^ (6:Int).toNat=1000000:=by cbv
  show Pd (.int (10 ^ (6:Int).toNat - r)) (n - 1);rw[e6];exact p _ (by lk)^by lk
 .have c:s≠3:=by simpa using c
  obtain⟨k,hk,ek⟩:∃k:Int,(1<=k/\k<=60)/\atI [D.int 3,D.int 9,D.int 60] s=P3^.int k:=by
   rcases(show s=0\/s=1\/s=2 by lk)with rfl|rfl|rfl
   .exact#[3,by cbv,rfl]
   .exact#[9,by cbv,rfl]
   .exact#[60,by cbv,rfl]
  refine#[(by cbv:3<=sizeLine),_,ek,k,rfl,by lk,by lk,hn,λr r0 r1=>?_];exact p _ (by lk)^by lk
structure Tds (xs:List Str) (ks:List^List Key) (ds:List D):Prop where
 len:ks.length=ds.length
 nd:ks.Nodup
 key:∀k∈ks,∃a b:Str,k=[.inr a,.inr b]/\a∈xs/\b∈xs/\cs a<cs b
 val:∀d∈ds,∃l:Int,d=.int l/\1<=l/\l<=1000000
end
end Nt
namespace Dp
open L2
def EY:Af:=λ_ _ _=>False
section
variable {X:Cx}{κ:Kd}{st:Stmt}
def DA:DS X κ st EY:=#[_,λ_ _ _ _ _ _ h=>h.elim,λ_ _ _ _ _ _ _ _ _ _ w=>w]
end
end Dp
namespace Nt
open Dp
end Nt
namespace L2
def HC:HO->Prop
 |.lst _=>True
 |.dT _=>True
 |.dK _=>True
 |_=>False
def View(H H':Hp):Prop:=∀b,H' b=H b\/∃u,HC u/\(H b=P3^.vol u/\H' b=P3 u\/H b=P3 u/\H' b=P3^.vol u)
section
variable {P:Program}{w:World}{H H' H1:Hp}{h h':Heap}
def View.to(v:View H H'){b:Ch}{o:HO}(e:H b=P3 o)(k:¬HC o)(n:∀u,o≠.vol u):H' b=P3 o:=by
 rcases v b with q|⟨u,c,⟨q,_⟩|⟨q,_⟩⟩
 .rw[q];exact e
 .rw[e]at q;exact absurd (eq q)^n u
 .rw[e]at q;rw[eq q]at k;exact absurd c k
def View.none(v:View H H'){b:Ch}:H' b=r_↔H b=r_:=by
 rcases v b with q|⟨u,c,⟨q,r⟩|⟨q,r⟩⟩
 .rw[q]
 .rw[q,r];exact#[(λz=>by cases z),λz=>by cases z]
 .rw[q,r];exact#[(λz=>by cases z),λz=>by cases z]
def View.tup(v:View H H')(b:Ch)(xs:u_ V)(e:H b=P3^.tup xs):H' b=P3^.tup xs:=v.to e (λz=>z) λu z=>by cases z
def View.own(v:View H H')(b x:Ch)(e:H b=P3^.own x):H' b=P3^.own x:=v.to e (λz=>z) λu z=>by cases z
def View.hok(v:View H H')(x:HOk P w H h):HOk P w H' h:=λa o e=>by
 have st:∀o,ObjOk P w H h a o->ObjOk P w H' h a o:=λo z=>z.stay (λ_ _ _ q=>q) (λb q=>v.own b a q) λb xs q=>v.tup b xs q
 rcases v a with q|⟨u,c,⟨q,r⟩|⟨q,r⟩⟩
 .exact st o^x a o^by rw[←q];exact e
 .have z:=eq^r.symm.trans e
  subst z;exact st u (show ObjOk P w H h a^.vol u from x a _ q)
 .have z:=eq^r.symm.trans e
  subst z;exact(show ObjOk P w H' h a u from st u^x a u q)
def View.unR{fs ex:u_ Ch}(v:View H H')(u:Un fs ex H1 H h h'):Un fs ex H1 H' h h' where
 keep:=u.keep
 slot:=u.slot
 free:=λb o q n hx=>v.none.mpr (u.free b o q n hx)
 there:=u.there
 tups:=λb xs q=>v.tup b xs (u.tups b xs q)
 frzs:=λb o x q=>v.to (u.frzs b o x q) (λz=>z) λu z=>by cases z
 tbls:=λb ps q=>let #[m,z]:=u.tbls b ps q;#[m,v.to z (λz=>z) λu z=>by cases z]
def View.unL{fs ex:u_ Ch}(v:View H H')(u:Un fs ex H' H1 h h'):Un fs ex H H1 h h' where
 keep:=λb o q n=>u.keep b o q (v.none.mpr n)
 slot:=λb o q n=>u.slot b o q (v.none.mpr n)
 free:=λb o q n hx=>u.free b o q (v.none.mpr n) hx
 there:=u.there
 tups:=λb xs q=>u.tups b xs (v.tup b xs q)
 frzs:=λb o x q=>u.frzs b o x (v.to q (λz=>z) λu z=>by cases z)
 tbls:=λb ps q=>u.tbls b ps^v.to q (λz=>z) λu z=>by cases z
def Inv.view{X:Cx}{zF:u_ (Ch×Obj)}{Z:St}{s:No}(I:Inv X zF Z H s)(v:View H H'):Inv X zF Z H' s:=
 #[I.ok,I.os,I.bare,v.unR I.base,I.loc,I.cell,v.none.mpr I.free,λx c q=>v.none.mpr^I.freeC x c q,λp hp=>let #[a,b,c]:=I.pin p hp;#[a,v.none.mpr b,c],v.hok I.hok,I.len]
def EP.view{X:Cx}{zF:u_ (Ch×Obj)}{Z:St}{Q:VK}{u:Db}{s:No}(h:EP X zF Z (λv H=>∃H',View H H'/\Q v H') u s):EP X zF Z Q u s:=
 let #[v,_,I,r,H',w,q]:=h;#[v,H',I.view w,r,q]
def vR(r:u_ V->Hp->VK->Prop):u_ V->Hp->VK->Prop:=λvs H Q=>∃H1,View H H1/\r vs H1 λv H2=>∃H3,View H2 H3/\Q v H3
def h8(sp:Sp):Sp:=λvs H Q E=>∃H1,View H H1/\sp vs H1 (λv H2=>∃H3,View H2 H3/\Q v H3) E
def CallR.view{X:Cx}{f:Db}{r:u_ V->Hp->VK->Prop}(c:CallR X f r):CallR X f^vR r:=by
 intro zF s Z H xs us Q I rs q;let#[H1,v,q]:=q;exact BG (c zF s Z H1 xs us _ (I.view v) rs q) λu s1 h=>h.view
def US{X:Cx}{e:ie}{t:TE}(h:PE X e t):PE X e (λZ H Q=>t Z H λv H1=>∃H2,View H1 H2/\Q v H2):=λzF s Z H Q I q=>BG (h zF s Z H _ I q) λu s1 h=>h.view
def FnOk.view{K:Frag}{mg:Str->v_ Db}{base:iQ}{k:Nat}{f:Ch}{fd:jK}{ps:u_ Str}{sp:Sp}(F:FnOk P w K mg base GC k f fd ps sp):FnOk P w K mg base GC k f fd ps^h8 sp:=by
 refine#[λvs H Q E #[H1,_,q]=>F.len _ _ _ _ q,λA outer s H args us vs Q E hr e hb hv #[H1,v,q]=>?_];have e1:Env0 P w K mg base A outer s H1:=#[e.frames,e.mod,λb o z=>#[(e.bs b o z).1,v.none.mpr (e.bs b o z).2],e.bsz,e.funs,λb z=>v.none.mpr^e.frf b z,v.hok e.hok,e.bare];refine mI (F.run A outer s H1 args us vs _ E hr e1 hb hv q) λr s' hq=>?_;cases r with
 |error x=>exact jL hq
 | ok fl=>
  cases fl with
  |ret u=>
   let#[v',H',a1,a2,a3,a4,a5,H3,v3,a6]:=hq;exact#[v',H3,a1,a2,v3.unR^v.unL a3,v3.hok a4,a5,a6]
  |next=>exact jL hq
  |brk=>exact jL hq
  |cont=>exact jL hq
def gH(K:Frag)(T:String)(r:V->u_ V->Hp->VK->Prop)(to:TE)(t:TA):TE:=λZ H Q=>to Z H λx H1=>(∃H2,View H1 H2/\dW K T x H2)/\t Z H1 λxs H2=>∃H3,View H2 H3/\r x xs H3 λv H4=>∃H5,View H4 H5/\Q v H5
variable {X:Cx}{o e:Expr}{es:u_ Expr}{to:TE}{t:TA}{name:Str}{apos cpos:Pos}{T id:String}{r:V->u_ V->Hp->VK->Prop}
def bx(pa:oR T)(slot:Slot T name id)(hty:typeOf^.builtin id=pure^.type "method_descriptor")(hm:am X id r)(ho:PE X o to)(ha:PA X (e::es) t)
  (hbase:attributeBase o name X.env^eval o X.env=eval o X.env:=by rfl)
  (hfew:((backTo cpos^starEach (e::es) X.env).all (λx=>!x.1)&&(backToKw cpos^keywordEach [] X.env).all (λx=>x.1.isSome)
   && decide ((e::es).length+([]:u_ lC).length+(if([]:u_ lC).isEmpty then 0 else 1)<30))=s_:=by rfl)
  (hline:(apos.endLine==cpos.line)=s_:=by rfl) (hs:starEach (e::es) X.env=(t_,eval e X.env)::starEach es X.env:=by rfl) (hplain:(backTo cpos^starEach es X.env).any (·.1)=t_:=by rfl):
  PE X (.Call (.Attribute o name apos) (e::es) [] cpos) (gH X.K T r to t):=by
 intro zF s Z H Q I h;refine wpAny_Call_method_late hbase hfew hline rfl (BG (ho _ s Z H _ I h) λv s1 #[x,H1,I1,r1,#[H2,vw,ty],q1]=>?_);let#[h1,h2]:=Vi (I1.view vw) r1 ty;refine#[T,id,pa,slot,hty,h1,h2,?_];have hA:=ha cpos _ s1 Z H1 _ I1 q1;rw[hs]at hA ⊢;refine mj (by simp_all)^pJ ?_;exact BG hA λus s2 #[vs,H3,I3,r3,H4,v4,q4]=>BG (hm _ s2 Z H4 x vs v us _ (I3.view v4) r1 r3 q4) λu s1 h=>h.view
end
end L2
namespace Dp
open L2
def Sg.put(s:Sg)(a:Ch)(c:Wc):Sg:=#[s.n,λb=>if b=a then P3 c else s.w b]
def Sg.drop(s:Sg)(L:u_ Ch):Sg:=#[s.n,λb=>if b∈L then r_ else s.w b]
def Sg.back(s2 s:Sg)(L:u_ Ch):Sg:=#[s2.n,λb=>if b∈L then s.w b else s2.w b]
def Sg.back_drop(s:Sg)(L:u_ Ch)(m:Nat):Sg.back #[m,(s.drop L).w] s L=#[m,s.w]:=by
 show(#[m,λb=>if b∈L then s.w b else if b∈L then r_ else s.w b]:Sg)=_
 congr 1
 funext b
 by_cases h:b∈L
 .rw[if_pos h]
 .rw[if_neg h,if_neg h]
def Io(w:Ch->v_ Wc):D->D
 |.ob a=>match w a with
  |some (.pl d)=>d
  |_=>.ob a
 |d=>d
def FL(w:Ch->v_ Wc):D->D
 |.dic ks xs=>.dic ks^xs.map^Io w
 |.tup xs=>.tup^xs.map^Io w
 |d=>Io w d
def Ir(w:Ch->v_ Wc):D->u_ Ch
 |.ob a=>match w a with
  |some (.pl _)=>[a]
  |_=>[]
 |_=>[]
def Ef(w:Ch->v_ Wc):D->u_ Ch
 |.dic _ xs=>xs.flatMap^Ir w
 |.tup xs=>xs.flatMap^Ir w
 |d=>Ir w d
def d_(w:Ch->v_ Wc):Slot->Slot
 |.sh d=>.sh^FL w d
 |s=>s
def cF(w:Ch->v_ Wc):Slot->u_ Ch
 |.sh d=>Ef w d
 |_=>[]
def HH(H:Hp)(L:u_ Ch):Hp:=λb=>if b∈L then(match H b with|some (.vol u)=>P3 u|o=>o)else H b
def VQ(H:Hp)(L:u_ Ch):Hp:=λb=>if b∈L then(match H b with|some u=>P3^.vol u|none=>r_)else H b
section
variable {K:Frag}{M:Addr->Prop}{H:Hp}{L:u_ Addr}{w:Addr->v_ Wc}
def CellOk.pl{a:Ch}{d:D}(h:CellOk K M H a^.pl d):¬M a/\∃u,HC u/\H a=P3^.vol u/\HH H [a] a=P3 u:=by
 cases d with
 |lst ds=>let#[h0,vs,h1,_]:=h;refine#[h0,_,?_,h1,by unfold HH;rw[if_pos On,h1]];exact trivial
 |dit ks ds=>let#[h0,vs,h1,_]:=h;refine#[h0,_,?_,h1,by unfold HH;rw[if_pos On,h1]];exact trivial
 |_=>exact h.elim
def F7{u:HO}(h:HC u):¬VW u:=by rintro⟨x,rfl⟩;exact h
def Cells(M:Ch->Prop)(H:Hp)(L:u_ Ch):Prop:=∀b∈L,¬M b/\∃u,HC u/\H b=P3^.vol u
def Cells.un(c:Cells M H L){b:Ch}(hb:b∈L){u:HO}(h:H b=P3^.vol u):HH H L b=P3 u:=by unfold HH;rw[if_pos hb,h]
def Fn{b:Ch}(hb:b∉L):HH H L b=H b:=if_neg hb
def EX{b:Ch}(hb:b∉L):VQ H L b=H b:=if_neg hb
def Cells.out(c:Cells M H L){b:Ch}{o:HO}(h:H b=P3 o)(n:¬VW o):b∉L:=λhb=>by
 let#[_,u,_,e]:=c b hb;rw[h]at e;exact n #[u,eq e]
def Cells.keep(c:Cells M H L){b:Ch}{o:HO}(h:H b=P3 o)(n:¬VW o):HH H L b=P3 o:=by rw[Fn^c.out h n];exact h
def Cells.view(c:Cells M H L):View H^HH H L:=λb=>by
 by_cases hb:b∈L
 .let#[_,u,k,e]:=c b hb
  exact .inr #[u,k,.inl #[e,c.un hb e]]
 .exact .inl^Fn hb
def Cells.ex(c:Cells M H L)(b:Ch)(o:HO)(h:H b=P3 o):∃o',HH H L b=P3 o':=by
 by_cases hb:b∈L
 .let#[_,u,k,e]:=c b hb
  exact#[u,c.un hb e]
 .exact#[o,by rw[Fn hb];exact h]
def Cells.pres(c:Cells M H L):Pres M H M^HH H L:=#[λb o h _ n=>c.keep h n,λ_ z=>.inl z,λb vs h=>c.keep h (by rintro⟨_,z⟩;cases z),c.ex]
def Cells.ext{U:Ch->Prop}(c:Cells M H L):Ext U H^HH H L:=λb o h=>by
 let#[o',e]:=c.ex b o h;refine#[o',e,λ_ n=>?_,λvs z=>?_]
 .rw[c.keep h n]at e;exact(eq e).symm
 .subst z;rw[c.keep h^by rintro⟨_,z⟩;cases z]at e;exact(eq e).symm
def E5{a:Ch}{d:D}(q:w a=P3^.pl d):Io w^.ob a=d:=by
 show(match w a with|some (.pl d)=>d|_=>D.ob a)=d;rw[q]
def Do{a:Ch}{d:D}(q:w a=P3^.pl d):Ir w^.ob a=[a]:=by
 show(match w a with|some (.pl _)=>[a]|_=>[])=_;rw[q]
def Sa{a:Ch}(q:∀d,w a≠P3^.pl d):Io w^.ob a=.ob a/\Ir w^.ob a=[]:=by
 show(match w a with|some (.pl d)=>d|_=>D.ob a)=_/\(match w a with|some (.pl _)=>[a]|_=>[])=_;cases e:w a with
 |none=>exact#[rfl,rfl]
 |some x=>cases x with
  |ins C ks ds=>exact#[rfl,rfl]
  |pl d=>exact absurd e^q d
def Sb(hw:∀a c,w a=P3 c->CellOk K M H a c)(c:Cells M H L){d:D}{v:V}(h:At K M H d v)(hL:∀a∈Ir w d,a∈L):At K M (HH H L) (Io w d) v:=by
 cases d with
 | ob a=>
  by_cases q:∃d,w a=P3^.pl d
  .let#[d,q]:=q
   rw[E5 q];rw[Do q]at hL;have ha:a∈L:=hL a On;have k:=hw a _ q;let#[rfl,_]:=h;cases d with
   |lst ds=>let#[h0,vs,h1,_,h3]:=k;exact#[a,vs,rfl,#[h0,c.un ha h1],h3.pres c.pres]
   |dit ks ds=>let#[h0,vs,h1,h2,_,h3]:=k;exact#[a,vs,rfl,#[h0,c.un ha h1],h2,h3.pres c.pres]
   |_=>exact k.elim
  .rw[(Sa λd z=>q #[d,z]).1];exact h.pres c.pres
 |_=>exact At.pres c.pres h
theorem GQ(hw:∀a c,w a=P3 c->CellOk K M H a c)(c:Cells M H L):∀{ds:u_ D}{vs:u_ V},Ats K M H ds vs->(∀a∈ds.flatMap^Ir w,a∈L)->Ats K M (HH H L) (ds.map^Io w) vs
 |[],_,h,_=>h
 |d::ds,_,#[v,r,e,h1,h2],hL=>#[v,r,e,Sb hw c h1 λa ha=>hL a (by simp[ha]),GQ hw c h2 λa ha=>hL a^by simp only[kN,iP];exact .inr ha]
def ND(hw:∀a c,w a=P3 c->CellOk K M H a c)(c:Cells M H L){d:D}{v:V}(h:At K M H d v)(hL:∀a∈Ef w d,a∈L):At K M (HH H L) (FL w d) v:=by
 cases d with
 |dic ks xs=>let#[a,vs,e,n,l,hs]:=h;exact#[a,vs,e,n.pres c.pres,by rw[Ev];exact l,GQ hw c hs hL]
 |tup xs=>let#[a,vs,e,n,hs]:=h;exact#[a,vs,e,n.pres c.pres,GQ hw c hs hL]
 |ob a=>exact Sb hw c h hL
 |_=>exact At.pres c.pres h
def Nf{d:D}{a:Ch}(h:a∈Ir w d):∃x,w a=P3^.pl x:=by
 cases d with
 | ob b=>
  by_cases q:∃d,w b=P3^.pl d
  .let#[d,q]:=q
   rw[Do q]at h;rw[Re.mp h];exact#[d,q]
  .rw[(Sa λd z=>q #[d,z]).2]at h;cases h
 |_=>cases h
def S0{d:D}{a:Ch}(h:a∈Ef w d):∃x,w a=P3^.pl x:=by
 cases d with
 |dic ks xs=>let#[x,_,hx]:=kF.mp h;exact Nf hx
 |tup xs=>let#[x,_,hx]:=kF.mp h;exact Nf hx
 |ob b=>exact Nf (d:=.ob b) h
 |_=>cases h
end
def Fk(W:W2)(was:VO):DW:=λn ρ P=>was n ρ λss n1=>∃L ss',ss.map^d_ n1.w=ss'/\ss.flatMap^cF n1.w=L/\W ss' (n1.drop L) λd n2=>flat d=s_/\P d^n2.back n1 L
section
variable {X:Cx}{e:Expr}{es:u_ Expr}{pos p:Pos}{was:VO}
theorem QN{K:Frag}{F:v_ (Ch×Ch)}{U V' M:Ch->Prop}{H:Hp}{L:u_ Ch}{w:Ch->v_ Wc}(hw:∀a c,w a=P3 c->CellOk K M H a c)(c:Cells M H L)(uV:∀a,U a->V' a):∀{vs:u_ V}{ss:u_ Slot},Paired (E3 K F V' M H) vs ss->(∀a∈ss.flatMap^cF w,a∈L)->Paired (E3 K F V' M^HH H L) vs^ss.map^d_ w
 |_,_,.nil,_=>.nil
 |_,s::ss,.cons #[h,o] t,hL=>by
  refine .cons ?_ (QN hw c uV t λa ha=>hL a^by simp only[kN,iP];exact .inr ha);cases s with
  |sh d=>let#[v,e1,h1]:=h;exact#[#[v,e1,ND hw c h1 λa ha=>hL a^by simp only[kN,iP];exact .inl ha],rfl]
  |_=>exact#[h.pres c.pres (λ_ z=>z) (c.ext (U:=U)) uV,o]
def Kc{K:Frag}{F:v_ (Ch×Ch)}{M:Ch->Prop}{H:Hp}{n:Sg}{α:Type}{g:α->u_ Ch}{ss:u_ α}(f:FeedC K F M H n)(hg:∀s b,b∈g s->∃d,n.w b=P3^.pl d):Cells M H^ss.flatMap g:=λb hb=>by
 let#[s,_,hs]:=kF.mp hb;let#[d,hd]:=hg s b hs;let#[h0,u,k,h1,_]:=(f.2 b _ hd).pl;exact#[h0,u,k,h1]
def ZF{w:Ch->v_ Wc}(s:Slot)(b:Ch)(h:b∈cF w s):∃d,w b=P3^.pl d:=by
 cases s with
 |sh d=>exact S0 h
 |_=>cases h
def FeedC.lend{K:Frag}{F:v_ (Ch×Ch)}{M:Ch->Prop}{H:Hp}{n:Sg}{L:u_ Ch}(f:FeedC K F M H n)(c:Cells M H L):FeedC K F M (HH H L)^n.drop L:=by
 refine#[λg hg=>(f.1 g hg).pres c.pres λo ho=>?_,λa x hx=>?_]
 .let#[_,_,_,z,_]:=f.1 g hg
  rw[z]at ho;cases ho
  exact c.keep z^by rintro⟨_,z⟩;cases z
 .have hx:(if a∈L then r_ else n.w a)=P3 x:=hx
  by_cases ha:a∈L
  .rw[if_pos ha]at hx;cases hx
  .rw[if_neg ha]at hx
   exact(f.2 a x hx).to (λ_ _ z=>z) c.pres.2.2.1 c.ex λu hu=>by rw[Fn ha];exact hu
def K_{K:Frag}{C:Fm}{M:Ch->Prop}{H1 H3:Hp}{n1 n2:Sg}{ρ:u_ Slot}{Z:L2.St}{L:u_ Ch}(R1:Rel K C M H1 n1 ρ Z)(c:Cells M H1 L)(e3:Ext C.U (HH H1 L) H3)(f3:FeedC K C.F M H3 n2):
  View H3 (VQ H3 L)/\Ext C.U H1^VQ H3 L/\FeedC K C.F M (VQ H3 L)^n2.back n1 L/\∀b o,H3 b=P3 o->∃o',VQ H3 L b=P3 o':=by
 have f1:=R1.feed;have in3:∀b∈L,∀u,H1 b=P3^.vol u->HC u->H3 b=P3 u:=λb hb u hu k=>e3.keep (c.un hb hu) (λz=>(c b hb).1 (R1.vM b^R1.uV b z))^F7 k;have wr:∀b∈L,∀u,H1 b=P3^.vol u->HC u->VQ H3 L b=P3^.vol u:=λb hb u hu k=>by unfold VQ;rw[if_pos hb,in3 b hb u hu k]
 have v3:View H3^VQ H3 L:=λb=>by
  by_cases hb:b∈L
  .let#[_,u,k,hu]:=c b hb
   exact .inr #[u,k,.inr #[in3 b hb u hu k,wr b hb u hu k]]
  .exact .inl^EX hb
 have ex3:∀b o,H3 b=P3 o->∃o',VQ H3 L b=P3 o':=λb o h=>by
  by_cases hb:b∈L
  .let#[_,u,k,hu]:=c b hb
   exact#[_,wr b hb u hu k]
  .exact#[o,by rw[EX hb];exact h]
 have e4:Ext C.U H1^VQ H3 L:=λb o h=>by
  by_cases hb:b∈L
  .let#[_,u,k,hu]:=c b hb
   rw[h]at hu;cases hu
   exact#[_,wr b hb u h k,λ_ n=>absurd #[u,rfl] n,λvs z=>by cases z]
  .let#[o',h',z1,z2]:=e3 b o^by rw[Fn hb];exact h
   exact#[o',by rw[EX hb];exact h',z1,z2]
 refine#[v3,e4,#[λf hf=>?_,λa x hx=>?_],ex3]
 .let#[x,r,cs,g1,g2,g3,g4]:=f3.1 f hf
  let#[_,_,_,o1,_,o3,_]:=f1.1 f hf;have n1:f.1∉L:=c.out o1 (by rintro⟨_,z⟩;cases z);have n2:f.2∉L:=c.out o3.2 (by rintro⟨_,z⟩;cases z);exact#[x,r,cs,by rw[EX n1];exact g1,g2,#[g3.1,by rw[EX n2];exact g3.2],g4]
 .have hx:(if a∈L then n1.w a else n2.w a)=P3 x:=hx
  by_cases ha:a∈L
  .rw[if_pos ha]at hx
   refine(f1.2 a x hx).to (λ_ _ z=>z) (λb vs h=>e4.tup h) (λb o h=>let #[o',h',_]:=e4 b o h;#[o',h']) λu hu=>?_;let#[_,u',k,hu']:=c a ha;rw[hu]at hu';cases hu'
   exact wr a ha u hu k
  .rw[if_neg ha]at hx
   exact(f3.2 a x hx).to (λ_ _ z=>z) (λb vs h=>v3.tup b vs h) ex3 λu hu=>by rw[EX ha];exact hu
def Kv{k:Nat}{ps:u_ Str}{W:W2}{x:Str}(G:Got X.prog X.w X.K X.mg X.base x k ps .sh W)(hr:Room k X.A)(hg:Gl X x)(ha:Zx X (e::es) was)
  (hdb:(x==("__debug__":Str))=t_:=by decide) (he:starEach (e::es) X.env=(t_,eval e X.env)::starEach es X.env:=by rfl) (hpl:(backTo pos^starEach es X.env).any (·.1)=t_:=by rfl):
  DE X (.Call (.Name x p) (e::es) [] pos) .sh (Fk W was):=by
 let#[f,fd,G,hm,hk,hb,hW]:=G;let#[t,h1,h2]:=ha;refine#[_,NP G.view hr hg hm hk hb .nil KI h1 hdb he hpl,λC M H n ρ Z P Q R w q=>?_];refine h2 C M H n ρ Z _ _ R w λvs H1 ss n1 e1 f1 r1 #[L,ss',es,eL,p]=>?_;have R1:=R.step e1 f1;have c:Cells M H1 L:=eL▸Kc f1 ZF;rw[jA];refine#[HH H1 L,c.view,?_];refine#[(Paired.length r1).trans (by have:=hW _ _ _ p;rw[←es,Ev]at this;exact this),C.F,C.U,C.V,M,n1.drop L,ss',_,#[λa z=>let #[o,h]:=R1.dom a z;c.ex a o h,R1.fU,R1.uV,R1.vM,f1.lend c,es▸QN f1.2 c R1.uV r1 λa ha=>eL▸ha],p,λv H3 d n2 e3 f3 r3 #[fl,p3]=>?_];let#[v3,e4,f4,ex3]:=K_ R1 c e3 f3;exact#[VQ H3 L,v3,q v _ d _ (e1.trans e4) f4 (JK (λb vs h=>v3.tup b vs h) ex3 d fl r3) p3]
def MY:D->Prop
 |.lst ds=>BJ ds=s_
 |.dit _ ds=>BJ ds=s_
 |_=>False
def iG:Kd->D->Prop
 |.sh,z=>flat z=s_
 |.fr,z=>MY z
 |.tp,_=>False
def bB(κ:Kd)(f:u_ D->(D->Prop)->Prop)(ws:EW):DW:=λn ρ P=>ws n ρ λds n1=>∃ds',ds.map^FL n1.w=ds'/\f ds' λz=>iG κ z/\P z n1
def Zl{K:Frag}{U V' M:Ch->Prop}{H:Hp}{L:u_ Ch}{w:Ch->v_ Wc}(hw:∀a c,w a=P3 c->CellOk K M H a c)(c:Cells M H L)(uV:∀a,U a->V' a){d:D}{v:V}(h:AtT K V' M H d v)(hL:∀a∈Ef w d,a∈L)(vM:∀a,V' a->M a):AtT K V' M (HH H L) (FL w d) v:=by
 cases d with
 |dic ks xs=>let#[a,vs,e,n,hq,l,hs]:=h;exact#[a,vs,e,n,c.keep hq (by rintro⟨_,z⟩;cases z),by rw[Ev];exact l,GQ hw c hs hL]
 |tup xs=>exact At.tp vM^ND hw c (d:=.tup xs) h hL
 |ob a=>exact At.tp vM^ND hw c (d:=.ob a) h hL
 |_=>exact AtT.pres h c.pres (c.ext (U:=U)) uV
theorem QK{K:Frag}{U V' M:Ch->Prop}{H:Hp}{L:u_ Ch}{w:Ch->v_ Wc}(hw:∀a c,w a=P3 c->CellOk K M H a c)(c:Cells M H L)(uV:∀a,U a->V' a)(vM:∀a,V' a->M a):∀{vs:u_ V}{ds:u_ D},Paired (λv d=>AtT K V' M H d v) vs ds->(∀a∈ds.flatMap^Ef w,a∈L)->Paired (λv d=>AtT K V' M (HH H L) d v) vs^ds.map^FL w
 |_,_,.nil,_=>.nil
 |_,d::ds,.cons h t,hL=>.cons (Zl hw c uV h (λa ha=>hL a^by simp only[kN,iP];exact .inl ha) vM)^QK hw c uV vM t λa ha=>hL a^by simp only[kN,iP];exact .inr ha
def cm{κ:Kd}{r:u_ V->Hp->VK->Prop}{f:u_ D->(D->Prop)->Prop}{t:TA}{ws:EW}(hA:B6 X.K κ r f)(h2:∀(C:Fm) (M:Ch->Prop) (H:Hp) (n:Sg) (ρ:u_ Slot) (Z:L2.St) (P:u_ D->Sg->Prop) (Q:u_ V->Hp->Prop),Rel X.K C M H n ρ Z->ws n ρ P->
   (∀vs H' ds n',Ext C.U H H'->FeedC X.K C.F M H' n'->Paired (λv d=>AtT X.K C.V M H' d v) vs ds->P ds n'->Q vs H')->t Z H Q)
  (C:Fm) (M:Ch->Prop) (H:Hp) (n:Sg) (ρ:u_ Slot) (Z:L2.St) (P:D->Sg->Prop) (Q:VK) (R:Rel X.K C M H n ρ Z) (w:bB κ f ws n ρ P)
  (q:∀v H' d n',Ext C.U H H'->FeedC X.K C.F M H' n'->VR X.K C.V M H H' κ v d->P d n'->Q v H'):dq (vR r) t Z H Q:=by
 refine h2 C M H n ρ Z _ _ R w λvs H1 ds n1 e1 f1 r1 #[ds',ed,p]=>?_;have R1:=R.step e1 f1;have c:Cells M H1^ds.flatMap^Ef n1.w:=Kc f1 λd b=>S0;refine#[_,c.view,hA C.V M _ ds' vs _ _ (λa z=>let #[o,h]:=R1.dom a z;c.ex a o h) R1.vM (ed▸QK f1.2 c R1.uV R1.vM r1 λa ha=>ha) p λv H3 z g vr #[fz,pz]=>?_];let#[v3,e4,f4,ex3]:=K_ R1 c g.ext^(f1.lend c).grow g;rw[show n1.drop^ds.flatMap^Ef n1.w=#[n1.n,(n1.drop^ds.flatMap^Ef n1.w).w]from rfl,Sg.back_drop]at f4;have tu:∀b vs,H3 b=P3^.tup vs->VQ H3 (ds.flatMap^Ef n1.w) b=P3^.tup vs:=λb vs h=>v3.tup b vs h;refine#[_,v3,q v _ z n1 (e1.trans e4) f4 (VR.back e1 ?_) pz];cases κ with
 |tp=>exact fz.elim
 |sh=>exact JK tu ex3 z fz vr
 | fr=>
  let#[a,e,ha,tp]:=vr
  have hn:H1 a=r_:=by
   cases h:H1 a with
   |none=>rfl
   |some o=>let#[o',h']:=c.ex a o h;rw[ha]at h';cases h'
  have hL:a∉ds.flatMap^Ef n1.w:=λhb=>by let#[_,u,_,h]:=c a hb;rw[hn]at h;cases h
  refine#[a,e,hn,?_];cases z with
  |lst es=>let#[us,g1,g2]:=tp;exact#[us,by rw[EX hL];exact g1,BH tu ex3 es fz g2]
  |dit ks es=>let#[us,g1,g2,g3]:=tp;exact#[us,by rw[EX hL];exact g1,g2,BH tu ex3 es fz g3]
  |dic ks es=>exact(show False from fz).elim
  |_=>exact(show False from tp).elim
def Rh{κ:Kd}{x:Str}{T:String}{r:u_ V->Hp->VK->Prop}{f:u_ D->(D->Prop)->Prop}{ws:EW}(hc:CallR X (.type T) r)(hA:B6 X.K κ r f)(hg:Gl X x)(hm:X.mg x=r_)(hv:bootBuiltins x=P3^.type T)(ha:aq X (e::es) ws)
  (hn:x ≠ "__name__":=by decide) (hdb:(x==("__debug__":Str))=t_:=by decide)
  (he:starEach (e::es) X.env=(t_,eval e X.env)::starEach es X.env:=by rfl) (hpl:(backTo pos^starEach es X.env).any (·.1)=t_:=by rfl):DE X (.Call (.Name x p) (e::es) [] pos) κ^bB κ f ws:=by
 let#[t,h1,h2]:=ha;exact#[_,HN hc.view hg hm hv h1 hn hdb he hpl,λC M H n ρ Z P Q R w q=>cm hA h2 C M H n ρ Z P Q R w q]
end
end Dp
namespace L2
theorem Hc{α β:Type}(f:α->β):∀(l:u_ α) (j:Nat),(l.map f).eraseIdx j=(l.eraseIdx j).map f
 |[],_=>rfl
 |_::_,0=>rfl
 |a::l,j+1=>by show f a::(l.map f).eraseIdx j=f a::(l.eraseIdx j).map f;rw[Hc f l j]
section
variable {prog:Program}{w:World}{K:Type}[DecidableEq K]{knd:HeapKind prog w K}{A:Around}{E:Value->Shared->Prop}{s:Shared}{d a:Addr}{k:K}{xs:u_ (K×Addr×Value)}{j:Nat}{p:Addr×Value}
def Ms{Q:v_ lO->No->Prop}(hu:knd.room A)(hkey:knd.is s.heap k a)(hm:s.heap.DictOfH knd d xs)(hj:xs[j]?=P3 (k,p))(hsz:xs.length<=sizeLine)
  (hQ:∀h',h'.DictOfH knd d^xs.eraseIdx j->ki d s.heap h'->Q (P3^entryOfKey knd (k,p)) {s with heap:=h',toks:=s.toks+knd.draws k}):
  wpAny (model prog w) A (pL d^.ref a) Q E s:=by
 let#[o,es,ep,ho,hc,hd,he,his,hn]:=hm;unfold pL
 try with_reducible refine jX ?_
 refine Cn^knd.pyHash hu hkey ?_;refine Cn^wpAny_dictFind_heap (s:={s with toks:=s.toks+knd.draws k}) hu hkey ho hd he his hn (λhno=>absurd hj^hno j p) λi q hi=>?_;obtain rfl:=idxH_unique hn hj hi;rw[hj]at hi;cases hi;refine Cn^j9 (s:={s with toks:=s.toks+knd.draws k}) ho hd ?_;rw[entry_at he j,hj]
 refine Cn (wpAny_updateDictKeys (hz:=by have e:=size_of_entries he;lk) (s:={s with toks:=s.toks+knd.draws k}) ho hd (Op (hQ _ #[_,_,ep+1,ji _ ho^Obj.isFreed_of_dict^Obj.data_mapDictKeys hd _,
   hc.mapDictKeys _,Obj.data_mapDictKeys hd _,?_,?_,?_] (kU ..))))
 .let#[l]:=es
  have he:l=xs.map^entryOfKey knd:=he;subst he;simp[Hc]
 .intro x hx
  exact knd.keeps (his x^List.mem_of_mem_eraseIdx hx) ho hd (kU ..)
 .rw[←Hc]
  exact hn.sublist (List.eraseIdx_sublist ..)
def Iu:MeetsIn prog w (kM.«dict.pop» #[[.ref d,.ref a],[]]) (λA R s=>knd.room A.in1/\∃k xs j p,knd.is s.heap k a/\s.heap.DictOfH knd d xs/\xs.length<=sizeLine/\xs[j]?=P3 (k,p) /\
   ∀h',h'.DictOfH knd d^xs.eraseIdx j->ki d s.heap h'->R (.ok^.ret p.2) {s with heap:=h',toks:=s.toks+knd.draws k}):=
 .of_wp λA R s #[hu,k,xs,j,p,hkey,hm,hsz,hj,h]=>by
  let#[o,es,ep,ho,hc,hd,he,his,hn]:=id hm;unfold kM.«dict.pop»;refine Cn ?_;unfold Builtin.Dict.keyAndDefault;refine Cn^m_ hm.typeIs ?_;show wpAny _ _ (pure (d,iR a,r_)) _ _ s;refine Op ?_;have hk:(keyPart^iR a).isSome=t_:=rfl;simp only[hk,jD,if_false];refine Cn^j9 ho hd^Cn^Op ?_
  have hne:es.isEmpty=t_:=by
   have h1:=size_of_entries he;have h2:j<xs.length:=(Uf.mp hj).1;simp only[Array.isEmpty,decide_eq_false_iff_not];lk
  rw[hne];simp only[jD,if_false];refine Cn^Ms hu hkey hm hj hsz λh' hm' hs'=>?_;simp only[Option.isNone_some,jD,if_false];exact Cn^ke^Op #[_,rfl,h h' hm' hs']
end
def aD:V->u_ V->Hp->VK->Prop:=λx vs H Q=>∃d b kvs k j v,x=.ref d/\vs=[.ref b]/\H d=P3^.dT kvs/\H b=P3^.tup^k.map kV/\kvs[j]?=P3 (k,v)/\Q v^Av H d^.dT^kvs.eraseIdx j
theorem MI{α β:Type}{R:α->β->Prop}:∀{xs:u_ α}{ys:u_ β}{j:Nat}{x:α},Paired R xs ys->xs[j]?=P3 x->∃y,ys[j]?=P3 y/\R x y
 |_::_,_::_,0,_,.cons r _,e=>#[_,rfl,by cases e;exact r]
 |_::_,_::_,j+1,_,.cons _ t,e=>MI (j:=j) t^by rw[mW]at e;exact e
theorem GX{α β:Type}{R:α->β->Prop}:∀{xs:u_ α}{ys:u_ β} (j:Nat),Paired R xs ys->Paired R (xs.eraseIdx j)^ys.eraseIdx j
 |_,_,_,.nil=>.nil
 |_::_,_::_,0,.cons _ t=>t
 |_::_,_::_,j+1,.cons r t=>.cons r^GX j t
def S4{X:Cx}{k:Nat}(hr:Room k X.A):am X "dict.pop" aD:=by
 rintro zF s Z H x xs v us Q I rx rs ⟨d,b,kvs,k,j,u,rfl,rfl,hd,hb,hj,q⟩;cases(show v=iR d from rx);cases rs with
 |cons r t=>
 cases t
 rename_i ub
 cases(show ub=iR b from r);let#[z,hsys,ys,rel,dd]:=aV I.hok hd;let#[#[k',p],hp,e1,e2,e3]:=MI rel hj;have e1:k=k':=e1;subst e1;refine call_meetsIn PySem.F.slot_dict_pop dd.typeIs PySem.F.entry_dict_pop (PySem.F.args_dict_pop_2 _ _) (Iu (knd:=tupleKind^BI X.prog X.w)) #[lP (by have:=hr.units;lk),k,ys,j,p,HX I.hok hb,dd,by rw[←Paired.length rel];exact z,hp,λh' dd' hs=>#[u,_,?_,e3,q]];let#[o,es,ep,hq,h2,h3,h4,_,h5]:=dd';refine JT I (by rw[hd];exact j5) hs #[o,hq] #[iU (List.length_eraseIdx_le ..) z,hsys,_,Paired.imp' (λx y r=>#[r.1,by rw[AO^aP r.2.1 hd λz=>nomatch z];exact r.2.1,r.2.2])^GX j rel,o,es,ep,hq,h2,h3,h4,h5]
end L2
namespace Dp
open L2
section
variable {K:Frag}{F:v_ (Addr×Addr)}{M:Addr->Prop}{H:Hp}{n:Sg}{a:Addr}{u u':HO}{c:Wc}
def JL{U:Ch->Prop}(h:H a=P3^.vol u):Ext U H^Av H a^.vol u':=λb o e=>by
 by_cases z:b=a
 .subst z
  rw[h]at e;cases e
  exact#[_,AQ,λ_ v=>absurd #[u,rfl] v,λvs z=>by cases z]
 .exact#[o,by rw[AO z];exact e,λ_ _=>rfl,λ_ _=>rfl]
def FeedC.put(f:FeedC K F M H n)(h:H a=P3^.vol u)(hc:CellOk K M (Av H a^.vol u') a c):FeedC K F M (Av H a^.vol u')^n.put a c:=by
 have ne:∀{b o},H b=P3 o->¬VW o->b≠a:=λe v z=>v #[u,by rw[z,h]at e;exact(eq e).symm];have x:=JL (U:=λ_=>False) (u':=u') h;refine#[λg hg=>?_,λb k hk=>?_]
 .let#[p,r,cs,h1,h2,h3,h4]:=f.1 g hg
  exact#[p,r,cs,by rw[AO^ne h1^by rintro⟨_,z⟩;cases z];exact h1,h2,#[h3.1,by rw[AO^ne h3.2^by rintro⟨_,z⟩;cases z];exact h3.2],h4]
 .have hk:(if b=a then P3 c else n.w b)=P3 k:=hk
  by_cases z:b=a
  .rw[if_pos z]at hk;cases hk;rw[z];exact hc
  .rw[if_neg z]at hk
   exact(f.2 b k hk).to (λ_ _ z=>z) (λb vs e=>x.tup e) (λb o e=>let #[o',e',_]:=x b o e;#[o',e']) λv e=>by rw[AO z];exact e
def putN(f:Str):u_ Str->u_ Str
 |[]=>[f]
 |g::r=>if g=f then g::r else g::putN f r
def putX{α:Type}(f:Str)(y:α):u_ Str->u_ α->u_ α
 |[],_=>[y]
 |_::_,[]=>[y]
 |g::r,x::xs=>if g=f then y::xs else x::putX f y r xs
theorem PH(f:Str)(y:V):∀{ks:u_ Str}{vs:u_ V},ks.length=vs.length->D7 f y^ks.zip vs=(putN f ks).zip^putX f y ks vs
 |[],[],_=>rfl
 |k::ks,v::vs,h=>by
  have ih:=PH f y (ks:=ks) (vs:=vs) (by simpa using h);show(if k=f then(k,y)::ks.zip vs else(k,v)::D7 f y^ks.zip vs)=(if k=f then k::ks else k::putN f ks).zip (if k=f then y::vs else v::putX f y ks vs)
  by_cases e:k=f
  .rw[if_pos e,if_pos e,if_pos e];rfl
  .rw[if_neg e,if_neg e,if_neg e,ih];rfl
theorem PD{α:Type}(f:Str)(y:α):∀{ks:u_ Str}{vs:u_ α},ks.length=vs.length->(putN f ks).length=(putX f y ks vs).length
 |[],[],_=>rfl
 |k::ks,v::vs,h=>by
  have ih:=PD f y (ks:=ks) (vs:=vs) (by simpa using h);show(if k=f then k::ks else k::putN f ks).length=(if k=f then y::vs else v::putX f y ks vs).length
  by_cases e:k=f
  .rw[if_pos e,if_pos e];simpa using h
  .rw[if_neg e,if_neg e];simpa using ih
theorem PF(f:Str){d:D}{v:V}(hd:At K M H d v):∀{ks:u_ Str}{ds:u_ D}{vs:u_ V},ks.length=ds.length->Ats K M H ds vs->Ats K M H (putX f d ks ds)^putX f v ks vs
 |[],[],_,_,h=>by cases h;exact#[_,_,rfl,hd,rfl]
 |k::ks,d0::ds,_,l,#[v0,r,e,h1,h2]=>by
  subst e;show Ats K M H (if k=f then d::ds else d0::putX f d ks ds) (if k=f then v::r else v0::putX f v ks r)
  by_cases e:k=f
  .rw[if_pos e,if_pos e];exact#[_,_,rfl,hd,h2]
  .rw[if_neg e,if_neg e];exact#[_,_,rfl,h1,PF f hd (by simpa using l) h2]
theorem MF(f:Str){d:D}(hd:flat d=s_):∀{ks:u_ Str}{ds:u_ D},ks.length=ds.length->BJ ds=s_->BJ^putX f d ks ds=s_
 |[],[],_,_=>by show(flat d&&s_)=s_;rw[hd];rfl
 |k::ks,d0::ds,l,h=>by
  have h:(flat d0&&BJ ds)=s_:=h;rw[ik]at h;show BJ (if k=f then d::ds else d0::putX f d ks ds)=s_
  by_cases e:k=f
  .rw[if_pos e];show(flat d&&BJ ds)=s_;rw[hd,h.2];rfl
  .rw[if_neg e];show(flat d0&&BJ^putX f d ks ds)=s_;rw[h.1,MF f hd (by simpa using l) h.2];rfl
theorem Pe{f:Str}{x:D}:∀{ks:u_ Str}{ds:u_ D}{vs:u_ V},Ats K M H ds vs->(ks.zip ds).lookup f=P3 x->∃v,(ks.zip vs).lookup f=P3 v/\At K M H x v
 |[],_,_,_,e=>by cases e
 |_::_,[],_,_,e=>by cases e
 | k::ks,d::ds,_,#[v,r,e1,h1,h2],e=>by
  subst e1
  by_cases z:f=k
  .subst z
   simp only[jy,lT,BEq.rfl]at e ⊢;cases e;exact#[v,rfl,h1]
  .have hb:(f==k)=t_:=beq_eq_false_iff_ne.mpr z
   simp only[jy,lT,hb]at e ⊢;exact Pe h2 e
theorem HS{α:Type}{f:Str}:∀{ks:u_ Str}{vs:u_ α},f∉ks->(ks.zip vs).lookup f=r_
 |[],_,_=>rfl
 |_::_,[],_=>rfl
 |k::ks,v::vs,h=>by
  have hb:(f==k)=t_:=beq_eq_false_iff_ne.mpr λz=>h (by rw[z];exact On);simp only[jy,lT,hb];exact HS λz=>h^TM _ z
end
def DD(C:Ch)(f:Str)(w:DW):DW:=λn ρ P=>w n ρ λd n1=>∃a ks ds x,d=.ob a/\n1.w a=P3^.ins C ks ds/\(ks.zip ds).lookup f=P3 x/\P x n1
def Lx(C:Ch)(f:Str)(wo wv:DW):Af:=λD2 n ρ=>wv n ρ λy n1=>flat y=s_/\wo n1 ρ λd n2=>∃a ks ds,d=.ob a/\n2.w a=P3^.ins C ks ds/\ks.length<1000/\D2.nx (n2.put a^.ins C (putN f ks)^putX f y ks ds) ρ
section
variable {X:Cx}{C:Addr}{f m:Str}{o e value:Expr}{es:u_ Expr}{pos pos' apos p:Pos}{κ zK κv:Kd}{wo wv:DW}{was:VO}
def HQ{K:Frag}{U M:Ch->Prop}{H:Hp}{a:Ch}{v:V}(h:AtT K U M H (.ob a) v):v=.ref a:=h.1
def Bq(c:Cls X.K C)(hn:NoAttr X.K C f)(h:DE X e κ wo)(hb:attributeBase e f X.env^eval e X.env=eval e X.env:=by rfl):DE X (.Attribute e f pos) .sh^DD C f wo:=by
 let#[t,h1,h2]:=h;refine#[_,bw h1 hb,λC0 M H n ρ Z P Q R w q=>?_];refine h2 C0 M H n ρ Z _ _ R w λv H1 d n1 e1 f1 r1 #[a,ks,ds,x,ed,hw,hl,p]=>?_;subst ed;let#[dx,vs,g1,g2,g3,g4]:=f1.2 a _ hw;let#[u,hu,hx]:=Pe g4 hl;exact#[a,C,dx,_,u,HQ^r1.tpOf R.dom R.vM,g1,c,hn,hu,q u H1 x n1 e1 f1 hx p]
def Ks(c:Cls X.K C)(hn:NoAttr X.K C f)(ho:DE X o zK wo)(hv:DE X value κv wv)(hk:κv≠.tp:=by intro z;cases z)(hs:swapsWith value (P3^.Attribute o f pos') pos.line X.env=pure t_:=by rfl):DS X κ (.Assign [.Attribute o f pos'] value pos)^Lx C f wo wv:=by
 let#[to,o1,o2]:=ho;let#[tv,v1,v2]:=hv;refine#[_,bj o1 v1 hs,λC0 M H n ρ Z D2 E R L w=>?_];refine v2 C0 M H n ρ Z _ _ R w λy H1 d n1 e1 f1 r1 #[fl,w1]=>?_;have R1:=R.step e1 f1;refine o2 C0 M H1 n1 ρ Z _ _ R1 w1 λx H2 d2 n2 e2 f2 r2 #[a,ks,ds,ed,hw,hl,p]=>?_;subst ed;have R2:=R1.step e2 f2;let#[dx,vs,g1,g2,g3,g4]:=f2.2 a _ hw;have lv:ks.length=vs.length:=g2.trans g4.length.symm;have x3:=JL (U:=C0.U) (u':=.ins C dx^D7 f y^ks.zip vs) g1;have hy:At X.K M H2 d y:=(r1.shOf R.dom hk).pres^R1.pres e2;refine#[a,C,dx,_,HQ^r2.tpOf R1.dom R1.vM,g1,c,hn,by rw[jw,lv,Nat.min_self,←lv];exact hl,?_];refine L.nx M _ _ ρ Z (R2.step x3^f2.put (c:=.ins C (putN f ks)^putX f d ks ds) g1 #[dx,putX f y ks vs,?_,PD f d g2,MF f fl g2 g3,?_]) p
 .rw[AQ,PH f y lv]
 .exact(PF f hy g2 g4).pres^R2.pres x3
def HA(P:ic)(w:ip)(K:Frag)(mg:Str->v_ Db)(base:iQ)(C:Ch)(m:Str)(k:Nat)(ps:u_ Str)(κ:Kd)(W:W2):Prop:=
 ∃f fd,FnOk P w K mg base GC k f fd ps^T6 K κ W ps.length/\Zw K C m f/\Binds K fd ps []/\∀ss n P,W ss n P->ss.length=ps.length
def Ba(C:Ch)(m:Str)(W:W2)(wo:DW)(was:VO):DW:=λn ρ P=>wo n ρ λd n1=>∃a ks ds,d=.ob a/\n1.w a=P3^.ins C ks ds/\m∉ks/\was n1 ρ λss n2=>W (.sh^.ob a::ss) n2 P
def BV{k:Nat}{ps:u_ Str}{W:W2}{pl:Sem Bool}(c:Cls X.K C)(G:HA X.prog X.w X.K X.mg X.base C m k ps κ W)(hr:Room k X.A)(ho:DE X o zK wo)(ha:Zx X (e::es) was)
  (hst:starEach (e::es) X.env=(t_,eval e X.env)::starEach es X.env:=by rfl) (hpl:(backTo pos^starEach es X.env).any (·.1)=t_:=by rfl)
  (ht:eval (.Call (.Attribute o m apos) (e::es) [] pos) X.env=(do
   let ov ←eval o X.env
   standAt apos.atName
   let (f,first) ←holding [ov] (getMethod ov m pl)
   callWith pos f first (backTo pos^starEach (e::es) X.env) (backToKw pos^keywordEach [] X.env)):=by rfl):DE X (.Call (.Attribute o m apos) (e::es) [] pos) κ^Ba C m W wo was:=by
 let#[f,fd,G,hm,hb,hW]:=G;let#[to,o1,o2]:=ho;let#[t,a1,a2]:=ha;refine#[_,Y3 o1 c hm G hr hb .nil KI a1 hst hpl ht,λC0 M H n ρ Z P Q R w q=>?_];refine o2 C0 M H n ρ Z _ _ R w λv H1 d n1 e1 f1 r1 #[a,ks,ds,ed,hw,hl,w1]=>?_;subst ed;have R1:=R.step e1 f1;let#[dx,vs,g1,g2,g3,g4]:=f1.2 a _ hw;have ev:=HQ^r1.tpOf R.dom R.vM;subst ev;refine#[a,dx,_,rfl,g1,HS hl,?_];refine a2 C0 M H1 n1 ρ Z _ _ R1 w1 λvs2 H2 ss n2 e2 f2 r2 p=>?_;have R2:=R1.step e2 f2;rw[jA];have hex:∃o,H2 a=P3 o:=let #[o',h,_]:=e2 a _ g1;#[o',h]
 have hself:E3 X.K C0.F C0.V M H2 (.ref a)^.sh^.ob a:=#[#[_,rfl,rfl,hex],rfl];exact#[(Paired.length^Paired.cons hself r2).trans^hW _ _ _ p,_,_,_,M,n2,_,P,#[R2.dom,R2.fU,R2.uV,R2.vM,f2,Paired.cons hself r2],p,λv H3 d n3 e3 f3 r3 p3=>q v H3 d n3 ((e1.trans e2).trans e3) f3 (VR.back (e1.trans e2) r3) p3]
def Gq{k:Nat}{ps:u_ Str}{W:W2}{pl:Sem Bool}(c:Cls X.K C)(G:HA X.prog X.w X.K X.mg X.base C m k ps κ W)(hr:Room k X.A)(ho:DE X o zK wo)
  (ht:eval (.Call (.Attribute o m apos) [] [] pos) X.env=(do
   let ov ←eval o X.env
   standAt apos.atName
   let (f,first) ←holding [ov] (getMethod ov m pl)
   callWith pos f first (backTo pos^starEach [] X.env) (backToKw pos^keywordEach [] X.env)):=by rfl):DE X (.Call (.Attribute o m apos) [] [] pos) κ^Ba C m W wo AS:=by
 let#[f,fd,G,hm,hb,hW]:=G;let#[to,o1,o2]:=ho;refine#[_,Wi o1 c hm G hr hb .nil KI ht,λC0 M H n ρ Z P Q R w q=>?_];refine o2 C0 M H n ρ Z _ _ R w λv H1 d n1 e1 f1 r1 #[a,ks,ds,ed,hw,hl,p]=>?_;subst ed;have R1:=R.step e1 f1;let#[dx,vs,g1,g2,g3,g4]:=f1.2 a _ hw;have ev:=HQ^r1.tpOf R.dom R.vM;subst ev;refine#[a,dx,_,rfl,g1,HS hl,?_];have hself:E3 X.K C0.F C0.V M H1 (.ref a)^.sh^.ob a:=#[#[_,rfl,rfl,_,g1],rfl];exact#[hW _ _ _ p,_,_,_,M,n1,_,P,#[R1.dom,R1.fU,R1.uV,R1.vM,f1,Paired.cons hself .nil],p,λv H3 d n3 e3 f3 r3 p3=>q v H3 d n3 (e1.trans e3) f3 (VR.back e1 r3) p3]
def dE(P:ic)(w:ip)(K:Frag)(mg:Str->v_ Db)(base:iQ)(x:Str)(C:Ch)(k:Nat)(ps:u_ Str)(W:W2):Prop:=
 ∃f fd,FnOk P w K mg base GC k f fd ps^T6 K .sh W ps.length/\Mk K C f/\mg x=P3^.ref C/\Binds K fd ps []/\∀ss n P,W ss n P->ss.length=ps.length
def Z1(C:Ch)(W:W2)(was:VO):DW:=λn ρ P=>was n ρ λss n1=>∀x,n1.w x=r_->W (.sh^.ob x::ss) (n1.put x^.ins C [] []) λd n2=>d=.non/\P (.ob x) n2
def Zd{k:Nat}{ps:u_ Str}{W:W2}{x:Str}(G:dE X.prog X.w X.K X.mg X.base x C k ps W)(hr:Room (k+1) X.A)(hg:Gl X x)(ha:Zx X (e::es) was)
  (hdb:(x==("__debug__":Str))=t_:=by decide) (he:starEach (e::es) X.env=(t_,eval e X.env)::starEach es X.env:=by rfl) (hpl:(backTo pos^starEach es X.env).any (·.1)=t_:=by rfl):
  DE X (.Call (.Name x p) (e::es) [] pos) .sh (Z1 C W was):=by
 let#[f,fd,G,hm,hx,hb,hW]:=G;let#[t,a1,a2]:=ha;refine#[_,Y4 hm G hr hg hx hb .nil KI a1 hdb he hpl,λC0 M H n ρ Z P Q R w q=>?_];refine a2 C0 M H n ρ Z _ _ R w λvs H1 ss n1 e1 f1 r1 p=>λa dx ha hdx ne=>?_;have R1:=R.step e1 f1;have g1:Grow H1^Av H1 dx^.own a:=Ap hdx;have ha1:Av H1 dx (.own a) a=r_:=by rw[AO^i_ ne];exact ha
 have g2:Grow (Av H1 dx^.own a)^Av (Av H1 dx^.own a) a^.vol^.ins C dx []:=Ap ha1;have e2:Ext C0.U H1^Av (Av H1 dx^.own a) a^.vol^.ins C dx []:=g1.ext.trans g2.ext
 have nw:n1.w a=r_:=by
  cases z:n1.w a with
  |none=>rfl
  |some c=>
   have k:=f1.2 a c z;cases c with
   |ins C ks ds=>let#[_,_,h,_]:=k;rw[ha]at h;cases h
   |pl d=>let#[_,u,_,h,_]:=k.pl;rw[ha]at h;cases h
 have p:=p a nw
 have f2:FeedC X.K C0.F M (Av (Av H1 dx^.own a) a^.vol^.ins C dx [])^n1.put a^.ins C [] []:=by
  have f:=(f1.grow g1).grow g2;refine#[λg hg=>f.1 g hg,λb k hk=>?_];have hk:(if b=a then P3 _ else n1.w b)=P3 k:=hk
  by_cases z:b=a
  .rw[if_pos z]at hk;cases hk;rw[z];exact#[dx,[],AQ,rfl,rfl,rfl]
  .rw[if_neg z]at hk;exact f.2 b k hk
 have R2:=R1.step e2 f2;rw[jA];have r2:Paired (E3 X.K C0.F C0.V M^Av (Av H1 dx^.own a) a^.vol^.ins C dx []) (V.ref a::vs) (.sh^.ob a::ss):=Paired.cons #[#[_,rfl,rfl,_,AQ],rfl]^Paired.imp' (λv s h=>#[h.1.pres (R1.pres e2) (λ_ z=>z) e2 R.uV,h.2]) r1;refine#[(Paired.length r2).trans^hW _ _ _ p,_,_,_,M,_,_,_,#[R2.dom,R2.fU,R2.uV,R2.vM,f2,r2],p,λv H3 d n3 e3 f3 r3 #[ed,p3]=>?_];subst ed;refine#[r3,q (.ref a) H3 (.ob a) n3 ((e1.trans e2).trans e3) f3 #[rfl,?_] p3];let#[o',h,_]:=e3 a _ AQ;exact#[o',h]
def Og(w:DW):DW:=λn ρ P=>w n ρ λd n1=>MY d/\∀a,n1.w a=r_->P (.ob a)^n1.put a^.pl d
def JS(h:DE X e .fr wo):DE X e .sh^Og wo:=by
 let#[t,h1,h2]:=h;refine#[_,US h1,λC0 M H n ρ Z P Q R w q=>?_];refine h2 C0 M H n ρ Z _ _ R w λv H1 d n1 e1 f1 #[a,ev,ha,tp] #[hd,p]=>?_;subst ev;have R1:=R.step e1 f1;have nM:¬M a:=λz=>by let#[o,h]:=R.dom a z;rw[ha]at h;cases h
 obtain⟨u,ck,hu,cell⟩:∃u,HC u/\H1 a=P3 u/\∀H2:Hp,H2 a=P3^.vol u->(∀b vs,H1 b=P3^.tup vs->H2 b=P3^.tup vs)->(∀b o,H1 b=P3 o->∃o',H2 b=P3 o')->CellOk X.K M H2 a^.pl d:=by
  cases d with
  |lst ds=>let#[vs,h1,h2]:=tp;exact#[.lst vs,trivial,h1,λH2 g t o=>#[nM,vs,g,hd,BH t o ds hd h2]]
  |dit ks ds=>let#[vs,h1,h2,h3]:=tp;exact#[.dT^ks.zip vs,trivial,h1,λH2 g t o=>#[nM,vs,g,h2,hd,BH t o ds hd h3]]
  |_=>exact(show False from hd).elim
 have vw:View H1^Av H1 a^.vol u:=λb=>by
  by_cases z:b=a
  .rw[z];exact .inr #[u,ck,.inr #[hu,AQ]]
  .exact .inl^AO z
 have ex:∀b o,H1 b=P3 o->∃o',Av H1 a (.vol u) b=P3 o':=λb o h=>(lF (b=a)).elim (λz=>by rw[z];exact#[_,AQ]) λz=>#[o,by rw[AO z];exact h]
 have e2:Ext C0.U H^Av H1 a^.vol u:=λb o h=>by
  let#[o',h',z]:=e1 b o h;exact#[o',by rw[AO^An h ha];exact h',z]
 have nv:∀b c,n1.w b=P3 c->b≠a:=λb c k z=>by
  subst z;have k:=f1.2 b c k;cases c with
  |ins C ks ds=>let#[_,_,h,_]:=k;rw[hu]at h;exact F7 ck #[_,eq h]
  |pl d=>let#[_,_,_,h,_]:=k.pl;rw[hu]at h;exact F7 ck #[_,eq h]
 have nw:n1.w a=r_:=by
  cases z:n1.w a with
  |none=>rfl
  |some c=>exact absurd rfl (nv a c z)
 refine#[_,vw,q (.ref a) _ (.ob a) _ e2 #[λg hg=>?_,λb k hk=>?_] #[rfl,_,AQ]^p a nw]
 .let#[x,r,cs,g1,g2,g3,g4]:=f1.1 g hg
  let#[_,_,_,o1,_,o3,_]:=R.feed.1 g hg;exact#[x,r,cs,by rw[AO^An o1 ha];exact g1,g2,#[g3.1,by rw[AO^An o3.2 ha];exact g3.2],g4]
 .have hk:(if b=a then P3^Wc.pl d else n1.w b)=P3 k:=hk
  by_cases z:b=a
  .rw[if_pos z]at hk;cases hk;rw[z];exact cell _ AQ (λb vs h=>vw.tup b vs h) ex
  .rw[if_neg z]at hk
   exact(f1.2 b k hk).to (λ_ _ z=>z) (λb vs h=>vw.tup b vs h) ex λu h=>by rw[AO z];exact h
def fA(T:String):D->Prop
 |.lst _=>T="list"
 |.dit _ _=>T="dict"
 |_=>False
def dL(T:String)(f:D->u_ D->(D->D->Prop)->Prop)(wo:DW)(ws:EW):DW:=λn ρ P=>wo n ρ λx n1=>∃a,x=.ob a/\(∃d,n1.w a=P3^.pl d/\fA T d)/\ws n1 ρ λds n2=>BJ ds=s_/\∃d,n2.w a=P3^.pl d/\f d ds λy z=>MY y/\flat z=s_/\P z^n2.put a^.pl y
def Hj{K:Frag}{M:Ch->Prop}{H:Hp}{a:Ch}{d:D}(h:CellOk K M H a^.pl d):Cells M H [a]/\Tops K (λb=>M b\/b=a) (HH H [a]) a d:=by
 have c:Cells M H [a]:=λb hb=>by
  rw[Re.mp hb];let#[h0,u,k,h1,_]:=h.pl;exact#[h0,u,k,h1]
 refine#[c,?_];cases d with
 |lst ds=>let#[h0,vs,h1,h2,h3]:=h;exact#[vs,c.un On h1,BH c.pres.2.2.1 c.ex ds h2 h3]
 |dit ks ds=>let#[h0,vs,h1,h2,h3,h4]:=h;exact#[vs,c.un On h1,h2,BH c.pres.2.2.1 c.ex ds h3 h4]
 |_=>exact h.elim
def bD{K:Frag}{M:Ch->Prop}{H:Hp}{a:Ch}{d:D}{T:String}(h:Tops K M H a d)(t:fA T d):dW K T (.ref a) H:=by
 cases d with
 |lst ds=>let#[vs,h1,_]:=h;exact .inl #[t,vs,SqL.of h1]
 |dit ks ds=>let#[vs,h1,_]:=h;exact .inr^.inr^.inl #[t,.inr #[_,h1]]
 |_=>exact(show False from t).elim
def W4{r:V->u_ V->Hp->VK->Prop}{f:D->u_ D->(D->D->Prop)->Prop}{C0:Fm}{M:Ch->Prop}{H:Hp}{n:Sg}{ρ:u_ Slot}{Z:L2.St}{a:Ch}{d:D}{ds:u_ D}{vs:u_ V}{P:D->Sg->Prop}{Q:VK}(R:Rel X.K C0 M H n ρ Z)(hA:SF X.K r f)(hw:n.w a=P3^.pl d)(fl:BJ ds=s_)(hs:Ats X.K M H ds vs)
  (p:f d ds λy z=>MY y/\flat z=s_/\P z^n.put a^.pl y) (q:∀v H' z n',Ext C0.U H H'->FeedC X.K C0.F M H' n'->At X.K M H' z v->P z n'->Q v H'):View H^HH H [a]/\r (.ref a) vs (HH H [a]) λv H4=>∃H5,View H4 H5/\Q v H5:=by
 have k:=R.feed.2 a _ hw;let#[c,tp]:=Hj k;let#[nM,u,ck,hu,_]:=k.pl;refine#[c.view,hA (λb=>M b\/b=a) _ a d ds vs _ _ (.inr rfl) tp (BH c.pres.2.2.1 c.ex ds fl hs) p λo y z v t2 hz #[cy,fz,pp]=>?_];have out:∀b,b≠a->Av (HH H [a]) a o b=H b:=λb z=>by rw[AO z,Fn λh=>z^Re.mp h]
 have tu:∀b vs,Av (HH H [a]) a o b=P3^.tup vs->Av H a (.vol o) b=P3^.tup vs:=λb vs h=>by
  by_cases z:b=a
  .rw[z]at h;exact absurd h^t2.notT
  .rw[AO z,←out b z];exact h
 have ex:∀b x,Av (HH H [a]) a o b=P3 x->∃o',Av H a (.vol o) b=P3 o':=λb x h=>(lF (b=a)).elim (λz=>by rw[z];exact#[_,AQ]) λz=>#[x,by rw[AO z,←out b z];exact h]
 obtain⟨ck2,cell⟩:HC o/\CellOk X.K M (Av H a^.vol o) a^.pl y:=by
  cases y with
  |lst es=>let#[us,g1,g2]:=t2;rw[AQ]at g1;cases g1;exact#[trivial,nM,us,AQ,cy,BH tu ex es cy g2]
  |dit ks es=>let#[us,g1,g2,g3]:=t2;rw[AQ]at g1;cases g1;exact#[trivial,nM,us,AQ,g2,cy,BH tu ex es cy g3]
  |_=>exact(show False from cy).elim
 refine#[Av H a^.vol o,λb=>?_,q v _ z _ (JL hu) (R.feed.put hu cell) (JK tu ex z fz hz) pp]
 by_cases z:b=a
 .rw[z];exact .inr #[o,ck2,.inr #[AQ,AQ]]
 .rw[out b z];exact .inl^AO z
def TY{name:Str}{cpos:Pos}{T id:String}{r:V->u_ V->Hp->VK->Prop}{f:D->u_ D->(D->D->Prop)->Prop}{ws:EW}(pa:oR T)(slot:PySem.Slot T name id)(hty:typeOf^.builtin id=pure^.type "method_descriptor")
  (hm:am X id r) (hA:SF X.K r f) (ho:DE X o zK wo) (ha:ao X (e::es) ws)
  (hbase:attributeBase o name X.env^eval o X.env=eval o X.env:=by rfl)
  (hfew:((backTo cpos^starEach (e::es) X.env).all (λx=>!x.1)&&(backToKw cpos^keywordEach [] X.env).all (λx=>x.1.isSome)
   && decide ((e::es).length+([]:u_ lC).length+(if([]:u_ lC).isEmpty then 0 else 1)<30))=s_:=by rfl)
  (hline:(apos.endLine==cpos.line)=s_:=by rfl) (hs:starEach (e::es) X.env=(t_,eval e X.env)::starEach es X.env:=by rfl) (hplain:(backTo cpos^starEach es X.env).any (·.1)=t_:=by rfl):
  DE X (.Call (.Attribute o name apos) (e::es) [] cpos) .sh (dL T f wo ws):=by
 let#[to,o1,o2]:=ho;let#[t,a1,a2]:=ha;refine#[_,bx pa slot hty hm o1 a1 hbase hfew hline hs hplain,λC0 M H n ρ Z P Q R w q=>?_];refine o2 C0 M H n ρ Z _ _ R w λv H1 d n1 e1 f1 r1 #[a,ed,#[d1,hw1,hT],w1]=>?_;subst ed;have ev:=HQ^r1.tpOf R.dom R.vM;subst ev;have R1:=R.step e1 f1;let#[c1,tp1]:=Hj^f1.2 a _ hw1;refine#[#[_,c1.view,bD tp1 hT],?_];refine a2 C0 M H1 n1 ρ Z _ _ R1 w1 λvs H2 ds n2 e2 f2 r2 #[fl,d2,hw2,p]=>?_;exact#[_,W4 (R1.step e2 f2) hA hw2 fl r2 p λv H3 z n3 e3 f3 r3 p3=>q v H3 z n3 ((e1.trans e2).trans e3) f3 r3 p3]
end
end Dp
namespace L2
section
variable {X:Cx}{o i value:Expr}{pos pos':Pos}{td ty tv:TE}
def bV(td ty tv:TE):TS:=λD Z H=>tv Z H λv H1=>td Z H1 λx H2=>ty Z H2 λy H3=>∃a H4 H5 H6,x=.ref a/\View H3 H4/\DPut H4 a y v H5/\View H5 H6/\D.nx Z H6
def WX(hu:X.A.units+1<cLine)(ho:PE X o td)(hi:PE X i ty)(hv:PE X value tv)(hs:swapsWith value (P3^.Subscript o i pos') pos.line X.env=pure t_):
  PS X (.Assign [.Subscript o i pos'] value pos) (bV td ty tv):=by
 intro zF s Z H D I h;refine wpAny_Assign_Subscript (BG (hv _ s Z H _ I h) λr s1 #[v,H1,I1,rv,q1]=>BG (ho _ s1 Z H1 _ I1 q1) λu s2 #[x,H2,I2,rx,q2]=>BG (hi _ s2 Z H2 _ I2 q2) λiv s3 #[y,H3,I3,ry,a,H4,H5,H6,ex,v4,g,v6,q3]=>?_) hs;subst ex;obtain rfl:u=iR a:=rx;exact MW hu (I3.view v4) g ry rv λs4 I4=>#[Z,H6,I4.view v6,q3]
def WL:u_ V->Hp->VK->Prop:=λxs H Q=>∃(d:Ch) (kvs:u_ (u_ Key×V)),xs=[.ref d]/\Rd H d^.dT kvs/\kvs.length<64 /\
 ∀(as:u_ Ch) (l:Ch),as.length=kvs.length->(∀(i:Nat) (a:Ch) (p:u_ Key×V),as[i]?=P3 a->kvs[i]?=P3 p->H a=P3^.tup^p.1.map kV)->H l=r_->Q (.ref l)^Av H l^.lst^as.map V.ref
def Rm(hc:X.calm=s_):CallR X (.type "list") WL:=by
 intro zF s Z H xs us Q I r h;let#[d,kvs,rfl,hd,h64,q]:=h;let#[u,rfl,rx]:=vals1 r;cases rx;let#[o,es,ep,as,g1,g2,g3,g4,g5,g6,g7]:=JN I.hok hd;have lo:=(Ek I.hok hd).2.1;refine PySem.W.kdl_call (Sd (P:=X.prog) (w:=X.w) (es:=es) (ep:=ep) lo) (I.ok.hd hc) #[o,g1,g2,g3] (by rw[i9];lk) λh' tk acc c' hk hl hacc=>?_
 have hv:acc=(as.map iR).toArray:=by
  refine Array.ext' ?_;refine oP λi=>?_;cases hx:acc.toList[i]? with
  |some v=>
   let#[e,he,rfl]:=hacc.2 i v (by rw[←lg];exact hx);let#[a,ha,hk]:=g6 i e he;show _=(as.map iR)[i]?;rw[XV,ha,hk];rfl
  |none=>
   have:acc.toList.length<=i:=oV.mp hx
   rw[i8,hacc.1]at this;show _=(as.map iR)[i]?;rw[lj^by rw[Ev];lk]
 have hf:=I.hok.fresh^Sc s.heap.objs.size;refine#[.ref s.heap.objs.size,_,I.laid (t':=tk) (o:=.lst^as.map V.ref) hk (Sc _) #[by rw[Ev,i9];lk,as.map iR,c',HF as,by rw[←hv];exact hl],rfl,q as _ g4 g7 hf]
end
end L2
namespace Dp
open L2
def Xk(ds:u_ D)(P:D->Prop):Prop:=∃(ks:u_^u_ Key) (es:u_ D),ds=[.dit ks es]/\ks.length=es.length/\ks.length<64/\(∀k∈ks,∀x∈k,DP x)/\P^.lst^ks.map tupK
def Zr{K:Frag}:B6 K .fr WL Xk:=by
 intro U M H ds vs P Q dom vM hp w q;let#[ks,es,rfl,hl,h64,hf,w]:=w;let#[v,rfl,hx]:=CV hp;let#[a,us,rfl,ha,hs]:=Kt hx;have lu:=hs.length;have hz:(ks.zip us).length=ks.length:=by rw[jw];lk
 refine#[a,_,rfl,ha,by lk,λas l h1 h2 hn=>q _ _ _ (Ap hn) (B4 hn^Jf (by lk) hf λi b k eb ek=>?_) w];have hi:i<us.length:=by have:=(Uf.mp ek).1;lk
 exact h2 i b (k,us[i]) eb^by rw[mE];exact#[ek,Go hi]
def TL(d:D)(ds:u_ D)(P:D->D->Prop):Prop:=∃ks xs k key j x,d=.dit ks xs/\ds=[k]/\keysOf k=P3 key/\ks[j]?=P3 key/\xs[j]?=P3 x/\P (.dit (ks.eraseIdx j)^xs.eraseIdx j) x
theorem Xp{α β:Type}:∀(xs:u_ α) (ys:u_ β) (j:Nat),xs.length=ys.length->(xs.zip ys).eraseIdx j=(xs.eraseIdx j).zip^ys.eraseIdx j
 |[],[],_,_=>rfl
 |_::_,_::_,0,_=>rfl
 |x::xs,y::ys,j+1,h=>by show(x,y)::(xs.zip ys).eraseIdx j=(x,y)::(xs.eraseIdx j).zip^ys.eraseIdx j;rw[Xp xs ys j^by simpa using h]
def YG{K:Frag}:SF K aD TL:=by
 intro M H a d ds vs P Q m t hv w q;let#[ks,xs,k,key,j,x,rfl,rfl,hk,hj,hx,w]:=w;let#[us,h1,h2,h3]:=t;let#[u,r,rfl,hu,hr]:=hv;cases(show r=[]from hr);let#[b,rfl,hb]:=FD hk^At.tp (U:=λ_=>False) (λ_ z=>z.elim) hu;let#[v,ev,hv]:=h3.get hx;have pr:Pres M H M^Av H a^.dT^(ks.zip us).eraseIdx j:=CO m h1;refine#[a,b,_,key,j,v,rfl,rfl,h1,hb,by rw[mE];exact#[hj,ev],q _ (.dit (ks.eraseIdx j)^xs.eraseIdx j) x v #[us.eraseIdx j,?_,?_,(h3.eraseIdx j).pres pr] (hv.pres pr) w]
 .rw[AQ,Xp _ _ _^h2.trans h3.length.symm]
 .rw[List.length_eraseIdx,List.length_eraseIdx,h2]
section
variable {X:Cx}{a b c o:Expr}{κ zU zT zK:Kd}{wa wb wo:DW}{pos pos':Pos}
def Zy(wo wk wv:DW):Af:=λD2 n ρ=>wv n ρ λd n1=>flat d=s_/\wo n1 ρ λx n2=>wk n2 ρ λk n3=>∃l key ks ds,x=.ob l/\keysOf k=P3 key/\n3.w l=P3^.pl^.dit ks ds/\ks.length<sizeLine/\D2.nx (n3.put l^.pl^.dit (Bv ks key)^Bj ks ds key d) ρ
theorem KA{k:u_ Key}{d:D}(hd:flat d=s_):∀{ks:u_^u_ Key}{ds:u_ D},BJ ds=s_->BJ^j4 (λk0 d0=>if k0=k then d else d0) ks ds=s_
 |[],_,_=>rfl
 |_::_,[],_=>rfl
 |k0::ks,d0::ds,h=>by
  have h:(flat d0&&BJ ds)=s_:=h;rw[ik]at h;show(flat (if k0=k then d else d0)&&BJ _)=s_;rw[KA hd h.2,Bool.and_true]
  split
  .exact hd
  .exact h.1
theorem ED:∀{xs ys:u_ D},BJ xs=s_->BJ ys=s_->BJ (xs++ys)=s_
 |[],_,_,h=>h
 |x::xs,ys,h,g=>by
  have h:(flat x&&BJ xs)=s_:=h;rw[ik]at h;show(flat x&&BJ (xs++ys))=s_;rw[h.1,ED h.2 g];rfl
def ZW{k:Nat}(hr:Room k X.A)(ho:DE X o zK wo)(ha:DE X a zU wa)(hb:DE X b zT wb)(hk:zT≠.tp:=by intro z;cases z)
  (hs:swapsWith b (P3^.Subscript o a pos') pos.line X.env=pure t_:=by rfl):DS X κ (.Assign [.Subscript o a pos'] b pos)^Zy wo wa wb:=by
 let#[t,h1,h2]:=ha;let#[u,g1,g2]:=hb;let#[to,o1,o2]:=ho;refine#[_,WX (IT hr) o1 h1 g1 hs,λC M H n ρ Z D2 E R L w=>?_];refine g2 C M H n ρ Z _ _ R w λv H1 d n1 e1 f1 r1 #[fl,w1]=>?_;have R1:=R.step e1 f1;refine o2 C M H1 n1 ρ Z _ _ R1 w1 λx H2 d2 n2 e2 f2 r2 w2=>?_;have R2:=R1.step e2 f2;refine h2 C M H2 n2 ρ Z _ _ R2 w2 λy H3 d3 n3 e3 f3 r3 #[l,key,ks,ds,ed,hkey,hw,hl,p]=>?_;have R3:=R2.step e3 f3;subst ed;have hx:=HQ^r2.tpOf R1.dom R1.vM;subst hx;let#[c,us,t1,t2,t3]:=Hj^f3.2 l _ hw;let#[nM,us',q1,q2,q3,q4]:=f3.2 l _ hw;have t1':=c.un On q1;have hu:=eq^t1'.symm.trans t1;let#[b',rfl,hb']:=FD hkey^r3.tpOf R2.dom R2.vM;have lu:ks.length=us'.length:=q2.trans q4.length.symm;refine#[l,HH H3 [l],_,Av H3 l^.vol^.dT^putK (ks.zip us') key v,rfl,c.view,DPut.t t1' (c.keep hb'^by rintro⟨_,z⟩;cases z) (by rw[jw];lk),λb0=>?_,?_]
 .by_cases z:b0=l
  .rw[z];exact .inr #[.dT _,trivial,.inr #[AQ,AQ]]
  .rw[AO z,AO z];exact .inl (Fn λh=>z^Re.mp h).symm
 .have x3:=JL (U:=C.U) (u':=.dT^putK (ks.zip us') key v) q1
  have hd:At X.K M H3 d v:=((r1.shOf R.dom hk).pres^R1.pres e2).pres^R2.pres e3;refine L.nx M _ _ ρ Z (R3.step x3^f3.put (c:=.pl^.dit (Bv ks key)^Bj ks ds key d) q1 #[nM,Bj ks us' key v,?_,J_ q2,?_,(Ats.putXU hd q4).pres^R3.pres x3]) p
  .rw[AQ,MG lu]
  .unfold Bj
   split
   .exact KA fl q3
   .exact ED q3^by show(flat d&&s_)=s_;rw[fl];rfl
def Vd(k1 k2:Str)(w1 w2:DW):DW:=λn ρ P=>w1 n ρ λd1 n1=>w2 n1 ρ λd2 n2=>P (.dic [.inr k1,.inr k2] [d1,d2]) n2
def X4{k1 k2:Str}{j1 j2:Nat}{p1 p2:Pos}(ha:DE X a zU wa)(hb:DE X b zT wb)(hne:k1≠k2:=by decide)(h1k:decide (k1.length<=1000)=s_:=by rfl)(h2k:decide (k2.length<=1000)=s_:=by rfl)(hka:zU≠.tp:=by intro z;cases z)(hkb:zT≠.tp:=by intro z;cases z):DE X (.Dict [P3^.Constant (.str k1) j1 p1,P3^.Constant (.str k2) j2 p2] [a,b] pos) .fr^Vd k1 k2 wa wb:=by
 let#[t,h1,h2]:=ha;let#[u,g1,g2]:=hb;refine#[_,Sw (KC RC h1^KC RC g1 Sr) rfl rfl (jd _ _) (by show 2<=15;decide),λC M H n ρ Z P Q R w q=>λp hp=>?_];have R1:=R.hold (o:=.dK []) hp
 have np:¬C.U p:=λz=>by
  let#[o,w]:=R.dom p^R.vM p^R.uV p z;rw[hp]at w;cases w
 refine h2 C _ _ n ρ Z _ _ R1 w λx H2 d1 n1 e1 f1 r1 p1=>?_;have R2:=R1.step e1 f1;refine g2 C _ _ n1 ρ Z _ _ R2 p1 λy H3 d n2 e2 f2 r2 p2=>?_;have R3:=R2.step e2 f2;have hat1:At X.K (λb=>M b\/b=p) H3 d1 x:=(r1.shOf R1.dom hka).pres^R2.pres e2;have hat2:At X.K (λb=>M b\/b=p) H3 d y:=r2.shOf R2.dom hkb;have hp3:H3 p=P3^.dK []:=e2.keep (e1.keep AQ np) np;refine#[hp3,[(.inr k1,x),(.inr k2,y)],?_,by show 2<=15;decide,?_]
 .rfl
 rw[show Fy [] [((.inr k1:Key),x),(.inr k2,y)]=[(.inr k1,x),(.inr k2,y)] by simp[Fy,putK,hne]];refine q _ _ (.dic [.inr k1,.inr k2] [d1,d]) n2 (λb o eb=>?_) ?_ #[p,rfl,hp,[x,y],AQ,rfl,?_] p2
 .have nb:b≠p:=An eb hp
  let#[o1,z1,k1,t1]:=e1 b o (by rw[AO nb];exact eb);let#[o2,z2,k2,t2]:=e2 b o1 z1;exact#[o2,by rw[AO nb];exact z2,λnu nv=>(k2 nu^by rw[k1 nu nv];exact nv).trans^k1 nu nv,λvs z=>(t2 vs^(t1 vs z).trans z).trans^t1 vs z]
 .refine f2.pres #[λb o eb nb _=>by rw[AO λz=>nb^.inr z];exact eb,λb z=>.inl^.inl z,λb vs eb=>by rw[AO λz=>by rw[z,hp3]at eb;cases eb];exact eb,λb o eb=>(lF (b=p)).elim (λz=>by rw[z];exact#[_,AQ]) λz=>#[o,by rw[AO z];exact eb]] (λf o hf eb=>?_) λb u eb=>by rw[AO λz=>by rw[z,hp3]at eb;cases eb];exact eb
  rw[AO λz=>np^by rw[←z];exact R.fU f hf];exact eb
 .exact#[x,[y],rfl,hat1.pres^CO (.inr rfl) hp3,y,[],rfl,hat2.pres^CO (.inr rfl) hp3,rfl]
end
end Dp
namespace L2
section
variable {X:Cx}
def V0{P:ic}{w:ip}{A:i5}{E:Db->No->Prop}{s:No}{nm:String}{a b:Ch}{es es2:Array lO}{ep ep2:Nat}{Q:Bool->No->Prop}(ha:(a==sysModules)=t_)(hb:(b==sysModules)=t_)(da:DRaw s.heap a es ep)(db:DRaw s.heap b es2 ep2)(h0:es2.size=0)
  (h:Q (decide (es.size=0)) s):wpAny (model P w) A (pA nm a b) Q E s:=by
 let#[oa,a1,a2,a3]:=da;let#[ob,b1,b2,b3]:=db;unfold pA nA;rw[if_neg (show ¬(a==sysModules)=s_ by rw[ha];exact iS),if_neg (show ¬(b==sysModules)=s_ by rw[hb];exact iS)];refine Cn^Op^Cn^Op ?_;refine Cn^j9 a1 a3 ?_
 dsimp only
 refine Cn^j9 b1 b3 ?_
 by_cases hsz:es.size=0
 .rw[if_neg^by rw[hsz,h0];simp]
  refine Cn^nU a1 a3 ?_;refine Cn ?_;rw[Std.Legacy.Range.forIn_eq_forIn_range'];simp only[Std.Legacy.Range.size,Nat.sub_zero,Nat.add_sub_cancel,Nat.div_one,hsz,List.range'_zero,pC];rw[decide_eq_true hsz]at h;exact Op^Op h
 .rw[if_pos^by rw[h0];simpa using hsz]
  rw[decide_eq_false hsz]at h;exact Cn^mT^Op h
def eG:R2:=λx y H Q=>∃a b kvs,x=.ref a/\y=.ref b/\Rd H a^.dT kvs/\Rd H b^.dK []/\Q (.bl (!decide (kvs.length=0))) H
def b7{k:Nat}(hr:Room k X.A):OpR X (compareOp .NotEq) eG:=by
 intro zF s Z H x y v u Q I rx ry h;let#[a,b,kvs,rfl,rfl,h1,h2,q]:=h;cases rx;cases ry;let#[o,es,ep,as,g1,g2,g3,g4,g5,g6,g7]:=JN I.hok h1;have la:=(Ek I.hok h1).2.1;let#[_,lb,w2,k2,D2]:=IV I.hok h2;let#[ob,es2,ep2,hob,hcb,hdb,hkb,hpb,_]:=id D2;have da:DRaw s.heap a es ep:=#[o,g1,g2,g3]
 have h0:es2.size=0:=by
  have e1:=hpb.length;have e2:=k2.length;have e3:es2.toList.length=es2.size:=i8;rw[jN]at e2;lk
 refine wpAny_richCompare_same_room (op:=.NotEq) da.ty D2.typeIs PySem.F.slot_dict_ne (jm PySem.F.slot_dict_ne da.ty PySem.F.entry_dict_ne ?_^PySem.F.args_dict_ne_2 _ _) hr.units0;show wpAny _ _ (oW "__ne__" #[[.ref a,.ref b],[]] >>=_) _ _ s;refine Cn ?_;unfold oW;refine Cn^m_ da.ty ?_;show wpAny _ _ (pure (iR a,iR b)) _ _ s;refine Op ?_;refine Cn^mz (T:="dict") D2.typeIs PySem.F.sub_dict_dict ?_;simp only[Bool.not_true,jD,if_false];refine Cn^Op^Cn^Op ?_;refine Cn^V0 la lb da #[ob,hob,hcb,hdb] h0 ?_;refine Op #[_,rfl,(λx=>nomatch x),?_];have e:es.size=kvs.length:=by first|exact g5|omega
 rw[e];refine#[.bl _,H,I,?_,q];show lM _=lM _;simp
def Lf{P:ic}{w:ip}{d:Ch}{es:Array lO}{ep:Nat}(lo:(d==sysModules)=t_):
  MeetsIn P w (kM.«dict.__len__» #[[.ref d],[]]) (λ_ R s=>DRaw s.heap d es ep/\R (.ok^.ret^.int es.size s.toks) {s with toks:=s.toks+1}):=
 .of_wp λA R s #[hm,h]=>by
  let#[o,ho,hc,hdat]:=hm;show wpAny _ _ (dictSize d >>=_) _ _ s;unfold dictSize;refine Cn^Cn^j9 ho hdat^Op ?_;show wpAny _ _ (Builtin.Dict.pendingCount d >>=_) _ _ s;refine Cn^wpAny_pendingCount_other lo ?_;refine wpAny_ret_mkInt ?_;rw[Nat.add_zero];exact h
def U_:CallR X (.builtin "len") (λxs H Q=>∃a kvs,xs=[V.ref a]/\Rd H a^.dT kvs/\Q (.int kvs.length) H):=by
 intro zF s Z H xs us Q I r h;let#[a,kvs,rfl,ha,q]:=h;let#[u,rfl,ru]:=vals1 r;cases ru;let#[z,lo,_]:=Ek I.hok ha;let#[o,es,ep,as,h1,h2,h3,h4,h5,_]:=JN I.hok ha;have dr:DRaw s.heap a es ep:=#[o,h1,h2,h3];have szl:=PySem.sizeLine_eq;refine Calls.call_function_entry kind_len plain_len entry_len (args_len1 _) ?_;unfold kM.«len»;refine Cn (m:=oneArg "len" _)^Op ?_
 refine Cn (m:=callSpecial? (.ref a)^jH "__len__") (jR (name:=jH "__len__") dr.ty F.slot_dict_len
  (call_meetsIn F.slot_dict_len dr.ty F.entry_dict_len (F.args_dict_len_1 _) (Lf lo) #[dr,?_]))
 show wpAny _ _ _ _ _ {s with toks:=s.toks+1};refine Cn^jX^Op ?_;refine Cn^ke ?_;show wpAny _ _ (if((es.size:Nat):Int)<0 then _ else _) _ _ _;rw[if_neg^by lk];show wpAny _ _ (if((es.size:Nat):Int)≥2 ^ 63 then _ else _) _ _ _;rw[if_neg^by lk];rw[h5];exact Cn^wpAny_mkInt^Op #[_,rfl,.int kvs.length,H,I.tok _,#[_,rfl],q]
end
end L2
namespace Dp
open L2
def cY(d e:D)(P:D->Prop):Prop:=∃ks ds,d=.dit ks ds/\ks.length=ds.length/\e=.dic [] []/\P^.bl (!decide (ks.length=0))
def fQ{K:Frag}:D3 K .sh eG cY:=λU M H d e x y P Q dom vM hx hy w q=>by
 let#[ks,ds,rfl,hl,rfl,w]:=w;let#[a,vs,rfl,ha,hs]:=Kt hx;let#[b,us,rfl,_,hb,_,hs2]:=hy;have e:(ks.zip vs).length=ks.length:=by rw[jw,hs.length];lk
 refine#[a,b,_,rfl,rfl,ha,.inl hb,?_];rw[e];exact q _ H (.bl _) .refl rfl w
def Xl(ds:u_ D)(P:D->Prop):Prop:=∃ks es,ds=[.dit ks es]/\ks.length=es.length/\P^.int (ks.length:Int)
def cx{K:Frag}:B6 K .sh (λxs H Q=>∃a kvs,xs=[V.ref a]/\Rd H a^.dT kvs/\Q (.int kvs.length) H) Xl:=by
 intro U M H ds vs P Q dom vM hp w q;let#[ks,es,rfl,hl,w]:=w;let#[v,rfl,hx]:=CV hp;let#[a,us,rfl,ha,hs]:=Kt hx;have e:(ks.zip us).length=ks.length:=by rw[jw,hs.length];lk
 refine#[a,_,rfl,ha,?_];rw[e];exact q _ H (.int _) .refl rfl w
end Dp
namespace L2
section
variable {X:Cx}{zF:u_ (Addr×Obj)}{Z:St}{H:Hp}{s:Shared}
def Qu{A':i5}{E':Db->No->Prop}{ss:u_ Str}{us:u_ Db}{Q:VK}(I:Inv X zF Z H s)(hS:StrsAre us ss)(h64:us.length<64)
  (q:∀(ss':u_ Str) (l:Ch),ss'.Perm ss->sortedS ss'=s_->H l=r_->Q (.ref l)^Av H l^.lst^ss'.map V.str):
  wpAny (model X.prog X.w) A' (kM.«list.sort» #[[.ref s.heap.objs.size],[]]) (λfin s'=>fin=.done^.ret .none/\EP X zF Z Q (.ref s.heap.objs.size) s') E' {s with heap:=s.heap.push^seqObj "list" us.toArray 0}:=by
 have ho:(s.heap.push^seqObj "list" us.toArray 0).get? s.heap.objs.size=P3^seqObj "list" us.toArray 0:=TW _ rfl;refine list_sort_treeK strKind_oneLt ho hS.keysOf (λv₁ v₂ rest e=>keyKind_strs^by rw[←e];exact hS) h64 λst' hp hs=>#[rfl,?_];let#[ss',h1,h2,h3]:=sorted_out_str hS hp hs;let#[e,he]:=sortedHeap_at (out:=(arrOf st').map (·.2)) ho;have hf:H s.heap.objs.size=r_:=I.fresh;have l1:=(CK h1).length;have l2:=(CK hS).length;have l3:=h2.length_eq;rw[Ev]at l1 l2;refine#[.ref s.heap.objs.size,Av H s.heap.objs.size^.lst^ss'.map V.str,I.laid (t':=s.toks) (λb o z=>?_) (Sc _) #[by rw[Ev,i9];lk,_,e,CK h1,he],rfl,q ss' _ h2 h3 hf];rw[sortedHeap_old (ge^T0 z)^by rw[size_push'];exact jp^T0 z];exact FM _ z
end
end L2
namespace Dp
open L2
end Dp
namespace L2
section
variable {X:Cx}
def WH(K:Frag):u_ V->Hp->VK->Prop:=λxs H Q=>∃(p:Ch) (ss:u_ Str),xs=[.ref p]/\SqT K H p^ss.map V.str/\ss.length<64/\∀(ss':u_ Str) (l:Ch),ss'.Perm ss->sortedS ss'=s_->H l=r_->Q (.ref l)^Av H l^.lst^ss'.map V.str
def Rk:CallR X (.builtin "sorted")^WH X.K:=by
 intro zF s Z H xs us Q I r h;let#[p,ss,rfl,hq,h64,q]:=h;let#[u,rfl,rx]:=vals1 r;cases rx;exact Cv (args_sorted1 _) (λx=>args_list_sort _)^Kx (κ:=t_) I hq λus s1 r1 hz I1=>#[by rw[←r1.length];exact hz,Qu I1 (Ji r1) (by have:=r1.length;rw[Ev]at this;lk) q]
end
end L2
namespace Dp
open L2
def Xf(ds:u_ D)(P:D->Prop):Prop:=∃ss:u_ Str,ds=[.tup^ss.map .str]/\ss.length<64/\∀ss':u_ Str,ss'.Perm ss->sortedS ss'=s_->P^.lst^ss'.map .str
def Zp{K:Frag}:B6 K .fr (WH K) Xf:=by
 intro U M H ds vs P Q dom vM hp w q;let#[ss,rfl,h64,w]:=w;let#[v,rfl,hx]:=CV hp;let#[a,us,rfl,ha,hs]:=hx.tup
 have h2:∀{ss:u_ Str}{us:u_ V},Ats K M H (ss.map D.str) us->us=ss.map V.str:=by
  intro ss
  induction ss with
  |nil=>intro us h;exact h
  |cons x ss ih=>
   rintro us ⟨v,r,e,h1,h2⟩;rw[e,h1.1,ih h2];rfl
 have e:=h2 hs;subst e;exact#[a,ss,rfl,ha.sq,h64,λss' l h1 h2 hl=>q _ _ _ (Ap hl) (B4 hl^Ats.strs λx hx=>hs.strs_le x^h1.mem_iff.mp hx)^w _ h1 h2]
end Dp
namespace Nt
open L2 Dp
def tD(t b:Int):D:=.tup [.int t,.int b]
def Vo(t b:Int):Prop:=1<=b/\b<=1000000/\1<=t/\t<=1000000
def kc(C:Ch)(t b:Int)(N M:Net):Wc:=.ins C ["times","whole","kept"] [tD t b,Bx N,Bx M]
def IsT(N:Net)(t b:Int)(M:Net):Prop:=∃ord:u_ Aw,ord.Perm N.ts/\EI ord/\M=sub N^B3 N t b [] ord
def OutT(A B l:u_ Aw):Prop:=l.Perm (A.filter λt=>decide (t∉B))/\EI l
def YA(n:Sg)(l1 l2:Ch)(x y:u_ Aw):Sg:=(n.put l1^.pl^.lst^x.map Aj).put l2^.pl^.lst^y.map Aj
def Mm(C:Ch)(n:Sg)(a:Ch)(t b:Int)(M N:Net)(P:D->Sg->Prop):Prop:=∀(T:Net) (came went:u_ Aw) (l1 l2:Ch),IsT N t b T->OutT T.ts M.ts came->OutT M.ts T.ts went->n.w l1=r_->n.w l2=r_->l1≠l2->P (.tup [.ob l1,.ob l2])^YA (n.put a^kc C t b N T) l1 l2 came went
def YB(x y:Str)(u:Aw):Prop:=(u.a=x/\u.b=y)\/(u.a=y/\u.b=x)
noncomputable def BN(x y:Str)(u:Aw):Bool:=@decide (YB x y u)^kQ _
noncomputable def VD(x:Str)(u:Aw):Bool:=@decide (u.a=x\/u.b=x)^kQ _
def JY:W2:=λss n P=>∃N M:Net,ss=[.sh^Bx N,.sh^Bx M]/\okN N/\okN M/\∀l,OutT N.ts M.ts l->P (.lst^l.map Aj) n
def G8:W2:=λss n P=>∃(N:Net) (us:u_ Aw),ss=[.sh^Bx N,.br^.lst^us.map Aj]/\okN N/\(∀u∈us,u∈N.ts)/\P (Bx #[N.ps,N.ts.filter λt=>decide (t∉us)]) n
def LA:W2:=λss n P=>ss=[.fd]/\1<=n.n/\∀t b:Int,1<=b->b<=t->t<=1000000->P (tD t b) (n - 1)
def OY(C:Ch):W2:=λss n P=>∃(a:Ch) (t b:Int),ss=[.sh^.ob a,.sh^tD t b]/\n.w a=P3^.ins C [] []/\P .non^n.put a^kc C t b #[[],[]] #[[],[]]
def DZ(C:Ch):W2:=λss n P=>∃(a:Ch) (t b:Int) (N0 M N:Net),ss=[.sh^.ob a,.sh^Bx N]/\n.w a=P3^kc C t b N0 M/\okN N/\okN M/\Vo t b/\Mm C n a t b M N P
def VX(C:Ch)(n:Sg)(a:Ch)(t b:Int)(N M:Net):Prop:=n.w a=P3^kc C t b N M/\okN N/\okN M/\Vo t b
def GA(C:Ch):W2:=λss n P=>∃(a:Ch) (t b:Int) (N M:Net) (x:Str),ss=[.sh^.ob a,.sh^.str x]/\VX C n a t b N M/\x∈N.ps/\P .non n
def G9(C:Ch):W2:=λss n P=>∃(a:Ch) (t b:Int) (N M:Net) (x y:Str),ss=[.sh^.ob a,.sh^.str x,.sh^.str y]/\VX C n a t b N M/\x∈N.ps/\y∈N.ps/\x≠y/\P (.lst^(N.ts.filter^BN x y).map Aj) n
def OR(C:Ch):W2:=λss n P=>∃(a:Ch) (t b:Int) (N M:Net) (x y:Str) (u:Aw),ss=[.sh^.ob a,.sh^.str x,.sh^.str y]/\VX C n a t b N M/\x∈N.ps/\y∈N.ps/\x≠y/\N.ts.filter^BN x y=[u]/\P (Aj u) n
inductive Dd where
 |come (x:Str)|go (x:Str)|lay (x y:Str) (l:Int)|take (x y:Str)
def DU:Dd->D
 |.come x=>.tup [.str "come",.str x]
 |.go x=>.tup [.str "go",.str x]
 |.lay x y l=>.tup [.str "lay",.str x,.str y,.int l]
 |.take x y=>.tup [.str "take",.str x,.str y]
def lo(x y:Str):Str:=if cs x<cs y then x else y
def hi(x y:Str):Str:=if cs x<cs y then y else x
def Qf(N:Net):Dd->Net->Prop
 |.come x,N'=>EU x/\x∉N.ps/\N'.ps.Perm (x::N.ps)/\N'.ts=N.ts
 |.go x,N'=>x∈N.ps/\N'=#[N.ps.filter λy=>decide (y≠x),N.ts.filter λu=>!VD x u]
 |.lay x y l,N'=>x∈N.ps/\y∈N.ps/\x≠y/\1<=l/\l<=1000000/\N'.ps=N.ps/\N'.ts.Perm (#[lo x y,hi x y,l]::N.ts.filter λu=>!BN x y u)
 |.take x y,N'=>(∃u,N.ts.filter^BN x y=[u])/\x∈N.ps/\y∈N.ps/\x≠y/\N'=#[N.ps,N.ts.filter λu=>!BN x y u]
def Pp(N:Net):Prop:=N.ps.length<=20/\N.ts.length<=50
def OZ(C:Ch):W2:=λss n P=>∃(a:Ch) (t b:Int) (N M N':Net) (x:Str),ss=[.sh^.ob a,.sh^.str x]/\VX C n a t b N M/\Pp N/\Qf N (.come x) N'/\okN N'/\Mm C n a t b M N' P
def YS(C:Ch):W2:=λss n P=>∃(a:Ch) (t b:Int) (N M N':Net) (x:Str),ss=[.sh^.ob a,.sh^.str x]/\VX C n a t b N M/\Pp N/\Qf N (.go x) N'/\okN N'/\Mm C n a t b M N' P
def SD(C:Ch):W2:=λss n P=>∃(a:Ch) (t b:Int) (N M N':Net) (x y:Str) (l:Int),ss=[.sh^.ob a,.sh^.str x,.sh^.str y,.sh^.int l]/\VX C n a t b N M/\Pp N/\Qf N (.lay x y l) N'/\okN N'/\Mm C n a t b M N' P
def OS(C:Ch):W2:=λss n P=>∃(a:Ch) (t b:Int) (N M N':Net) (x y:Str),ss=[.sh^.ob a,.sh^.str x,.sh^.str y]/\VX C n a t b N M/\Pp N/\Qf N (.take x y) N'/\okN N'/\Mm C n a t b M N' P
def Hs(C:Ch):W2:=λss n P=>∃(a:Ch) (t b:Int) (N M:Net),ss=[.sh^.ob a]/\n.w a=P3^kc C t b N M/\P (Bx N) n
def Hr(C:Ch):W2:=λss n P=>∃(a:Ch) (t b:Int) (N M:Net),ss=[.sh^.ob a]/\n.w a=P3^kc C t b N M/\P (Bx M) n
def OX(C:Ch):W2:=λss n P=>∃(a:Ch) (t b:Int) (N M:Net) (x y:Str),ss=[.sh^.ob a,.sh^.str x,.sh^.str y]/\VX C n a t b N M/\N.ps=M.ps/\x∈N.ps/\y∈N.ps/\∀o,gu M x y o->P (eg o) n
def tk(u:Aw):u_ Key:=[.inr u.a,.inr u.b]
def JC(ps:u_ Str):D:=.lst^ps.map .str
def HD(us:u_ Aw):D:=.dit (us.map tk)^us.map λu=>.int u.len
def LH(N:Net)(ps:u_ Str)(us:u_ Aw):Prop:=N.ps.Perm ps/\N.ts.Perm us/\okN N
def Jk(x y:D):D:=.dic [.inr "places",.inr "ties"] [x,y]
def G_:W2:=λss n P=>∃(N:Net) (ps:u_ Str) (us:u_ Aw),ss=[.sh^Jk (JC ps)^HD us]/\LH N ps us/\P (Bx N) n
def JW:W2:=λss n P=>∃x y:Str,ss=[.sh^.str x,.sh^.str y]/\EU x/\EU y/\x≠y/\P (.tup [.str^lo x y,.str^hi x y]) n
def Qd:W2:=λss n P=>∃(l t:Ch) (N N':Net) (ps:u_ Str) (us:u_ Aw) (d:Dd),ss=[.sh^Jk (.ob l)^.ob t,.sh^DU d]/\l≠t/\n.w l=P3^.pl^JC ps/\n.w t=P3^.pl^HD us/\LH N ps us/\Qf N d N'/\okN N' /\
 ∀(n':Sg) (ps':u_ Str) (us':u_ Aw),n'.n=n.n->n'.w l=P3^.pl^JC ps'->n'.w t=P3^.pl^HD us'->LH N' ps' us'->(∀b,b≠l->b≠t->n'.w b=n.w b)->P .non n'
def JU(C:Ch):W2:=λss n P=>∃(a:Ch) (t b:Int) (N M N':Net) (d:Dd),ss=[.sh^.ob a,.sh^DU d]/\VX C n a t b N M/\Pp N/\Qf N d N'/\okN N'/\Mm C n a t b M N' P
def Hq:W2:=λss n P=>∃M T:Net,ss=[.sh^Bx M,.sh^Bx T]/\okN M/\okN T/\∀came went,OutT T.ts M.ts came->OutT M.ts T.ts went->P (.tup [.lst^came.map Aj,.lst^went.map Aj]) n
def IZ:Af:=(Aq^Ae EK^AD (AM^AB 0)^AD (BB^Bl [P3 1,r_] (BM^AZ A2 (AB 0)^wC^D.int 1) (Az 1) (Ab^AZ (EG s_) (AB 1)^Al 0)^AB 1) AS)
def Fj(C_Keeper:Ch):Af:=(Ac (Lx C_Keeper "times" (AB 0)^AB 1)
 (Ac (Lx C_Keeper "whole" (AB 0)^BA^AE (BA AT)^AE (BA AT) AT)
 (Lx C_Keeper "kept" (AB 0)^BA^AE (BA AT)^AE (BA AT) AT)))
def G2(C_Keeper:Ch):Af:=(Ac (A6 2^DD C_Keeper "kept"^AB 0)
 (Ac (Lx C_Keeper "whole" (AB 0)^AB 1)
 (Ac (Lx C_Keeper "kept" (AB 0)^Ae LB^AD (AM^AB 1)^AD (AM^DD C_Keeper "times"^AB 0) AS)
 (Aq^BA^AE (Og^Ae JY^AD (AM^DD C_Keeper "kept"^AB 0)^AD (AM^AB 2) AS)^AE (Og^Ae JY^AD (AM^AB 2)^AD (AM^DD C_Keeper "kept"^AB 0) AS) AT))))
def Et(C_Keeper:Ch):Af:=(A_ (Ab^AZ (EG s_) (AB 1)^AZ A2 (DD C_Keeper "whole"^AB 0)^wC^D.int 0) EY Au)
def DY(C_Keeper:Ch):Af:=(Ac (C1^Ba C_Keeper "ask_place" (GA C_Keeper) (AB 0)^AD (AM^AB 1) AS)
 (Ac (C1^Ba C_Keeper "ask_place" (GA C_Keeper) (AB 0)^AD (AM^AB 2) AS)
 (Aq^Bl [P3 1,P3 2,r_] (BM^AZ A2 (DD C_Keeper "whole"^AB 0)^wC^D.int 1) (Az 2) (Ab^AZ Xn (a9 Pq (AB 2) D4^Jc^wC^D.int 2)^BA^AE (Bi Ps^AE (AB 0)^AE (AB 1) AT)^AE (Bi Pt^AE (AB 0)^AE (AB 1) AT) AT)^AB 2)))
def D1(C_Keeper:Ch):Af:=(Ac (A6 3^Ba C_Keeper "ties_between" (G9 C_Keeper) (AB 0)^AD (AM^AB 1)^AD (AM^AB 2) AS)
 (Ac (A_ (Dh^Qj^Al 3) EY Au)
 (Aq^AZ A2 (Al 3)^wC^D.int 0)))
def Mj(C_Keeper:Ch):Af:=(Ac (A_ (Ab^AZ (EG t_) (AB 1)^AZ A2 (DD C_Keeper "whole"^AB 0)^wC^D.int 0) EY Au)
 (Ac (A_ (Ab^AZ (FN t_) (Bi B5^AE (AZ A2 (DD C_Keeper "whole"^AB 0)^wC^D.int 0) AT)^wC^D.int 24) EY Au)
 (Aq^Ba C_Keeper "turn_to" (DZ C_Keeper) (AB 0)^AD (AM^BA^AE (Bi CD^AE (Bi Xf^AE (AZ BX (AZ A2 (DD C_Keeper "whole"^AB 0)^wC^D.int 0)^BA^AE (AB 1) AT) AT) AT)^AE (AZ A2 (DD C_Keeper "whole"^AB 0)^wC^D.int 1) AT) AS)))
def Te(C_Keeper:Ch):Af:=(Ac (C1^Ba C_Keeper "ask_place" (GA C_Keeper) (AB 0)^AD (AM^AB 1) AS)
 (Ac (A6 2^Bl [P3 1,r_] (BM^AZ A2 (DD C_Keeper "whole"^AB 0)^wC^D.int 0) (Az 1) (Ab^AZ (FN s_) (AB 1)^AB 0)^AB 1)
 (Ac (A6 3^Bl [P3 1,r_] (BM^AZ A2 (DD C_Keeper "whole"^AB 0)^wC^D.int 1) (Az 1) (Ab^AZ (EG s_) (AB 0)^a9 Pq (AB 1) D4^Jc^wC^D.int 2)^AB 1)
 (Aq^Ba C_Keeper "turn_to" (DZ C_Keeper) (AB 0)^AD (AM^BA^AE (Bi CD^AE (AB 2) AT)^AE (Bi CD^AE (AB 3) AT) AT) AS))))
def QI(C_Keeper:Ch):Af:=(Ac (A6 4^Ba C_Keeper "ties_between" (G9 C_Keeper) (AB 0)^AD (AM^AB 1)^AD (AM^AB 2) AS)
 (Ac (A_ (Ab^AZ (FN t_) (AB 1)^AB 2) EY Au)
 (Ac (A_ (Ly (Dh^Qj^Al 4)^Ab^AZ (FN t_) (Bi B5^AE (AZ A2 (DD C_Keeper "whole"^AB 0)^wC^D.int 1) AT)^wC^D.int 60) EY Au)
 (Ac (A6 5^AZ A2 (Ae G8^AD (AM^DD C_Keeper "whole"^AB 0)^AD (BB^Al 4) AS)^wC^D.int 1)
 (Aq^Ba C_Keeper "turn_to" (DZ C_Keeper) (AB 0)^AD (AM^Ae EK^AD (AM^DD C_Keeper "whole"^AB 0)^AD (BB^AZ BX (AB 5)^BA^AE (BA^AE (Bi Ps^AE (AB 1)^AE (AB 2) AT)^AE (Bi Pt^AE (AB 1)^AE (AB 2) AT)^AE (AB 3) AT) AT) AS) AS)))))
def Mi(C_Keeper:Ch):Af:=(Aq^Ba C_Keeper "turn_to" (DZ C_Keeper) (AB 0)^AD (AM^Ae G8^AD (AM^DD C_Keeper "whole"^AB 0)^AD (BB^Ct^AE (Ba C_Keeper "tie_between" (OR C_Keeper) (AB 0)^AD (AM^AB 1)^AD (AM^AB 2) AS) AT) AS) AS)
def YC(C_Keeper:Ch):Af:=(Aq^DD C_Keeper "whole"^AB 0)
def VC(C_Keeper:Ch):Af:=(Aq^DD C_Keeper "kept"^AB 0)
def QJ(C_Keeper:Ch):Af:=(Ac (C1^Ba C_Keeper "ask_place" (GA C_Keeper) (AB 0)^AD (AM^AB 1) AS)
 (Ac (C1^Ba C_Keeper "ask_place" (GA C_Keeper) (AB 0)^AD (AM^AB 2) AS)
 (Aq^Ae Zt^AD (AM^DD C_Keeper "kept"^AB 0)^AD (AM^AB 1)^AD (AM^AB 2) AS)))
def Eo:Af:=(Ac (A6 1^Ct^AE (BA^AE (wC^D.int 1)^AE (wC^D.int 1) AT)^AE (BA^AE (wC^D.int 3)^AE (wC^D.int 2) AT)^AE (BA^AE (wC^D.int 2)^AE (wC^D.int 1) AT)^AE (BA^AE (wC^D.int 3)^AE (wC^D.int 1) AT)^AE (BA^AE (wC^D.int 5)^AE (wC^D.int 2) AT)^AE (BA^AE (wC^D.int 1000)^AE (wC^D.int 999) AT)^AE (BA^AE (AZ (Ya YW λi j=>D.int (i ^ j.toNat)) (wC^D.int 10)^wC^D.int 6)^AE (wC^D.int 1) AT)^AE (BA^AE (wC^D.int 2)^AE (wC^D.int 2) AT) AT)
 (Aq^AZ A2 (AB 1)^Ae BU^AD (A4 0)^AD (AM^wC^D.int 8) AS))
def Lk:Af:=(Aq^BA^AE (AZ A2 (AB 0)^wC^D.int 2)^AE (AZ A2 (AB 0)^wC^D.int 0)^AE (AZ A2 (AB 0)^wC^D.int 1) AT)
def K5:Af:=(Aq^Qk Ig^AB 0)
def ER:Af:=(Ac (A6 1^AZ BK (AB 0)^wC^D.str "ties")
 (Aq^BA^AE (Bi CD^AE (Bi RY^AE (AZ BK (AB 0)^wC^D.str "places") AT) AT)^AE (Bi CD^AE (Bl [P3 1,r_] (BM^Bi Km^AE (AB 1) AT) (Az 1) Il^AZ BX (AB 1)^BA^AE (AZ TF (AB 0)^AB 1) AT) AT) AT))
def Fg:Af:=(Aq^BA^AE (Bi Ps^AE (AB 0)^AE (AB 1) AT)^AE (Bi Pt^AE (AB 0)^AE (AB 1) AT) AT)
def Ic:Af:=(Ac (A_ (Ab^AZ (FN t_) (AZ A2 (AB 1)^wC^D.int 0)^wC^D.str "come") (C1^dL "list" Hb (AZ BK (AB 0)^wC^D.str "places")^AE (AZ A2 (AB 1)^wC^D.int 1) AT) Au)
 (Ac (A_ (Ab^AZ (FN t_) (AZ A2 (AB 1)^wC^D.int 0)^wC^D.str "go") (Ac (C1^dL "list" cW (AZ BK (AB 0)^wC^D.str "places")^AE (AZ A2 (AB 1)^wC^D.int 1) AT)
 (Oe (BM^bB .fr Xk^AE (AZ BK (AB 0)^wC^D.str "ties") AT) (Az 2)^A_ (Ab^AZ (EG t_) (AZ A2 (AB 1)^wC^D.int 1)^AB 2) (C1^dL "dict" TL (AZ BK (AB 0)^wC^D.str "ties")^AE (AB 2) AT) Au)) Au)
 (Ac (A_ (Ab^AZ (FN t_) (AZ A2 (AB 1)^wC^D.int 0)^wC^D.str "lay") (Zy (AZ BK (AB 0)^wC^D.str "ties") (Ae JW^AD (AM^AZ A2 (AB 1)^wC^D.int 1)^AD (AM^AZ A2 (AB 1)^wC^D.int 2) AS)^AZ A2 (AB 1)^wC^D.int 3) Au)
 (A_ (Ab^AZ (FN t_) (AZ A2 (AB 1)^wC^D.int 0)^wC^D.str "take") (C1^dL "dict" TL (AZ BK (AB 0)^wC^D.str "ties")^AE (Ae JW^AD (AM^AZ A2 (AB 1)^wC^D.int 1)^AD (AM^AZ A2 (AB 1)^wC^D.int 2) AS) AT) Au))))
def Fe(C_Keeper:Ch):Af:=(Ac (A_ (Ab^AZ (FN t_) (AZ A2 (AB 1)^wC^D.int 0)^wC^D.str "come") (Aq^Ba C_Keeper "come" (OZ C_Keeper) (AB 0)^AD (AM^AZ A2 (AB 1)^wC^D.int 1) AS) Au)
 (Ac (A_ (Ab^AZ (FN t_) (AZ A2 (AB 1)^wC^D.int 0)^wC^D.str "go") (Aq^Ba C_Keeper "go" (YS C_Keeper) (AB 0)^AD (AM^AZ A2 (AB 1)^wC^D.int 1) AS) Au)
 (Ac (A_ (Ab^AZ (FN t_) (AZ A2 (AB 1)^wC^D.int 0)^wC^D.str "lay") (Aq^Ba C_Keeper "lay" (SD C_Keeper) (AB 0)^AD (AM^AZ A2 (AB 1)^wC^D.int 1)^AD (AM^AZ A2 (AB 1)^wC^D.int 2)^AD (AM^AZ A2 (AB 1)^wC^D.int 3) AS) Au)
 (Ac (A_ (Ab^AZ (FN t_) (AZ A2 (AB 1)^wC^D.int 0)^wC^D.str "take") (Aq^Ba C_Keeper "take" (OS C_Keeper) (AB 0)^AD (AM^AZ A2 (AB 1)^wC^D.int 1)^AD (AM^AZ A2 (AB 1)^wC^D.int 2) AS) Au)
 (Aq^Ba C_Keeper "far" (OX C_Keeper) (AB 0)^AD (AM^AZ A2 (AB 1)^wC^D.int 1)^AD (AM^AZ A2 (AB 1)^wC^D.int 2) AS)))))
def EQ:Af:=(Ac (A6 2^Ae Ex^AD (AM^Bl [P3 0,r_] (BM^AZ A2 (AB 1)^wC^D.int 1) (Az 1) (Ab^AZ (EG s_) (AB 1)^AZ A2 (AB 0)^wC^D.int 1)^AB 1) AS)
 (Aq^BA^AE (AB 2)^AE (Ae Ex^AD (AM^Bl [P3 1,r_] (BM^AZ A2 (AB 0)^wC^D.int 1) (Az 1) (Ab^AZ (EG s_) (AB 1)^AZ A2 (AB 0)^wC^D.int 1)^AB 1) AS) AT))
def Fi:Af:=(Ac (A6 4^AZ BK (AB 1)^wC^D.str "places")
 (Ac (A6 5^Bl [P3 4,r_] (BM^AB 2) (Az 1) (Ab^AZ (EG s_) (AB 1)^AB 0)^AB 1)
 (Ac (A6 6^Ae BU^AD (A4 0)^AD (AM^wC^D.int 9) AS)
 (Ac (A_ (Ly (Ab^AZ cX (AB 5)^Ct AT)^FJ (Ab^AZ Gi (AB 6)^wC^D.int 2)^Ab^AZ Gi (Bi B5^AE (AB 4) AT)^wC^D.int 2) (Aq^BA^AE (wC^D.str "come")^AE (AZ A2 (AB 5)^Ae BU^AD (A4 0)^AD (AM^Bi B5^AE (AB 5) AT) AS) AT) Au)
 (Ac (A_ (Ab^AZ (FN t_) (AB 6)^wC^D.int 2) (Aq^BA^AE (wC^D.str "go")^AE (AZ A2 (AB 4)^Ae BU^AD (A4 0)^AD (AM^Bi B5^AE (AB 4) AT) AS) AT) Au)
 (Ac (A_ (Ly (Ab^AZ (FN t_) (AB 6)^wC^D.int 3)^Ab^AZ cY (AZ BK (AB 1)^wC^D.str "ties") Qm) (Ac (A6 7^AZ A2 (Bi Km^AE (AZ BK (AB 1)^wC^D.str "ties") AT)^Ae BU^AD (A4 0)^AD (AM^Bi Xl^AE (AZ BK (AB 1)^wC^D.str "ties") AT) AS)
 (Ac (A6 8^Ae BU^AD (A4 0)^AD (AM^wC^D.int 2) AS)
 (Aq^BA^AE (wC^D.str "take")^AE (AZ A2 (AB 7)^AB 8)^AE (AZ A2 (AB 7)^AZ Gh (wC^D.int 1)^AB 8) AT))) Au)
 (Ac (A6 9^Ae BU^AD (A4 0)^AD (AM^Bi B5^AE (AB 4) AT) AS)
 (Ac (A6 10^AZ (Ya (λ_ j=>0<j) λi j=>D.int (i % j)) (AZ BX (AZ BX (AB 9)^wC^D.int 1)^Ae BU^AD (A4 0)^AD (AM^AZ Gh (Bi B5^AE (AB 4) AT)^wC^D.int 1) AS)^Bi B5^AE (AB 4) AT)
 (Aq^BA^AE (wC^D.str "lay")^AE (AZ A2 (AB 4)^AB 9)^AE (AZ A2 (AB 4)^AB 10)^AE (Ae LF^AD (A4 0)^AD (AM^Yd (Ab^AZ Gi (AB 3)^wC^D.int 4) (AB 3)^Ae BU^AD (A4 0)^AD (AM^wC^D.int 4) AS) AS) AT)))))))))
def NK(n:Sg)(a:Ch)(c d:Wc):(n.put a c).put a d=n.put a d:=by
 unfold Sg.put
 congr 1
 funext b
 by_cases h:b=a
 .simp only[h,if_pos]
 .simp only[if_neg h]
def CN(n:Sg)(a:Ch)(c:Wc):(n.put a c).w a=P3 c:=if_pos rfl
def CZ{n:Sg}{a b:Ch}{c:Wc}(h:b≠a):(n.put a c).w b=n.w b:=if_neg h
def Ot(xs:u_ Str):flat^.tup^xs.map .str=s_:=by
 show BJ _=s_
 induction xs with
 |nil=>rfl
 |cons x xs ih=>show(s_&&BJ^xs.map D.str)=s_;rw[ih];rfl
def F3(us:u_ Aw):BJ^us.map Aj=s_:=by
 induction us with
 |nil=>rfl
 |cons u us ih=>show(flat^Aj u&&BJ^us.map Aj)=s_;rw[ih];rfl
def Kq(N:Net):flat^Bx N=s_:=by
 show(flat^.tup^N.ps.map .str&&(flat^.tup^N.ts.map Aj&&s_))=s_;rw[Ot,show flat^.tup^N.ts.map Aj=s_ from F3 N.ts];rfl
theorem IsT.okN{N T:Net}{t b:Int}(h:IsT N t b T)(ok:okN N):okN T:=by
 let#[ord,_,_,rfl]:=h;exact SV ok _
def OutT.uniq{A B l l':u_ Aw}(h:OutT A B l)(h':OutT A B l'):l=l':=Cj (h.1.trans h'.1.symm) h.2 h'.2
section
variable {ss:u_ Slot}{n:Sg}{Pd:D->Sg->Prop}
def Gg(A B:u_ Aw):(A.map Aj).filter (λd=>!((B.map Aj).any λy=>Fb y d))=(A.filter λt=>decide (t∉B)).map Aj:=by
 rw[mF]
 congr 1
 refine kO λt _=>?_;show(!((B.map Aj).any λy=>Fb y^Aj t))=decide (t∉B);rw[OA,decide_not]
def Gd{N:Net}(ok:N.Ok):Cw^.tup^N.ts.map Aj:=(Pg ok λ_ h=>h).1
def UI(h:JY ss n Pd):K4 (EF Pd) n (ss++Tk 0 .no):=by
 let#[N,M,rfl,ok,ok2,p]:=h;have h60:=ok.2.2;unfold K4;refine#[_,AH (j:=1) rfl,by show(N.ts.map Aj).length<=10000000;rw[Ev];lk,?_];refine B1 (λd=>!((M.ts.map Aj).any λy=>Fb y d)) id (λρ=>∃s,ρ=[.sh^Bx M,s]) _ _ _ _ ?_ #[_,rfl] ?_
 .rintro d hd ρ m nx sk ⟨s,rfl⟩ h1 h2
  let#[t,ht,rfl]:=Rs.mp hd;refine#[_,AH (j:=1) rfl,JI ok.1 ht,Gd ok2.1,_,rfl,?_];exact DF (λc=>h1 _ #[_,rfl] c) λc=>h2 _ #[_,rfl]^jB.mpr c
 .rw[iw,lB,Gg]
  exact#[_,_,rfl,rfl,kH (iz _ _)^by lk,λl h1 h2=>p l #[h1,h2]]
def NE(h:G8 ss n Pd):IZ (EE Pd) n (ss++Tk 0 .no):=by
 let#[N,us,rfl,ok,hu,p]:=h;have h60:=ok.2.2;unfold IZ;refine#[_,AH (j:=1) rfl,by show(N.ts.map Aj).length<=10000000;rw[Ev];lk,?_];refine B1 (λd=>!((us.map Aj).any λy=>Fb y d)) id (λρ=>∃s,ρ=[.br^.lst^us.map Aj,s]) _ _ _ _ ?_ #[_,rfl] ?_
 .rintro d hd ρ m nx sk ⟨s,rfl⟩ h1 h2
  let#[t,ht,rfl]:=Rs.mp hd;refine#[JI ok.1 ht,(Pg ok.1 hu).2,_,rfl,?_];exact DF (λc=>h1 _ #[_,rfl] c) λc=>h2 _ #[_,rfl]^jB.mpr c
 .rw[iw,lB,Gg]
  refine#[N,_,N.ts.filter λt=>decide (t∉us),rfl,rfl,kH (iz _ _)^by lk,λl h1 h2=>?_];rw[show l=N.ts.filter λt=>decide (t∉us)from Fo h1 h2^F9^ok.1.trise.filter _];exact p
def Q1(h:LA ss n Pd):Eo (EE Pd) n (ss++Tk 1 .no):=by
 let#[rfl,hn,p]:=h;unfold Eo;refine#[z2,z2,z2,z2,z2,z2,g8,z2,z2,(by cbv:8<=sizeLine),8,rfl,by cbv,by cbv,hn,λr r0 r1=>?_]
 rcases(show r=0\/r=1\/r=2\/r=3\/r=4\/r=5\/r=6\/r=7 by lk)with rfl|rfl|rfl|rfl|rfl|rfl|rfl|rfl
 .exact#[_,rfl,p 1 1 (by cbv) (by cbv)^by cbv]
 .exact#[_,rfl,p 3 2 (by cbv) (by cbv)^by cbv]
 .exact#[_,rfl,p 2 1 (by cbv) (by cbv)^by cbv]
 .exact#[_,rfl,p 3 1 (by cbv) (by cbv)^by cbv]
 .exact#[_,rfl,p 5 2 (by cbv) (by cbv)^by cbv]
 .exact#[_,rfl,p 1000 999 (by cbv) (by cbv)^by cbv]
 .exact#[_,rfl,p (10 ^ (6:Int).toNat) 1 (by cbv) (by cbv)^by cbv]
 .exact#[_,rfl,p 2 2 (by cbv) (by cbv)^by cbv]
def O8(h:Hq ss n Pd):EQ (EE Pd) n (ss++Tk 1 .no):=by
 let#[M,T,rfl,ok,ok2,p]:=h;have h60:=ok.2.2;have h61:=ok2.2.2
 have key:∀(A B:Net) (Q:u_ D->Sg->Prop),okN A->okN B->Q ((A.ts.filter λt=>decide (t∉B.ts)).map Aj) n->GZ (Az 1) (Ab^AZ (EG s_) (AB 1)^AZ A2 (AB 0)^wC^D.int 1) (AB 1) Q (A.ts.map Aj) [] n [.sh^Bx B,.no]:=by
  intro A B Q oA oB q;refine B1 (λd=>!((B.ts.map Aj).any λy=>Fb y d)) id (λρ=>∃s,ρ=[.sh^Bx B,s]) _ _ _ _ ?_ #[_,rfl] ?_
  .rintro d hd ρ m nx sk ⟨s,rfl⟩ h1 h2
   let#[t,ht,rfl]:=Rs.mp hd;refine#[_,AH (j:=1) rfl,JI oA.1 ht,Gd oB.1,_,rfl,?_];exact DF (λc=>h1 _ #[_,rfl] c) λc=>h2 _ #[_,rfl]^jB.mpr c
  .rw[iw,lB,Gg];exact q
 unfold EQ;refine#[_,AH (j:=1) rfl,by show(T.ts.map Aj).length<=10000000;rw[Ev];lk,key T M _ ok2 ok ?_];refine#[_,_,rfl,rfl,kH (iz _ _)^by lk,λcame c1 c2=>?_];refine#[_,AH (j:=1) rfl,by show(M.ts.map Aj).length<=10000000;rw[Ev];lk,key M T _ ok ok2 ?_];exact#[_,_,rfl,rfl,kH (iz _ _)^by lk,λwent w1 w2=>#[z2,p came went #[c1,c2] #[w1,w2]]]
variable {C:Addr}
def UK(h:OY C ss n Pd):Fj C (EE Pd) n (ss++Tk 0 .no):=by
 let#[a,t,b,rfl,hw,p]:=h;unfold Fj;refine#[rfl,a,[],[],rfl,hw,by cbv,?_];refine#[z0,z0,z2,rfl,a,["times"],[tD t b],rfl,CN _ _ _,by cbv,?_];refine#[z0,z0,z2,rfl,a,["times","whole"],[tD t b,Bx #[[],[]]],rfl,CN _ _ _,by cbv,?_];rw[NK,NK];exact#[rfl,p]
def V8(h:Hs C ss n Pd):YC C (EE Pd) n (ss++Tk 0 .no):=by
 let#[a,t,b,N,M,rfl,hw,p]:=h;exact#[a,_,_,_,rfl,hw,rfl,p]
def UC(h:Hr C ss n Pd):VC C (EE Pd) n (ss++Tk 0 .no):=by
 let#[a,t,b,N,M,rfl,hw,p]:=h;exact#[a,_,_,_,rfl,hw,rfl,p]
def IM{N:Net}(ok:N.Ok):Cw^.tup^N.ps.map .str:=FA ok.names
def FE(x y:Str):Fb (.str x)^.str y=(x==y):=rfl
def OB{xs:u_ Str}{x:Str}:((xs.map D.str).any λy=>Fb y^.str x)=decide (x∈xs):=by
 rw[i6,kZ,decide_eq_true_eq];constructor
 .rintro⟨d,hd,e⟩
  let#[y,hy,rfl]:=Rs.mp hd;rw[FE,beq_iff_eq]at e;rw[←e];exact hy
 .exact λh=>#[.str x,Rs.mpr #[x,h,rfl],by rw[FE,beq_self_eq_true]]
def V_(h:GA C ss n Pd):Et C (EE Pd) n (ss++Tk 0 .no):=by
 let#[a,t,b,N,M,x,rfl,#[hw,ok,ok2,tm],hx,p]:=h;unfold Et;refine#[a,_,_,_,rfl,hw,rfl,_,AH (j:=0) rfl,CA^ok.1.names x hx,IM ok.1,_,rfl,?_];show if(!((N.ps.map D.str).any λy=>Fb y^.str x))=s_ then _ else _
 rw[OB,decide_eq_true hx];exact Bs #[rfl,p]
def T_(h:DZ C ss n Pd):G2 C (EE Pd) n (ss++Tk 1 .no):=by
 let#[a,t,b,N0,M,N,rfl,hw,ok,ok2,tm,p]:=h;unfold G2;refine#[a,_,_,_,rfl,hw,rfl,?_];refine#[Kq N,a,_,_,rfl,hw,by cbv,?_];refine#[a,_,_,tD t b,rfl,CN _ _ _,rfl,N,t,b,rfl,ok,tm.1,tm.2.1,tm.2.2.1,tm.2.2.2,λord o1 o2=>?_];have hT:IsT N t b^sub N^B3 N t b [] ord:=#[ord,o1,o2,rfl];generalize sub N^B3 N t b [] ord=T at hT;have okT:=hT.okN ok;refine#[Kq T,a,_,_,rfl,CN _ _ _,by cbv,?_];rw[NK];refine#[a,_,_,Bx T,rfl,CN _ _ _,rfl,T,M,rfl,okT,ok2,λcame hc=>#[F3 came,λl1 h1=>?_]];have n1:l1≠a:=λz=>by rw[z,CN]at h1;cases h1
 refine#[a,_,_,Bx T,rfl,(CZ^i_ n1).trans^CN _ _ _,rfl,M,T,rfl,ok2,okT,λwent hwt=>#[F3 went,λl2 h2=>#[z2,?_]]];have n2:l2≠l1:=λz=>by rw[z,CN]at h2;cases h2
 rw[CZ n2]at h2;have n3:l2≠a:=λz=>by rw[z,CN]at h2;cases h2
 exact p T came went l1 l2 hT hc hwt (by rw[CZ n1]at h1;exact h1) (by rw[CZ n3]at h2;exact h2)^i_ n2
def UJ(h:OX C ss n Pd):QJ C (EE Pd) n (ss++Tk 0 .no):=by
 let#[a,t,b,N,M,x,y,rfl,k,e,hx,hy,p]:=h;unfold QJ;refine#[a,_,_,rfl,k.1,by cbv,a,t,b,N,M,x,rfl,k,hx,?_];refine#[a,_,_,rfl,k.1,by cbv,a,t,b,N,M,y,rfl,k,hy,?_];exact#[a,_,_,_,rfl,k.1,rfl,M,x,y,rfl,k.2.2.1,e▸hx,e▸hy,p]
end
def dJ:1<=sizeLine:=by cbv
def JB{xs:u_ Str}(h:rising xs):xs.Nodup:=h.imp λ{a b} z e=>by rw[e]at z;exact BD _ z
def L5(x y:Str):cs x<cs y\/x=y\/cs y<cs x:=by
 by_cases h1:cs x<cs y
 .exact .inl h1
 .by_cases h2:cs y<cs x
  .exact .inr^.inr h2
  .refine .inr^.inl ?_
   have:=HR (.inr x) (.inr y) (decide_eq_false h1)^decide_eq_false h2
   exact jo this
def ES{x y:Str}(h:cs x<cs y):¬cs y<cs x:=λg=>BD _^l8 h g
def W6{x y:Str}(h:x≠y):(if decide (cs y<cs x)=s_ then y else x)=lo x y:=by
 unfold lo
 rcases L5 x y with g|g|g
 .rw[if_pos g,if_neg^by rw[decide_eq_true_eq];exact ES g]
 .exact absurd g h
 .rw[if_neg^ES g,if_pos^decide_eq_true g]
def W7{x y:Str}(h:x≠y):(if decide (cs x<cs y)=s_ then y else x)=hi x y:=by
 unfold hi
 rcases L5 x y with g|g|g
 .rw[if_pos g,if_pos^decide_eq_true g]
 .exact absurd g h
 .rw[if_neg^ES g,if_neg^by rw[decide_eq_true_eq];exact ES g]
def aR{x y:Str}(h:x≠y):cs^lo x y<cs^hi x y/\(lo x y=x/\hi x y=y\/lo x y=y/\hi x y=x):=by
 unfold lo hi
 rcases L5 x y with g|g|g
 .rw[if_pos g,if_pos g];exact#[g,.inl #[rfl,rfl]]
 .exact absurd g h
 .rw[if_neg^ES g,if_neg^ES g];exact#[g,.inr #[rfl,rfl]]
def Dz{x y:Str}(h:x≠y){u:Aw}(hu:cs u.a<cs u.b):YB x y u↔u.a=lo x y/\u.b=hi x y:=by
 let#[l,c]:=aR h;unfold YB;constructor
 .rintro(⟨e1,e2⟩|⟨e1,e2⟩)
  .rcases c with⟨c1,c2⟩|⟨c1,c2⟩
   .rw[c1,c2];exact#[e1,e2]
   .rw[c1,c2]at l;rw[e1,e2]at hu;exact absurd l^ES hu
  .rcases c with⟨c1,c2⟩|⟨c1,c2⟩
   .rw[c1,c2]at l;rw[e1,e2]at hu;exact absurd l^ES hu
   .rw[c1,c2];exact#[e1,e2]
 .rintro⟨e1,e2⟩
  rcases c with⟨c1,c2⟩|⟨c1,c2⟩
  .exact .inl #[e1.trans c1,e2.trans c2]
  .exact .inr #[e1.trans c1,e2.trans c2]
def betwB_iff{x y:Str}{u:Aw}:BN x y u=s_↔YB x y u:=by
 unfold BN;exact @decide_eq_true_iff _^kQ _
def atB_iff{x:Str}{u:Aw}:VD x u=s_↔u.a=x\/u.b=x:=by
 unfold VD;exact @decide_eq_true_iff _^kQ _
def ZT(a b c d:Str):Fb (.tup [.str a,.str b])^.tup [.str c,.str d]=s_↔a=c/\b=d:=by
 show((a==c)&&((b==d)&&s_))=s_↔_;simp
def E_{x y:Str}(hx:EU x)(hy:EU y):Cw^.tup [.str x,.str y]:=FA (ps:=[x,y]) λp hp=>by
 rcases UF.mp hp with rfl|hp
 .exact hx
 .rw[Re.mp hp];exact hy
def Ur{x y:Str}(hx:EU x)(hy:EU y):EU^lo x y/\EU^hi x y:=by
 unfold lo hi
 split <;>exact#[by assumption,by assumption]
section
variable {ss:u_ Slot}{n:Sg}{Pd:D->Sg->Prop}{C:Addr}
def UG(h:JW ss n Pd):Fg (EE Pd) n (ss++Tk 0 .no):=by
 let#[x,y,rfl,hx,hy,hne,p]:=h;unfold Fg;refine#[x,y,rfl,x,y,rfl,z2,?_];have e1:=W6 hne;have e2:=W7 hne;rw[←e1,←e2]at p;exact p
def Q2(h:G9 C ss n Pd):DY C (EF Pd) n (ss++Tk 0 .no):=by
 let#[a,t,b,N,M,x,y,rfl,k,hx,hy,hne,p]:=h;have ok:=k.2.1;have l60:=ok.2.2;unfold DY;refine#[a,_,_,rfl,k.1,by cbv,a,t,b,N,M,x,rfl,k,hx,?_];refine#[a,_,_,rfl,k.1,by cbv,a,t,b,N,M,y,rfl,k,hy,?_];refine#[a,_,_,_,rfl,k.1,rfl,_,AH (j:=1) rfl,by show(N.ts.map Aj).length<=10000000;rw[Ev];lk,?_];refine B1 (λd=>BN x y^U3 d) id (λρ=>∃s,ρ=[.sh^.str x,.sh^.str y,s]) _ _ _ _ ?_ #[_,rfl] ?_
 .rintro d hd ρ m nx sk ⟨s,rfl⟩ h1 h2
  let#[u,hu,rfl]:=Rs.mp hd;let#[m1,m2,m3,_]:=ok.1.tin u hu;refine#[x,y,rfl,x,y,rfl,z2,?_];rw[show(if decide (y.cps.toList<x.cps.toList)=s_ then y else x)=lo x y from W6 hne,show(if decide (x.cps.toList<y.cps.toList)=s_ then y else x)=hi x y from W7 hne];have nn:=Ur (ok.1.names x hx)^ok.1.names y hy;refine#[E_ (ok.1.names _ m1)^ok.1.names _ m2,E_ nn.1 nn.2,?_]
  have e:Fb (.tup [.str u.a,.str u.b])^.tup [.str^lo x y,.str^hi x y]=BN x y u:=by
   rw[i6,ZT,betwB_iff,Dz hne m3]
  show if Fb (.tup [.str u.a,.str u.b]) (.tup [.str^lo x y,.str^hi x y])=s_ then _ else _
  rw[e];exact DF (λc=>h1 _ #[_,rfl] c) λc=>h2 _ #[_,rfl]^jB.mpr c
 .rw[iw,lB,mF]
  exact p
def UB(h:OR C ss n Pd):D1 C (EE Pd) n (ss++Tk 1 .no):=by
 let#[a,t,b,N,M,x,y,u,rfl,k,hx,hy,hne,hu,p]:=h;unfold D1;refine#[a,_,_,rfl,k.1,by cbv,a,t,b,N,M,x,y,rfl,k,hx,hy,hne,?_];rw[hu];exact#[s_,rfl,_,AH (j:=0) rfl,p]
end
def Xd(x:Str)(xs:u_ Str):(xs.map D.str).filter (λd=>match d with|.str y=>!(y==x)|_=>t_)=(xs.filter λy=>decide (y≠x)).map .str:=by
 rw[mF]
 congr 1
 refine kO λy _=>?_;show(!(y==x))=decide (y≠x);rw[decide_not,nB]
def SM{a b x:Str}:([D.str a,D.str b].any λy=>Fb y^.str x)=(decide (a=x)||decide (b=x)):=by
 show((a==x)||((b==x)||false))=_;rw[Bool.or_false,nB,nB]
section
variable {ss:u_ Slot}{n:Sg}{Pd:D->Sg->Prop}{C:Addr}
def UM(h:OZ C ss n Pd):Mj C (EE Pd) n (ss++Tk 0 .no):=by
 let#[a,t,b,N,M,N',x,rfl,k,#[l20,l50],#[hx,hn,hp,ht],ok',p]:=h;have ok:=k.2.1;have szl:=PySem.sizeLine_eq;unfold Mj;refine#[a,_,_,_,rfl,k.1,rfl,_,AH (j:=0) rfl,CA hx,IM ok.1,_,rfl,?_];show if((N.ps.map D.str).any λy=>Fb y^.str x)=s_ then _ else _
 rw[OB,decide_eq_false hn];refine Bs ?_;refine#[a,_,_,_,rfl,k.1,rfl,_,AH (j:=0) rfl,_,_,rfl,rfl,?_];show if(((N.ps.map D.str).length:Int)==24)=s_ then _ else _
 rw[Ev,show(((N.ps.length:Nat):Int)==24)=t_ from beq_eq_false_iff_ne.mpr^by lk];refine Bs ?_;refine#[a,_,_,rfl,k.1,by cbv,?_];refine#[a,_,_,_,rfl,k.1,rfl,_,AH (j:=0) rfl,dJ,by show(N.ps.map D.str).length+1<=sizeLine;rw[Ev];lk,N.ps++[x],by rw[iq];rfl,by rw[iT,jC];lk,λss' h1 h2=>?_];refine#[a,_,_,_,rfl,k.1,rfl,_,AH (j:=1) rfl,z2,?_]
 have e:ss'=N'.ps:=by
  have pe:ss'.Perm N'.ps:=h1.trans^(kC x N.ps).trans hp.symm;have nd:ss'.Nodup:=pe.nodup_iff.mpr^JB ok'.1.rise;exact E6 (λa b x y=>absurd y^ES x) pe (De h2 nd) ok'.1.rise
 subst e;refine#[a,t,b,N,M,N',?_,k.1,ok',k.2.2.1,k.2.2.2,p];show [Slot.sh^.ob a,.sh^.tup [.tup^N'.ps.map .str,.tup^N.ts.map Aj]]=_;rw[←ht];rfl
def Yq(h:YS C ss n Pd):Te C (EE Pd) n (ss++Tk 2 .no):=by
 let#[a,t,b,N,M,N',x,rfl,k,#[l20,l50],#[hx,rfl],ok',p]:=h;have ok:=k.2.1;have nx:=ok.1.names x hx;unfold Te;refine#[a,_,_,rfl,k.1,by cbv,a,t,b,N,M,x,rfl,k,hx,?_];refine#[a,_,_,_,rfl,k.1,rfl,_,AH (j:=0) rfl,by show(N.ps.map D.str).length<=10000000;rw[Ev];lk,?_];refine B1 (λd=>match d with|.str y=>!(y==x)|_=>t_) id (λρ=>∃s,ρ=[.sh^.str x,s]) _ _ _ _ ?_ #[_,rfl] ?_
 .rintro d hd ρ m nx sk ⟨s,rfl⟩ h1 h2
  let#[y,hy,rfl]:=Rs.mp hd;show if(!(y==x))=s_ then _ else _
  exact DF (λc=>h1 _ #[_,rfl] c) λc=>h2 _ #[_,rfl]^jB.mpr c
 rw[iw,lB,Xd];refine#[a,_,_,_,rfl,k.1,rfl,_,AH (j:=1) rfl,by show(N.ts.map Aj).length<=10000000;rw[Ev];lk,?_];refine B1 (λd=>!VD x (U3 d)) id (λρ=>∃s,ρ=[.sh^.str x,s]) _ _ _ _ ?_ #[_,rfl] ?_
 .rintro d hd ρ m nx' sk ⟨s,rfl⟩ h1 h2
  let#[u,hu,rfl]:=Rs.mp hd;let#[m1,m2,m3,_]:=ok.1.tin u hu;refine#[CA nx,E_ (ok.1.names _ m1)^ok.1.names _ m2,_,rfl,?_]
  have e:([D.str u.a,D.str u.b].any λy=>Fb y^.str x)=VD x u:=by
   rw[SM,i6,atB_iff,Bool.or_eq_true,decide_eq_true_eq,decide_eq_true_eq]
  show if(!([D.str u.a,D.str u.b].any λy=>Fb y^.str x))=s_ then _ else _
  rw[e];exact DF (λc=>h1 _ #[_,rfl] c) λc=>h2 _ #[_,rfl]^jB.mpr c
 rw[iw,lB,mF];refine#[a,_,_,rfl,k.1,by cbv,z2,?_];exact#[a,t,b,N,M,_,rfl,k.1,ok',k.2.2.1,k.2.2.2,p]
def V9(h:SD C ss n Pd):QI C (EE Pd) n (ss++Tk 2 .no):=by
 let#[a,t,b,N,M,N',x,y,l,rfl,k,#[l20,l50],#[hx,hy,hne,l1,l2,hps,hts],ok',p]:=h;have ok:=k.2.1;have szl:=PySem.sizeLine_eq;unfold QI;refine#[a,_,_,rfl,k.1,by cbv,a,t,b,N,M,x,y,rfl,k,hx,hy,hne,?_];show if(x==y)=s_ then _ else _
 rw[show(x==y)=t_ from beq_eq_false_iff_ne.mpr hne];refine Bs ?_
 have next:Ac (A6 5^AZ A2 (Ae G8^AD (AM^DD C "whole"^AB 0)^AD (BB^Al 4) AS)^wC^D.int 1) (Aq^Ba C "turn_to" (DZ C) (AB 0)^AD (AM^Ae EK^AD (AM^DD C "whole"^AB 0)^AD (BB^AZ BX (AB 5)^BA^AE (BA^AE (Bi Ps^AE (AB 1)^AE (AB 2) AT)^AE (Bi Pt^AE (AB 1)^AE (AB 2) AT)^AE (AB 3) AT) AT) AS) AS) (EE Pd) n [.sh^.ob a,.sh^.str x,.sh^.str y,.sh^.int l,.sh^.lst^(N.ts.filter^BN x y).map Aj,.no]:=by
  refine#[a,_,_,_,rfl,k.1,rfl,N,N.ts.filter^BN x y,rfl,ok,λu hu=>(iY.mp hu).1,_,AH (j:=1) rfl,?_]
  have ef:(N.ts.filter λu=>decide (u∉N.ts.filter^BN x y))=N.ts.filter λu=>!BN x y u:=kO λu hu=>by
   rw[decide_not,Bool.not_inj_iff,i6,decide_eq_true_eq,iY];exact#[λz=>z.2,λz=>#[hu,z]]
  rw[ef];refine#[a,_,_,rfl,k.1,by cbv,a,_,_,_,rfl,k.1,rfl,x,y,rfl,x,y,rfl,z3,dJ,?_];have lf:=iz (λu=>!BN x y u) N.ts;refine#[by rw[Ev];show(N.ts.filter λu=>!BN x y u).length+1<=sizeLine;lk,N,_,(N.ts.filter λu=>!BN x y u)++[#[lo x y,hi x y,l]],rfl,?_,by rw[iT,jC];lk,λts' h1 h2=>?_]
  .rw[show(if decide (y.cps.toList<x.cps.toList)=s_ then y else x)=lo x y from W6 hne,show(if decide (x.cps.toList<y.cps.toList)=s_ then y else x)=hi x y from W7 hne,iq]
   rfl
  .have e:ts'=N'.ts:=Fo (h1.trans^(kC _ _).trans hts.symm) h2^F9 ok'.1.trise
   subst e;rw[←hps];exact#[a,t,b,N,M,N',rfl,k.1,ok',k.2.2.1,k.2.2.2,p]
 cases hl:(N.ts.filter^BN x y).map Aj with
 |nil=>
  rw[hl]at next;refine#[t_,rfl,a,_,_,_,rfl,k.1,rfl,_,AH (j:=1) rfl,_,_,rfl,rfl,?_];show if(((N.ts.map Aj).length:Int)==60)=s_ then _ else _
  rw[Ev,show(((N.ts.length:Nat):Int)==60)=t_ from beq_eq_false_iff_ne.mpr^by lk];exact Bs next
 |cons d r=>
  rw[hl]at next;exact#[s_,rfl,next]
def UD(h:OS C ss n Pd):Mi C (EE Pd) n (ss++Tk 0 .no):=by
 let#[a,t,b,N,M,N',x,y,rfl,k,#[l20,l50],#[#[u,hu],hx,hy,hne,rfl],ok',p]:=h;have ok:=k.2.1;unfold Mi;refine#[a,_,_,rfl,k.1,by cbv,a,_,_,_,rfl,k.1,rfl,a,_,_,rfl,k.1,by cbv,a,t,b,N,M,x,y,u,rfl,k,hx,hy,hne,hu,dJ,?_];have mu:u∈N.ts:=(iY.mp (by rw[hu];exact Re.mpr rfl:u∈N.ts.filter^BN x y)).1;refine#[N,[u],rfl,ok,λv hv=>by rw[Re.mp hv];exact mu,?_]
 have ef:(N.ts.filter λv=>decide (v∉[u]))=N.ts.filter λu=>!BN x y u:=kO λv hv=>by
  rw[decide_not,Bool.not_inj_iff,i6,decide_eq_true_eq,←hu,iY];exact#[λz=>z.2,λz=>#[hv,z]]
 rw[ef];exact#[a,t,b,N,M,_,rfl,k.1,ok',k.2.2.1,k.2.2.2,p]
def UA(h:JU C ss n Pd):Fe C (EE Pd) n (ss++Tk 0 .no):=by
 let#[a,t,b,N,M,N',d,rfl,k,f,hd,ok',p]:=h;unfold Fe;cases d with
 |come x=>
  refine#[_,AH (j:=0) rfl,?_];exact#[a,_,_,rfl,k.1,by cbv,_,AH (j:=1) rfl,a,t,b,N,M,N',x,rfl,k,f,hd,ok',p]
 |go x=>
  refine#[_,AH (j:=0) rfl,?_];refine#[_,AH (j:=0) rfl,?_];exact#[a,_,_,rfl,k.1,by cbv,_,AH (j:=1) rfl,a,t,b,N,M,N',x,rfl,k,f,hd,ok',p]
 |lay x y l=>
  refine#[_,AH (j:=0) rfl,?_];refine#[_,AH (j:=0) rfl,?_];refine#[_,AH (j:=0) rfl,?_];exact#[a,_,_,rfl,k.1,by cbv,_,AH (j:=1) rfl,_,AH (j:=2) rfl,_,AH (j:=3) rfl,a,t,b,N,M,N',x,y,l,rfl,k,f,hd,ok',p]
 |take x y=>
  refine#[_,AH (j:=0) rfl,?_];refine#[_,AH (j:=0) rfl,?_];refine#[_,AH (j:=0) rfl,?_];refine#[_,AH (j:=0) rfl,?_];exact#[a,_,_,rfl,k.1,by cbv,_,AH (j:=1) rfl,_,AH (j:=2) rfl,a,t,b,N,M,N',x,y,rfl,k,f,hd,ok',p]
end
section
variable {ss:u_ Slot}{n:Sg}{Pd:D->Sg->Prop}
def Q5(h:Ig ss n Pd):Lk (EE Pd) n (ss++Tk 0 .no):=J5 h
def O9(h:Ex ss n Pd):K5 (EF Pd) n (ss++Tk 0 .no):=II h
end
def tk_eq{s t:Aw}:tk s=tk t↔s.a=t.a/\s.b=t.b:=by
 unfold tk;simp
def Qr{N:Net}(ok:N.Ok):(N.ts.map tk).Nodup:=lY.mpr (ok.trise.imp λ{s t} h e=>by
 let#[e1,e2]:=tk_eq.mp e
 rcases h with h|⟨_,h⟩
 .rw[e1]at h;exact BD _ h
 .rw[e2]at h;exact BD _ h)
def bH{s t:Aw}(h:Bg s t):A8 (tk t)^tk s=t_:=by
 show(if(jx t.a:Key)=.inr s.a then(if(jx t.b:Key)=.inr s.b then t_ else decide (t.b.cps.toList<s.b.cps.toList))else decide (t.a.cps.toList<s.a.cps.toList))=t_
 rcases h with h|⟨e,h⟩
 .rw[if_neg λz=>by rw[jo z]at h;exact BD _ h]
  exact decide_eq_false^ES h
 .rw[if_pos (by rw[e]),if_neg λz=>by rw[jo z]at h;exact BD _ h]
  exact decide_eq_false^ES h
def Ou{N:Net}(ok:N.Ok){us:u_ Aw}(hp:N.ts.Perm us){ks:u_^u_ Key}(h1:ks.Perm^us.map tk)(h2:ks.Pairwise λa b=>A8 b a=t_):ks=N.ts.map tk:=
 E6 (λa b x y=>CH _ _ y x) (h1.trans (hp.map tk).symm) h2 (lY.mpr^ok.trise.imp λ{s t} h=>bH h)
theorem Qn:∀{us:u_ Aw}{t:Aw},(us.map tk).Nodup->t∈us->Cg (us.map tk) (us.map λu=>.int u.len)^tk t=P3^.int t.len
 |[],_,_,h=>by cases h
 |u::us,t,nd,h=>by
  rw[iZ,iW]at nd;show(if tk u=tk t then P3^D.int u.len else Cg (us.map tk) (us.map λu=>D.int u.len)^tk t)=_
  rcases UF.mp h with rfl|h
  .rw[if_pos rfl]
  .rw[if_neg (λz=>nd.1^by rw[z];exact Rs.mpr #[t,h,rfl]),Qn nd.2 h]
def SX{x y:D}{P:D->Prop}(h:P x):BK (Jk x y) (.str "places") P:=#[_,_,.inr "places",x,rfl,rfl,rfl,h]
def Hv{x y:D}{P:D->Prop}(h:P y):BK (Jk x y) (.str "ties") P:=#[_,_,.inr "ties",y,rfl,rfl,by
 show(if(jx "places":Key)=.inr "ties" then P3 x else if(jx "ties":Key)=.inr "ties" then P3 y else r_)=P3 y;rw[if_neg^by cbv,if_pos rfl],h]
def Xc{N:Net}(ok:N.Ok){us:u_ Aw}(hp:N.ts.Perm us):∀k∈us.map tk,∀x∈k,DP x:=λk hk x hx=>by
 let#[u,hu,rfl]:=Rs.mp hk;let#[m1,m2,_]:=ok.tin u^hp.mem_iff.mpr hu;have szl:=PySem.sizeLine_eq;have h1:=(ok.names _ m1).2.1;have h2:=(ok.names _ m2).2.1
 rcases UF.mp hx with rfl|hx
 .show u.a.length<=sizeLine;lk
 .rw[Re.mp hx];show u.b.length<=sizeLine;lk
section
variable {ss:u_ Slot}{n:Sg}{Pd:D->Sg->Prop}
def Vt{N:Net}{us:u_ Aw}(okn:okN N)(hp:N.ts.Perm us):(us.map tk).length=(us.map λu=>D.int u.len).length/\(us.map tk).length<64/\(∀x∈us.map tk,∀y∈us.map tk,BY x y=s_)/\(∀x∈us.map tk,x≠[]):=by
 have l60:=okn.2.2;have lu:=hp.length_eq;refine#[by rw[Ev,Ev],by rw[Ev];lk,λx hx y hy=>?_,λx hx=>?_]
 .let#[u,_,rfl]:=Rs.mp hx
  let#[v,_,rfl]:=Rs.mp hy;rfl
 .let#[u,_,rfl]:=Rs.mp hx
  exact jd _ _
def Q4(h:G_ ss n Pd):ER (EE Pd) n (ss++Tk 1 .no):=by
 let#[N,ps,us,rfl,#[hp,hu,okn],p]:=h;have l25:=okn.2.1;have l60:=okn.2.2;have lp:=hp.length_eq;have lu:=hu.length_eq;have nd:(us.map tk).Nodup:=(hu.map tk).nodup_iff.mp^Qr okn.1;unfold ER;refine Hv ?_;refine SX ?_;refine#[_,ps,rfl,K7 _,by lk,λps' h1 h2=>?_];have e:ps'=N.ps:=E6 (λa b x y=>absurd y^ES x) (h1.trans hp.symm) (De h2^(h1.trans hp.symm).nodup_iff.mpr^JB okn.1.rise) okn.1.rise;subst e;let#[s1,s2,s3,s4]:=Vt okn hu;refine#[_,_,rfl,s1,s2,s3,s4,Xc okn.1 hu,λks' h3 h4=>?_];have ek:=Ou okn.1 hu h3 h4;subst ek;refine#[by show((N.ts.map tk).map tupK).length<=10000000;rw[Ev,Ev];lk,?_];refine Bk (λd=>match d with|.tup [.str a,.str b]=>.tup [.str a,.str b,(Cg (us.map tk) (us.map λu=>.int u.len) [.inr a,.inr b]).getD .non]|d=>d) (λρ=>∃s,ρ=[.sh^HD us,s]) _ _ _ _ ?_ #[_,rfl] ?_
 .rintro d hd ρ m nx ⟨s,rfl⟩ hnx
  let#[k,hk,rfl]:=Rs.mp hd;let#[t,ht,rfl]:=Rs.mp hk;have hv:=Qn nd^hu.mem_iff.mp ht
  have:=hnx [.sh^HD us,.sh^.tup [.str t.a,.str t.b]] #[_,rfl]
  refine#[_,_,tk t,_,rfl,rfl,hv,dJ,z3,?_];have e:Cg (us.map tk) (us.map λu=>D.int u.len) [.inr t.a,.inr t.b]=P3^.int t.len:=hv;rw[show(tupK^tk t)=.tup [.str t.a,.str t.b]from rfl]at this;simp only[e]at this;exact this
 .rw[iw]
  refine#[z2,?_];rw[jb,jb];refine(congrArg (λX=>Pd (.tup [.tup^N.ps.map .str,.tup X]) n)^jr (g:=Aj) λt ht=>?_).mpr p;have hv:Cg (us.map tk) (us.map λu=>D.int u.len) [.inr t.a,.inr t.b]=P3^.int t.len:=Qn nd^hu.mem_iff.mp ht;show D.tup [.str t.a,.str t.b,(Cg (us.map tk) (us.map λu=>D.int u.len) [.inr t.a,.inr t.b]).getD .non]=Aj t;rw[hv];rfl
end
def Fp(xs:u_ Str):BJ^xs.map .str=s_:=Ot xs
def RT(us:u_ Aw):BJ (us.map λu=>D.int u.len)=s_:=by
 induction us with
 |nil=>rfl
 |cons u us ih=>show(s_&&BJ^us.map λu=>D.int u.len)=s_;rw[ih];rfl
def Qq(us:u_ Aw):BJ^(us.map tk).map tupK=s_:=by
 induction us with
 |nil=>rfl
 |cons u us ih=>show(flat^tupK^tk u&&BJ^(us.map tk).map tupK)=s_;rw[ih];rfl
def Yx(ps:u_ Str):MY^JC ps:=Fp ps
def SN(us:u_ Aw):MY^HD us:=RT us
def aU(us:u_ Aw)(j:Nat):D.dit ((us.map tk).eraseIdx j)^(us.map λu=>D.int u.len).eraseIdx j=HD^us.eraseIdx j:=by
 rw[Hc,Hc];rfl
theorem Tf{α:Type}[DecidableEq α]:∀{xs:u_ α}{x:α},x∈xs->∃j:Nat,xs[j]?=P3 x/\(∀m y,m<j->xs[m]?=P3 y->y≠x)/\(x::xs.eraseIdx j).Perm xs
 |[],_,h=>by cases h
 | y::xs,x,h=>by
  by_cases e:y=x
  .subst e
   exact#[0,rfl,λm _ hm=>absurd hm^Nat.not_lt_zero _,List.Perm.refl _]
  .let#[j,h1,h2,h3]:=Tf^(UF.mp h).resolve_left λz=>e z.symm
   refine#[j+1,h1,λm z hm hz=>?_,?_]
   .cases m with
    |zero=>cases hz;exact e
    |succ m=>exact h2 m z (by lk) hz
   .show(x::y::xs.eraseIdx j).Perm (y::xs)
    exact(pG ..).trans^h3.cons y
def Gj{α:Type}[DecidableEq α]{xs:u_ α}{x:α}{j:Nat}(nd:xs.Nodup)(h:(x::xs.eraseIdx j).Perm xs):(xs.eraseIdx j).Perm (xs.filter λy=>decide (y≠x)):=by
 have nd2:=h.nodup_iff.mpr nd;rw[iW]at nd2;have f:=h.filter λy=>decide (y≠x);rw[kR^by simp]at f;have e:((xs.eraseIdx j).filter λy=>decide (y≠x))=xs.eraseIdx j:=lH.mpr λy hy=>decide_eq_true fun(z:y=x)=>nd2.1 (by rw[←z];exact hy);rw[e]at f;exact f
def dY{x:Str}{u:Aw}:([D.str u.a,D.str u.b].any λy=>Fb y^.str x)=VD x u:=by
 rw[SM,i6,atB_iff,Bool.or_eq_true,decide_eq_true_eq,decide_eq_true_eq]
section
variable {n:Sg}
theorem HZ{N:Net}(ok:N.Ok){x:Str}(hx:EU x){l t:Ch}{d1:D}(hd1:atI [D.str "go",D.str x] 1=P3^.str x){D2:E2}:∀(post pre:u_ Aw) (m:Sg) (s2:Slot),(∀u∈pre++post,u∈N.ts)->(pre++post).length<=60->((pre++post).map tk).Nodup->m.w t=P3^.pl^HD ((pre.filter λu=>!VD x u)++post)->
  (∀(m':Sg) (s:Slot),m'.n=m.n->m'.w t=P3 (.pl^HD^(pre++post).filter λu=>!VD x u)->(∀b,b≠t->m'.w b=m.w b)->D2.nx m' [.sh^Jk (.ob l)^.ob t,.sh^DU^.go x,s])->
  CW (Az 2) (A_ (Ab^AZ (EG t_) (AZ A2 (AB 1)^wC^D.int 1)^AB 2) (C1^dL "dict" TL (AZ BK (AB 0)^wC^D.str "ties")^AE (AB 2) AT) Au) D2 ((post.map tk).map tupK) m [.sh^Jk (.ob l)^.ob t,.sh^DU^.go x,s2]
 |[],pre,m,s2,_,_,_,hm,q=>q m s2 rfl (by rw[jA]at hm ⊢;exact hm) λ_ _=>rfl
 | u::post,pre,m,s2,hin,hl,nd,hm,q=>by
  have hu:u∈N.ts:=hin u^iV _ On;let#[m1,m2,m3,_]:=ok.tin u hu;have e1:pre++u::post=(pre++[u])++post:=by rw[k6];rfl
  refine#[_,hd1,CA hx,E_ (ok.names _ m1)^ok.names _ m2,_,rfl,?_];show if([D.str u.a,D.str u.b].any λy=>Fb y^.str x)=s_ then _ else _
  rw[dY];rw[e1]at hin hl nd q;cases c:VD x u with
  |false=>
   refine Bs ?_;refine HZ ok hx (d1:=d1) hd1 post (pre++[u]) m _ hin hl nd ?_ q;rw[hm,List.filter_append,lK (by rw[c];rfl),oz,k6];rfl
  | true=>
   refine Dw ?_;refine Hv ?_;refine#[t,rfl,#[_,hm,rfl],rfl,_,hm,?_]
   have hj:((pre.filter λu=>!VD x u)++u::post)[(pre.filter λu=>!VD x u).length]?=P3 u:=by
    rw[jY^Sc _,nS];rfl
   refine#[_,_,_,tk u,(pre.filter λu=>!VD x u).length,.int u.len,rfl,rfl,rfl,by rw[XV,hj];rfl,by rw[XV,hj];rfl,?_];rw[aU];refine#[SN _,rfl,?_];refine HZ ok hx (d1:=d1) hd1 post (pre++[u]) _ _ hin hl nd ?_ λm' s a b c'=>q m' s a b λz hz=>(c' z hz).trans^CZ hz;rw[CN,List.filter_append,kR (by rw[c];simp),oz,jA,List.eraseIdx_append_of_length_le^Sc _,nS];rfl
end
def DN{ps:u_ Str}(h:∀x∈ps,EU x):Cw^.lst^ps.map .str:=Ds λd hd=>by
 let#[x,hx,rfl]:=Rs.mp hd;exact Dv^h x hx
section
variable {ss:u_ Slot}{n:Sg}{Pd:D->Sg->Prop}
def Yt{us:u_ Aw}{v:Aw}(nd:(us.map tk).Nodup):∃us':u_ Aw,D.dit (Bv (us.map tk)^tk v)^Bj (us.map tk) (us.map λu=>D.int u.len) (tk v)^.int v.len=HD us'/\us'.Perm (v::us.filter λu=>decide (tk u≠tk v)):=by
 unfold Bv Bj
 by_cases h:Kh (us.map tk)^tk v=s_
 .rw [if_pos h,if_pos h]
  refine#[us.map λu=>if tk u=tk v then v else u,?_,?_]
  .unfold HD
   congr 1
   .rw[jb]
    refine jr λu _=>?_;show tk u=tk (if tk u=tk v then v else u)
    split
    .assumption
    .rfl
   .clear nd h
    induction us with
    |nil=>rfl
    |cons u us ih=>
     rw[iZ,iZ,iZ,iZ,←ih];show(if tk u=tk v then D.int v.len else D.int u.len)::_=D.int (if tk u=tk v then v else u).len::_
     split <;>rfl
  .have hm:=hasK_iffU.mp h
   clear h
   induction us with
   |nil=>cases hm
   | cons u us ih=>
    rw[iZ,iW]at nd;rw[iZ]
    by_cases e:tk u=tk v
    .rw[if_pos e,kR^by simp[e]]
     have e2:∀w∈us,tk w≠tk v:=λw hw z=>nd.1^by rw[e,←z];exact Rs.mpr #[w,hw,rfl]
     rw[lH.mpr λw hw=>decide_eq_true^e2 w hw,show(us.map λu=>if tk u=tk v then v else u)=us from by
      refine(jr λw hw=>if_neg^e2 w hw).trans^List.map_id' us]
    .rw[if_neg e,lK^by simp[e]]
     rw[iZ]at hm;exact((ih nd.2^(UF.mp hm).resolve_left λz=>e z.symm).cons u).trans (pG ..)
 .rw[if_neg h,if_neg h]
  refine#[us++[v],by unfold HD;rw[iq,iq];rfl,?_];have e2:∀w∈us,tk w≠tk v:=λw hw z=>h (hasK_iffU.mpr^by rw[←z];exact Rs.mpr #[w,hw,rfl]);rw[lH.mpr λw hw=>decide_eq_true^e2 w hw];exact kC _ _
def Yr(h:Qd ss n Pd):Ic (EE Pd) n (ss++Tk 1 .no):=by
 let#[l,t,N,N',ps,us,d,rfl,hlt,hl,ht,#[hp,hu,okn],hd,ok',p]:=h;have szl:=PySem.sizeLine_eq;have l25:=okn.2.1;have l60:=okn.2.2;have lp:=hp.length_eq;have lu:=hu.length_eq;have nd:(us.map tk).Nodup:=(hu.map tk).nodup_iff.mp^Qr okn.1;have ndp:ps.Nodup:=hp.nodup_iff.mp^JB okn.1.rise;have nps:∀x∈ps,EU x:=λx hx=>okn.1.names x^hp.mem_iff.mpr hx;unfold Ic;cases d with
 |come x=>
  let#[hx,hn,hpp,htt]:=hd;refine#[_,AH (j:=0) rfl,?_];refine SX ?_;refine#[l,rfl,#[_,hl,rfl],_,AH (j:=1) rfl,rfl,_,hl,_,_,rfl,rfl,by rw[Ev];lk,?_];refine#[ED (Fp ps) rfl,rfl,?_];refine#[_,AH (j:=0) rfl,#[_,AH (j:=0) rfl,#[_,AH (j:=0) rfl,rfl,?_]]];refine p _ (ps++[x]) us rfl (by rw[CN];unfold JC;rw[iq];rfl) (by rw[CZ^i_ hlt];exact ht) #[?_,by rw[htt];exact hu,ok'] λb hb _=>CZ hb;exact hpp.trans^(hp.cons x).trans (kC x ps).symm
 | go x=>
  let#[hx,rfl]:=hd;have nx:=okn.1.names x hx;let#[j,j1,j2,j3]:=Tf^hp.mem_iff.mp hx;refine#[_,AH (j:=0) rfl,?_];refine#[_,AH (j:=0) rfl,?_];refine SX ?_;refine#[l,rfl,#[_,hl,rfl],_,AH (j:=1) rfl,rfl,_,hl,_,_,j,rfl,rfl,DN nps,CA nx,#[.str x,by rw[XV,j1];rfl,by rw[FE,beq_self_eq_true]],λm y hm hy=>?_,?_]
  .rw[XV]at hy
   let#[z,hz,rfl]:=io.mp hy;rw[FE];exact beq_eq_false_iff_ne.mpr^j2 m z hm hz
  rw[Hc];refine#[Yx _,rfl,?_];have htp:((n.put l^.pl^.lst^(ps.eraseIdx j).map .str).w t)=P3^.pl^HD us:=by rw[CZ^i_ hlt];exact ht
  refine Hv ?_;refine#[[HD us],by show [Io _^.ob t]=_;rw[E5 htp],_,_,rfl,by rw[Ev,Ev],by rw[Ev];lk,Xc okn.1 hu,Qq us,?_];refine HZ okn.1 nx (d1:=.non) rfl us [] _ _ (λu h=>hu.mem_iff.mpr h) (by show us.length<=60;lk) nd htp λm' s e1 e2 e3=>?_;refine#[_,AH (j:=0) rfl,#[_,AH (j:=0) rfl,rfl,?_]];refine p m' (ps.eraseIdx j) (us.filter λu=>!VD x u) e1 ((e3 l hlt).trans^CN _ _ _) e2 #[?_,hu.filter _,ok'] λb h1 h2=>(e3 b h2).trans^CZ h1;exact(hp.filter _).trans (Gj ndp j3).symm
 |lay x y v=>
  let#[hx,hy,hne,v1,v2,hps,hts]:=hd;let#[us',e1,e2]:=Yt (v:=#[lo x y,hi x y,v]) nd;refine#[_,AH (j:=0) rfl,?_];refine#[_,AH (j:=0) rfl,?_];refine#[_,AH (j:=0) rfl,?_];refine#[_,AH (j:=3) rfl,rfl,?_];refine Hv ?_;refine#[_,AH (j:=1) rfl,_,AH (j:=2) rfl,x,y,rfl,okn.1.names x hx,okn.1.names y hy,hne,?_];refine#[t,tk #[lo x y,hi x y,v],_,_,rfl,rfl,ht,by rw[Ev];lk,?_];refine#[_,AH (j:=0) rfl,rfl,?_];refine p _ ps us' rfl (by rw[CZ hlt];exact hl) (by rw[CN];exact congrArg _^congrArg _ e1) #[by rw[hps];exact hp,?_,ok'] λb _ hb=>CZ hb;refine hts.trans^o0 ?_ e2.symm;refine List.Perm.cons _ ?_;refine o0 (hu.filter _)^List.Perm.of_eq^kO λu h=>?_;rw[i6,lX,decide_eq_true_eq,jB,Ne,betwB_iff,Dz hne (okn.1.tin u^hu.mem_iff.mpr h).2.2.1,Ne,tk_eq]
 | take x y=>
  let#[#[u,hf],hx,hy,hne,rfl]:=hd;have mu:=iY.mp (show u∈N.ts.filter (BN x y) by rw[hf];exact Re.mpr rfl);have eu:=(Dz hne (okn.1.tin u mu.1).2.2.1).mp^betwB_iff.mp mu.2;let#[j,j1,_,j3]:=Tf^hu.mem_iff.mp mu.1;refine#[_,AH (j:=0) rfl,?_];refine#[_,AH (j:=0) rfl,?_];refine#[_,AH (j:=0) rfl,?_];refine#[_,AH (j:=0) rfl,?_];refine Hv ?_;refine#[t,rfl,#[_,ht,rfl],_,AH (j:=1) rfl,_,AH (j:=2) rfl,x,y,rfl,okn.1.names x hx,okn.1.names y hy,hne,rfl,_,ht,?_];refine#[_,_,_,tk u,j,.int u.len,rfl,rfl,by rw[show tk u=[.inr^lo x y,.inr^hi x y] by unfold tk;rw[eu.1,eu.2]];rfl,by rw[XV,j1];rfl,by rw[XV,j1];rfl,?_];rw[aU];refine#[SN _,rfl,rfl,?_];refine p _ ps (us.eraseIdx j) rfl (by rw[CZ hlt];exact hl) (CN _ _ _) #[hp,?_,ok'] λb _ hb=>CZ hb;have ndu:us.Nodup:=hu.nodup_iff.mp^BS okn.1.trise;refine(hu.filter _).trans^o0 (List.Perm.of_eq ?_) (Gj ndu j3).symm;refine kO λw hw=>?_;have h1:w∈N.ts:=hu.mem_iff.mpr hw
  have h2:BN x y w=s_↔w=u:=by
   rw[show(BN x y w=s_)=(BN x y w=s_)from rfl];constructor
   .intro z
    have:=iY.mpr #[h1,z]
    rw[hf]at this;exact Re.mp this
   .rintro rfl;exact mu.2
  rw[i6,lX,decide_eq_true_eq,jB,Ne,h2]
end
theorem MN{α:Type}[DecidableEq α]:∀{xs ys:u_ α},xs.Nodup->(∀x∈xs,x∈ys)->xs.length<=ys.length
 |[],_,_,_=>iX _
 |x::xs,ys,nd,h=>by
  rw[iW]at nd;let#[j,_,_,hp]:=Tf^h x On
  have:=MN (ys:=ys.eraseIdx j) nd.2 λz hz=>(UF.mp^hp.mem_iff.mpr^h z^TM _ hz).resolve_left λe=>nd.1^by rw[←e];exact hz
  have e:=hp.length_eq;rw[ij]at e ⊢;lk
def E8{xs:u_ Str}{r:Int}(h0:0<=r)(h1:r<xs.length):∃x∈xs,atI (xs.map D.str) r=P3^.str x/\xs[r.toNat]?=P3 x:=by
 have h:r.toNat<xs.length:=by lk
 refine#[xs[r.toNat],jQ _,?_,Go h]
 have:=AH (xs:=xs.map D.str) (j:=r.toNat) (v:=.str xs[r.toNat])^by rw[XV,Go h];rfl
 rwa[show((r.toNat:Nat):Int)=r by lk]at this
theorem RW{α:Type}{r:α->α->Prop}(tr:∀a b c,r a b->r b c->r a c)(x:α):∀{xs:u_ α},xs.Pairwise r->(∀y∈xs,r x y\/r y x)->∃l:u_ α,l.Perm (x::xs)/\l.Pairwise r
 |[],_,_=>#[[x],.refl _,ot _ _]
 | y::xs,h,t=>by
  let#[h1,h2]:=i7.mp h
  rcases t y On with z|z
  .refine#[x::y::xs,.refl _,i7.mpr #[λw hw=>?_,h]]
   rcases UF.mp hw with rfl|hw
   .exact z
   .exact tr _ _ _ z^h1 w hw
  .let#[l,p,q]:=RW tr x h2 λw hw=>t w^TM _ hw
   refine#[y::l,(p.cons y).trans^pG x y xs,i7.mpr #[λw hw=>?_,q]]
   rcases UF.mp^p.mem_iff.mp hw with rfl|hw
   .exact z
   .exact h1 w hw
def ZU{a b c:Aw}(h:Bg a b)(g:Bg b c):Bg a c:=by
 rcases h with h|⟨h,h'⟩ <;>rcases g with g|⟨g,g'⟩
 .exact .inl^l8 h g
 .exact .inl (g▸h)
 .exact .inl (h▸g)
 .exact .inr #[h.trans g,l8 h' g']
def Rg{N N':Net}{ps:u_ Str}{us:u_ Aw}(S:LH N ps us):ps.length=N.ps.length/\us.length=N.ts.length:=#[S.1.length_eq.symm,S.2.1.length_eq.symm]
def Mh(s:Sg)(L:u_ Ch):Sg.back (s.drop L) s L=s:=Sg.back_drop s L s.n
def NC{w:Ch->v_ Wc}{l t:Ch}{x y:D}(h1:w l=P3^.pl x)(h2:w t=P3^.pl y):Dp.FL w^Jk (.ob l)^.ob t=Jk x y/\Ef w^Jk (.ob l)^.ob t=[l,t]:=by
 refine#[?_,?_]
 .show D.dic _ [Io w^.ob l,Io w^.ob t]=_
  rw[E5 h1,E5 h2];rfl
 .show Ir w^.ob l++(Ir w^.ob t++[])=_
  rw[Do h1,Do h2];rfl
def bX{w:Ch->v_ Wc}{l t:Ch}{x y:D}(h1:w l=P3^.pl x)(h2:w t=P3^.pl y):Dp.FL w^.tup [.ob l,.ob t]=.tup [x,y]:=by
 show D.tup [Io w^.ob l,Io w^.ob t]=_;rw[E5 h1,E5 h2]
def CC(s:Sg)(a:Ch)(c:Wc):(s.put a c).w a=P3 c:=if_pos rfl
def BO{s:Sg}{a b:Ch}{c:Wc}(h:b≠a):(s.put a c).w b=s.w b:=if_neg h
def Sx{A B l:u_ Aw}(h:OutT A B l):l.length<=A.length:=by rw[h.1.length_eq];exact iz _ _
def Qv{xs ys:u_ D}(hx:∀d∈xs,item d)(hy:∀d∈ys,item d)(lx:xs.length<=60)(ly:ys.length<=60):O2^.tup [.lst xs,.lst ys]:=by
 have s1:=Jg λd hd=>lr (hx d hd).2.1;have s2:=Jg λd hd=>lr (hy d hd).2.1;have d1:=dps_le.mpr λd hd=>(hx d hd).2.2;have d2:=dps_le.mpr λd hd=>(hy d hd).2.2;refine SY (B:=1000001) (by cbv) #[fines_iff.mpr λd hd=>(hx d hd).1,fines_iff.mpr λd hd=>(hy d hd).1,trivial] ?_ ?_
 .show max (MU xs+1)^max (MU ys+1) 0+1<=100
  omega
 .show Ox xs+1+(Ox ys+1+0)<=200000
  omega
def Jn{N:Net}(ok:okN N):O2^Bx N:=by
 let#[h1,h2,h3]:=bP ok;exact SY (by cbv) h1 (by lk)^by lk
def L_{x:Str}{t e:Prop}(h:e):if(if s_=s_ then !(x==x)else x==x)=s_ then t else e:=by
 rw[if_pos rfl,beq_self_eq_true];exact h
def Zh(d:Dd):flat^DU d=s_:=by cases d <;>rfl
structure iJ (C:Ch) (t b:Int) (pool:List Str) (k:Nat) (n:Sg) (a l tt:Ch) (N M:Net) (ps:List Str) (us:List Aw):Prop where
 nn:7*k<=n.n
 wa:n.w a=P3 (kc C t b N M)
 wl:n.w l=P3 (.pl^JC ps)
 wt:n.w tt=P3 (.pl^HD us)
 al:a≠l
 at':a≠tt
 lt:l≠tt
 st:LH N ps us
 ok:okN M
 inp:∀x∈ps,x∈pool
 l1:N.ps.length+k<=18
 l2:N.ts.length+k<=18
end Nt
namespace L2
end L2
namespace Dp
open L2
end Dp
namespace Nt
open L2 Dp
def F6(x y:Str):cs (x++y)=cs x++cs y:=PySem.W.KT.app_list x y
def N3(x:Str):(cs x).length=x.length:=i8
def HI{x y:Str}(h:cs x=cs y):x=y:=Str.ext'^Array.toList_inj.mp h
def Cz(x y z:Str):x++y++z=x++(y++z):=HI^by rw[F6,F6,F6,F6,k6]
def len_app(x y:Str):(x++y).length=x.length+y.length:=by rw[←N3,F6,iT,N3,N3]
def sp:Str:=" "
def aZ:cs sp=[32]:=by decide +kernel
def C7(i:Int):Str:=jH^toString i
theorem TU:∀(k m:Nat),m<10 ^ (k+1)->(kn 10 m).length<=k+1
 |0,m,h=>by rw[lL^by lk];exact Sc _
 | k+1,m,h=>by
  by_cases hm:m<10
  .rw[lL hm];show 1<=_;lk
  .have t:kn 10 (m / 10)++kn 10 (m % 10)=kn 10 (10*(m / 10)+m % 10):=nj (by cbv) (by lk)^mU m^by cbv
   rw[Nat.div_add_mod]at t
   have:=TU k (m / 10)^by rw[Nat.pow_succ]at h;lk
   rw[←t,iT,lL^mU m^by cbv];show _+1<=_;lk
def RJ{i:Int}(h:1<=i):∃m:Nat,i=(m:Int)/\1<=m/\cs^C7 i=(kn 10 m).map Char.toNat:=by
 let#[m,rfl]:=Int.eq_ofNat_of_zero_le (show 0<=i by lk);exact#[m,rfl,by lk,PySem.W.KIN.signs_num m]
def S2{i:Int}(h:1<=i):∀c∈cs^C7 i,48<=c/\c<=57:=by
 let#[m,rfl,_,e]:=RJ h;rw[e];intro c hc;let#[ch,hch,rfl]:=Rs.mp hc;have r:=PyProof.Rows.digit_range^oC (by cbv) (by cbv) hch;exact r
def Ng{i:Int}(h:1<=i)(h2:i<=1000000):(C7 i).length<=7:=by
 let#[m,rfl,_,e]:=RJ h;rw[←N3,e,Ev];exact TU 6 m^by lk
def S1{i:Int}(h:1<=i)(h2:i<=1000000):i.natAbs.log2<1920:=by
 have:i.natAbs<2 ^ 1920:=kH (show i.natAbs<=1000000 by lk)^by decide +kernel
 exact(Nat.log2_lt^by lk).mpr this
def bK(t:Aw):Str:=kL sp [t.a,t.b,C7 t.len]
def Ga(t:Aw):Str:=kL sp ["tie",t.a,t.b,C7 t.len]
def IP(x:Str):Str:=kL sp ["place",x]
def linesOf(N:Net):u_ Str:=N.ps.map IP++N.ts.map Ga
def SO(t:Aw):Prop:=EU t.a/\EU t.b/\cs t.a<cs t.b/\1<=t.len/\t.len<=1000000
section
def Nh{x:Str}(h:EU x):x.length<=8:=h.2.1
def bJ:("tie ":Str)="tie"++sp:=HI^by decide +kernel
def WZ:("place ":Str)="place"++sp:=HI^by decide +kernel
def XE(t:Aw):("tie ":Str)++bK t=Ga t:=by
 rw[bJ];rfl
def XG(x:Str):("place ":Str)++x=IP x:=by
 rw[WZ];rfl
def Us{x:Str}(h:EU x):("place ":Str).length+x.length<=sizeLine:=by
 have:=h.2.1
 rw[show("place ":Str).length=6 by decide +kernel,PySem.sizeLine_eq];lk
def Vq{t:Aw}(h:SO t):(bK t).length<=25:=by
 let#[ha,hb,_,h1,h2]:=h;have la:=Nh ha;have lb:=Nh hb;have ln:=Ng h1 h2;show(t.a++sp++(t.b++sp++C7 t.len)).length<=_;rw[len_app,len_app,len_app,len_app,show sp.length=1 by decide +kernel];lk
def Wx{N:Net}(ok:N.Ok){t:Aw}(h:t∈N.ts):SO t:=by
 let#[h1,h2,h3,h4,h5]:=ok.tin t h;exact#[ok.names _ h1,ok.names _ h2,h3,h4,h5]
def gK:D->D
 |.str x=>.str^IP x
 |_=>.non
end
structure iK (C:Ch) (t b:Int) (pool:List Str) (k:Nat) (n:Sg) (a l tt:Ch) (N M:Net) (ps:List Str) (us:List Aw):Prop where
 kp:VX C n a t b N M
 tn:IsT N t b M
 wl:n.w l=P3 (.pl^JC ps)
 wt:n.w tt=P3 (.pl^HD us)
 al:a≠l
 at':a≠tt
 lt:l≠tt
 st:LH N ps us
 inp:∀x∈ps,x∈pool
 l1:N.ps.length+k<=18
 l2:N.ts.length+k<=18
def Kb{n:Sg}{x y:Ch}{c:Wc}(h:n.w x=P3 c)(g:n.w y=r_):x≠y:=λz=>by rw[z,g]at h;cases h
def Xo{α:Type}{l:u_ α}{p:α->Bool}{P:D->Prop}(h:P^.bl^l.all p):U1 [.lst^l.map λa=>.bl^p a] P:=
 #[_,_,rfl,K9 p l,by simp_all]
def YE{b1 b2:Bool}{P:D->Sg->Prop}{n:Sg}{k:(D->Sg->Prop)->Prop}(hk:b1=s_->P (.bl b2) n->k P)(h:P (.bl (b1&&b2)) n):(match (.bl b1:D)with|.bl s_=>k P|.bl t_=>P (.bl t_) n|_=>False):=X_ hk h
def eo:D->Bool
 |.ob _=>t_
 |_=>s_
abbrev Wb(g:D->Bool):W2:=λss n P=>∃ds:u_ D,ss=ds.map Slot.sh/\ds.length=1/\eo^ds.getD 0 .non=s_/\P (.bl^g^ds.getD 0 .non) n
def Wb.out{g:D->Bool}{ss:u_ Slot}{n:Sg}{P:D->Sg->Prop}(h:Wb g ss n P):∃d,ss=[.sh d]/\eo d=s_/\P (.bl^g d) n:=by
 let#[ds,rfl,l,o,p]:=h;cases ds with
 |nil=>cases l
 |cons d ds=>cases ds with
  |nil=>exact#[d,rfl,o,p]
  |cons _ _=>cases l
def az:D->Bool
 |.int _=>s_
 |_=>t_
def ZG:D->Bool
 |.int i=>decide (1<=i)&&decide (i<=1000000)
 |_=>t_
def PY:D->Bool
 |.str x=>(decide (1<=x.length)&&decide (x.length<=8))&&(cs x).all λc=>decide (97<=c)&&decide (c<=122)
 |_=>t_
abbrev R_:W2:=Wb az
abbrev OU:W2:=Wb ZG
abbrev YR:W2:=Wb PY
def Rn:Af:=(Aq^Vg (Tw "int"^AB 0)^a_^Tw "bool"^AB 0)
def QH:Af:=(Aq^Vg (Ae R_^AD (AM^AB 0) AS)^HE Kp Kp (wC^D.int 1) (AB 0)^wC^D.int 1000000)
def VB:Af:=(Ac (A_ (FJ (Dh^Ab^Tw "str"^AB 0)^Dh^Ab^HE Kp Kp (wC^D.int 1) (Bi B5^AE (AB 0) AT)^wC^D.int 8) (Aq^wC^D.bl t_) Au)
 (Aq^Bi U1^AE (Bl [r_] (BM^AB 0) (Az 0) Il^HE Kp Kp (wC^D.str "a") (AB 0)^wC^D.str "z") AT))
section
variable {ss:u_ Slot}{n:Sg}{Pd:D->Sg->Prop}
def O_(h:R_ ss n Pd):Rn (EE Pd) n (ss++Tk 0 .no):=by
 let#[d,rfl,nb,q]:=h.out;cases d <;>first|exact q|cases nb
def NJ(h:OU ss n Pd):QH (EE Pd) n (ss++Tk 0 .no):=by
 let#[d,rfl,nb,q]:=h.out;refine#[[d],rfl,rfl,nb,?_];cases d with
 |int i=>exact YE (k:=λP=>P _ n) (λ_ h=>h) q
 |_=>exact q
def Vu(c:Nat):((!(decide ([c]<("a":Str).cps.toList)))&&(!(decide (("z":Str).cps.toList<[c]))))=(decide (97<=c)&&decide (c<=122)):=by
 have ea:("a":Str).cps.toList=[97]:=by decide +kernel
 have ez:("z":Str).cps.toList=[122]:=by decide +kernel
 rw[ea,ez,i6];simp only[ik,lX,decide_eq_false_iff_not,decide_eq_true_eq,List.cons_lt_cons_iff,List.not_lt_nil,and_false,or_false];lk
def Zj(x:Str):(cs x).length=x.length:=i8
def L9(x:Str):(Dp.signs x).length=x.length:=by unfold Dp.signs;rw[Ev];exact Zj x
def Q7(h0:YR ss n Pd):VB (EE Pd) n (ss++Tk 0 .no):=by
 let#[d,rfl,nb,h]:=h0.out;clear h0;cases d with
 | str x=>
  have h':Pd (.bl ((decide (1<=x.length)&&decide (x.length<=8))&&(cs x).all λc=>decide (97<=c)&&decide (c<=122))) n:=h;refine#[_,_,rfl,rfl,?_]
  by_cases h1:1<=x.length
  .have i1:decide ((1:Int)<=(x.length:Int))=s_:=decide_eq_true^by lk
   by_cases h2:x.length<=8
   .have i2:decide ((x.length:Int)<=8)=s_:=decide_eq_true^by lk
    rw[decide_eq_true h1,decide_eq_true h2,Bool.true_and,Bool.true_and]at h';show(match (.bl (decide ((1:Int)<=(x.length:Int))):D)with|.bl s_=>_|.bl t_=>_|_=>False);rw[i1];show(if(!decide ((x.length:Int)<=8))=s_ then _ else _);rw[i2];refine Bs #[by rw[L9];lk,?_];refine Bk (λd=>match d with|.str z=>.bl ((!(decide (z.cps.toList<("a":Str).cps.toList)))&&(!(decide (("z":Str).cps.toList<z.cps.toList))))|_=>.non) (λρ=>∃s,ρ=[s]) _ _ _ _ ?_ #[_,rfl] ?_
    .rintro d hd ρ m nx ⟨s,rfl⟩ hnx
     let#[c,hc,rfl]:=Rs.mp hd;exact YE (P:=λy n2=>nx y n2 [.sh^.str #[#[ c]]]) (k:=λP=>P (.bl _) m) (λ_ h=>h)^hnx _ #[_,rfl]
    .rw[iw]
     unfold Dp.signs;rw[jb];show U1 [.lst^x.cps.toList.map λc=>.bl ((!(decide ([c]<("a":Str).cps.toList)))&&(!(decide (("z":Str).cps.toList<[c]))))] λz=>Pd z n;refine Xo (p:=λc=>(!(decide ([c]<("a":Str).cps.toList)))&&(!(decide (("z":Str).cps.toList<[c])))) ?_;rw[show(λc=>(!(decide ([c]<("a":Str).cps.toList)))&&(!(decide (("z":Str).cps.toList<[c]))))=λc=>decide (97<=c)&&decide (c<=122)from funext Vu];exact h'
   .have i2:decide ((x.length:Int)<=8)=t_:=decide_eq_false^by lk
    rw[decide_eq_true h1,decide_eq_false h2,Bool.and_false,pH]at h';show(match (.bl (decide ((1:Int)<=(x.length:Int))):D)with|.bl s_=>_|.bl t_=>_|_=>False);rw[i1];show(if(!decide ((x.length:Int)<=8))=s_ then _ else _);rw[i2];exact Dw h'
  .have i1:decide ((1:Int)<=(x.length:Int))=t_:=decide_eq_false^by lk
   rw[decide_eq_false h1,pH,pH]at h';show(match (.bl (decide ((1:Int)<=(x.length:Int))):D)with|.bl s_=>_|.bl t_=>_|_=>False);rw[i1];exact Dw h'
 |ob a=>cases nb
 |_=>exact h
end
def nameB_iff{d:D}:PY d=s_↔∃x,d=.str x/\EU x:=by
 cases d with
 |str x=>
  simp[PY,EU];constructor
  .simp_all
  simp_all
 |_=>exact#[(λh=>by cases h),fun#[x,e,_]=>(by cases e)]
theorem E9{b:BW}{body:Af}{D2:E2}{all:u_ D}(I:u_ D->Sg->u_ Slot->Prop)(hend:∀n ρ,I all n ρ->D2.nx n ρ)
  (hstep:∀(pre:u_ D) (d:D) (post:u_ D) (n:Sg) (ρ:u_ Slot) (nx:Sg->u_ Slot->Prop),all=pre++d::post->I pre n ρ->(∀n' zX,I (pre++[d]) n' zX->nx n' zX)->b d ρ λzS=>body {D2 with nx:=nx,ct:=nx,bk:=D2.nx} n zS):
  ∀(ds pre:u_ D) (n:Sg) (ρ:u_ Slot),all=pre++ds->I pre n ρ->CW b body D2 ds n ρ
 |[],pre,n,ρ,e,h=>by
  rw[jA]at e;subst e;exact hend n ρ h
 |d::ds,pre,n,ρ,e,h=>hstep _ d ds n ρ _ e h λn' zX h'=>E9 I hend hstep ds _ n' _ (by grind) h'
def SA:W2:=λss n P=>∃(xs:u_ Str) (most:Nat),ss=[.fd,.sh^.tup^xs.map .str,.sh^.int most]/\(∀x∈xs,EU x)/\rising xs/\xs.length<=26/\most<=60/\200<=n.n/\∀(ts:u_ Aw) (m:Nat),(#[xs,ts]:Net).Ok->ts.length<=most->n.n<=m+200->P (.tup^ts.map Aj) #[m,n.w]
def G1:Af:=(Ac (DH 3 Ql)
 (Ac (A6 4^Ae BU^AD (A4 0)^AD (AM^wC^D.int 5) AS)
 (Ac (Oe (SI^AE (Ae BU^AD (A4 0)^AD (AM^AZ BX (AB 2)^wC^D.int 1) AS) AT) (Az 5) (A_ (Ab^AZ (f2 λi j=>D.bl (decide (j<i))) (Bi B5^AE (AB 1) AT)^wC^D.int 1) (Ac (A6 6^Ae BU^AD (A4 0)^AD (AM^Bi B5^AE (AB 1) AT) AS)
 (Ac (A6 7^AZ (Ya (λ_ j=>0<j) λi j=>D.int (i % j)) (AZ BX (AZ BX (AB 6)^wC^D.int 1)^Ae BU^AD (A4 0)^AD (AM^AZ Gh (Bi B5^AE (AB 1) AT)^wC^D.int 1) AS)^Bi B5^AE (AB 1) AT)
 (Zz 3 (BA^AE (AZ A2 (AB 1)^Bi Xi^AE (AB 6)^AE (AB 7) AT)^AE (AZ A2 (AB 1)^Bi Xj^AE (AB 6)^AE (AB 7) AT) AT)^Ae LF^AD (A4 0)^AD (AM^AZ A2 (Ct^AE (AB 4)^AE (AZ (Ya (λ_ j=>0<j) λi j=>D.int (i % j)) (AB 5)^wC^D.int 4) AT)^AZ (Ya YX λi j=>D.int (i / j)) (AB 4)^wC^D.int 4) AS))) Au))
 (Aq^Bi CD^AE (Bl [P3 3,r_] (BM^Bi Km^AE (Al 3) AT) (Az 1) Il^AZ BX (AB 1)^BA^AE (AZ TF (Al 0)^AB 1) AT) AT))))
def h7:1<=sizeLine:=by cbv
def Yp{lo:Int}{n:Nat}{pre post:u_ D}{d:D}(h:HL lo n=pre++d::post):d=.int (lo+(pre.length:Int))/\pre.length<n:=by
 have hl:=congrArg mi h;rw[Dn]at hl;have e:(HL lo n)[pre.length]?=P3 d:=by grind
 unfold HL at e
 simp_all
section
variable {ss:u_ Slot}{n:Sg}{Pd:D->Sg->Prop}
def Tb(x y:Str):cs x<cs y\/x=y\/cs y<cs x:=by
 by_cases h1:cs x<cs y
 .exact .inl h1
 .by_cases h2:cs y<cs x
  .exact .inr^.inr h2
  .refine .inr^.inl ?_
   have:=HR (.inr x) (.inr y) (decide_eq_false h1)^decide_eq_false h2
   exact jo this
def WS{ks:u_^u_ Key}{k x:u_ Key}(h:x∈Bv ks k):x∈ks\/x=k:=by
 unfold Bv at h
 split at h
 .exact .inl h
 .exact(iP.mp h).imp id Re.mp
def Yu{ks:u_^u_ Key}{k:u_ Key}(nd:ks.Nodup):(Bv ks k).Nodup:=by
 unfold Bv
 split
 .exact nd
 .rename_i h
  rw[jh];refine#[nd,by simp,λx hx y hy e=>h^hasK_iffU.mpr ?_];rw[Re]at hy;subst hy;subst e;exact hx
def Yv{ks:u_^u_ Key}{k:u_ Key}:(Bv ks k).length<=ks.length+1:=by
 unfold Bv
 split
 .lk
 .rw[iT,jC];lk
theorem PC{k:u_ Key}{d x:D}:∀{ks:u_^u_ Key}{ds:u_ D},x∈j4 (λk0 d0=>if k0=k then d else d0) ks ds->x=d\/x∈ds
 |[],_,h=>by cases h
 |_::_,[],h=>by cases h
 | k0::ks,d0::ds,h=>by
  rw[List.zipWith_cons_cons]at h
  rcases UF.mp h with h|h
  .by_cases e:k0=k
   .rw[if_pos e]at h;exact .inl h
   .rw[if_neg e]at h;exact .inr^by rw[h];exact On
  .exact(PC h).imp id^TM _
def UO{ks:u_^u_ Key}{ds:u_ D}{k:u_ Key}{d x:D}(h:x∈Bj ks ds k d):x=d\/x∈ds:=by
 unfold Bj at h
 split at h
 .exact PC h
 .rcases iP.mp h with h|h
  .exact .inr h
  .exact .inl^Re.mp h
theorem Oi{k:u_ Key}{z:D}:∀{ks:u_^u_ Key}{ds:u_ D},Cg ks ds k=P3 z->z∈ds
 |[],_,h=>by cases h
 |_::_,[],h=>by cases h
 |k0::ks,d0::ds,h=>by
  unfold Cg at h
  split at h
  .cases h;exact On
  .exact TM _^Oi h
def Tds.put{xs:u_ Str}{ks:u_^u_ Key}{ds:u_ D}(T:Tds xs ks ds){a b:Str}{l:Int}(ha:a∈xs)(hb:b∈xs)(lt:cs a<cs b)(l1:1<=l)(l2:l<=1000000):Tds xs (Bv ks [.inr a,.inr b])^Bj ks ds [.inr a,.inr b]^.int l:=by
 refine#[J_ T.len,Yu T.nd,λk hk=>?_,λd hd=>?_]
 .rcases WS hk with hk|rfl
  .exact T.key k hk
  .exact#[a,b,rfl,ha,hb,lt]
 .rcases UO hd with rfl|hd
  .exact#[l,rfl,l1,l2]
  .exact T.val d hd
def Lu(ks:u_^u_ Key)(ds:u_ D):D->D
 |.tup [.str a,.str b]=>.tup [.str a,.str b,(Cg ks ds [.inr a,.inr b]).getD .non]
 |d=>d
def Oc(ks:u_^u_ Key)(ds:u_ D)(a b:Str):Lu ks ds^.tup [.str a,.str b]=.tup [.str a,.str b,(Cg ks ds [.inr a,.inr b]).getD .non]:=rfl
theorem Tds.ties{xs:u_ Str}{ks:u_^u_ Key}{ds:u_ D}(T:Tds xs ks ds):∀{ks':u_^u_ Key},(∀k∈ks',k∈ks)->ks'.Nodup->ks'.Pairwise (λa b=>A8 b a=t_)->
  ∃ts:u_ Aw,(ks'.map tupK).map^Lu ks ds=ts.map Aj/\ts.map (λt=>([.inr t.a,.inr t.b]:u_ Key))=ks'/\(∀t∈ts,t.a∈xs/\t.b∈xs/\cs t.a<cs t.b/\1<=t.len/\t.len<=1000000)/\ts.Pairwise Bg
 |[],_,_,_=>#[[],rfl,rfl,(λt h=>by cases h),pP]
 | k::ks',hin,nd,pw=>by
  rw[iW]at nd;rw[i7]at pw;let#[ts,e1,e2,h1,h2]:=T.ties (ks':=ks') (λk hk=>hin k^TM _ hk) nd.2 pw.2;let#[a,b,rfl,ha,hb,lt]:=T.key k^hin k On;let#[z,hz]:=Fl T.len^hin _ On;let#[l,rfl,l1,l2]:=T.val z^Oi hz;refine#[#[a,b,l]::ts,?_,?_,λt ht=>?_,i7.mpr #[λt ht=>?_,h2]]
  .rw[iZ,iZ,iZ,e1]
   show Lu ks ds^.tup [.str a,.str b]::_=_;rw[Oc,hz];rfl
  .rw[iZ,e2]
  .rcases UF.mp ht with rfl|ht
   .exact#[ha,hb,lt,l1,l2]
   .exact h1 t ht
  .have hm:([.inr t.a,.inr t.b]:u_ Key)∈ks':=by rw[←e2];exact Rs.mpr #[t,ht,rfl]
   have h3:=pw.1 _ hm;have hne:([.inr a,.inr b]:u_ Key)≠[.inr t.a,.inr t.b]:=λz=>nd.1 (by rw[z];exact hm);have h3:(if(jx t.a:Key)=.inr a then(if(jx t.b:Key)=.inr b then t_ else decide (t.b.cps.toList<b.cps.toList))else decide (t.a.cps.toList<a.cps.toList))=t_:=h3;show cs a<cs t.a\/(a=t.a/\cs b<cs t.b)
   by_cases q1:t.a=a
   .rw[if_pos^by rw[q1]]at h3
    by_cases q2:t.b=b
    .exact absurd (by rw[q1,q2]) hne
    .rw[if_neg λz=>q2^jo z]at h3
     refine .inr #[q1.symm,?_]
     rcases Tb b t.b with l|l|l
     .exact l
     .exact absurd l.symm q2
     .exact absurd l^of_decide_eq_false h3
   .rw[if_neg λz=>q1^jo z]at h3
    left
    rcases Tb a t.a with l|l|l
    .exact l
    .exact absurd l.symm q1
    .exact absurd l^of_decide_eq_false h3
def NH(h:SA ss n Pd):G1 (EE Pd) n (ss++Tk 5 .no):=by
 let#[xs,most,rfl,hx,hr,h26,hm,hn,p]:=h;have szl:=PySem.sizeLine_eq;unfold G1;refine#[5,rfl,by cbv,by cbv,by lk,λsort s0 s1=>?_];refine#[_,rfl,by lk,by lk,(by show 1<=n.n - 1;lk),λmany m0 m1=>#[many,rfl,#[by lk,by lk],?_]];refine E9 (all:=HL 0 many.toNat) (λpre m ρ=>(n.n<=m.n+2+3*pre.length/\m.w=n.w)/\∃(ks:u_^u_ Key) (ds:u_ D) (s5 s6 s7:Slot),ρ=[.fd,.sh^.tup^xs.map .str,.sh^.int most,.ow^.dit ks ds,.sh^.int sort,s5,s6,s7]/\Tds xs ks ds/\ks.length<=pre.length) ?_ ?_ _ [] _ _ rfl #[#[by show n.n<=n.n - 1 - 1+2+3*0;lk,rfl],[],[],_,_,_,rfl,#[rfl,jI,(λk h=>by cases h),λd h=>by cases h],Sc _]
 .rintro m ρ ⟨⟨hm2,hmw⟩,ks,ds,s5,s6,s7,rfl,T,hkl⟩
  rw[Dn]at hm2 hkl;refine#[ks,ds,rfl,T.len,by lk,λx hx' y hy'=>?_,λx hx'=>?_,λk hk' x hx'=>?_,λks' hp pw=>#[by show(ks'.map tupK).length<=10000000;rw[Ev,hp.length_eq];lk,?_]]
  .let#[a,b,rfl,_]:=T.key x hx'
   let#[a',b',rfl,_]:=T.key y hy';rfl
  .let#[a,b,rfl,_]:=T.key x hx'
   simp
  .let#[a,b,rfl,ha,hb,_]:=T.key k hk'
   have fit:∀y∈xs,DP^.inr y:=λy hy=>by
    have:=(hx y hy).2.1
    show y.length<=sizeLine;lk
   rcases UF.mp hx' with rfl|hx'
   .exact fit a ha
   .rw[Re.mp hx'];exact fit b hb
  .let#[ts,e1,e2,h1,h2]:=T.ties (ks':=ks') (λk hk'=>hp.mem_iff.mp hk') (hp.nodup_iff.mpr T.nd) pw
   have htl:ts.length=ks.length:=by rw[←hp.length_eq,←e2,Ev]
   refine Bk (Lu ks ds) (λρ=>∃s,ρ=[.br^.dit ks ds,s]) _ _ _ _ ?_ #[_,rfl] ?_
   .rintro d hd ρ n' nx ⟨s,rfl⟩ hnx
    let#[k,hk',rfl]:=Rs.mp hd;have hkk:=hp.mem_iff.mp hk';let#[a,b,rfl,_]:=T.key k hkk;let#[z,hz]:=Fl T.len hkk
    have:=hnx [.br^.dit ks ds,.sh^.tup [.str a,.str b]] #[_,rfl]
    rw[show Lu ks ds^tupK [.inr a,.inr b]=.tup [.str a,.str b,z] by show Lu ks ds^.tup [.str a,.str b]=_;rw[Oc,hz];rfl]at this;exact#[ks,ds,_,z,rfl,rfl,hz,h7,z3,this]
   .rw[iw,e1]
    have pp:=p ts m.n #[hx,hr,h1,h2] (by lk) (by lk);rw[←hmw]at pp;exact pp
 .rintro pre d post m ρ nx hall ⟨⟨hm2,hmw⟩,ks,ds,s5,s6,s7,rfl,T,hkl⟩ hnx
  let#[rfl,hk]:=Yp hall;rw[iT,jC]at hnx;generalize pre.length=i at hk hm2 hkl hnx ⊢;have xl:(xs.map D.str).length=xs.length:=Ev ..;refine#[_,_,rfl,rfl,?_];show if decide ((1:Int)<((xs.map D.str).length:Int))=s_ then _ else _
  refine DF (λc=>?_) λc=>hnx _ _ #[#[by lk,hmw],ks,ds,_,_,_,rfl,T,by lk];have c:=of_decide_eq_true c;rw[xl]at c;refine#[_,_,rfl,rfl,_,rfl,by lk,by lk,by lk,λa a0 a1=>?_];refine#[_,_,rfl,rfl,_,rfl,by lk,by lk,(by show 1<=m.n - 1;lk),λq q0 q1=>#[_,_,rfl,rfl,by show(0:Int)<_;lk,?_]];rw[xl]at a1 q1 ⊢
  obtain⟨s,es,se0,se3⟩:∃s:Int,atI [D.int sort,D.int ((0+(i:Int)) % 4)] (sort / 4)=P3^.int s/\0<=s/\s<=3:=by
   rcases(show sort<4\/sort=4 by lk)with z|z
   .refine#[sort,?_,s0,by lk]
    rw[show sort / 4=0 by lk];rfl
   .refine#[(0+(i:Int)) % 4,?_,by lk,by lk]
    rw[show sort / 4=1 by lk];rfl
  refine#[ks,ds,rfl,by show(0:Int)<4;decide,z2,#[by cbv,by cbv],_,es,s,rfl,se0,se3,(by show 1<=m.n - 1 - 1;lk),λr r1 r2=>?_];have hb0:0<=(a+1+q) % (xs.length:Int)/\(a+1+q) % (xs.length:Int)<xs.length:=#[nP _^by lk,mQ _^by lk]
  have hab:(a+1+q) % (xs.length:Int)≠a:=by
   intro e
   rcases(show a+1+q<xs.length\/xs.length<=a+1+q by lk)with z|z
   .rw[mh (by lk) z]at e;lk
   .have:(a+1+q) % (xs.length:Int)=a+1+q - xs.length:=by
     rw[←Int.sub_emod_right,mh (by lk)^by lk]
    omega
  obtain⟨b,eb⟩:∃b,(a+1+q) % (xs.length:Int)=b:=#[_,rfl];rw[eb]at hb0 hab
  have key:∀lo hi:Int,0<=lo->lo<hi->hi<xs.length->∃x y:Str,atI (xs.map D.str) lo=P3^.str x/\atI (xs.map D.str) hi=P3^.str y/\x∈xs/\y∈xs/\cs x<cs y:=by
   intro lo hi l0 lh hl;have h1:lo.toNat<xs.length:=by lk
   have h2:hi.toNat<xs.length:=by lk
   refine#[xs[lo.toNat],xs[hi.toNat],?_,?_,jQ _,jQ _,?_]
   .have:=AH (xs:=xs.map D.str) (j:=lo.toNat) (v:=.str xs[lo.toNat])^by rw[XV,Go h1];rfl
    rwa[show((lo.toNat:Nat):Int)=lo by lk]at this
   .have:=AH (xs:=xs.map D.str) (j:=hi.toNat) (v:=.str xs[hi.toNat])^by rw[XV,Go h2];rfl
    rwa[show((hi.toNat:Nat):Int)=hi by lk]at this
   .exact mC.mp hr _ _ h1 h2^by lk
  let#[x,y,ex,ey,hx1,hy1,lt]:=key (if b<a then b else a) (if b > a then b else a) (by split <;>lk) (by split <;>lk) (by split <;>lk);have done:=hnx (m - 1 - 1 - 1) [.fd,.sh^.tup^xs.map .str,.sh^.int most,.ow^.dit (Bv ks [.inr x,.inr y])^Bj ks ds [.inr x,.inr y]^.int r,.sh^.int sort,.sh^.int (0+(i:Int)),.sh^.int a,.sh^.int b] #[#[by show n.n<=m.n - 1 - 1 - 1+2+3*(i+1);lk,hmw],_,_,_,_,_,rfl,T.put hx1 hy1 lt r1 r2,iU Yv^by lk];subst eb;refine#[_,ex,_,ey,z2,_,rfl,by lk,done]
end
end Nt
namespace L2
section
variable {X:Cx}
open Builtin.Str in
def WG:V->u_ V->Hp->VK->Prop:=λx xs H Q=>∃(z y:Str),x=.str z/\xs=[.str y]/\(y.length==0)=t_/\z.length<=sizeLine/\(partsBetween z (occurrences z y 0 z.length (z.length+1)) y.length).length<=sizeLine/\(Txt.split z y).length<=sizeLine/\∀p,H p=r_->Q (.ref p)^Av H p^.lst^(Txt.split z y).map V.str
theorem Lz:∀(l:u_ (Str×Tok)),Vals ((l.map (·.1)).map V.str)^strValues l
 |[]=>.nil
 |p::l=>.cons #[p.2,rfl]^Lz l
open Builtin.Str in
def W5:am X "str.split" WG:=by
 intro zF s Z H x xs v us Q I rx rv h;let#[z,y,rfl,rfl,hy,hz,hn,hl,q]:=h;let#[t,rfl]:=rx;let#[u,rfl,ru]:=vals1 rv;let#[u,rfl]:=ru
 have fin:∀(l:u_ (Str×Tok)) (k:Nat),l.map (·.1)=Txt.split z y->EP X zF Z Q (.ref s.heap.objs.size) {s with heap:=s.heap.push {cls:=.type "list",data:=.seq (strValues l).toArray},toks:=k}:=λl k e=>by
  refine#[.ref s.heap.objs.size,_,I.laid (t':=k) (λb o e=>FM _ e) (Sc _) (show ObjOk X.prog X.w _ _ _^.lst^(Txt.split z y).map V.str from#[by rw[Ev];exact hl,strValues l,_,e▸Lz l,TW _ rfl]),rfl,q _^I.hok.fresh^Sc _]
 cases h1:(decide (z.length<y.length)||decide (strKind z<strKind y))
 .cases hf:(occurrences z y 0 z.length (z.length+1)).isEmpty
  .refine oS PySem.F.slot_str_split (k7 _ _ _) PySem.F.entry_str_split (PySem.F.args_str_split_2 _ _) (meets_str_split_sep z y t u h1 hy hf hz hn) ?_
   show wants (EP X zF Z Q) X.xe _ {s with toks:=_,heap:=s.heap.push {cls:=.type "list",data:=.seq (strsFrom s.toks^partsBetween z (occurrences z y 0 z.length (z.length+1)) y.length).toArray}};rw[strsFrom_eq];exact fin (numbered s.toks _) _^(numbered_texts _ _).trans ((if_neg^ne_true_of_eq_false h1).trans^if_neg^ne_true_of_eq_false hf).symm
  .exact oS PySem.F.slot_str_split (k7 _ _ _) PySem.F.entry_str_split (PySem.F.args_str_split_2 _ _) (meets_str_split_not_found z y t u h1 hy hf)^fin [(z,t)] s.toks ((if_neg^ne_true_of_eq_false h1).trans^if_pos hf).symm
 .exact oS PySem.F.slot_str_split (k7 _ _ _) PySem.F.entry_str_split (PySem.F.args_str_split_2 _ _) (meets_str_split_cannot_occur z y t u h1)^fin [(z,t)] s.toks (if_pos h1).symm
def aI:u_ V->Hp->VK->Prop:=λxs H Q=>∃i:Int,xs=[.str^jH^toString i]/\0<=i/\i<10 ^ 10/\Q (.int i) H
def Mb:CallR X (.type "int") aI:=by
 intro zF s Z H xs us Q I r h;let#[i,rfl,h0,h1,q]:=h;let#[u,rfl,t,rfl]:=vals1 r;exact PySem.W.KIN.call_num h0 h1 #[.int _,H,I.tok _,#[_,rfl],q]
end
end L2
namespace Dp
open L2
section
variable {K:Frag}
theorem QL{M:Ch->Prop}{H:Hp}:∀{ys:u_ Str},(∀y∈ys,y.length<=sizeLine)->Ats K M H (ys.map D.str)^ys.map V.str
 |[],_=>rfl
 |y::ys,h=>#[_,_,rfl,#[rfl,h y On],QL λz hz=>h z^TM _ hz]
open Builtin.Str in
def Xe(d:D)(ds:u_ D)(P:D->Prop):Prop:=∃(z y:Str),d=.str z/\ds=[.str y]/\(y.length==0)=t_/\(partsBetween z (occurrences z y 0 z.length (z.length+1)) y.length).length<=sizeLine/\(Txt.split z y).length<=sizeLine/\(∀x∈Txt.split z y,x.length<=sizeLine)/\P^.lst^(Txt.split z y).map .str
def Zo:hX K .fr "str" WG Xe:=by
 intro U M H d ds x vs P Q dom vM hx hp w q;let#[z,y,rfl,rfl,hy,hn,hl,hs,w]:=w;let#[v,rfl,hv]:=CV hp;exact#[z,y,hx.str.1,by rw[hv.str.1],hy,hx.str.2,hn,hl,λp hp=>q _ _ _ (Ap hp) (B4 (U:=U) hp^QL hs) w]
def Xm(ds:u_ D)(P:D->Prop):Prop:=∃i:Int,ds=[.str^jH^toString i]/\0<=i/\i<10 ^ 10/\P^.int i
def YK:B6 K .sh aI Xm:=by
 intro U M H ds vs P Q dom vM hp w q;let#[i,rfl,h0,h1,w]:=w;let#[v,rfl,hv]:=CV hp;exact#[i,by rw[hv.str.1],h0,h1,q _ H (.int i) .refl rfl w]
end
end Dp
namespace L2
def WB(A:i5)(s:No){x y:Key}{u v:Db}(rx:RelV (kOf x) u)(ry:RelV (kOf y) v)(hs:Hx x y=s_)(prog:ic)(w:ip)(E:Db->No->Prop)(Q:Db->No->Prop)(h:Q (.bool^dM y x) s):
  wpAny (model prog w) A (richCompare .Gt u v) Q E s:=by
 cases x with
 | inl i=>
  cases y with
  |inl j=>
   let#[t,rfl]:=rx;let#[t',rfl]:=ry;exact(PyProof.Rows.gt_int h:wpAny (model prog w) A (compareOp .Gt (.int i t)^.int j t') Q E s)
  |inr z=>cases hs
 | inr z=>
  cases y with
  |inl j=>cases hs
  |inr z'=>
   let#[t,rfl]:=rx;let#[t',rfl]:=ry;exact(PySem.P.gt_str h:wpAny (model prog w) A (compareOp .Gt (.str z t)^.str z' t') Q E s)
section
open PySem.SeqAt
open PySem.AutoSeq1 (wpAny_loadPart')
open PySem.MeetsSeq PySem.MeetsSeq2 PySem.MeetsSeq3
def LI(l b:Ch)(items items2:Array Db)(n n2:Nat)(dd dd2:v_ Ch)(sl sl2:Array^v_ Db)(ns ms:u_ Key)(hi:Vals (ns.map kOf) items.toList)(hj:Vals (ms.map kOf) items2.toList)(hsame:BY ns ms=s_):
  Meets (kM.«tuple.__gt__» #[[.ref l,.ref b],[]])
   (λ_ R s=>s.heap.get? l=P3 {cls:=.type "tuple",dict:=dd,data:=.seq items n,slots:=sl}/\s.heap.get? b=P3 {cls:=.type "tuple",dict:=dd2,data:=.seq items2 n2,slots:=sl2} /\
    R (.ok^.ret^.bool^Co ms ns) s):=
 .of_wp λprog w A R s h=>by
  let#[hp,g,d,tk,os]:=s;let#[hl,hb,h]:=h
  have f2:=oi;have z1:items.size=ns.length:=by have:=hi.length;rw[Ev]at this;rw[this];simp
  have z2:items2.size=ms.length:=by have:=hj.length;rw[Ev]at this;rw[this];simp
  wp_walk using jO hl,jO hb,wpAny_forIn_list _ (λrest b s'=>b.1=r_/\s'=#[hp,g,d,tk,os]/\∃(vs ws:u_ Db) (ns' ms':u_ Key),rest=vs.zip ws /\
   Vals (ns'.map kOf) vs/\Vals (ms'.map kOf) ws/\BY ns' ms'=s_/\ns'.length+items2.size=ms'.length+items.size/\R (.ok^.ret^.bool^Co ms' ns') #[hp,g,d,tk,os]) _
  case turn=>
   rintro⟨y,x⟩ rest b s' ⟨hb',rfl,vs,ws,ns',ms',hz,hvi,hwi,hsm,hlen,hR⟩;cases ns' with
   |nil=>cases hvi;rw[oO]at hz;cases hz
   | cons a ns'=>
    cases ms' with
    |nil=>cases hwi;rw[nt]at hz;cases hz
    | cons c ms'=>
     rw[iZ]at hvi hwi;cases hvi with
     | cons ra hvi'=>
      cases hwi with
      | cons rc hwi'=>
       rw[jy]at hz;injection hz with hyx hrest
       injection hyx with hy hx
       subst hy hx;have hR':R (.ok^.ret^.bool (if c=a then Co ms' ns' else dM c a)) #[hp,g,d,tk,os]:=hR;have hsm':(Hx a c&&BY ns' ms')=s_:=hsm;rw[ik]at hsm';simp only[ij]at hlen;let#[e,he,hiff]:=Pw (A:=A.in1) (s:=#[hp,g,d,tk,os]) ra rc;refine Cn^he prog w _ _ ?_;cases e with
       |true=>
        rw[if_pos (hiff.mp rfl).symm]at hR'
        wp_walk
        exact#[rfl,rfl,_,_,_,_,hrest,hvi',hwi',hsm'.2,by lk,hR']
       |false=>
        rw[if_neg λq=>absurd (hiff.mpr q.symm) iS]at hR';have hri:=WB A.in1 #[hp,g,d,tk,os] ra rc hsm'.1 prog w
        wp_walk using hri
        exact#[_,rfl,by simpa using hR']
  case fin=>
   rintro⟨b1,b2⟩ s' ⟨hb',rfl,vs,ws,ns',ms',hz,hvi,hwi,hsm,hlen,hR⟩;simp only at hb';subst hb'
   have hv:Co ms' ns'=decide (items2.size<items.size):=by
    cases ns' with
    | nil=>
     cases ms' with
     |nil=>
      simp only[jN]at hlen;exact(decide_eq_false^by lk).symm
     |cons c u=>
      simp only[jN,ij]at hlen;exact(decide_eq_false^by lk).symm
    | cons a t=>
     cases ms' with
     |nil=>
      simp only[jN,ij]at hlen;exact(decide_eq_true^by lk).symm
     |cons c u=>
      rw[iZ]at hvi hwi;cases hvi;cases hwi;rw[jy]at hz;cases hz
   rw[hv]at hR
   wp_walk
   exact#[_,rfl,by simpa [nE]using hR]
  case h=>
   exact#[rfl,rfl,items.toList,items2.toList,ns,ms,rfl,hi,hj,hsame,by lk,h]
end
section
variable {X:Cx}
def be(K:Frag):R2:=λx y H Q=>∃a b ns ms,x=.ref a/\y=.ref b/\SqT K H a^ns.map kOf/\SqT K H b^ms.map kOf/\BY ns ms=s_/\Q (.bl^Co ms ns) H
def cA(hu:X.A.units<cLine):OpR X (compareOp .Gt)^be X.K:=by
 intro zF s Z H x y v u Q I rx ry h;let#[a,b,ns,ms,rfl,rfl,ha,hb,hsm,q]:=h;cases rx;cases ry;let#[its,r1,p1,_]:=I.tuple ha;let#[its2,r2,p2,_]:=I.tuple hb;let#[#[cls,dd,data,sl],ho,hc,n,hd]:=id p1;let#[#[cls2,dd2,data2,sl2],ho2,hc2,n2,hd2]:=id p2;simp only at hc hd hc2 hd2;subst hc hd hc2 hd2
 exact mo (op:=.Gt) #[_,ho,rfl] #[_,ho2,rfl] PySem.F.slot_tuple_gt PySem.F.entry_tuple_gt (PySem.F.args_tuple_gt_2 _ _) (LI a b its.toArray its2.toArray n n2 dd dd2 sl sl2 ns ms r1 r2 hsm)
  #[ho,ho2,show lM^Co ms ns≠pK/\EP X zF Z Q (.bool^Co ms ns) s from#[(λx=>nomatch x),#[.bl _,H,I,rfl,q]]] hu
def Y2{a:ie}{ta:TE}{pos:Pos}(ha:PE X a ta):PE X (.UnaryOp .Not a pos) (λZ H Q=>ta Z H λx H1=>∃c,Zu X.K x H1 c/\Q (.bl (!c)) H1):=by
 intro zF s Z H Q I h;refine UnaryOp_^BG (ha zF s Z H _ I h) λv s1 #[x,H1,I1,r1,c,hc,q1]=>?_;exact not_of^BG (Vm zF s1 Z H1 x v (λk H'=>k=c/\Q (.bl (!k)) H') I1 r1 #[c,hc,rfl,q1]) λb s2 #[H2,I2,e,q]=>#[.bl (!b),H2,I2,rfl,q]
end
end L2
namespace Dp
open L2
def cZ(d e:D)(P:D->Prop):Prop:=match d,e with
 |.tup xs,.tup ys=>∃ks ls,IR xs=P3 ks/\IR ys=P3 ls/\BY ks ls=s_/\P^.bl^Co ls ks
 |_,_=>False
section
variable {X:Cx}{e e1:Expr}{es:u_ Expr}{κ:Kd}{wa:DW}{pos:Pos}
def b_{k:Nat}(hr:Room k X.A):OpR X (compareOp .Gt)^be X.K:=cA hr.units0
def fS:D3 X.K .sh (be X.K) cZ:=λU M H d e x y P Q dom vM hx hy w q=>by
 unfold cZ at w
 split at w
 .let#[ks,ls,h1,h2,h3,w]:=w
  let#[a,vs,rfl,ha,hs]:=hx.tup;let#[b,us,rfl,hb,ht]:=hy.tup;have e1:=Dt h1 hs;have e2:=Dt h2 ht;subst e1 e2;exact#[a,b,ks,ls,rfl,rfl,ha.sq,hb.sq,h3,q _ H (.bl _) .refl rfl w]
 .exact w.elim
def Z0(wa:DW):DW:=λn ρ P=>wa n ρ λd n1=>∃c,bG d=P3 c/\P (.bl (!c)) n1
def Zb(h:DE X e κ wa):DE X (.UnaryOp .Not e pos) .sh^Z0 wa:=by
 let#[t,h1,h2]:=h;refine#[_,Y2 h1,λC M H n ρ Z P Q R w q=>?_];refine h2 C M H n ρ Z _ _ R w λv H' d n' e1 f1 r1 p=>?_;let#[c,hc,p]:=p;exact#[c,Vn (r1.tpOf R.dom R.vM) hc,q _ H' (.bl (!c)) n' e1 f1 rfl p]
def Vc(i:Nat)(b:BW)(body:Af):Af:=λD2 n ρ=>∃ds,ρ[i]?=P3^.br^.lst ds/\CW b body D2 (CQ 0 ds) n ρ
variable {fpos:Pos}{body:u_ Stmt}{b:BW}{wb:Af}{p cp:Pos}{x:Str}{i j:Nat}{tpos:Pos}
def Xw(hp:ou (model X.prog X.w) X.A X.env X.xe)(hc:X.calm=s_)(hgl:Gl X "enumerate")(hm:X.mg "enumerate"=r_)(h:PE X (.Name x p)^B9 i)(hg:DG X (.Tuple es j tpos) b)(hb:VP X κ body wb)
  (hs:∀y,foldedSetIterable (.Call (.Name "enumerate" cp) [.Name x p] [] pos) X.env y=pure y:=by intro _;rfl) (hst:starEach [.Name x p] X.env=[(t_,eval (.Name x p) X.env)]:=by rfl):
  DS X κ (.For (.Tuple es j tpos) (.Call (.Name "enumerate" cp) [.Name x p] [] pos) body [] fpos) (Vc i b wb):=by
 let#[g,g1,g2]:=hg;let#[tb,b1,b2]:=hb;refine#[_,NM hp hc (Y0 hgl hm h hst) g1 b1 hs,λC M H n ρ Z D2 E R L w=>?_];let#[ds,hi,w]:=w;let#[v,e1,hAt]:=R.sl i _ hi;let#[a,vs,rfl,nV,hH,hat]:=hAt
 obtain⟨o,ho,hnv,hro⟩:∃o,H a=P3 o/\¬VW o/\∀H':Hp,H' a=P3 o->SqL X.K H' a vs:=by
  rcases hH with z|⟨u,z⟩
  .exact#[_,z,(by rintro⟨_,z⟩;cases z),λH' e=>.inl^.inl e]
  .exact#[_,z,(by rintro⟨_,z⟩;cases z),λH' e=>.inl^.inr #[u,e]]
 refine#[.ref a,getD_some e1,s_,a,vs,rfl,hro H ho,?_]
 obtain⟨kp',R1,less,st⟩:∃kp',Rel X.K {C with kp:=kp'} M H n ρ Z/\(∀{M H n ρ Z},Rel X.K {C with kp:=kp'} M H n ρ Z->Rel X.K C M H n ρ Z)/\(∀M' H' n' zX zZ,Rel X.K {C with kp:=kp',zF:=(M,H)::C.zF} M' H' n' zX zZ->SqL X.K H' a vs):=by
  by_cases hM:M a
  .refine#[(a,o)::C.kp,#[R.len,R.sub,R.dom,R.ext,R.fU,R.uV,R.vM,R.feed,R.sl,R.pin,R.br0,R.new,R.two,λq hq=>?_],λR=>R.lessKp,λM' H' n' zX zZ R'=>hro H' (R'.kept (a,o) On).1]
   rcases UF.mp hq with rfl|hq
   .refine#[ho,#[hM,hnv],nV,λj e q z=>?_]
    let#[u,hu]:=R.br0 i _ a hi e1
    have:=(R.new j _ a q rfl z).2
    rw[hu]at this;cases this
   .exact R.kept q hq
  .exact#[C.kp,R,λR=>R,λM' H' n' zX zZ R'=>hro H'^(R'.pin (M,H) On).1 a o ho hM hnv]
 have el:=FF 0 ds;refine#[λi m zZ H'=>m=ds.length - i/\i<=ds.length/\∃M' n' zX,Rel X.K {C with kp:=kp',zF:=(M,H)::C.zF} M' H' n' zX zZ/\CW b wb D2 ((CQ 0 ds).drop i) n' zX,#[ds.length,by simp,iX _,M,n,ρ,R1.pinned,w],?_];rintro i m zZ H' ⟨rfl,hil,M',n',zX,R',w'⟩;have pr:Pres M H M' H':=R'.pin (M,H) On;have hq:=st M' H' n' zX zZ R';have y:=Px (κ:=s_) hat (i:=i) pr (show SqK s_ X.K H' a vs from hq) R'.dom
 by_cases hlt:i<ds.length
 .have ed:(CQ 0 ds).drop i=(CQ 0 ds)[i]::(CQ 0 ds).drop (i+1):=jt^by lk
  rw[ed]at w';let#[go,yl]:=y.1 _ (Go^by lk);refine .inr #[go,λzM H2=>∃M2 n2 zL,Rel X.K {C with kp:=kp',zF:=(M,H)::C.zF} M2 H2 n2 zL zM/\CW b wb D2 ((CQ 0 ds).drop (i+1)) n2 zL,λzM H2 #[M2,n2,zL,R2',w2]=>#[ds.length - (i+1),by lk,rfl,hlt,M2,n2,zL,R2',w2],λx H2 hy=>?_];let#[gr,hx]:=yl x H2 hy;have R2':=R'.step gr.ext^R'.feed.grow gr;refine g2 _ M' H2 n' zX zZ _ x _ _ R2' hx w' λzQ zV R3 w3=>?_;refine b2 _ M' H2 n' zQ zV {D2 with nx:=CW b wb D2^(CQ 0 ds).drop (i+1),ct:=CW b wb D2^(CQ 0 ds).drop (i+1),bk:=D2.nx} _ R3 #[λM4 H4 n4 zO zP R4 w4=>#[M4,n4,zO,R4,w4],L.rt,λM4 H4 n4 zO zP R4 w4=>L.nx M4 H4 n4 zO zP (less R4.unpin) w4,λM4 H4 n4 zO zP R4 w4=>#[M4,n4,zO,R4,w4]] w3
 .have e:i=ds.length:=by lk
  rw[List.drop_eq_nil_of_le^by lk]at w';exact .inl #[y.2^by lk,L.nx M' H' n' zX zZ (less R'.unpin) w']
end
end Dp
namespace Nt
open L2 Dp
def bR:sp=#[#[ 32]]:=HI^by rw[aZ];rfl
theorem TZ:∀{p q r s:u_ Nat},32∉p->32∉q->p++32::r=q++32::s->p=q/\r=s
 |[],[],r,s,_,_,e=>#[rfl,(my e).2]
 |[],b::q,r,s,_,hq,e=>absurd (by rw[(my e).1];exact On) hq
 |a::p,[],r,s,hp,_,e=>absurd (by rw[←(my e).1];exact On) hp
 |a::p,b::q,r,s,hp,hq,e=>by
  let#[e1,e2]:=my e;let#[h1,h2]:=TZ (λz=>hp^TM _ z) (λz=>hq^TM _ z) e2;exact#[by rw[e1,h1],h2]
def Gr(x y:Str)(r:u_ Str):cs^kL sp (x::y::r)=cs x++32::cs^kL sp (y::r):=by
 show cs (x++sp++kL sp (y::r))=_;rw[F6,F6,aZ,k6];rfl
theorem Pm:∀{ws vs:u_ Str},ws≠[]->vs≠[]->(∀w∈ws,32∉cs w)->(∀v∈vs,32∉cs v)->cs^kL sp ws=cs^kL sp vs->ws=vs
 |[],_,h,_,_,_,_=>absurd rfl h
 |_,[],_,h,_,_,_=>absurd rfl h
 |[x],[y],_,_,_,_,e=>by rw[HI (x:=x) (y:=y) e]
 |[x],y::z::r,_,_,h1,_,e=>by
  rw[Gr]at e;exact absurd (show 32∈cs x by rw[show cs x=_ from e];exact iV _ On)^h1 x On
 |x::z::r,[y],_,_,_,h2,e=>by
  rw[Gr]at e;exact absurd (show 32∈cs y by rw[show cs y=_ from e.symm];exact iV _ On)^h2 y On
 |x::x'::r,y::y'::s,_,_,h1,h2,e=>by
  rw[Gr,Gr]at e;let#[e1,e2]:=TZ (h1 x On) (h2 y On) e;rw[HI e1,Pm (λz=>by cases z) (λz=>by cases z) (λw hw=>h1 w^TM _ hw) (λw hw=>h2 w^TM _ hw) e2]
def O0{ws:u_ Str}(h0:ws≠[])(h:∀w∈ws,32∉cs w):Txt.split (kL sp ws) sp=ws:=by
 refine Pm (λz=>?_) h0 (λw hw=>?_) h ?_
 .have:=split_pos (kL sp ws) sp
  rw[z]at this;exact absurd this^by cbv
 .rw[bR]at hw
  exact StrLaws.split_free _ 32 w hw
 .rw[StrLaws.join_split]
open Builtin.Str in
def Oa(x:Str)(ws:u_ Str):Prop:=(sp.length==0)=t_/\(partsBetween x (occurrences x sp 0 x.length (x.length+1)) sp.length).length<=sizeLine/\(Txt.split x sp).length<=sizeLine/\(∀z∈Txt.split x sp,z.length<=sizeLine)/\Txt.split x sp=ws
def Hw{ws:u_ Str}(h0:ws≠[])(h:∀w∈ws,32∉cs w)(hl:ws.length<=10)(hx:(kL sp ws).length<=1000):Oa (kL sp ws) ws:=by
 have szl:=PySem.sizeLine_eq;have e:=O0 h0 h;refine#[by decide +kernel,?_,by rw[e];lk,λx hx'=>?_,e]
 .rw[len_partsBetween]
  have:=StrLaws.occ_length_le (kL sp ws) sp 0 (kL sp ws).length ((kL sp ws).length+1)
  omega
 .have:=part_short hx'
  omega
def Xy:∀(m:Nat),1<=m->∃c r,kn 10 m=c::r/\c≠'0':=by
 intro m
 induction m using Nat.strongRecOn with
 | _ m ih=>
  intro h1
  by_cases h:m<10
  .rw[lL h]
   refine#[_,_,rfl,?_]
   have:∀d:Nat,d<10->1<=d->Nat.digitChar d≠'0':=by cbv
   exact this m h h1
  .have t:kn 10 (m / 10)++kn 10 (m % 10)=kn 10 (10*(m / 10)+m % 10):=nj (by cbv) (by lk)^mU m^by cbv
   rw[Nat.div_add_mod]at t;let#[c,r,e,hc]:=ih (m / 10) (by lk) (by lk);rw[←t,e];exact#[c,_,rfl,hc]
def Wy{i:Int}(h:1<=i):∃c r,cs^C7 i=c::r/\c≠48:=by
 let#[m,rfl,hm,e]:=RJ h;let#[c,r,e2,hc]:=Xy m hm;rw[e,e2];refine#[c.toNat,r.map Char.toNat,rfl,λz=>hc ?_];have hd:=oC (b:=10) (n:=m) (c:=c) (by cbv) (by cbv) (by rw[e2];exact On);exact Char.ext^UInt32.toNat_inj.mp z
def SE:W2:=λss n P=>∃i:Int,ss=[.sh^.str^C7 i]/\1<=i/\i<=1000000/\P (.bl s_) n
def Tq:W2:=λss n P=>∃(x:Str) (ps:u_ Str),ss=[.sh^.lst [.str "place",.str x],.br^.lst^ps.map .str,.br^.lst []]/\ps.length<24/\EU x/\(∀y,ps.getLast?=P3 y->cs y<cs x)/\P .non n
def YN:W2:=λss n P=>∃(t:Aw) (ps:u_ Str) (ts:u_ Aw),ss=[.sh^.str t.a,.sh^.str t.b,.br^.lst^ps.map .str,.br^.lst^ts.map Aj]/\(∀p∈ps,EU p)/\t.b∈ps/\ps.length<=24/\cs t.a<cs t.b/\(∀s,ts.getLast?=P3 s->Bg s t)/\P (.bl s_) n
def Tp:W2:=λss n P=>∃(t:Aw) (ps:u_ Str) (ts:u_ Aw),ss=[.sh^.lst [.str "tie",.str t.a,.str t.b,.str^C7 t.len],.br^.lst^ps.map .str,.br^.lst^ts.map Aj]/\(∀p∈ps,EU p)/\SO t/\t.a∈ps/\t.b∈ps/\ps.length<=24/\ts.length<60/\(∀s,ts.getLast?=P3 s->Bg s t)/\P .non n
def Tr:W2:=λss n P=>Tq ss n P\/Tp ss n P
def YO:W2:=λss n P=>∃N:Net,ss=[.br^.lst^(linesOf N).map .str]/\N.Ok/\N.ps.length<=24/\N.ts.length<=60/\P (Bx N) n
def Fd:Af:=(Ac (A_ (FJ (Ab^AZ (FN t_) (AB 0)^wC^D.str "")^FJ (Ab^AZ (FN t_) (AZ A2 (AB 0)^wC^D.int 0)^wC^D.str "0")^Ab^AZ (f2 λi j=>D.bl (decide (j<i))) (Bi B5^AE (AB 0) AT)^Bi B5^AE (Bi TJ^AE (wC^D.int 1000000) AT) AT) (Aq^wC^D.bl t_) Au)
 (Aq^Vg (Bi U1^AE (Bl [r_] (BM^AB 0) (Az 0) Il^AZ (dO λi j P=>P^D.bl (!(jW j i 0 j.length 1).isEmpty)) (AB 0)^wC^D.str "0123456789") AT)^Ae OU^AD (AM^Bi Xm^AE (AB 0) AT) AS))
def EO:Af:=(Ac (A_ (FJ (Qj^Al 2)^Ab^AZ (FN t_) (Bi B5^AE (Al 1) AT)^wC^D.int 24) (Aq^wC^D.int 0) Au)
 (Ac (A_ (FJ (Ab^AZ Gi (Bi B5^AE (AB 0) AT)^wC^D.int 2)^Dh^Ab^Ae YR^AD (AM^AZ A2 (AB 0)^wC^D.int 1) AS) (Aq^wC^D.int 1) Au)
 (Ac (A_ (Ly (Qj^Al 1)^Ab^AZ Kp (AZ A2 (AB 0)^wC^D.int 1)^AZ A2 (Al 1)^bA^wC^D.int 1) (Aq^wC^D.int 1) Au)
 (Aq^Yd (Ab^AZ (f2 λi j=>D.bl (decide (j<i))) (Bi B5^AE (AB 0) AT)^wC^D.int 2) (wC^D.int 2)^wC D.non))))
def DX:Af:=(Ac (A_ (FJ (Ab^AZ (EG s_) (AB 1)^Al 2)^Ab^AZ Kp (AB 1)^AB 0) (Aq^wC^D.bl t_) Au)
 (Aq^f7 (Z0^Al 3)^AZ cZ (BA^AE (AB 0)^AE (AB 1) AT)^a9 Pq (AZ A2 (Al 3)^bA^wC^D.int 1) D4^Jc^wC^D.int 2))
def Fc:Af:=(Ac (A_ (Ab^AZ (FN t_) (Bi B5^AE (Al 2) AT)^wC^D.int 60) (Aq^wC^D.int 0) Au)
 (Ac (A_ (FJ (Ab^AZ Gi (Bi B5^AE (AB 0) AT)^wC^D.int 2)^Ab^AZ (EG s_) (AZ A2 (AB 0)^wC^D.int 1)^Al 1) (Aq^wC^D.int 1) Au)
 (Ac (A_ (FJ (Ab^AZ Gi (Bi B5^AE (AB 0) AT)^wC^D.int 3)^Dh^Ab^Ae YN^AD (AM^AZ A2 (AB 0)^wC^D.int 1)^AD (AM^AZ A2 (AB 0)^wC^D.int 2)^AD (BB^Al 1)^AD (BB^Al 2) AS) (Aq^wC^D.int 2) Au)
 (Ac (A_ (FJ (Ab^AZ Gi (Bi B5^AE (AB 0) AT)^wC^D.int 4)^Dh^Ab^Ae SE^AD (AM^AZ A2 (AB 0)^wC^D.int 3) AS) (Aq^wC^D.int 3) Au)
 (Aq^Yd (Ab^AZ (f2 λi j=>D.bl (decide (j<i))) (Bi B5^AE (AB 0) AT)^wC^D.int 4) (wC^D.int 4)^wC D.non)))))
def En:Af:=(Ac (A_ (Ab^AZ (FN t_) (AZ A2 (AB 0)^wC^D.int 0)^wC^D.str "place") (Aq^Ae Tq^AD (AM^AB 0)^AD (BB^Al 1)^AD (BB^Al 2) AS) Au)
 (Aq^Yd (Ab^AZ (FN t_) (AZ A2 (AB 0)^wC^D.int 0)^wC^D.str "tie") (Ae Tp^AD (AM^AB 0)^AD (BB^Al 1)^AD (BB^Al 2) AS)^wC^D.int 0))
def Gx:Af:=(Ac (DH 1^Ct AT)
 (Ac (DH 2^Ct AT)
 (Ac (Vc 0 (N9 2^Br (Az 3)^Br (Az 4) Gv) (Ac (A6 5^gv "str" Xe (AB 4)^AE (wC^D.str " ") AT)
 (Ac (A6 6^Ae Tr^AD (AM^AB 5)^AD (BB^Al 1)^AD (BB^Al 2) AS)
 (Ac (A_ (Ab^AZ (Pu s_) (AB 6)^wC D.non) EY Au)
 (A_ (Ab^AZ (FN t_) (AZ A2 (AB 5)^wC^D.int 0)^wC^D.str "place") (SJ 1 "list" Hb^AE (AZ A2 (AB 5)^wC^D.int 1) AT)^SJ 2 "list" Hb^AE (BA^AE (AZ A2 (AB 5)^wC^D.int 1)^AE (AZ A2 (AB 5)^wC^D.int 2)^AE (Bi Xm^AE (AZ A2 (AB 5)^wC^D.int 3) AT) AT) AT)))))
 (Aq^BA^AE (Bi CD^AE (Al 1) AT)^AE (Bi CD^AE (Al 2) AT) AT))))
section
variable {ss:u_ Slot}{n:Sg}{Pd:D->Sg->Prop}
def Ni{x:Str}(h:EU x):32∉cs x:=λz=>absurd (h.2.2 32 z).1 (by cbv)
def Wz{i:Int}(h:1<=i):32∉cs^C7 i:=λz=>absurd (S2 h 32 z).1 (by cbv)
def f9:D->D
 |.tup [.str a,.str b,.int l]=>.str^Ga #[a,b,l]
 |_=>.non
def aQ:(jH^toString (1000000:Int)).length=7:=by decide +kernel
def cj:cs "0123456789"=[48,49,50,51,52,53,54,55,56,57]:=by decide +kernel
def fM:D->D
 |.str x=>.bl (!(jW "0123456789" x 0 ("0123456789":Str).length 1).isEmpty)
 |_=>.non
theorem K8{α:Type}(p:α->Bool):∀l:u_ α,allB (l.map λa=>D.bl^p a)=P3^l.map p
 |[]=>rfl
 |a::l=>by
  show(allB^l.map λa=>D.bl^p a).map (p a::·)=_;rw[K8 p l];rfl
def J8(h:SE ss n Pd):Fd (EE Pd) n (ss++Tk 0 .no):=by
 let#[i,rfl,h1,h2,p]:=h;have szl:=PySem.sizeLine_eq;have hl:=Ng h1 h2;let#[c,r,ec,hc]:=Wy h1
 have e1:(C7 i==("":Str))=t_:=by
  rw[beq_eq_false_iff_ne];intro z;rw[z]at ec;cases ec
 have e2:((#[#[ c]]:Str)==("0":Str))=t_:=by
  rw[beq_eq_false_iff_ne];intro z
  have:=congrArg cs z
  rw[show cs ("0":Str)=[48] by decide +kernel]at this;exact hc (my this).1
 unfold Fd;show if(C7 i==("":Str))=s_ then _ else _
 rw[e1];refine Bs #[c,AH (j:=0) (by show(cs^C7 i)[0]?=_;rw[ec];rfl),?_];show if((#[#[ c]]:Str)==("0":Str))=s_ then _ else _
 rw[e2];refine Bs #[_,_,rfl,rfl,S1 (by cbv)^by cbv,by rw[aQ,szl];decide,_,_,rfl,rfl,?_];show if decide (((jH^toString (1000000:Int)).length:Int)<((C7 i).length:Int))=s_ then _ else _
 rw[aQ,decide_eq_false^by lk];refine Bs #[by rw[L9];lk,?_];refine Bk fM (λρ=>∃s1,ρ=[s1]) _ _ _ _ ?_ #[_,rfl] ?_
 .rintro d hd ρ n' nx ⟨s1,rfl⟩ hnx
  let#[c,hc,rfl]:=Rs.mp hd;exact hnx [.sh^.str #[#[ c]]] #[_,rfl]
 .rw[iw]
  unfold Dp.signs;rw[jb];rw[show List.map (fM∘λc=>D.str #[#[ c]]) (C7 i).cps.toList=(cs^C7 i).map λc=>D.bl (!(jW "0123456789" #[#[ c]] 0 ("0123456789":Str).length 1).isEmpty)from jr λc _=>rfl]
  have hall:((cs^C7 i).map λc=>!(jW "0123456789" #[#[ c]] 0 ("0123456789":Str).length 1).isEmpty).all id=s_:=lw.mpr λb hb=>by
   let#[c,hc,rfl]:=Rs.mp hb;rw[StrLaws.found_one];refine decide_eq_true ?_;show c∈cs "0123456789";rw[cj];let#[a,b]:=S2 h1 c hc;simp only[UF,ig,or_false];lk
  refine#[_,_,rfl,K8 (λc=>!(jW "0123456789" #[#[ c]] 0 ("0123456789":Str).length 1).isEmpty)^cs^C7 i,?_];rw[hall];refine#[i,rfl,by lk,by lk,[.int i],rfl,rfl,?_];refine#[rfl,?_];show Pd (.bl (decide (1<=i)&&decide (i<=1000000))) n;rw[decide_eq_true h1,decide_eq_true h2];exact p
def W3{x:Str}(h:EU x):PY^.str x=s_:=nameB_iff.mpr #[x,rfl,h]
def XM{w:u_ Str}{b:Str}(h:w.getLast?=P3 b):atI (w.map D.str) (-1)=P3^.str b:=by
 let#[ys,rfl]:=k_.mp h;rw[iq];exact QM _ _
def HM(h:Tq ss n Pd):EO (EE Pd) n (ss++Tk 0 .no):=by
 let#[x,ps,rfl,hl,hx,hlast,p]:=h;unfold EO;refine#[t_,rfl,?_];refine Bs #[_,_,rfl,rfl,?_];show if(((ps.map D.str).length:Int)==24)=s_ then _ else _
 rw[show(((ps.map D.str).length:Int)==24)=t_ by rw[beq_eq_false_iff_ne,Ev];lk];refine Bs #[_,_,rfl,rfl,?_];refine#[_,AH (j:=1) rfl,[.str x],rfl,rfl,rfl,?_];show if(!(PY^.str x))=s_ then _ else _
 rw[W3 hx];refine Bs #[!(ps.map D.str).isEmpty,rfl,?_]
 have fin:(Aq^Yd (Ab^AZ (f2 λi j=>D.bl (decide (j<i))) (Bi B5^AE (AB 0) AT)^wC^D.int 2) (wC^D.int 2)^wC D.non) (EE Pd) n [.sh^.lst [.str "place",.str x],.br^.lst^ps.map .str,.br^.lst []]:=by
  refine#[_,_,rfl,rfl,?_];exact p
 cases e:ps.getLast? with
 |none=>
  have:ps=[]:=oX.mp e
  subst this;exact Bs^Bs fin
 | some y=>
  have hne:(!(ps.map D.str).isEmpty)=s_:=by
   let#[ys,rfl]:=k_.mp e;simp
  rw[hne];refine Dw #[_,AH (j:=1) rfl,1,rfl,_,XM e,?_];show if(!(decide (cs y<cs x)))=s_ then _ else _
  rw[decide_eq_true^hlast y e];exact Bs fin
def XJ{w:u_ Aw}{b:Aw}(h:w.getLast?=P3 b):atI (w.map Aj) (-1)=P3^Aj b:=by
 let#[ys,rfl]:=k_.mp h;rw[iq];exact QM _ _
def fB{ps:u_ Str}{x:Str}(hx:x∈ps):((ps.map D.str).any λy=>Fb y^.str x)=s_:=by
 rw[List.any_map];exact kZ.mpr #[x,hx,by show(x==x)=s_;exact beq_self_eq_true x]
def Xs{s t:Aw}(h:Bg s t):Co [.inr s.a,.inr s.b] [.inr t.a,.inr t.b]=s_:=by
 unfold Co Co Co
 rcases h with h|⟨e,h⟩
 .rw[if_neg λz=>by rw[jo z]at h;exact lD _ h]
  exact decide_eq_true h
 .rw[e,if_pos rfl,if_neg λz=>by rw[jo z]at h;exact lD _ h]
  exact decide_eq_true h
def Ft(h:YN ss n Pd):DX (EE Pd) n (ss++Tk 0 .no):=by
 let#[t,ps,ts,rfl,hps,hb,hl,hlt,hlast,p]:=h;unfold DX;refine#[CA^hps _ hb,FA hps,_,rfl,?_];rw[fB hb];show if(!(decide (cs t.a<cs t.b)))=s_ then _ else _
 rw[decide_eq_true hlt];refine Bs #[!(ts.map Aj).isEmpty,rfl,?_];cases e:ts.getLast? with
 |none=>
  have:ts=[]:=oX.mp e
  subst this;exact p
 | some s=>
  have hne:(!(ts.map Aj).isEmpty)=s_:=by
   let#[ys,rfl]:=k_.mp e;simp
  rw[hne];refine#[z2,1,rfl,_,XJ e,[.inr t.a,.inr t.b],[.inr s.a,.inr s.b],rfl,rfl,rfl,?_];rw[Xs^hlast s e];exact p
def J4(h:Tp ss n Pd):Fc (EE Pd) n (ss++Tk 0 .no):=by
 let#[t,ps,ts,rfl,hps,ht,ha,hb,hl,hlt,hlast,p]:=h;unfold Fc;refine#[_,_,rfl,rfl,?_];show if(((ts.map Aj).length:Int)==60)=s_ then _ else _
 rw[show(((ts.map Aj).length:Int)==60)=t_ by rw[beq_eq_false_iff_ne,Ev];lk];refine Bs #[_,_,rfl,rfl,?_];refine#[_,AH (j:=1) rfl,?_];refine#[CA^hps _ ha,FA hps,_,rfl,?_];rw[fB ha];refine#[_,_,rfl,rfl,?_];refine#[_,AH (j:=1) rfl,_,AH (j:=2) rfl,t,ps,ts,rfl,hps,hb,hl,ht.2.2.1,hlast,?_];refine Bs #[_,_,rfl,rfl,?_];refine#[_,AH (j:=3) rfl,t.len,rfl,ht.2.2.2.1,ht.2.2.2.2,?_];refine Bs #[_,_,rfl,rfl,?_];exact p
def Ip(h:Tr ss n Pd):En (EE Pd) n (ss++Tk 0 .no):=by
 unfold En;have ne:("tie":Str) ≠ "place":=λz=>absurd (congrArg cs z) (by decide +kernel);generalize hw:("place":Str)=w at ne;generalize hv:("tie":Str)=v at ne
 rcases h with⟨x,ps,rfl,h⟩|⟨t,ps,ts,rfl,h⟩
 .rw[hw]
  refine#[_,AH (j:=0) rfl,?_];show if(w==w)=s_ then _ else _
  rw[beq_self_eq_true];exact Dw #[x,ps,by rw[hw],h]
 .rw[hv]
  refine#[_,AH (j:=0) rfl,?_];show if(v==w)=s_ then _ else _
  rw[beq_eq_false_iff_ne.mpr ne];refine Bs #[_,AH (j:=0) rfl,?_];show if(v==v)=s_ then _ else _
  rw[beq_self_eq_true];exact Dw #[t,ps,ts,by rw[hv],h]
def Xq{ls:u_ Str}{pre post:u_ D}{d:D}(h:CQ 0^ls.map .str=pre++d::post):∃x,ls[pre.length]?=P3 x/\d=.tup [.int (pre.length:Int),.str x]:=by
 have e:(CQ 0^ls.map .str)[pre.length]?=P3 d:=by rw[h,jY^Sc _,nS];rfl
 rw[Hd,XV,Option.map_map]at e;let#[t,h1,h2]:=io.mp e;refine#[t,h1,?_];rw[←h2];show D.tup [.int ((0+pre.length:Nat):Int),.str t]=_;rw[Nat.zero_add]
def Sj{α:Type}{R:α->α->Prop}{l:u_ α}{i:Nat}{x y:α}(h:l.Pairwise R)(hx:l[i]?=P3 x)(hy:(l.take i).getLast?=P3 y):R y x:=by
 let#[hi,e]:=Uf.mp hx
 have:l=l.take i++l[i]::l.drop (i+1):=by rw[←jt hi,pI]
 rw[this,nR]at h;rw[e]at h;exact h.2.2 y (List.mem_of_getLast? hy) x On
def EZ{α:Type}{l:u_ α}{i:Nat}{x:α}(h:l[i]?=P3 x):l.take (i+1)=l.take i++[x]:=by rw[List.take_add_one,h];rfl
def PJ{y:Str}(h:EU y):Oa (IP y) ["place",y]:=Hw (ws:=["place",y]) (λz=>by cases z) (λw hw=>by
  rcases UF.mp hw with rfl|hw
  .decide +kernel
  .rw[Re.mp hw];exact Ni h) (by show 2<=10;decide) (by
  show("place"++sp++y:Str).length<=1000
  have:=h.2.1
  rw[len_app,len_app,show("place":Str).length=5 by decide +kernel,show sp.length=1 by decide +kernel]
  omega)
def T1{t:Aw}(h:SO t):Oa (Ga t) ["tie",t.a,t.b,C7 t.len]:=Hw (ws:=["tie",t.a,t.b,C7 t.len]) (λz=>by cases z) (λw hw=>by
  rcases UF.mp hw with rfl|hw
  .decide +kernel
  rcases UF.mp hw with rfl|hw
  .exact Ni h.1
  rcases UF.mp hw with rfl|hw
  .exact Ni h.2.1
  .rw[Re.mp hw];exact Wz h.2.2.2.1) (by show 4<=10;decide) (by
  show(("tie":Str)++sp++bK t).length<=1000
  have:=Vq h
  rw[len_app,len_app,show("tie":Str).length=3 by decide +kernel,show sp.length=1 by decide +kernel]
  omega)
def LP(h:YO ss n Pd):Gx (EE Pd) n (ss++Tk 6 .no):=by
 let#[N,rfl,ok,lp,lt,p]:=h;have szl:=PySem.sizeLine_eq;have ll:(linesOf N).length=N.ps.length+N.ts.length:=by unfold linesOf;rw[iT,Ev,Ev]
 unfold Gx;refine#[z0,z0,_,rfl,?_];refine E9 (all:=CQ 0^(linesOf N).map .str) (λpre m ρ=>m=n/\∃s3 s4 s5 s6,ρ=[.br^.lst^(linesOf N).map .str,.ow^.lst^(N.ps.take pre.length).map .str,.ow^.lst^(N.ts.take (pre.length - N.ps.length)).map Aj,s3,s4,s5,s6]) ?_ ?_ _ [] _ _ rfl #[rfl,_,_,_,_,by rw[jN,Nat.zero_sub];rfl]
 .rintro m ρ ⟨rfl,s3,s4,s5,s6,rfl⟩
  rw[FF,Ev,ll,kg^by lk,kg^by lk];exact#[z2,p]
 .rintro pre d post m ρ nx hall ⟨rfl,s3,s4,s5,s6,rfl⟩ hnx
  let#[x,hx,rfl]:=Xq hall;rw[iT,jC]at hnx;generalize pre.length=i at hx hnx ⊢;have ne:("tie":Str) ≠ "place":=λz=>absurd (congrArg cs z)^by decide +kernel
  by_cases hi:i<N.ps.length
  .have ey:N.ps[i]?=P3 N.ps[i]:=Go hi
   generalize N.ps[i]=y at ey
   have exy:x=IP y:=by
    unfold linesOf at hx;rw[kI (by rw[Ev];exact hi),XV,ey]at hx;exact(eq hx).symm
   subst exy;have hy:EU y:=ok.names y^j6 ey;let#[c1,c2,c3,c4,e]:=PJ hy;have fin:=hnx m [.br^.lst^(linesOf N).map .str,.ow^.lst ((N.ps.take i).map .str++[.str y]),.ow^.lst [],.sh^.int (i:Int),.sh^.str^IP y,.sh^.lst [.str "place",.str y],.sh .non] #[rfl,_,_,_,_,by rw[EZ ey,iq,show i+1 - N.ps.length=0 by lk];rfl];rw[show i - N.ps.length=0 by lk];refine#[rfl,rfl,rfl,IP y,sp,rfl,rfl,c1,c2,c3,c4,?_];rw[e];refine .inl #[y,N.ps.take i,rfl,by rw[kE];lk,hy,λy' h'=>Sj (R:=λx y=>cs x<cs y) ok.rise ey h',?_];generalize("place":Str)=w at fin ⊢;refine#[rfl,_,AH (j:=0) rfl,?_];show if(w==w)=s_ then _ else _
   rw[beq_self_eq_true];exact Dw #[_,rfl,rfl,_,AH (j:=1) rfl,_,_,rfl,rfl,by rw[Ev,kE];lk,fin]
  .have hj:i - N.ps.length<N.ts.length:=by
    have:=(Uf.mp hx).1
    omega
   have et:N.ts[i - N.ps.length]?=P3 N.ts[i - N.ps.length]:=Go hj;generalize N.ts[i - N.ps.length]=t at et
   have ext:x=Ga t:=by
    unfold linesOf at hx;rw[jY (by rw[Ev];lk),Ev,XV,et]at hx;exact(eq hx).symm
   subst ext;have hm:t∈N.ts:=j6 et;have ht:=Wx ok hm;let#[ma,mb,_]:=ok.tin t hm;let#[c1,c2,c3,c4,e]:=T1 ht;have fin:=hnx m [.br^.lst^(linesOf N).map .str,.ow^.lst^N.ps.map .str,.ow^.lst ((N.ts.take (i - N.ps.length)).map Aj++[Aj t]),.sh^.int (i:Int),.sh^.str^Ga t,.sh^.lst [.str "tie",.str t.a,.str t.b,.str^C7 t.len],.sh .non] #[rfl,_,_,_,_,by rw[show i+1 - N.ps.length=(i - N.ps.length)+1 by lk,EZ et,iq,kg (show N.ps.length<=i+1 by lk)];rfl];rw[kg (show N.ps.length<=i by lk)];refine#[rfl,rfl,rfl,Ga t,sp,rfl,rfl,c1,c2,c3,c4,?_];rw[e];refine .inr #[t,N.ps,N.ts.take (i - N.ps.length),rfl,ok.names,ht,ma,mb,lp,by rw[kE];lk,λs h'=>Sj ok.trise et h',?_];generalize("place":Str)=w at ne ⊢;generalize("tie":Str)=v at ne fin ⊢;refine#[rfl,_,AH (j:=0) rfl,?_];show if(v==w)=s_ then _ else _
   rw[beq_eq_false_iff_ne.mpr ne];exact Bs #[_,rfl,rfl,_,AH (j:=1) rfl,_,AH (j:=2) rfl,_,AH (j:=3) rfl,t.len,rfl,by have:=ht.2.2.2.1;lk,by have:=ht.2.2.2.2;lk,z3,_,_,rfl,rfl,by rw[Ev,kE];lk,fin]
end
def fj(pool ps:u_ Str)(us:u_ Aw)(d:Dd):Prop:=match d with|.come x=>x∈pool/\x∉ps|.go x=>x∈ps|.lay x y l=>x∈ps/\y∈ps/\x≠y/\1<=l/\l<=1000000|.take x y=>∃u∈us,YB x y u
def JZ:W2:=λss n P=>∃(N:Net) (ps:u_ Str) (us:u_ Aw) (pool:u_ Str) (k:Int),ss=[.fd,.sh^Jk (JC ps)^HD us,.sh^.lst^pool.map .str,.sh^.int k]/\LH N ps us/\pool.Nodup/\(∀x∈pool,EU x)/\2<=pool.length/\pool.length<=20/\(∀x∈ps,EU x)/\us.length<=50/\0<=k/\k<=4/\5<=n.n /\
 ∀(d:Dd) (m:Nat),fj pool ps us d->n.n<=m+5->P (DU d) #[m,n.w]
def Rf{N:Net}{ps:u_ Str}{us:u_ Aw}{pool:u_ Str}(S:LH N ps us)(hq:∀x∈pool,EU x)(l1:N.ps.length<=20)(l2:N.ts.length<=50){d:Dd}
  (hd:fj pool ps us d):
  ∃N':Net,Qf N d N'/\okN N'/\N'.ps.length<=N.ps.length+1/\N'.ts.length<=N.ts.length+1:=by
 let#[s1,s2,okn]:=S;have ok:=okn.1;have lf:∀p:Aw->Bool,(N.ts.filter p).length<=N.ts.length:=λp=>iz _ _;cases d with
 | come x=>
  have hx:x∉N.ps:=λz=>hd.2^s1.mem_iff.mp z;let#[qs,h1,h2]:=RW (r:=λx y=>cs x<cs y) (λa b c h g=>l8 h g) x ok.rise λy hy=>(L5 x y).elim .inl λz=>z.elim (λe=>absurd (e▸hy) hx) .inr;have lq:qs.length=N.ps.length+1:=h1.length_eq;refine#[#[qs,N.ts],#[hq x hd.1,hx,h1,rfl],#[#[λy hy=>?_,h2,λt ht=>?_,ok.trise],by show qs.length<=25;lk,okn.2.2],by show qs.length<=_;lk,jP _]
  .rcases UF.mp^h1.mem_iff.mp hy with rfl|z
   .exact hq y hd.1
   .exact ok.names y z
  .let#[a1,a2,a3]:=ok.tin t ht
   exact#[h1.mem_iff.mpr^TM _ a1,h1.mem_iff.mpr^TM _ a2,a3]
 |go x=>
  refine#[_,#[s1.mem_iff.mpr hd,rfl],#[#[λy hy=>ok.names y (iY.mp hy).1,ok.rise.filter _,λt ht=>?_,ok.trise.filter _],iU (iz _ _) okn.2.1,iU (lf _) okn.2.2],me^iz _ _,me^lf _];let#[h1,h2]:=iY.mp ht;let#[a1,a2,a3]:=ok.tin t h1;have h3:¬(t.a=x\/t.b=x):=λz=>by rw[atB_iff.mpr z]at h2;cases h2
  exact#[iY.mpr #[a1,decide_eq_true λz=>h3^.inl z],iY.mpr #[a2,decide_eq_true λz=>h3^.inr z],a3]
 | lay x y l=>
  let#[hx,hy,hne,h1,h2]:=hd;have hx:=s1.mem_iff.mpr hx;have hy:=s1.mem_iff.mpr hy;let#[lh,lc]:=aR hne
  have hin:∀t∈N.ts.filter λu=>!BN x y u,t∈N.ts/\¬(t.a=lo x y/\t.b=hi x y):=λt ht=>by
   let#[g1,g2]:=iY.mp ht;refine#[g1,λz=>?_];rw[betwB_iff.mpr^(Dz hne (ok.tin t g1).2.2.1).mpr z]at g2;cases g2
  let#[ts,g1,g2]:=RW (r:=Bg) (λ_ _ _=>ZU) (#[lo x y,hi x y,l]:Aw) (ok.trise.filter λu=>!BN x y u) λt ht=>by
   let#[_,k]:=hin t ht
   rcases L5 (lo x y) t.a with z|z|z
   .exact .inl^.inl z
   .rcases L5 (hi x y) t.b with w|w|w
    .exact .inl^.inr #[z,w]
    .exact absurd #[z.symm,w.symm] k
    .exact .inr^.inr #[z.symm,w]
   .exact .inr^.inl z
  have lt:ts.length<=N.ts.length+1:=by
   have:=g1.length_eq
   have:=lf λu=>!BN x y u
   rw[ij]at *;lk
  refine#[#[N.ps,ts],#[hx,hy,hne,h1,h2,rfl,g1],#[#[ok.names,ok.rise,λt ht=>?_,g2],okn.2.1,by show ts.length<=60;lk],jP _,lt]
  rcases UF.mp^g1.mem_iff.mp ht with rfl|z
  .have:lo x y∈N.ps/\hi x y∈N.ps:=by
    rcases lc with⟨e1,e2⟩|⟨e1,e2⟩ <;>rw[e1,e2] <;>exact#[by assumption,by assumption]
   exact#[this.1,this.2,lh,h1,h2]
  .exact ok.tin t (hin t z).1
 | take x y=>
  let#[u,hu,hb]:=hd;have hu:=s2.mem_iff.mpr hu;let#[u1,u2,u3,_]:=ok.tin u hu
  have hne:x≠y:=by
   rintro rfl
   rcases hb with⟨e1,e2⟩|⟨e1,e2⟩ <;>rw[e1,e2]at u3 <;>exact BD _ u3
  have hxy:x∈N.ps/\y∈N.ps:=by
   rcases hb with⟨e1,e2⟩|⟨e1,e2⟩ <;>rw[←e1,←e2] <;>exact#[by assumption,by assumption]
  have huf:u∈N.ts.filter^BN x y:=iY.mpr #[hu,betwB_iff.mpr hb]
  have one:N.ts.filter^BN x y=[u]:=by
   have pw:=ok.trise.filter^BN x y
   have eqs:∀v∈N.ts.filter^BN x y,v.a=lo x y/\v.b=hi x y:=λv hv=>by
    let#[g1,g2]:=iY.mp hv;exact(Dz hne (ok.tin v g1).2.2.1).mp^betwB_iff.mp g2
   have no:∀v∈N.ts.filter^BN x y,∀w∈N.ts.filter^BN x y,¬Bg v w:=λv hv w hw h=>by
    let#[e1,e2]:=eqs v hv;let#[f1,f2]:=eqs w hw
    rcases h with h|⟨_,h⟩
    .rw[e1,f1]at h;exact BD _ h
    .rw[e2,f2]at h;exact BD _ h
   cases e:N.ts.filter^BN x y with
   |nil=>rw[e]at huf;cases huf
   | cons v r=>
    cases r with
    |nil=>rw[e]at huf;rw[Re.mp huf]
    |cons w r=>
     rw[e]at pw no;exact absurd ((i7.mp pw).1 w On)^no v On w^TM _ On
  exact#[_,#[#[u,one],hxy.1,hxy.2,hne,rfl],#[#[ok.names,ok.rise,λt ht=>ok.tin t (iY.mp ht).1,ok.trise.filter _],okn.2.1,iU (lf _) okn.2.2],jP _,me^lf _]
section
variable {ss:u_ Slot}{n:Sg}{Pd:D->Sg->Prop}
def UL(h:JZ ss n Pd):Fi (EE Pd) n (ss++Tk 7 .no):=by
 let#[N,ps,us,pool,k,rfl,#[hp,hu,okn],ndq,hq,q2,q20,nps,lu,k0,k4,hn,p]:=h;have l25:=okn.2.1;have l60:=okn.2.2;have lp:=hp.length_eq;have szl:=PySem.sizeLine_eq;have nd:(us.map tk).Nodup:=(hu.map tk).nodup_iff.mp^Qr okn.1;have ndp:ps.Nodup:=hp.nodup_iff.mp^JB okn.1.rise;unfold Fi;refine SX ?_;refine#[by show(pool.map D.str).length<=10000000;rw[Ev];lk,?_];refine B1 (λd=>!((ps.map D.str).any λy=>Fb y d)) id (λρ=>∃s,ρ=[.sh^JC ps,s]) _ _ _ _ ?_ #[_,rfl] ?_
 .rintro d hd ρ m nx sk ⟨s,rfl⟩ h1 h2
  let#[x,hx,rfl]:=Rs.mp hd;refine#[CA^hq x hx,DN nps,_,rfl,?_];exact DF (λc=>h1 _ #[_,rfl] c) λc=>h2 _ #[_,rfl]^jB.mpr c
 have ef:(pool.map D.str).filter (λd=>!((ps.map D.str).any λy=>Fb y d))=(pool.filter λx=>decide (x∉ps)).map D.str:=by
  rw[mF]
  congr 1
  refine kO λx _=>?_;show(!((ps.map D.str).any λy=>Fb y^.str x))=decide (x∉ps);rw[OB,decide_not]
 rw[iw,lB,ef];generalize hnew:(pool.filter λx=>decide (x∉ps))=new
 have mnew:∀x∈new,x∈pool/\x∉ps:=λx hx=>by
  rw[←hnew]at hx;let#[a,b]:=iY.mp hx;exact#[a,of_decide_eq_true b]
 have lnew:new.length<=20:=by rw[←hnew];exact iU (iz _ _) q20
 have full:new=[]->2<=ps.length:=λe=>by
  rw[e]at hnew
  have:∀x∈pool,x∈ps:=λx hx=>by
   rcases lF (x∈ps)with z|z
   .exact z
   .have h1:x∈pool.filter λx=>decide (x∉ps):=iY.mpr #[hx,decide_eq_true z]
    rw[hnew]at h1;cases h1
  have:=MN ndq this
  omega
 refine#[9,rfl,by cbv,by cbv,by lk,λway w0 w9=>?_];refine#[z0,DN λx hx=>hq x (mnew x hx).1,DN (ps:=[]) (λx hx=>by cases hx),?_]
 have come:new≠[]->(Aq^BA^AE (wC^D.str "come")^AE (AZ A2 (AB 5)^Ae BU^AD (A4 0)^AD (AM^Bi B5^AE (AB 5) AT) AS) AT) (EE Pd) (n - 1) [.fd,.sh^Jk (JC ps)^HD us,.sh^.lst^pool.map .str,.sh^.int k,.sh^JC ps,.sh^.lst^new.map .str,.sh^.int way,.no,.no,.no,.no]:=λhne=>by
  have l1:1<=new.length:=List.length_pos_iff.mpr hne;refine#[_,_,rfl,rfl,((new.map D.str).length:Int),rfl,by rw[Ev];lk,by rw[Ev];lk,(by show 1<=n.n - 1;lk),λr r0 r1=>?_];rw[Ev]at r1;let#[x,hx,ex,_]:=E8 r0 r1;exact#[_,ex,z2,p (.come x) (n.n - 1 - 1) (mnew x hx)^by lk]
 have rst:∀D5:D,2<=ps.length->(Ac (A_ (Ab^AZ (FN t_) (AB 6)^wC^D.int 2) (Aq^BA^AE (wC^D.str "go")^AE (AZ A2 (AB 4)^Ae BU^AD (A4 0)^AD (AM^Bi B5^AE (AB 4) AT) AS) AT) Au)
 (Ac (A_ (Ly (Ab^AZ (FN t_) (AB 6)^wC^D.int 3)^Ab^AZ cY (AZ BK (AB 1)^wC^D.str "ties") Qm) (Ac (A6 7^AZ A2 (Bi Km^AE (AZ BK (AB 1)^wC^D.str "ties") AT)^Ae BU^AD (A4 0)^AD (AM^Bi Xl^AE (AZ BK (AB 1)^wC^D.str "ties") AT) AS)
 (Ac (A6 8^Ae BU^AD (A4 0)^AD (AM^wC^D.int 2) AS)
 (Aq^BA^AE (wC^D.str "take")^AE (AZ A2 (AB 7)^AB 8)^AE (AZ A2 (AB 7)^AZ Gh (wC^D.int 1)^AB 8) AT))) Au)
 (Ac (A6 9^Ae BU^AD (A4 0)^AD (AM^Bi B5^AE (AB 4) AT) AS)
 (Ac (A6 10^AZ (Ya (λ_ j=>0<j) λi j=>D.int (i % j)) (AZ BX (AZ BX (AB 9)^wC^D.int 1)^Ae BU^AD (A4 0)^AD (AM^AZ Gh (Bi B5^AE (AB 4) AT)^wC^D.int 1) AS)^Bi B5^AE (AB 4) AT)
 (Aq^BA^AE (wC^D.str "lay")^AE (AZ A2 (AB 4)^AB 9)^AE (AZ A2 (AB 4)^AB 10)^AE (Ae LF^AD (A4 0)^AD (AM^Yd (Ab^AZ Gi (AB 3)^wC^D.int 4) (AB 3)^Ae BU^AD (A4 0)^AD (AM^wC^D.int 4) AS) AS) AT)))))
   (EE Pd) (n - 1) [.fd,.sh^Jk (JC ps)^HD us,.sh^.lst^pool.map .str,.sh^.int k,.sh^JC ps,.sh D5,.sh^.int way,.no,.no,.no,.no]:=λD5 p2=>by
  have lpl:(ps.map D.str).length=ps.length:=Ev ..;show if(way==2)=s_ then _ else _
  refine DF (λc=>?_) λc=>?_
  .refine#[_,_,rfl,rfl,((ps.map D.str).length:Int),rfl,by lk,by lk,(by show 1<=n.n - 1;lk),λr r0 r1=>?_]
   rw[lpl]at r1;let#[x,hx,ex,_]:=E8 r0 r1;exact#[_,ex,z2,p (.go x) (n.n - 1 - 1) hx^by lk]
  have lay:(Ac (A6 9^Ae BU^AD (A4 0)^AD (AM^Bi B5^AE (AB 4) AT) AS)
 (Ac (A6 10^AZ (Ya (λ_ j=>0<j) λi j=>D.int (i % j)) (AZ BX (AZ BX (AB 9)^wC^D.int 1)^Ae BU^AD (A4 0)^AD (AM^AZ Gh (Bi B5^AE (AB 4) AT)^wC^D.int 1) AS)^Bi B5^AE (AB 4) AT)
 (Aq^BA^AE (wC^D.str "lay")^AE (AZ A2 (AB 4)^AB 9)^AE (AZ A2 (AB 4)^AB 10)^AE (Ae LF^AD (A4 0)^AD (AM^Yd (Ab^AZ Gi (AB 3)^wC^D.int 4) (AB 3)^Ae BU^AD (A4 0)^AD (AM^wC^D.int 4) AS) AS) AT))) (EE Pd) (n - 1) [.fd,.sh^Jk (JC ps)^HD us,.sh^.lst^pool.map .str,.sh^.int k,.sh^JC ps,.sh D5,.sh^.int way,.no,.no,.no,.no]:=by
   refine#[_,_,rfl,rfl,((ps.map D.str).length:Int),rfl,by lk,by lk,(by show 1<=n.n - 1;lk),λa a0 a1=>?_];refine#[_,_,rfl,rfl,((ps.map D.str).length:Int) - 1,rfl,by lk,by lk,(by show 1<=n.n - 1 - 1;lk),λq q0 q1=>?_];refine#[_,_,rfl,rfl,(by show(0:Int)<((ps.map D.str).length:Int);lk),?_];rw[lpl]at a1 q1 ⊢;have hb0:0<=(a+1+q) % (ps.length:Int)/\(a+1+q) % (ps.length:Int)<ps.length:=#[nP _^by lk,mQ _^by lk]
   have hab:(a+1+q) % (ps.length:Int)≠a:=by
    intro e
    rcases(show a+1+q<ps.length\/ps.length<=a+1+q by lk)with z|z
    .rw[mh (by lk) z]at e;lk
    .have:(a+1+q) % (ps.length:Int)=a+1+q - ps.length:=by
      rw[←Int.sub_emod_right,mh (by lk)^by lk]
     omega
   obtain⟨b,eb⟩:∃b,(a+1+q) % (ps.length:Int)=b:=#[_,rfl];rw[eb]at hb0 hab;let#[x,hx,ex,ix]:=E8 a0 a1;let#[y,hy,ey,iy]:=E8 hb0.1 hb0.2
   have hne:x≠y:=λe=>hab (by
    subst e;have h1:a.toNat<ps.length:=by lk
    have:=(List.getElem?_inj h1 ndp).mp^ix.trans iy.symm
    omega)
   subst eb;refine#[_,ex,_,ey,?_];have fin:∀(s:Int) (m:Nat),0<=s->s<=3->n.n<=m+4->1<=m->LF [.fd,.sh^.int s] #[m,n.w] λd n'=>AT n' [.fd,.sh^Jk (JC ps)^HD us,.sh^.lst^pool.map .str,.sh^.int k,.sh^JC ps,.sh D5,.sh^.int way,.no,.no,.sh^.int a,.sh^.int ((a+1+q) % (ps.length:Int))] λds n2=>[D.str "lay",.str x,.str y,d].length<=sizeLine/\Pd (.tup ([D.str "lay",.str x,.str y]++d::ds)) n2:=λs m s0 s3 hm m1=>#[s,rfl,s0,s3,m1,λr r1 r2=>#[(by cbv:4<=sizeLine),p (.lay x y r) (m - 1) #[hx,hy,hne,r1,r2]^by lk]];show if decide (k<4)=s_ then _ else _
   refine DF (λc=>?_) λc=>?_
   .exact fin k (n.n - 1 - 1 - 1) k0 (by have:=of_decide_eq_true c;lk) (by lk)^by lk
   .exact#[4,rfl,by cbv,by cbv,(by show 1<=n.n - 1 - 1 - 1;lk),λr r0 r1=>fin r (n.n - 1 - 1 - 1 - 1) r0 (by lk) (by lk)^by lk]
  show if(way==3)=s_ then _ else _
  refine DF (λc3=>?_) λc3=>Bs lay;refine Hv ?_;refine#[_,_,rfl,by rw[Ev,Ev],rfl,?_];show if(!decide ((us.map tk).length=0))=s_ then _ else _
  rw[Ev]
  by_cases e0:us.length=0
  .rw[decide_eq_true e0];exact Bs lay
  rw[decide_eq_false e0];refine Dw ?_;let#[s1,s2,s3,s4]:=Vt okn hu;have lN:=hu.length_eq;refine Hv ?_;refine#[_,_,rfl,s1,s2,s3,s4,Xc okn.1 hu,λks' h3 h4=>?_];have ek:=Ou okn.1 hu h3 h4;subst ek;refine Hv ?_;refine#[_,_,rfl,by rw[Ev,Ev],((us.map tk).length:Int),rfl,by rw[Ev];lk,by rw[Ev];lk,(by show 1<=n.n - 1;lk),λr r0 r1=>?_];rw[Ev]at r1;have hr:r.toNat<N.ts.length:=by lk
  refine#[tupK (tk N.ts[r.toNat]),?_,?_]
  .have:=AH (xs:=(N.ts.map tk).map tupK) (j:=r.toNat) (v:=tupK (tk N.ts[r.toNat]))^by rw[XV,XV,Go hr];rfl
   rwa[show((r.toNat:Nat):Int)=r by lk]at this
  have hm:N.ts[r.toNat]∈us:=hu.mem_iff.mp^jQ _;generalize N.ts[r.toNat]=u at hm;refine#[2,rfl,by cbv,by cbv,(by show 1<=n.n - 1 - 1;lk),λv v0 v1=>?_]
  rcases(show v=0\/v=1 by lk)with rfl|rfl
  .exact#[_,AH (j:=0) rfl,_,AH (j:=1) rfl,z3,p (.take u.a u.b) (n.n - 1 - 1 - 1) #[u,hm,.inl #[rfl,rfl]]^by lk]
  .exact#[_,AH (j:=1) rfl,_,AH (j:=0) rfl,z3,p (.take u.b u.a) (n.n - 1 - 1 - 1) #[u,hm,.inr #[rfl,rfl]]^by lk]
 cases hc:new with
 |nil=>
  rw[hc]at full;exact Bs^Bs^rst _ (full rfl)
 |cons x0 r0=>
  rw[hc]at come;refine Dw ?_;show if decide (way<2)=s_ then _ else _
  refine DF (λ_=>Dw^come^jd _ _) λ_=>?_;refine#[_,_,rfl,rfl,?_];show if decide (((ps.map D.str).length:Int)<2)=s_ then _ else _
  rw[Ev];refine DF (λ_=>come^jd _ _) λc=>rst _^by have:=of_decide_eq_false^jB.mpr c;lk
end
def I0{A B:Net}(h:∀u,u∈A.ts↔u∈B.ts){s x:Str}{d:Int}(w:Wk A s x d):Wk B s x d:=by
 induction w with
 |nil=>exact .nil
 |snoc _ e ih=>
  refine .snoc ih ?_;let#[t,ht,e]:=kF.mp e;exact kF.mpr #[t,(h t).mp ht,e]
def Ue{A B:Net}(h:∀u,u∈A.ts↔u∈B.ts)(t b:Int)(u:Aw):Dq A t b u=Dq B t b u:=by
 have h':∀u,u∈B.ts↔u∈A.ts:=λu=>(h u).symm;rw[i6,nearB_iff,nearB_iff];constructor <;>rintro⟨d,⟨l1,l2⟩,l3⟩
 .exact#[d,#[I0 h l1,λd' w=>l2 d'^I0 h' w],l3]
 .exact#[d,#[I0 h' l1,λd' w=>l2 d'^I0 h w],l3]
theorem Du{A B:Net}{t b:Int}:∀{ord kept:u_ Aw},(∀u∈kept,u∈A.ts/\u∈B.ts)->(∀u∈ord,u∈A.ts/\u∈B.ts)->B3 A t b kept ord=B3 B t b kept ord
 |[],_,_,_=>rfl
 |u::r,kept,h1,h2=>by
  have e:Dq (sub A kept) t b u=Dq (sub B kept) t b u:=Ue (λv=>by rw[sub_mem,sub_mem];exact#[λz=>#[(h1 v z.2).2,z.2],λz=>#[(h1 v z.2).1,z.2]]) t b u;have h3:∀v∈r,v∈A.ts/\v∈B.ts:=λv hv=>h2 v^TM _ hv;rw[Bp,Bp,e,Du h1 h3,Du (kept:=kept++[u]) (λv hv=>(iP.mp hv).elim (h1 v) λz=>by rw[Re.mp z];exact h2 u On) h3]
theorem CI{A:Net}{t b:Int}:∀{p q kept:u_ Aw},B3 A t b kept (p++q)=B3 A t b (B3 A t b kept p) q
 |[],_,_=>rfl
 |u::p,q,kept=>by
  show B3 A t b kept (u::(p++q))=_;rw[Bp,Bp]
  split <;>exact CI
theorem DR{A:Net}{t b:Int}{v:Aw}:∀{q kept:u_ Aw},v∈B3 A t b kept q->v∈kept\/v∈q
 |[],_,h=>.inl h
 | u::q,kept,h=>by
  rw[Bp]at h
  split at h
  .exact(DR h).imp id^TM _
  .rcases DR h with z|z
   .rcases iP.mp z with z|z
    .exact .inl z
    .exact .inr^by rw[Re.mp z];exact On
   .exact .inr^TM _ z
theorem DQ{A:Net}{t b:Int}{v:Aw}:∀{q kept:u_ Aw},v∈kept->v∈B3 A t b kept q
 |[],_,h=>h
 |u::q,kept,h=>by
  rw[Bp]
  split
  .exact DQ h
  .exact DQ^jZ _ h
theorem J9{k:u_ Key}:∀{l:u_ Aw},EI l->l=(l.filter λv=>A8 (Bn v) k)++l.filter λv=>!A8 (Bn v) k
 |[],_=>rfl
 | u::l,h=>by
  let#[h1,h2]:=i7.mp h;have ih:=J9 (k:=k) h2;cases c:A8 (Bn u) k with
  |true=>rw[lK (by exact c),kR (by simp[c]),List.cons_append,←ih]
  | false=>
   have no:∀v∈l,A8 (Bn v) k=t_:=λv hv=>by
    cases d:A8 (Bn v) k with
    |false=>rfl
    | true=>
     exfalso
     have g:=h1 v hv
     rcases lF (Bn u=Bn v)with e|e
     .rw[e,d]at c;cases c
     .have l2:A8 (Bn u)^Bn v=s_:=by
       cases z:A8 (Bn u)^Bn v with
       |true=>rfl
       |false=>exact absurd (CH _ _ z g) e
      rw[Cc _ _ _ l2 d]at c;cases c
   rw[kR (by simp[c]),lK (by simp[c]),mq.mpr (λv hv=>by simp[no v hv]),lH.mpr λv hv=>by simp[no v hv]];rfl
def EC{N T:Net}{t b:Int}{ord:u_ Aw}(o1:ord.Perm N.ts)(o2:EI ord)(h:IsT N t b T){u:Aw}:u∈T.ts↔u∈B3 N t b [] ord:=by
 let#[ord',p1,p2,rfl]:=h;rw[Cj (p1.trans o1.symm) p2 o2,sub_mem];exact#[λz=>z.2,λz=>#[o1.mem_iff.mp ((DR z).resolve_left^by intro z;cases z),z]]
def SW{N N' M T:Net}{t b:Int}(okn:okN N)(okn':okN N')(hM:IsT N t b M)(hT:IsT N' t b T){k:u_ Key}(h1:∀u∈N.ts,A8 (Bn u) k=s_->u∈N'.ts)(h2:∀u∈N'.ts,A8 (Bn u) k=s_->u∈N.ts){u:Aw}(hu:A8 (Bn u) k=s_)(hm:u∈M.ts):u∈T.ts:=by
 let#[ord,o1,o2,_]:=id hM;let#[ord',p1,p2,_]:=id hT;rw[EC o1 o2 hM,J9 (k:=k) o2,CI]at hm;rw[EC p1 p2 hT,J9 (k:=k) p2,CI];refine DQ ?_
 rcases DR hm with z|z
 .have nd:ord.Nodup:=o1.nodup_iff.mpr^BS okn.1.trise
  have nd':ord'.Nodup:=p1.nodup_iff.mpr^BS okn'.1.trise
  have e:(ord.filter λv=>A8 (Bn v) k)=ord'.filter λv=>A8 (Bn v) k:=by
   refine Cj ((kB (nd.filter _)^nd'.filter _).mpr λv=>?_) (lm List.filter_sublist o2)^lm List.filter_sublist p2;rw[iY,iY,o1.mem_iff,p1.mem_iff];exact#[λz=>#[h1 v z.1 z.2,z.2],λz=>#[h2 v z.1 z.2,z.2]]
  rw[e]at z;rw[←Du (A:=N) (λv hv=>by cases hv) λv hv=>?_]
  .exact z
  .let#[g1,g2]:=iY.mp hv
   have g1:=p1.mem_iff.mp g1;exact#[h2 v g1 g2,g1]
 .have:=(iY.mp z).2
  rw[hu]at this;cases this
def Zn{N N' M T:Net}{t b:Int}(okn:okN N)(okn':okN N')(hM:IsT N t b M)(hT:IsT N' t b T)(h:∀u,u∈N.ts↔u∈N'.ts)(u:Aw):u∈M.ts↔u∈T.ts:=by
 let#[ord,o1,o2,_]:=id hM;let#[ord',p1,p2,_]:=id hT;have e:ord=ord':=Cj ((kB (o1.nodup_iff.mpr^BS okn.1.trise)^p1.nodup_iff.mpr^BS okn'.1.trise).mpr λv=>by rw[o1.mem_iff,p1.mem_iff];exact h v) o2 p2;subst e;rw[EC o1 o2 hM,EC p1 p2 hT,Du (B:=N') (λv hv=>by cases hv) λv hv=>#[o1.mem_iff.mp hv,p1.mem_iff.mp hv]]
def aN{N N' M T:Net}{t b:Int}(okn:okN N)(okn':okN N')(hM:IsT N t b M)(hT:IsT N' t b T){c:Aw}(hc:c∉N.ts)(hc':c∈N'.ts)(h:∀u,u≠c->(u∈N.ts↔u∈N'.ts))(out:c∉T.ts)(u:Aw):u∈M.ts↔u∈T.ts:=by
 let#[ord,o1,o2,_]:=id hM;let#[ord',p1,p2,_]:=id hT;rw[EC p1 p2 hT]at out;have nd':ord'.Nodup:=p1.nodup_iff.mpr^BS okn'.1.trise;let#[pre,post,e']:=List.append_of_mem^p1.mem_iff.mpr hc';subst e';let#[n1,n2,n3]:=jh.mp nd';rw[iW]at n2;have sl:(pre++post).Sublist (pre++c::post):=List.Sublist.append_left (List.sublist_cons_self _ _) _
 have mem:∀v,v∈pre++post↔v∈N.ts:=λv=>by
  constructor
  .intro hv
   have hne:v≠c:=λz=>by
    subst z
    rcases iP.mp hv with g|g
    .exact n3 v g v On rfl
    .exact n2.1 g
   exact(h v hne).mpr^p1.mem_iff.mp^sl.subset hv
  .intro hv
   have hne:v≠c:=λz=>hc (z▸hv)
   rcases iP.mp^p1.mem_iff.mpr^(h v hne).mp hv with g|g
   .exact jZ _ g
   .exact iV _^(UF.mp g).resolve_left hne
 have e:ord=pre++post:=Cj ((kB (o1.nodup_iff.mpr^BS okn.1.trise)^sl.nodup nd').mpr λv=>by rw[o1.mem_iff];exact(mem v).symm) o2^lm sl p2;subst e;rw[EC o1 o2 hM,EC p1 p2 hT];rw[CI,Bp]at out;rw[CI (p:=pre) (q:=c::post),Bp]
 have hn:Dq (sub N'^B3 N' t b [] pre) t b c=s_:=by
  cases z:Dq (sub N'^B3 N' t b [] pre) t b c with
  |true=>rfl
  |false=>
   rw[z]at out;exact absurd (DQ^iV _ On) out
 rw[if_pos hn,←CI,Du (B:=N') (λv hv=>by cases hv) λv hv=>#[(mem v).mp hv,p1.mem_iff.mp^sl.subset hv]]
def JE{A B l:u_ Aw}(h:OutT A B l)(g:∀u∈A,u∈B):l=[]:=by
 have:A.filter (λt=>decide (t∉B))=[]:=mq.mpr λu hu=>by simp[g u hu]
 have e:=h.1;rw[this]at e;exact e.eq_nil
def LC(C:Ch):W2:=λss n P=>∃(t b:Int) (N:Net),ss=[.br^.lst^(linesOf N).map .str,.sh^tD t b]/\okN N/\N.ps.length<=24/\Vo t b/\∀(a:Ch) (T:Net) (n':Sg),IsT N t b T->n.w a=r_->n'.n=n.n->n'.w a=P3^kc C t b N T->(∀y,n.w y≠r_->n'.w y=n.w y)->P (.ob a) n'
def LG(C:Ch):W2:=λss n P=>∃t b:Int,ss=[.fd,.sh^tD t b]/\Vo t b/\210<=n.n/\∀(a l u:Ch) (N T:Net) (ps:u_ Str) (us:u_ Aw) (n':Sg),n.n<=n'.n+210->VX C n' a t b N T->IsT N t b T->n'.w l=P3^.pl^JC ps->n'.w u=P3^.pl^HD us->a≠l->a≠u->l≠u->LH N ps us->N.ps.length<=10->N.ts.length<=20->P (.tup [.ob a,Jk (.ob l)^.ob u]) n'
def JV:W2:=λss n P=>∃(t b:Int) (d:Dd) (N N' M T:Net) (came went:u_ Aw),ss=[.sh^DU d,.br^.lst [Bx N,Bx N'],.br^.lst [Bx M,Bx T],.sh^.tup [.lst^came.map Aj,.lst^went.map Aj]]/\okN N/\okN N'/\okN M/\okN T/\IsT N t b M/\IsT N' t b T/\OutT T.ts M.ts came/\OutT M.ts T.ts went/\P (.bl s_) n
def Gw(C_Keeper:Ch):Af:=(Ac (A6 2^Z1 C_Keeper (OY C_Keeper)^AD (AM^AB 1) AS)
 (Ac (C1^Ba C_Keeper "turn_to" (DZ C_Keeper) (AB 2)^AD (AM^Ae YO^AD (BB^Al 0) AS) AS)
 (Aq^AB 2)))
def Es(C_Keeper:Ch):Af:=(Ac (A6 2^Ae LD^AD (A4 0)^AD (AM^AZ BX (wC^D.int 2)^Ae BU^AD (A4 0)^AD (AM^wC^D.int 9) AS) AS)
 (Ac (A6 3^Ae SA^AD (A4 0)^AD (AM^AB 2)^AD (AM^wC^D.int 20) AS)
 (Ac (DH 4^Bl [r_] (BM^AB 2) (Az 0) Il^AZ BX (wC^D.str "place ")^AB 0)
 (Ac (SJ 4 "list" fK^AE (Bl [r_,r_,r_] (BM^AB 3) (N9 3^Br (Az 0)^Br (Az 1)^Br (Az 2) Gv) Il^AZ BX (AZ BX (AZ BX (AZ BX (AZ BX (wC^D.str "tie ")^AB 0)^wC^D.str " ")^AB 1)^wC^D.str " ")^Bi TJ^AE (AB 2) AT) AT)
 (Ac (A6 5^Vd "places" "ties" (Og^Bi RZ^AE (AB 2) AT)^Og Ql)
 (Ac (Oe (BM^AB 3) (N9 3^Br (Az 6)^Br (Az 7)^Br (Az 8) Gv)^C1^Ae Qd^AD (AM^AB 5)^AD (AM^BA^AE (wC^D.str "lay")^AE (AB 6)^AE (AB 7)^AE (AB 8) AT) AS)
 (Aq^BA^AE (Ae (LC C_Keeper)^AD (BB^Al 4)^AD (AM^AB 1) AS)^AE (AB 5) AT)))))))
def Cs:Af:=(Ac (A_ (Ab^AZ (FN s_) (Bi Ko^AE (AB 3) AT)^Bi Ko^AE (Ae Hq^AD (AM^AZ A2 (Al 2)^wC^D.int 0)^AD (AM^AZ A2 (Al 2)^wC^D.int 1) AS) AT) (Aq^wC^D.bl t_) Au)
 (Ac (A6 4^Bl [P3 1,r_] (BM^AZ A2 (AZ A2 (Al 1)^wC^D.int 1)^wC^D.int 1) (Az 1) (Ab^AZ (EG s_) (AB 1)^AZ A2 (AZ A2 (Al 0)^wC^D.int 0)^wC^D.int 1)^AB 1)
 (Ac (A6 4^AZ BX (AB 4)^Bl [P3 1,r_] (BM^AZ A2 (AZ A2 (Al 1)^wC^D.int 0)^wC^D.int 1) (Az 1) (Ab^AZ (EG s_) (AB 1)^AZ A2 (AZ A2 (Al 0)^wC^D.int 1)^wC^D.int 1)^AB 1)
 (Ac (A_ (Ab^AZ Xn (AB 4)^Ct AT) (Aq^AZ Xn (AB 3)^BA^AE (Ct AT)^AE (Ct AT) AT) Au)
 (Ac (A6 5^Bi Xh^AE (Bl [r_] (BM^AB 4) (Az 0) Il^Ae Ig^AD (AM^AB 0) AS) AT)
 (Ac (A_ (Ab^AZ cX (Bl [P3 5,r_] (BM^AZ BX (AZ A2 (AB 3)^wC^D.int 0)^AZ A2 (AB 3)^wC^D.int 1) (Az 1) (Ab^AZ Gi (Ae Ig^AD (AM^AB 1) AS)^AB 0)^AB 1)^Ct AT) (Aq^wC^D.bl t_) Au)
 (Ac (A_ (FJ (Ab^AZ (FN t_) (AZ A2 (AB 0)^wC^D.int 0)^wC^D.str "go")^Ab^AZ (f2 λi j=>D.bl (decide (j<i))) (Bi B5^AE (AB 4) AT)^wC^D.int 1) (Aq^wC^D.bl s_) Au)
 (Ac (A6 6^Vg (AZ (EG s_) (AZ A2 (AB 4)^wC^D.int 0)^AZ A2 (AZ A2 (Al 2)^wC^D.int 0)^wC^D.int 1)^AZ (EG s_) (AZ A2 (AB 4)^wC^D.int 0)^AZ A2 (AZ A2 (Al 2)^wC^D.int 1)^wC^D.int 1)
 (Aq^f7 (a_^AB 6)^AZ Xn (AB 3)^BA^AE (Ct AT)^AE (Ct AT) AT)))))))))
def Td(C_Keeper:Ch):Af:=(Ac (dU (Ae (LG C_Keeper)^AD (A4 1)^AD (AM^Ae LA^AD (A4 1) AS) AS)^N9 2^Br (Az 2)^Br (Az 3) Gv)
 (Ac (A6 4^Ae JX AS)
 (Ac (A6 5^Ae BU^AD (A4 1)^AD (AM^wC^D.int 5) AS)
 (Ac (Oe (SI^AE (wC^D.int 6) AT) (Az 6) (Ac (A6 7^Fk JZ^AD (A4 1)^AD (AM^AB 3)^AD (AM^a9 Pq (AB 4) D4^Jc^wC^D.int 12)^AD (AM^AB 5) AS)
 (Ac (DH 8^Ct^AE (Ba C_Keeper "net" (Hs C_Keeper) (AB 2) AS) AT)
 (Ac (DH 9^Ct^AE (Ba C_Keeper "thin" (Hr C_Keeper) (AB 2) AS) AT)
 (Ac (A6 10^Ae (JU C_Keeper)^AD (AM^AB 2)^AD (AM^AB 7) AS)
 (Ac (C1^Ae Qd^AD (AM^AB 3)^AD (AM^AB 7) AS)
 (Ac (SJ 8 "list" Hb^AE (Ba C_Keeper "net" (Hs C_Keeper) (AB 2) AS) AT)
 (Ac (SJ 9 "list" Hb^AE (Ba C_Keeper "thin" (Hr C_Keeper) (AB 2) AS) AT)
 (A_ (FJ (Ab^AZ (FN s_) (Bi Ko^AE (AZ A2 (Al 8)^wC^D.int 1) AT)^Bi Ko^AE (Fk G_^AD (AM^AB 3) AS) AT)^Dh^Ab^Fk JV^AD (AM^AB 7)^AD (BB^Al 8)^AD (BB^Al 9)^AD (AM^AB 10) AS) (Aq^wC^D.bl t_) Au)))))))))
 (Aq^wC^D.bl s_)))))
def cI{g:D->Bool}:∀ss n P,Wb g ss n P->ss.length=1:=λ_ _ _ h=>by
 let#[d,rfl,_]:=h.out;rfl
def cJ:∀ss n P,Tr ss n P->ss.length=3:=λ_ _ _ h=>by
 rcases h with⟨_,_,rfl,_⟩|⟨_,_,_,rfl,_⟩ <;>rfl
def gL:okN #[[],[]]:=#[#[λx hx=>(by cases hx),.nil,λx hx=>(by cases hx),.nil],iX _,iX _]
section
variable {ss:u_ Slot}{n:Sg}{Pd:D->Sg->Prop}{C:Addr}
def Q3(h:LC C ss n Pd):Gw C (EE Pd) n (ss++Tk 1 .no):=by
 let#[t,b,N,rfl,ok,l24,tm,p]:=h;unfold Gw;intro a ha;refine#[a,t,b,rfl,CC ..,rfl,?_];refine#[a,_,_,rfl,CC ..,by cbv,N,rfl,ok.1,l24,ok.2.2,?_];refine#[a,t,b,#[[],[]],#[[],[]],N,rfl,CC ..,ok,gL,tm,λT came went l1 l2 hT hc hw e1 e2 l12=>?_];have al1:a≠l1:=Kb (CC ..) e1;have al2:a≠l2:=Kb (CC ..) e2;have old:∀{x:Ch},a≠x->((n.put a^.ins C [] []).put a^kc C t b #[[],[]] #[[],[]]).w x=r_->n.w x=r_:=λ{x} h g=>by rw[BO h.symm,BO h.symm]at g;exact g
 refine p a T _ hT ha rfl ((BO al2).trans^(BO al1).trans (CC ..)) λy hy=>?_;have ya:y≠a:=λz=>hy (z▸ha);have y1:y≠l1:=λz=>hy (z▸old al1 e1);have y2:y≠l2:=λz=>hy (z▸old al2 e2);exact(BO y2).trans^(BO y1).trans^(BO ya).trans^(BO ya).trans^BO ya
def MT{came went:u_ Aw}(h1:came=[])(h2:went=[]):Fb (.tup [.lst^came.map Aj,.lst^went.map Aj])^.tup [.lst [],.lst []]=s_:=by
 subst h1;subst h2;rfl
def Zg(d:Dd):∃s xs,DU d=.tup (.str s::xs):=by cases d <;>exact#[_,_,rfl]
def UE(h:JV ss n Pd):Cs (EE Pd) n (ss++Tk 3 .no):=by
 let#[t,b,d,N,N',M,T,came,went,rfl,ok,ok',okM,okT,hM,hT,hc,hw,p]:=h;have szl:=PySem.sizeLine_eq;have h60:=ok.2.2;have h61:=ok'.2.2;let#[sd,xd,ed]:=Zg d;rw[ed]
 have mc:∀u∈came,u∈T.ts/\u∉M.ts:=λu hu=>by
  let#[a,b]:=iY.mp^hc.1.mem_iff.mp hu;exact#[a,of_decide_eq_true b]
 have mw:∀u∈went,u∈M.ts/\u∉T.ts:=λu hu=>by
  let#[a,b]:=iY.mp^hw.1.mem_iff.mp hu;exact#[a,of_decide_eq_true b]
 have i1:∀d∈came.map Aj,item d:=λd hd=>by
  let#[u,hu,rfl]:=Rs.mp hd;exact C8 okT.1 _^kW (mc u hu).1
 have i2:∀d∈went.map Aj,item d:=λd hd=>by
  let#[u,hu,rfl]:=Rs.mp hd;exact C8 okM.1 _^kW (mw u hu).1
 have j1:(came.map Aj).length<=60:=by rw[Ev];exact iU (Sx hc) okT.2.2
 have j2:(went.map Aj).length<=60:=by rw[Ev];exact iU (Sx hw) okM.2.2
 have sh:=Qv i1 i2 j1 j2
 have ly:Cw^.tup [.lst^came.map Aj,.lst^went.map Aj]:=by
  have d1:=dps_le.mpr λd hd=>(i1 d hd).2.2;have d2:=dps_le.mpr λd hd=>(i2 d hd).2.2;refine Fz (B:=1000001) (by cbv) #[fines_iff.mpr λd hd=>(i1 d hd).1,fines_iff.mpr λd hd=>(i2 d hd).1,trivial] ?_;show max (MU _+1)^max (MU _+1) 0+1<=100;lk
 have ly0:Cw^.tup [.lst [],.lst []]:=Fz (B:=1000001) (by cbv) #[trivial,trivial,trivial] (by cbv);have lyE:Cw^.lst []:=Ds λd hd=>by cases hd
 unfold Cs;refine#[_,rfl,sh,_,AH (j:=0) rfl,_,AH (j:=1) rfl,M,T,rfl,okM,okT,λc' w' hc' hw'=>?_];rw[hc'.uniq hc,hw'.uniq hw];refine#[_,rfl,sh,?_];refine L_ ?_
 have key:∀(A B:Net) (i:Int) (Q:u_ D->Sg->Prop),okN A->okN B->atI [Bx N,Bx N'] i=P3^Bx B->Q ((A.ts.filter λt=>decide (t∉B.ts)).map Aj) n->GZ (Az 1) (Ab^AZ (EG s_) (AB 1)^AZ A2 (AZ A2 (Al 0)^wC^D.int i)^wC^D.int 1) (AB 1) Q (A.ts.map Aj) [] n [.br^.lst [Bx N,Bx N'],.no]:=by
  intro A B i Q oA oB ei q;refine B1 (λd=>!((B.ts.map Aj).any λy=>Fb y d)) id (λρ=>∃s,ρ=[.br^.lst [Bx N,Bx N'],s]) _ _ _ _ ?_ #[_,rfl] ?_
  .rintro d hd ρ m nx sk ⟨s,rfl⟩ h1 h2
   let#[t,ht,rfl]:=Rs.mp hd;refine#[_,ei,_,AH (j:=1) rfl,JI oA.1 ht,Gd oB.1,_,rfl,?_];exact DF (λc=>h1 _ #[_,rfl] c) λc=>h2 _ #[_,rfl]^jB.mpr c
  .rw[iw,lB,Gg];exact q
 have f1:=iz (λt=>decide (t∉N.ts)) N'.ts;have f2:=iz (λt=>decide (t∉N'.ts)) N.ts;refine#[_,AH (j:=1) rfl,_,AH (j:=1) rfl,by show(N'.ts.map Aj).length<=10000000;rw[Ev];lk,key N' N 0 _ ok' ok rfl ?_];refine#[_,AH (j:=0) rfl,_,AH (j:=1) rfl,by show(N.ts.map Aj).length<=10000000;rw[Ev];lk,key N N' 1 _ ok ok' rfl ?_];refine#[by rw[Ev,Ev];lk,?_];rw[←iq]
 have mch:∀u,u∈(N'.ts.filter λt=>decide (t∉N.ts))++(N.ts.filter λt=>decide (t∉N'.ts))↔(u∈N'.ts/\u∉N.ts)\/(u∈N.ts/\u∉N'.ts):=λu=>by
  rw[iP,iY,iY,decide_eq_true_eq,decide_eq_true_eq]
 have lch:((N'.ts.filter λt=>decide (t∉N.ts))++(N.ts.filter λt=>decide (t∉N'.ts))).length<=120:=by rw[iT];lk
 generalize(N'.ts.filter λt=>decide (t∉N.ts))++(N.ts.filter λt=>decide (t∉N'.ts))=ch at mch lch
 have ich:∀d∈ch.map Aj,item d:=λd hd=>by
  let#[u,hu,rfl]:=Rs.mp hd
  rcases(mch u).mp hu with z|z
  .exact C8 ok'.1 _^kW z.1
  .exact C8 ok.1 _^kW z.1
 refine#[z0,Ds ich,lyE,?_];cases ch with
 | nil=>
  have al:=Zn ok ok' hM hT λu=>by
   have:=mch u
   constructor
   .intro hu
    exact jf λz=>absurd ((mch u).mpr^.inr #[hu,z]) ig
   .intro hu
    exact jf λz=>absurd ((mch u).mpr^.inl #[hu,z]) ig
  refine Dw #[z0,z0,z2,ly,ly0,?_];rw[MT (JE hc λu hu=>(al u).mpr hu)^JE hw λu hu=>(al u).mp hu];exact p
 | cons c0 r=>
  refine Bs #[by show((c0::r).map Aj).length<=10000000;rw[Ev];lk,?_];refine Bk Se (λρ=>∃s,ρ=[s]) _ _ _ _ ?_ #[_,rfl] ?_
  .rintro d hd ρ m nx ⟨s,rfl⟩ hnx
   let#[u,hu,rfl]:=Rs.mp hd;exact#[_,_,_,rfl,hnx [.sh^Aj u] #[_,rfl]]
  rw[iw];refine#[_,rfl,by rw[Ev,Ev];exact Nat.succ_pos _,#[λx hx=>?_,λx hx y hy ka kb e1 e2=>?_],λx hx hmin=>?_]
  .let#[d,hd,rfl]:=Rs.mp hx
   let#[u,hu,rfl]:=Rs.mp hd;exact#[Bn u,rfl,jd _ _]
  .let#[d,hd,rfl]:=Rs.mp hx
   let#[u,hu,rfl]:=Rs.mp hd;let#[d',hd',rfl]:=Rs.mp hy;let#[v,hv,rfl]:=Rs.mp hd';cases e1;cases e2;rfl
  let#[d0,hd0,rfl]:=Rs.mp hx;let#[c,hcm,rfl]:=Rs.mp hd0;have hmin:∀u∈c0::r,A8 (Bn u)^Bn c=t_:=λu hu=>hmin _ (kW^kW hu) _ _ rfl rfl
  have g1:∀u∈N.ts,A8 (Bn u)^Bn c=s_->u∈N'.ts:=λu hu l=>jf λz=>by
   rw[hmin u^(mch u).mpr^.inr #[hu,z]]at l;cases l
  have g2:∀u∈N'.ts,A8 (Bn u)^Bn c=s_->u∈N.ts:=λu hu l=>jf λz=>by
   rw[hmin u^(mch u).mpr^.inl #[hu,z]]at l;cases l
  refine#[_,AH (j:=0) rfl,_,AH (j:=1) rfl,by lk,by show(came.map Aj++went.map Aj).length<=10000000;rw[iT];lk,?_];refine B1 (λd=>A8 (Bn^U3 d)^Bn c) id (λρ=>∃s,ρ=[.sh^Se^Aj c,s]) _ _ _ _ ?_ #[_,rfl] ?_
  .rintro d hd ρ m nx sk ⟨s,rfl⟩ h1 h2
   rw[←iq]at hd;let#[u,hu,rfl]:=Rs.mp hd;refine#[_,_,_,rfl,Bn u,Bn c,rfl,rfl,rfl,?_];rw[JH _ _ rfl];exact DF (λz=>h1 _ #[_,rfl] z) λz=>h2 _ #[_,rfl]^jB.mpr z
  have en:(came.map Aj++went.map Aj).filter (λd=>A8 (Bn^U3 d)^Bn c)=[]:=mq.mpr λd hd l=>by
   rw[←iq]at hd;let#[u,hu,rfl]:=Rs.mp hd;have l:A8 (Bn u)^Bn c=s_:=l
   rcases iP.mp hu with z|z
   .exact(mc u z).2 (SW ok' ok hT hM g2 g1 l (mc u z).1)
   .exact(mw u z).2 (SW ok ok' hM hT g1 g2 l (mw u z).1)
  rw[en];refine#[z0,lyE,lyE,?_];refine Bs #[_,AH (j:=0) rfl,?_];show if(sd=="go")=s_ then _ else _
  refine DF (λ_=>p) λ_=>?_;refine#[_,_,rfl,rfl,?_];show if decide ((1:Int)<(((c0::r).map Aj).length:Int))=s_ then _ else _
  refine DF (λ_=>p) λz=>?_;have z:=of_decide_eq_false^jB.mpr z;rw[Ev,ij]at z;have er:r=[]:=lJ.mp (by lk);subst er;refine#[_,AH (j:=0) rfl,_,AH (j:=0) rfl,_,AH (j:=1) rfl,Fz (B:=1000001) (by cbv) (ich _ On).1 (iU (ich _ On).2.2 (by cbv)),Gd okM.1,_,rfl,?_];have lc0:Cw^Aj c0:=Fz (B:=1000001) (by cbv) (ich _ On).1 (iU (ich _ On).2.2 (by cbv));rw[OA]
  by_cases q1:c0∈M.ts
  .rw[decide_eq_true q1];exact p
  rw[decide_eq_false q1];refine#[_,AH (j:=0) rfl,_,AH (j:=1) rfl,_,AH (j:=1) rfl,lc0,Gd okT.1,_,rfl,?_];rw[OA]
  by_cases q2:c0∈T.ts
  .rw[decide_eq_true q2];exact p
  rw[decide_eq_false q2]
  have one:∀u,u≠c0->(u∈N.ts↔u∈N'.ts):=λu hu=>by
   have no:u∉[c0]:=λz=>hu^Re.mp z;constructor
   .exact λg=>jf λz=>no^(mch u).mpr^.inr #[g,z]
   .exact λg=>jf λz=>no^(mch u).mpr^.inl #[g,z]
  have al:∀u,u∈M.ts↔u∈T.ts:=by
   rcases(mch c0).mp On with z|z
   .exact aN ok ok' hM hT z.2 z.1 one q2
   .exact λu=>(aN ok' ok hT hM z.2 z.1 (λu hu=>(one u hu).symm) q1 u).symm
  refine#[z0,z0,z2,ly,ly0,?_];rw[MT (JE hc λu hu=>(al u).mpr hu)^JE hw λu hu=>(al u).mp hu];exact p
end
def T2(t:Aw):("tie ":Str)++t.a++sp++t.b++sp++C7 t.len=Ga t:=by
 rw[←XE];show _=("tie ":Str)++(t.a++sp++(t.b++sp++C7 t.len));rw[Cz,Cz,Cz,Cz,Cz,Cz]
def RR{xs:u_ Str}{ts:u_ Aw}(ok:(#[xs,ts]:Net).Ok){i:Nat}{t:Aw}(ht:ts[i]?=P3 t):Qf #[xs,ts.take i] (.lay t.a t.b t.len) #[xs,ts.take (i+1)]:=by
 have hm:t∈ts:=j6 ht;let#[m1,m2,m3,m4,m5]:=ok.tin t hm;have hne:t.a≠t.b:=λz=>by rw[z]at m3;exact BD _ m3
 have elo:lo t.a t.b=t.a:=if_pos m3;have ehi:hi t.a t.b=t.b:=if_pos m3;refine#[m1,m2,hne,m4,m5,rfl,?_];rw[elo,ehi];show(ts.take (i+1)).Perm (t::(ts.take i).filter _);rw[EZ ht,lH.mpr λu hu=>?_]
 .exact kC _ _
 .rw[lX]
  refine jB.mpr λz=>?_;have hu':=l7 hu
  have:=(Dz hne (ok.tin u hu').2.2.1).mp^betwB_iff.mp z
  rw[elo,ehi]at this
  have e:ts=ts.take i++t::ts.drop (i+1):=by
   let#[hi,e]:=Uf.mp ht;rw[←e,←jt hi,pI]
  have tr:=ok.trise;rw[show(#[xs,ts]:Net).ts=ts from rfl,e,nR]at tr
  rcases tr.2.2 u hu t On with g|⟨_,g⟩
  .rw[this.1]at g;exact BD _ g
  .rw[this.2]at g;exact BD _ g
def L6{xs:u_ Str}{ts:u_ Aw}(ok:(#[xs,ts]:Net).Ok)(i:Nat):(#[xs,ts.take i]:Net).Ok:=#[ok.names,ok.rise,λu hu=>ok.tin u^l7 hu,lm (oK _ _) ok.trise]
def W8{ts:u_ Aw}{pre post:u_ D}{d:D}(h:ts.map Aj=pre++d::post):∃t,ts[pre.length]?=P3 t/\d=Aj t:=by
 have e:(ts.map Aj)[pre.length]?=P3 d:=by rw[h,jY^Sc _,nS];rfl
 rw[XV]at e;let#[t,h1,h2]:=io.mp e;exact#[t,h1,h2.symm]
section
variable {ss:u_ Slot}{n:Sg}{Pd:D->Sg->Prop}{C:Addr}
def Q8(h:LG C ss n Pd):Es C (EE Pd) n (ss++Tk 7 .no):=by
 let#[t,b,rfl,tm,hn,p]:=h;have szl:=PySem.sizeLine_eq;unfold Es;refine#[9,rfl,by cbv,by cbv,by lk,λr r0 r9=>?_];obtain⟨k,ek⟩:∃k:Nat,2+r=(k:Int):=#[(2+r).toNat,by lk];refine#[k,by rw[←ek],by lk,(by show 2<=n.n - 1;lk),λxs lx hx hr=>?_];refine#[xs,20,rfl,hx,hr,by lk,by cbv,(by show 200<=n.n - 1 - 2;lk),λts m ok lt hm=>?_];have hm:n.n - 1 - 2<=m+200:=hm;have okN0:okN #[xs,ts]:=#[ok,by show xs.length<=25;lk,by show ts.length<=60;lk];refine#[by show(xs.map D.str).length<=10000000;rw[Ev];lk,?_];refine Bk gK (λρ=>∃s1,ρ=[s1]) _ _ _ _ ?_ #[_,rfl] ?_
 .rintro d hd ρ n' nx ⟨s1,rfl⟩ hnx
  let#[x,hxm,rfl]:=Rs.mp hd;have fin:=hnx [.sh^.str x] #[_,rfl];rw[show gK^.str x=.str^IP x from rfl,←XG]at fin;exact#[Us^hx x hxm,fin]
 refine#[_,rfl,rfl,by show(ts.map Aj).length<=10000000;rw[Ev];lk,?_];refine Bk f9 (λρ=>∃s1 s2 s3,ρ=[s1,s2,s3]) _ _ _ _ ?_ #[_,_,_,rfl] ?_
 .rintro d hd ρ n' nx ⟨s1,s2,s3,rfl⟩ hnx
  let#[u,hu,rfl]:=Rs.mp hd;let#[ha,hb,_,h1,h2]:=Wx ok hu;have la:=Nh ha;have lb:=Nh hb;have ln:=Ng h1 h2;have fin:=hnx [.sh^.str u.a,.sh^.str u.b,.sh^.int u.len] #[_,_,_,rfl];rw[show f9^Aj u=.str^Ga u from rfl,←T2 u]at fin;have k1:("tie ":Str).length=4:=by decide +kernel
  have k2:sp.length=1:=by decide +kernel
  have l1:(("tie ":Str)++u.a).length=4+u.a.length:=by rw[len_app,k1]
  have l2:(("tie ":Str)++u.a++sp).length=4+u.a.length+1:=by rw[len_app,l1,k2]
  have l3:(("tie ":Str)++u.a++sp++u.b).length=4+u.a.length+1+u.b.length:=by rw[len_app,l2]
  have l4:(("tie ":Str)++u.a++sp++u.b++sp).length=4+u.a.length+1+u.b.length+1:=by rw[len_app,l3,k2]
  have k2':(" ":Str).length=1:=k2;have ln':(jH^toString u.len).length<=7:=ln;exact#[rfl,rfl,by rw[k1];lk,by rw[l1,k2'];lk,by show(("tie ":Str)++u.a++sp).length+_<=_;rw[l2];lk,by show(("tie ":Str)++u.a++sp++u.b).length+_<=_;rw[l3,k2'];lk,S1 h1 h2,by rw[szl];lk,by show(("tie ":Str)++u.a++sp++u.b++sp).length+_<=_;rw[l4];lk,fin]
 have e:(linesOf #[xs,ts]).map D.str=([]++(xs.map D.str).map gK)++([]++(ts.map Aj).map f9):=by
  unfold linesOf;rw[iq,jb,jb,jb,jb,iw,iw];rfl
 refine#[_,_,rfl,rfl,?_,?_]
 .rw[←iT,←e,Ev]
  unfold linesOf;rw[iT,Ev,Ev];show xs.length+ts.length<=sizeLine;lk
 rw[←e];refine#[Fp xs,λl hl=>#[rfl,λu hu=>?_]];have hl:n.w l=r_:=hl;have lu:l≠u:=Kb (CC ..) hu;generalize en1:((#[m,n.w]:Sg).put l^.pl^.lst^xs.map .str).put u^.pl^.dit [] []=n1;have n1n:n1.n=m:=by rw[←en1];rfl
 have w1:n1.w l=P3^.pl^JC xs:=by rw[←en1];exact(BO lu).trans (CC ..)
 have w2:n1.w u=P3^.pl^HD []:=by rw[←en1];exact CC ..
 refine E9 (all:=ts.map Aj) (λpre m' ρ=>∃(ps:u_ Str) (us:u_ Aw) (s6 s7 s8:Slot),m'.n=m/\m'.w l=P3^.pl^JC ps/\m'.w u=P3^.pl^HD us/\LH #[xs,ts.take pre.length] ps us/\ρ=[.fd,.sh^tD t b,.sh^.tup^xs.map .str,.sh^.tup^ts.map Aj,.ow^.lst^(linesOf #[xs,ts]).map .str,.sh^Jk (.ob l)^.ob u,s6,s7,s8]) ?_ ?_ _ [] _ _ rfl #[xs,[],_,_,_,n1n,w1,w2,#[.refl _,.refl _,L6 ok 0,okN0.2.1,iX _],rfl]
 .rintro m' ρ ⟨ps,us,s6,s7,s8,mn,v1,v2,st,rfl⟩
  rw[Ev,m6]at st;refine#[t,b,#[xs,ts],rfl,okN0,by show xs.length<=24;lk,tm,λa T n' hT ha nn' wa oth=>#[z2,?_]];have la:l≠a:=Kb v1 ha;have ua:u≠a:=Kb v2 ha;exact p a l u #[xs,ts] T ps us n' (by lk) #[wa,okN0,hT.okN okN0,tm] hT ((oth l^by rw[v1];exact λz=>by cases z).trans v1) ((oth u^by rw[v2];exact λz=>by cases z).trans v2) la.symm ua.symm lu st (by show xs.length<=10;lk) lt
 .rintro pre d post m' ρ nx hall ⟨ps,us,s6,s7,s8,mn,v1,v2,st,rfl⟩ hnx
  let#[v,hv,rfl]:=W8 hall;rw[iT,jC]at hnx;generalize pre.length=i at hv hnx st;refine#[rfl,rfl,(by cbv:4<=sizeLine),l,u,#[xs,ts.take i],#[xs,ts.take (i+1)],ps,us,.lay v.a v.b v.len,rfl,lu,v1,v2,st,RR ok hv,#[L6 ok _,okN0.2.1,iU (List.length_take_le' ..) okN0.2.2],λn' ps' us' en' q1 q2 st' oth=>?_];exact hnx n' _ #[ps',us',_,_,_,en'.trans mn,q1,q2,st',rfl]
end
def e8(C:Ch):Af:=(Ac (A6 7^Fk JZ^AD (A4 1)^AD (AM^AB 3)^AD (AM^a9 Pq (AB 4) D4^Jc^wC^D.int 12)^AD (AM^AB 5) AS)
 (Ac (DH 8^Ct^AE (Ba C "net" (Hs C) (AB 2) AS) AT)
 (Ac (DH 9^Ct^AE (Ba C "thin" (Hr C) (AB 2) AS) AT)
 (Ac (A6 10^Ae (JU C)^AD (AM^AB 2)^AD (AM^AB 7) AS)
 (Ac (C1^Ae Qd^AD (AM^AB 3)^AD (AM^AB 7) AS)
 (Ac (SJ 8 "list" Hb^AE (Ba C "net" (Hs C) (AB 2) AS) AT)
 (Ac (SJ 9 "list" Hb^AE (Ba C "thin" (Hr C) (AB 2) AS) AT)
 (A_ (FJ (Ab^AZ (FN s_) (Bi Ko^AE (AZ A2 (Al 8)^wC^D.int 1) AT)^Bi Ko^AE (Fk G_^AD (AM^AB 3) AS) AT)^Dh^Ab^Fk JV^AD (AM^AB 7)^AD (BB^Al 8)^AD (BB^Al 9)^AD (AM^AB 10) AS) (Aq^wC^D.bl t_) Au))))))))
def pool12:u_ Str:=words26.take 12
def MH:∀x∈pool12,EU x:=λx hx=>by
 let#[i,hi,e]:=k8.mp^l7 (show x∈words26.take 12 from hx)
 have:=Jb i hi
 unfold Cq at this;rw[ia,Go hi]at this;rw[←e];exact this
def Yw:pool12.Nodup:=by
 have h:(pool12.map cs).Nodup:=by decide +kernel
 exact(lY.mp h).imp λ{a b} z e=>z^by rw[e]
def WY:cutD (words26.map D.str) r_^P3 12=pool12.map D.str:=by with_unfolding_all rfl
def V5(w:Ch->v_ Wc)(d:Dd):Dp.FL w^DU d=DU d/\Ef w^DU d=[]:=by cases d <;>exact#[rfl,rfl]
def cE{w:Ch->v_ Wc}{l t:Ch}{x y:D}(h1:w l=P3^.pl x)(h2:w t=P3^.pl y):Ef w^.tup [.ob l,.ob t]=[l,t]:=by
 show Ir w^.ob l++(Ir w^.ob t++[])=_;rw[Do h1,Do h2];rfl
structure dD (C:Ch) (t b:Int) (k:Nat) (n:Sg) (a l tt:Ch) (N M:Net) (ps:List Str) (us:List Aw):Prop where
 nn:5*k<=n.n
 kp:VX C n a t b N M
 tn:IsT N t b M
 wl:n.w l=P3 (.pl^JC ps)
 wt:n.w tt=P3 (.pl^HD us)
 al:a≠l
 at':a≠tt
 lt:l≠tt
 st:LH N ps us
 l1:N.ps.length+k<=18
 l2:N.ts.length+k<=40
def gm(a l tt:Ch)(kk:Int)(r:u_ Slot):u_ Slot:=[.no,.fd,.sh^.ob a,.sh^Jk (.ob l)^.ob tt,.sh^.lst^words26.map .str,.sh^.int kk]++r
def bF{C:Ch}{kk:Int}(k0:0<=kk)(k4:kk<=4){t b:Int}{a l tt:Ch}{N M:Net}{ps:u_ Str}{us:u_ Aw}{k:Nat}{n:Sg}{D2:E2}{s6 s7 s8 s9 s10:Slot}
  (I:dD C t b (k+1) n a l tt N M ps us) (q:∀(n':Sg) (N' M':Net) (ps':u_ Str) (us':u_ Aw) (s7 s8 s9 s10:Slot),dD C t b k n' a l tt N' M' ps' us'->D2.nx n'^gm a l tt kk [s6,s7,s8,s9,s10]):
  e8 C D2 n (gm a l tt kk [s6,s7,s8,s9,s10]):=by
 let#[nn,kp,hT0,wl,wt,al,at',lt,st,l1,l2]:=I;have wa:=kp.1;have okn:=kp.2.1;have okM:=kp.2.2.1;have tm:=kp.2.2.2;have el:=Rg (N':=N) st;unfold e8;refine#[[l,tt],[.fd,.sh^Jk (JC ps)^HD us,.sh^.lst^pool12.map .str,.sh^.int kk],?_,?_,?_]
 .show [Slot.fd,.sh^Dp.FL n.w^Jk (.ob l)^.ob tt,.sh^.lst^cutD (words26.map D.str) r_^P3 12,.sh^.int kk]=_
  rw[(NC wl wt).1,WY]
 .show([]:u_ Ch)++(Ef n.w^Jk (.ob l)^.ob tt++([]++([]++[])))=_
  rw[(NC wl wt).2];rfl
 refine#[N,ps,us,pool12,kk,rfl,st,Yw,MH,by cbv,by cbv,λx hx=>okn.1.names x^st.1.mem_iff.mpr hx,by lk,k0,k4,(by show 5<=n.n;lk),λd m hd hm=>#[Zh d,?_]];have hm:n.n<=m+5:=hm;rw[Sg.back_drop];let#[N',dN,okN',ln1,ln2]:=Rf st MH (by lk) (by lk) hd;refine#[a,_,_,rfl,wa,by cbv,a,t,b,N,M,rfl,wa,dJ,?_];refine#[a,_,_,rfl,wa,by cbv,a,t,b,N,M,rfl,wa,dJ,?_];refine#[a,t,b,N,M,N',d,rfl,#[wa,okn,okM,tm],#[by lk,by lk],dN,okN',λT came went x1 x2 hT hc hw e1 e2 x12=>?_];have okT:=hT.okN okN';have e1:n.w x1=r_:=e1;have e2:n.w x2=r_:=e2;have n1a:a≠x1:=Kb wa e1;have n2a:a≠x2:=Kb wa e2;have n1l:l≠x1:=Kb wl e1;have n2l:l≠x2:=Kb wl e2;have n1t:tt≠x1:=Kb wt e1;have n2t:tt≠x2:=Kb wt e2;obtain⟨n2,en2⟩:∃n2,n2=YA ((⟨m,n.w⟩:Sg).put a^kc C t b N' T) x1 x2 came went:=#[_,rfl];rw[←en2];have n2n:n2.n=m:=by rw[en2];rfl
 have w1:n2.w x1=P3^.pl^.lst^came.map Aj:=by rw[en2];exact(BO x12).trans (CC ..)
 have w2:n2.w x2=P3^.pl^.lst^went.map Aj:=by rw[en2];exact CC ..
 have w3:n2.w a=P3^kc C t b N' T:=by rw[en2];exact(BO n2a).trans^(BO n1a).trans (CC ..)
 have w4:n2.w l=P3^.pl^JC ps:=by rw[en2];exact(BO n2l).trans^(BO n1l).trans^(BO al.symm).trans wl
 have w5:n2.w tt=P3^.pl^HD us:=by rw[en2];exact(BO n2t).trans^(BO n1t).trans^(BO at'.symm).trans wt
 refine#[l,tt,N,N',ps,us,d,rfl,lt,w4,w5,st,dN,okN',λn3 ps' us' en3 v4 v5 st' oth=>?_];have v1:n3.w x1=P3^.pl^.lst^came.map Aj:=(oth _ n1l.symm n1t.symm).trans w1;have v2:n3.w x2=P3^.pl^.lst^went.map Aj:=(oth _ n2l.symm n2t.symm).trans w2;have v3:n3.w a=P3^kc C t b N' T:=(oth _ al at').trans w3;refine#[_,rfl,rfl,a,_,_,rfl,v3,by cbv,a,t,b,N',T,rfl,v3,_,_,rfl,rfl,(by cbv:1<sizeLine),?_];refine#[_,rfl,rfl,a,_,_,rfl,v3,by cbv,a,t,b,N',T,rfl,v3,_,_,rfl,rfl,(by cbv:1<sizeLine),?_];refine#[_,AH (j:=1) rfl,_,rfl,Jn okN',[l,tt],[.sh^Jk (JC ps')^HD us'],?_,?_,?_]
 .show [Slot.sh^Dp.FL n3.w^Jk (.ob l)^.ob tt]=_
  rw[(NC v4 v5).1]
 .show Ef n3.w^Jk (.ob l)^.ob tt++[]=_
  rw[(NC v4 v5).2];rfl
 refine#[N',ps',us',rfl,st',Kq N',?_];rw[Mh];refine#[_,rfl,Jn okN',?_];refine L_ ?_;refine#[[x1,x2],[.sh^DU d,.br^.lst [Bx N,Bx N'],.br^.lst [Bx M,Bx T],.sh^.tup [.lst^came.map Aj,.lst^went.map Aj]],?_,?_,?_]
 .show [Slot.sh^Dp.FL n3.w^DU d,.br^.lst [Bx N,Bx N'],.br^.lst [Bx M,Bx T],.sh^Dp.FL n3.w^.tup [.ob x1,.ob x2]]=_
  rw[bX v1 v2,(V5 _ _).1]
 .show Ef n3.w^DU d++([]++([]++(Ef n3.w^.tup [.ob x1,.ob x2]++[])))=_
  rw[cE v1 v2,(V5 _ _).2];rfl
 refine#[t,b,d,N,N',M,T,came,went,rfl,okn,okN',okM,okT,hT0,hT,hc,hw,rfl,?_];rw[Mh];refine Bs ?_;exact q _ N' T ps' us' _ _ _ _ #[by show 5*k<=n3.n;lk,#[v3,okN',okT,tm],hT,v4,v5,al,at',lt,st',by lk,by lk]
def Q6{C:Ch}{n0:Sg}(hn0:400<=n0.n):Td C {nx:=λ_ _=>False,rt:=λd _=>d=.bl s_} n0 (.no::.fd::Tk 9 .no):=by
 unfold Td;refine#[rfl,by lk,λt b b0 bt tt=>?_];have tm:Vo t b:=#[b0,by lk,by lk,tt];refine#[t,b,rfl,tm,(by show 210<=n0.n - 1;lk),λa l u N T ps us n1 nn kp hT wl wu al au lu st lp lt=>?_];have nn:n0.n - 1<=n1.n+210:=nn;refine#[rfl,rfl,rfl,?_];refine#[5,rfl,by cbv,by cbv,(by lk),λkk k0 k5=>?_];refine#[6,rfl,#[by cbv,by cbv],?_];refine ML (λk n ρ=>∃N M ps us s6 s7 s8 s9 s10,dD C t b k n a l u N M ps us/\ρ=gm a l u kk [s6,s7,s8,s9,s10]) (λ_ _ _=>rfl) ?_ _ _ _ #[N,T,ps,us,_,_,_,_,_,#[?_,kp,hT,wl,wu,al,au,lu,st,?_,?_],rfl]
 .rintro k d n ρ nx ⟨N,M,ps,us,s6,s7,s8,s9,s10,I,rfl⟩ h
  exact bF k0 (by lk) I λn' N' M' ps' us' s7 s8 s9 s10 I'=>h _ _ #[N',M',ps',us',_,_,_,_,_,I',rfl]
 .rw[Dn];show 5*(6:Int).toNat<=n1.n - 1;have:(6:Int).toNat=6:=rfl;lk
 .rw[Dn];have:(6:Int).toNat=6:=rfl;lk
 .rw[Dn];have:(6:Int).toNat=6:=rfl;lk
end Nt
namespace K68
open L2 Dp Nt
section
variable (P:Program)(w:World)(K:Frag)(mg:Str->v_ Value)(base:Heap)(C_Keeper:Addr)
abbrev R9:Prop:=Got P w K mg base "is_whole" 1 ["thing"] .sh R_
abbrev QU:Prop:=Got P w K mg base "is_number" 2 ["thing"] .sh OU
abbrev VL:Prop:=Got P w K mg base "is_name" 1 ["thing"] .sh YR
abbrev VJ:Prop:=Got P w K mg base "rank_of" 1 ["tie"] .sh Ig
abbrev R6:Prop:=Got P w K mg base "order_of" 4 ["ties"] .fr Ex
abbrev Rz:Prop:=Got P w K mg base "steps_of" 1 ["net"] .sh OT
abbrev c5:Prop:=Got P w K mg base "only" 1 ["net","ties"] .sh EK
abbrev VH:Prop:=Got P w K mg base "without" 2 ["net","ties"] .sh G8
abbrev R8:Prop:=Got P w K mg base "left_out" 5 ["net","thin"] .fr JY
abbrev QV:Prop:=Got P w K mg base "is_length" 3 ["word"] .sh SE
abbrev Ll:Prop:=Got P w K mg base "place_fault" 2 ["words","places","ties"] .sh Tq
abbrev Iz:Prop:=Got P w K mg base "is_second_end" 1 ["a","b","places","ties"] .sh YN
abbrev QR:Prop:=Got P w K mg base "tie_fault" 4 ["words","places","ties"] .sh Tp
abbrev OH:Prop:=Got P w K mg base "line_fault" 5 ["words","places","ties"] .sh Tr
abbrev R0:Prop:=Got P w K mg base "read_net" 6 ["lines"] .sh YO
abbrev QS:Prop:=Got P w K mg base "length_of" 2 ["net","thing"] .sh c7
abbrev OG:Prop:=Got P w K mg base "nearest_of" 1 ["waiting","found"] .sh YQ
abbrev OI:Prop:=Got P w K mg base "least_ways" 2 ["net","start"] .fr OW
abbrev fX:Prop:=Got P w K mg base "far" 3 ["net","a","b"] .sh Zt
abbrev YM:Prop:=Got P w K mg base "way_of" 3 ["net","a","b"] .sh c6
abbrev QT:Prop:=Got P w K mg base "is_within" 1 ["length","times","number"] .sh OQ
abbrev R7:Prop:=Got P w K mg base "near_way" 4 ["net","times","tie"] .sh OV
abbrev VI:Prop:=Got P w K mg base "thinned" 5 ["net","times"] .sh LB
abbrev G7:Prop:=dE P w K mg base "Keeper" C_Keeper 1 ["self","times"]^OY C_Keeper
abbrev Ho:Prop:=HA P w K mg base C_Keeper "turn_to" 6 ["self","net"] .sh^DZ C_Keeper
abbrev Ry:Prop:=Got P w K mg base "taken_up" 7 ["lines","times"] .sh^LC C_Keeper
abbrev Qa:Prop:=Got P w K mg base "_law_next" 1 ["_law_feed_here","_law_many"] .sh BU
abbrev OL:Prop:=Got P w K mg base "_law_names" 1 [] .sh JX
abbrev Ln:Prop:=Got P w K mg base "_law_places" 2 ["_law_feed_here","_law_many"] .sh LD
abbrev Lp:Prop:=Got P w K mg base "_law_length" 2 ["_law_feed_here","_law_sort"] .sh LF
abbrev QX:Prop:=Got P w K mg base "_law_ties" 3 ["_law_feed_here","_law_places_here","_law_most"] .sh SA
abbrev OJ:Prop:=Got P w K mg base "_law_times" 2 ["_law_feed_here"] .sh LA
abbrev QY:Prop:=Got P w K mg base "_law_rank" 1 ["_law_tie"] .sh Ig
abbrev OK:Prop:=Got P w K mg base "_law_order" 4 ["_law_ties_here"] .fr Ex
abbrev Lo:Prop:=Got P w K mg base "_law_net_of" 1 ["_law_state"] .sh G_
abbrev QZ:Prop:=Got P w K mg base "_law_pair" 1 ["_law_a","_law_b"] .sh JW
abbrev VM:Prop:=Got P w K mg base "_law_do" 2 ["_law_state","_law_deed_here"] .sh Qd
abbrev Ls:Prop:=HA P w K mg base C_Keeper "come" 7 ["self","name"] .sh^OZ C_Keeper
abbrev F_:Prop:=HA P w K mg base C_Keeper "ask_place" 1 ["self","name"] .sh^GA C_Keeper
abbrev OP:Prop:=HA P w K mg base C_Keeper "far" 4 ["self","a","b"] .sh^OX C_Keeper
abbrev Qc:Prop:=HA P w K mg base C_Keeper "go" 7 ["self","name"] .sh^YS C_Keeper
abbrev EV:Prop:=HA P w K mg base C_Keeper "ties_between" 2 ["self","a","b"] .fr^G9 C_Keeper
abbrev OO:Prop:=HA P w K mg base C_Keeper "lay" 7 ["self","a","b","length"] .sh^SD C_Keeper
abbrev Ew:Prop:=HA P w K mg base C_Keeper "tie_between" 3 ["self","a","b"] .sh^OR C_Keeper
abbrev Lr:Prop:=HA P w K mg base C_Keeper "take" 7 ["self","a","b"] .sh^OS C_Keeper
abbrev QW:Prop:=Got P w K mg base "_law_told" 8 ["_law_keeper","_law_deed_here"] .sh^JU C_Keeper
abbrev Lm:Prop:=Got P w K mg base "_law_turned" 5 ["_law_before","_law_after"] .sh Hq
abbrev Qb:Prop:=Got P w K mg base "_law_deed" 3 ["_law_feed_here","_law_state","_law_pool","_law_sort"] .sh JZ
abbrev OM:Prop:=Got P w K mg base "_law_begun" 8 ["_law_feed_here","_law_times_here"] .sh^LG C_Keeper
abbrev G6:Prop:=Got P w K mg base "_law_step_right" 6 ["_law_deed_here","_law_nets","_law_thins","_law_told_here"] .sh JV
abbrev ON:Prop:=HA P w K mg base C_Keeper "net" 1 ["self"] .sh^Hs C_Keeper
abbrev Lq:Prop:=HA P w K mg base C_Keeper "thin" 1 ["self"] .sh^Hr C_Keeper
end
def g9{d:jK}{ps:u_ Str}{n:Nat}(c:∀f:Nat->Db,bindArgs d #[(i4 n).map f,[]]=pure^ps.zip^(i4 n).map f)(us:u_ Db)(h:us.length=n):bindArgs d #[us,[]]=pure^ps.zip us:=by
 have e:us=(i4 n).map λi=>us.getD i .none:=by
  apply om <;>simp_all
 rw[e];exact c _
local macro_rules|`(tactic|walk_at "L")=>`(tactic|(first|exact cI|exact cJ|(intro _ _ _ h;repeat (first|(obtain⟨e,_⟩:=h;subst e;rfl)|(obtain⟨_,h⟩:=h)))))
local macro_rules|`(tactic|walk_at "B")=>`(tactic|(intro _ _ _ _ _ _;exact g9 λ_=>rfl))
def Ht(K:Frag)(x:Str)(st:ii):Prop:=∃(f:Ch) (oc:Db) (od an:v_ Ch) (sl:Array^v_ Db) (kV dc pm cd ct:Db),nsIn K mainGlobals x=P3^P3^.ref f/\K.lookup f=P3 #[oc,od,.func^fnOf x x (CG st) (Be st) (AJ st) .none kV dc pm an cd ct,sl]/\codeIn K cd x=s_/\keepIn K^.ref f=s_
def Hn(K:Frag)(x:Str):Prop:=nsIn K mainGlobals x=P3 r_
def Hi(K:Frag)(x:Str)(i:Int):Prop:=∃t,nsIn K mainGlobals x=P3^P3^.int i t
def Ht.mk{K:Frag}{x:Str}{st:ii}{f:Ch}{oc:Db}{od an:v_ Ch}{sl:Array^v_ Db}{kV dc pm cd ct:Db}(a:nsIn K mainGlobals x=P3^P3^.ref f)(l:K.lookup f=P3 #[oc,od,.func^fnOf x x (CG st) (Be st) (AJ st) .none kV dc pm an cd ct,sl])(c:codeIn K cd x=s_)(k:keepIn K^.ref f=s_):Ht K x st:=#[f,oc,od,an,sl,kV,dc,pm,cd,ct,a,l,c,k]
def Hi.mk{K:Frag}{x:Str}{i:Int}{t:Tok}(a:nsIn K mainGlobals x=P3^P3^.int i t):Hi K x i:=#[t,a]
def Hn.mk{K:Frag}{x:Str}(a:nsIn K mainGlobals x=P3 r_):Hn K x:=a
def Hm(K:Frag)(C:Ch)(x q:Str)(st:ii):Prop:=∃(f:Ch) (oc:Db) (od an:v_ Ch) (sl:Array^v_ Db) (kV dc pm cd ct:Db),PySem.W.findIn K (.ref C) x=P3^P3^.ref f/\K.lookup f=P3 #[oc,od,.func^fnOf x q (CG st) (Be st) (AJ st) .none kV dc pm an cd ct,sl]/\codeIn K cd q=s_/\PySem.W.isFn K^.ref f=s_/\keepIn K^.ref f=s_
def Hm.mk{K:Frag}{C:Ch}{x q:Str}{st:ii}{f:Ch}{oc:Db}{od an:v_ Ch}{sl:Array^v_ Db}{kV dc pm cd ct:Db}(a:PySem.W.findIn K (.ref C) x=P3^P3^.ref f)(l:K.lookup f=P3 #[oc,od,.func^fnOf x q (CG st) (Be st) (AJ st) .none kV dc pm an cd ct,sl])(c:codeIn K cd q=s_)(n:PySem.W.isFn K^.ref f=s_)(k:keepIn K^.ref f=s_):Hm K C x q st:=#[f,oc,od,an,sl,kV,dc,pm,cd,ct,a,l,c,n,k]
def Ha(K:Frag)(x y:Str):Prop:=∃f:Ch,nsIn K mainGlobals x=P3^P3^.ref f/\nsIn K mainGlobals y=P3^P3^.ref f
def Ha.mk{K:Frag}{x y:Str}{f:Ch}(a:nsIn K mainGlobals x=P3^P3^.ref f)(b:nsIn K mainGlobals y=P3^P3^.ref f):Ha K x y:=#[f,a,b]
structure C0 (K:Frag) (mg:Str->Option Db) (h:iQ) (C_Keeper:Ch):Prop where
 X:K.In h
 G:h.Ns mainGlobals mg
 c_Keeper:nsIn K mainGlobals "Keeper"=P3 (P3^.ref C_Keeper)
 cl_Keeper:Cls K C_Keeper
 na_Keeper_times:NoAttr K C_Keeper "times"
 na_Keeper_whole:NoAttr K C_Keeper "whole"
 na_Keeper_kept:NoAttr K C_Keeper "kept"
 mk_Keeper:PySem.W.makesIn K C_Keeper=s_
 kp_Keeper:keepIn K^.ref C_Keeper=s_
 h_is_whole:Ht K "is_whole" J1
 h_is_number:Ht K "is_number" IA
 h_is_name:Ht K "is_name" MD
 h_rank_of:Ht K "rank_of" MC
 h_order_of:Ht K "order_of" Jx
 h_steps_of:Ht K "steps_of" Fs
 h_only:Ht K "only" V1
 h_without:Ht K "without" MA
 h_left_out:Ht K "left_out" Jz
 h_tie_texts:Ht K "tie_texts" O7
 h_shown:Ht K "shown" Yo
 h_is_length:Ht K "is_length" IB
 h_place_fault:Ht K "place_fault" FP
 h_is_second_end:Ht K "is_second_end" EL
 h_tie_fault:Ht K "tie_fault" Hy
 h_line_fault:Ht K "line_fault" GG
 h_read_net:Ht K "read_net" Jw
 h_length_of:Ht K "length_of" Hz
 h_nearest_of:Ht K "nearest_of" GF
 h_least_ways:Ht K "least_ways" GH
 h_far:Ht K "far" Z6
 h_way_of:Ht K "way_of" O6
 h_is_within:Ht K "is_within" H_
 h_near_way:Ht K "near_way" Jy
 h_thinned:Ht K "thinned" MB
 h_taken_up:Ht K "taken_up" Jv
 h__law_feed:Ht K "_law_feed" Eb
 h__law_next:Ht K "_law_next" DL
 h__law_names:Ht K "_law_names" GK
 h__law_places:Ht K "_law_places" FR
 h__law_length:Ht K "_law_length" FT
 h__law_ties:Ht K "_law_ties" ID
 h__law_times:Ht K "_law_times" GI
 h__law_rank:Ht K "_law_rank" IE
 h__law_order:Ht K "_law_order" GJ
 h__law_net_of:Ht K "_law_net_of" FS
 h__law_pair:Ht K "_law_pair" IF
 h__law_do:Ht K "_law_do" ME
 h__law_told:Ht K "_law_told" IC
 h__law_turned:Ht K "_law_turned" FQ
 h__law_deed:Ht K "_law_deed" IG
 h__law_begun:Ht K "_law_begun" GL
 h__law_step_right:Ht K "_law_step_right" DK
 h_law:Ht K "law" J0
 m_Keeper___init__:Hm K C_Keeper "__init__" "Keeper.__init__" A7
 m_Keeper_turn_to:Hm K C_Keeper "turn_to" "Keeper.turn_to" Dl
 m_Keeper_come:Hm K C_Keeper "come" "Keeper.come" FW
 m_Keeper_ask_place:Hm K C_Keeper "ask_place" "Keeper.ask_place" C2
 m_Keeper_far:Hm K C_Keeper "far" "Keeper.far" GP
 m_Keeper_go:Hm K C_Keeper "go" "Keeper.go" IH
 m_Keeper_ties_between:Hm K C_Keeper "ties_between" "Keeper.ties_between" CU
 m_Keeper_lay:Hm K C_Keeper "lay" "Keeper.lay" GO
 m_Keeper_tie_between:Hm K C_Keeper "tie_between" "Keeper.tie_between" Ci
 m_Keeper_take:Hm K C_Keeper "take" "Keeper.take" FV
 m_Keeper_net:Hm K C_Keeper "net" "Keeper.net" GN
 m_Keeper_thin:Hm K C_Keeper "thin" "Keeper.thin" FU
 m_Keeper_lines:Hm K C_Keeper "lines" "Keeper.lines" J3
 a_far_ways:Ha K "far" "far_ways"
 z0:Hn K "all"
 z1:Hn K "bool"
 z2:Hn K "enumerate"
 z3:Hn K "int"
 z4:Hn K "isinstance"
 z5:Hn K "len"
 z6:Hn K "list"
 z7:Hn K "max"
 z8:Hn K "min"
 z9:Hn K "range"
 z10:Hn K "repr"
 z11:Hn K "reversed"
 z12:Hn K "sorted"
 z13:Hn K "str"
 z14:Hn K "tuple"
 z15:Hn K "zip"
 v0:Hi K "MOST_SIGNS" 8
 v1:Hi K "MOST_NUMBER" 1000000
 v2:Hi K "MOST_PLACES" 24
 v3:Hi K "MOST_TIES" 60
def Ctx(P:ic)(w:ip)(K:Frag)(mg:Str->v_ Db)(base h:iQ)(C:Ch):Prop:=C0 K mg h C
section
variable {P:Program}{w:World}{K:Frag}{mg:Str->v_ Value}{h base:Heap}{x:Str}{st:Stmt}
def Ht.fn(X:K.In h)(G:h.Ns mainGlobals mg)(H:Ht K x st):∃f fd,mg x=P3^.ref f/\Fun K x x st f fd:=by
 let#[f,oc,od,an,sl,kV,dc,pm,cd,ct,a,l,c,k]:=H;exact#[f,_,mg_of X G a,Np (st:=st) l c k]
variable {C:Addr}
def C0.T(A:C0 K mg h C):Txt K mg:=#[mg_none_of A.X A.G A.z0,mg_none_of A.X A.G A.z1,mg_none_of A.X A.G A.z2,mg_none_of A.X A.G A.z3,mg_none_of A.X A.G A.z4,mg_none_of A.X A.G A.z5,mg_none_of A.X A.G A.z6,mg_none_of A.X A.G A.z7,mg_none_of A.X A.G A.z8,mg_none_of A.X A.G A.z9,mg_none_of A.X A.G A.z10,mg_none_of A.X A.G A.z11,mg_none_of A.X A.G A.z12,mg_none_of A.X A.G A.z13,mg_none_of A.X A.G A.z14,mg_none_of A.X A.G A.z15,(let #[t,e]:=A.v0;#[t,mg_of A.X A.G e]),(let #[t,e]:=A.v1;#[t,mg_of A.X A.G e]),(let #[t,e]:=A.v2;#[t,mg_of A.X A.G e]),(let #[t,e]:=A.v3;#[t,mg_of A.X A.G e])]
def Ctx.got{k:Nat}{ps:u_ Str}{κ:Kd}{W:W2}(A:Ctx P w K mg base h C)(H:Ht K x st)
  (ok:∀{f:Ch}{fd:jK},Txt K mg->Fun K x x st f fd->mg x=P3^.ref f->Binds K fd ps []->FnOk P w K mg base GC k f fd ps^T6 K κ W ps.length)
  (hW:∀ss n P,W ss n P->ss.length=ps.length:=by walk_at "L") (hb:∀(kV doc pm:Db) (an:v_ Ch) (cdv ct:Db) (us:u_ Db),us.length=ps.length->bindArgs (fnOf x x (CG st) (Be st) (AJ st) .none kV doc pm an cdv ct) #[us,[]]=pure^ps.zip us:=by walk_at "B"):Got P w K mg base x k ps κ W:=by
 let#[f,fd,m,F]:=H.fn A.X A.G;exact#[f,fd,ok A.T F m^F.binds hb,m,F.kp,F.binds hb,hW]
def Ctx.gotM{q:Str}{k:Nat}{ps:u_ Str}{κ:Kd}{W:W2}(A:Ctx P w K mg base h C)(H:Hm K C x q st)
  (ok:∀{f:Ch}{fd:jK},Txt K mg->Fun K x q st f fd->FnOk P w K mg base GC k f fd ps^T6 K κ W ps.length)
  (hW:∀ss n P,W ss n P->ss.length=ps.length:=by walk_at "L") (hb:∀(kV doc pm:Db) (an:v_ Ch) (cdv ct:Db) (us:u_ Db),us.length=ps.length->bindArgs (fnOf x q (CG st) (Be st) (AJ st) .none kV doc pm an cdv ct) #[us,[]]=pure^ps.zip us:=by walk_at "B"):HA P w K mg base C x k ps κ W:=by
 let#[f,oc,od,an,sl,kV,dc,pm,cd,ct,a,l,c,n,k]:=H;have F:=Np (st:=st) l c k;exact#[f,_,ok A.T F,#[a,n,k],F.binds hb,hW]
def Ctx.gotC{k:Nat}{ps:u_ Str}{W:W2}(A:Ctx P w K mg base h C)
  (ok:∀{f:Ch}{fd:jK},Txt K mg->Fun K "__init__" "Keeper.__init__" A7 f fd->FnOk P w K mg base GC k f fd ps^T6 K .sh W ps.length)
  (hW:∀ss n P,W ss n P->ss.length=ps.length:=by walk_at "L") (hb:∀(kV doc pm:Db) (an:v_ Ch) (cdv ct:Db) (us:u_ Db),us.length=ps.length->bindArgs (fnOf "__init__" "Keeper.__init__" (CG A7) (Be A7) (AJ A7) .none kV doc pm an cdv ct) #[us,[]]=pure^ps.zip us:=by walk_at "B"):dE P w K mg base "Keeper" C k ps W:=by
 let#[f,oc,od,an,sl,kV,dc,pm,cd,ct,a,l,c,n,k]:=A.m_Keeper___init__;have F:=Np (st:=A7) l c k;exact#[f,_,ok A.T F,#[A.mk_Keeper,a,n,A.kp_Keeper],mg_of A.X A.G A.c_Keeper,F.binds hb,hW]
end
section
variable {P:Program}{w:World}{K:Frag}{mg:Str->v_ Value}{base:Heap}
variable {h:Heap}{C_Keeper:Addr}(A:Ctx P w K mg base h C_Keeper)
include A
omit A in
def O5:AY ["thing"] ["thing"]^AJ J1:=by walk_at "s"
def PU:R9 P w K mg base:=A.got A.h_is_whole λT F m b=>EN F O5 (λhr=>(AI^AX^N2 (Ku ZK (dv 0) rfl T.Gag rfl T.Gaq (by decide +kernel))^Hg^X1 (Ku XN (dv 0) rfl T.Gag rfl T.Gas (by decide +kernel)))) O_
omit A in
def M5:AY ["thing"] ["thing"]^AJ IA:=by walk_at "s"
def NW:QU P w K mg base:=A.got A.h_is_number λT F m b=>have pR:=PU A;by
 let#[_,Gac]:=T.Gac;exact EN F M5 (λhr=>(AI^AX^N2 (cg hr pR^AA (AV^dv 0) AN)^Hg^P6 D9 G4 D9 G4 AG (dv 0) (EH rfl Gac))) NJ
omit A in
def Qz:AY ["thing"] ["thing"]^AJ MD:=by walk_at "s"
def RI:VL P w K mg base:=A.got A.h_is_name λT F m b=>by
 let#[_,Gah]:=T.Gah;exact EN F Qz (λhr=>(AF (Ax (DTW.dt^DV (C_^Ej (Ku S6 (dv 0) rfl T.Gag rfl T.Gam (by decide +kernel)))^Ce^C_^Xu D9 G4 D9 G4 AG (Aa As Bt rfl T.Gaa PySem.boot_len (AK (dv 0) AU)) (EH rfl Gah)) (AI^AX IX) Ai)
 (AI^AX (Aa (K2 rfl) YL rfl T.Gap nC (AK (Qg [("sign":Str)] [r_] (BL^dv 0) (Am (i:=0) (show jG [("sign":Str)] by decide +kernel) rfl (ZB rfl)) Cf (P6 D9 G4 D9 G4 Ag (dv 0) Ag)^by kernel_rfl) AU))))) Q7
omit A in
def Qy:AY ["tie"] ["tie"]^AJ MC:=by walk_at "s"
def RH:VJ P w K mg base:=A.got A.h_rank_of λT F m b=>EN F Qy (λhr=>(AI^AX^Ao^AC (AW AL Ak (dv 0) AG)^AC (AW AL Ak (dv 0) AG)^AC (AW AL Ak (dv 0) AG) AR)) J5
omit A in
def O3:AY ["ties"] ["ties"]^AJ Jx:=by walk_at "s"
def IK:R6 P w K mg base:=A.got A.h_order_of λT F m b=>have pS:=RH A;EN F O3 (λhr=>(AI^AX (P1 pS (hr.mono^by cbv) rfl T.Gae rfl (dv 0)))) II
omit A in
def pU:AY ["net","steps","place","a","b","length"] ["net"]^AJ Fs:=#[rfl,rfl,rfl,by decide +kernel,rfl,by decide +kernel,by decide +kernel]
omit A in
def iF{f:Ch}{fd:jK}(F:Fun K "steps_of" "steps_of" Fs f fd):FnOk P w K mg base GC 1 f fd ["net"]^T6 K .sh OT 1:=by
 refine F.ok (k:=0) pU (λvs H Q E h=>h.1) λcdv A outer s H vs Q E hr h=>?_;let#[hl,F0,U,V',M,n,ss,Pd,ra,#[N,rfl,ok,lp,lt,p],q]:=h;let#[dom,fU,uV,vM,fd0,pa]:=ra;cases pa with
 |cons r1 pa=>
 cases pa;let#[v,e1,h1]:=r1.1;cases e1;let#[an,vs,rfl,hn,v1,r,rfl,hp,v2,r2,rfl,ht,e2]:=h1;cases(show r2=[]from e2);let#[ap,us,rfl,hpn,hps]:=hp;let#[at_,ws,rfl,htn,hts]:=ht;have nd:=pU.nd;have hu:=IT hr;have szl:=PySem.sizeLine_eq;have lus:us.length=N.ps.length:=by rw[hps.length,Ev]
 have lws:ws.length=N.ts.length:=by rw[hts.length,Ev]
 refine#[_,BR (Ec (i:=1) nd rfl (ZB rfl) KH)
  (BR (NM jc rfl (Wd^EM ix_tup (pv 0) A3 λ_ _=>rfl) (GV (i:=2) nd rfl (ZB rfl)) (DM (GS hu (pv 1) (pv 2) KH rfl)))
  (BR (NM jc rfl (Wd^EM ix_tup (pv 0) A3 λ_ _=>rfl) (Wg rfl (GU (GV (i:=3) nd rfl (ZB rfl))^GU (GV (i:=4) nd rfl (ZB rfl))^GU (GV (i:=5) nd rfl (ZB rfl)) Sv))
   (BR (GS hu (JD hu (pv 1) (pv 3) λ_ _=>rfl) (pv 4) (pv 5) rfl)^DM (GS hu (JD hu (pv 1) (pv 4) λ_ _=>rfl) (pv 3) (pv 5) rfl)))
  (DM^Fv^bv^pv 1))),?_]
 refine λd hd=>?_;have old0:∀b o,H b=P3 o->Av H d (.dK []) b=P3 o:=λb o e=>by rw[AO^An e hd];exact e
 have SqN:∀H':Hp,(∀b o,H b=P3 o->H' b=P3 o)->SqT K H' an [.ref ap,.ref at_]:=λH' o=>SqT.of^o _ _ hn;have SqP:∀H':Hp,(∀b o,H b=P3 o->H' b=P3 o)->SqT K H' ap us:=λH' o=>SqT.of^o _ _ hpn;have SqW:∀H':Hp,(∀b o,H b=P3 o->H' b=P3 o)->SqT K H' at_ ws:=λH' o=>SqT.of^o _ _ htn;refine#[_,rfl,an,_,0,_,rfl,rfl,SqN _ old0,rfl,ap,rfl,#[_,SqP _ old0],?_];refine TD (xs:=us) (λi Z H'=>∃(as:u_ (Str×Ch)) (x2 x3 x4 x5:v_ V),Z=[P3^.ref an,P3^.ref d,x2,x3,x4,x5]/\as.map (·.1)=N.ps.take i/\Stp H d as (λ_=>[]) H') ?_ (λi Z H' hi #[as,x2,x3,x4,x5,e,hm,st]=>SqP _ st.old) ?_ ?_
 .exact#[[],_,_,_,_,rfl,rfl,old0,hd,AQ,(λx hx=>by cases hx),jI,jI]
 .rintro i x Z H' hx ⟨as,x2,x3,x4,x5,rfl,hm,st⟩
  have hi:i<N.ps.length:=by rw[←lus];exact(Uf.mp hx).1
  let#[x',hx',hAt]:=hps.get (i:=i) (d:=.str N.ps[i]) (by rw[XV,Go hi];rfl);rw[hx]at hx';cases hx';let#[rfl,_]:=hAt;intro q hq;have las:as.length<=i:=by have:=congrArg mi hm;rw[Ev,kE]at this;lk
  have nq:d≠q:=λe=>by rw[←e,st.top]at hq;cases hq
  have las2:(as.map λx=>((.inr x.1:Key),V.ref x.2)).length=as.length:=Ev ..;refine#[_,rfl,_,rfl,d,_,rfl,DPut.k (k:=.inr N.ps[i]) (by rw[AO nq];exact st.top)^by lk,?_];refine#[as++[(N.ps[i],q)],_,_,_,_,rfl,?_,st.more hq ?_ rfl]
  .rw[iq,hm,List.take_succ,Go hi];rfl
  .rw[hm];exact RK (NB ok.rise) hi
 .rintro Z H' ⟨as,x2,x3,x4,x5,rfl,hm,st⟩
  rw[lus,m6]at hm;refine#[_,rfl,an,_,1,_,rfl,rfl,SqN _ st.old,rfl,at_,rfl,#[_,SqW _ st.old],?_];refine TD (xs:=ws) (λi Z H'=>∃(x2 x3 x4 x5:v_ V),Z=[P3^.ref an,P3^.ref d,x2,x3,x4,x5]/\Stp H d as (λp=>(Dr (N.ts.take i) p).map kv) H') #[_,_,_,_,rfl,st] (λi Z H' hi #[x2,x3,x4,x5,e,st]=>SqW _ st.old) ?_ ?_
  .rintro i x Z H' hx ⟨x2,x3,x4,x5,rfl,st⟩
   have hi:i<N.ts.length:=by rw[←lws];exact(Uf.mp hx).1
   let#[x',hx',hAt]:=hts.get (i:=i) (d:=Aj N.ts[i]) (by rw[XV,Go hi];rfl);rw[hx]at hx';cases hx';have hmem:N.ts[i]∈N.ts:=jQ hi;have hsnoc:N.ts.take (i+1)=N.ts.take i++[N.ts[i]]:=by rw[List.take_succ,Go hi];rfl
   have hpre:(N.ts.take (i+1)).Pairwise Bg:=ok.trise.sublist^oK _ _;have hlt2:∀s∈N.ts.take (i+1),cs s.a<cs s.b:=λs hs=>(ok.tin s^l7 hs).2.2.1;rw[hsnoc]at hpre hlt2;have new:=Xr hpre hlt2;have ltk:(N.ts.take i).length<=1000:=by rw[kE];lk
   generalize N.ts[i]=t at hAt hmem hsnoc new;generalize N.ts.take i=ts at hsnoc new st ltk;let#[m1,m2,m3,_]:=ok.tin t hmem;have hab:t.a≠t.b:=λe=>by rw[e]at m3;exact lD _ m3
   let#[ta,tb,tl]:=t;let#[tt,us3,rfl,htt,hit]:=hAt;let#[va,r3,rfl,#[rfl,_],vb,r4,rfl,#[rfl,_],vl,r5,rfl,rfl,e5]:=hit;cases(show r5=[]from e5);rw[←hm]at m1 m2;let#[#[xa,pa],ha,ea]:=Rs.mp m1;let#[#[xb,pb],hb,eb]:=Rs.mp m2;have ea':ta=xa:=ea.symm;have eb':tb=xb:=eb.symm;subst ea' eb';clear ea eb;replace hab:ta≠tb:=hab;replace new:tb∉(Dr ts ta).map (·.1)/\ta∉(Dr ts tb).map (·.1):=new;have ga:=DGet.k (k:=.inr ta) st.top;rw[I_ st.nms ha]at ga;have l1:=S3 ts ta;refine#[tt,_,rfl,SqT.of^st.old _ _ htt,rfl,_,_,rfl,_,_,rfl,_,_,rfl,rfl,?_];refine#[_,rfl,_,rfl,_,rfl,d,_,rfl,ga,_,rfl,pa,_,rfl,DPut.k (k:=.inr tb) (st.inn _ ha).2.2 (by show((Dr ts ta).map kv).length<sizeLine;rw[Ev];lk),?_];have st1:=st.put (tb2:=λp=>(Dr ts p++if ta=p then [(tb,tl)]else []).map kv) ha (kvs:=putK ((Dr ts ta).map kv) (.inr tb)^.int tl) (by rw[Sm new.1,if_pos rfl]) (λq hq=>by rw[if_neg^i_ hq,jA]);have gb:=DGet.k (k:=.inr tb) st1.top;rw[I_ st1.nms hb]at gb;have l2:=S3 ts tb;have ib:=(st1.inn _ hb).2.2;simp only[if_neg hab,jA]at ib;refine#[_,rfl,_,rfl,_,rfl,d,_,rfl,gb,_,rfl,pb,_,rfl,DPut.k (k:=.inr ta) ib (by rw[Ev];lk),?_];refine#[_,_,_,_,rfl,st1.put hb ?_ λq hq=>?_]
   .show(Dr (N.ts.take (i+1)) tb).map kv=_
    rw[hsnoc,PX,Sm new.2];show((Dr ts tb++((if ta=tb then [(tb,tl)]else [])++if tb=tb then [(ta,tl)]else [])).map kv)=_;rw[if_neg hab,if_pos rfl];rfl
   .show(Dr (N.ts.take (i+1)) q).map kv=_
    rw[hsnoc,PX];show((Dr ts q++((if ta=q then [(tb,tl)]else [])++if tb=q then [(ta,tl)]else [])).map kv)=_;rw[if_neg^i_ hq,jA]
  .rintro Z H' ⟨x2,x3,x4,x5,rfl,st⟩
   rw[lws,m6]at st
   have old:∀(f:Ch->Obj) b o,H b=P3 o->F1 H' (as.map (·.2)) f b=P3 o:=λf b o e=>by
    rw[Dy λhm=>by let#[x,hx,e2]:=Rs.mp hm;have:=(st.inn x hx).1;rw[e2,e]at this;cases this];exact st.old b o e
   refine#[_,rfl,(as.map fun(x:Str×Ch)=>x.2),λb hb=>?_,λf=>q (.ref d) (F1 H' (as.map fun(x:Str×Ch)=>x.2) f) (Ea N) n (λb o e=>#[o,old f b o e,λ_ _=>rfl,λ_ _=>rfl]) #[λg hg=>?_,λb k hk=>(fd0.2 b k hk).to (λ_ _ z=>z) (λb vs e=>old f b _ e) (λb o e=>#[o,old f b o e]) λu e=>old f b _ e] (show At K M (F1 H' (as.map fun(x:Str×Ch)=>x.2) f) (Ea N)^.ref d from st.at_ dom hm f) p]
   .let#[x,hx,rfl]:=Rs.mp hb
    exact#[_,(st.inn x hx).2.2]
   .let#[a,r,cells,hf,hcf,hc,rest]:=fd0.1 g hg
    exact#[a,r,cells,old f _ _ hf,hcf,#[hc.1,old f _ _ hc.2],rest]
def IJ:Rz P w K mg base:=A.got A.h_steps_of λ_ F _ _=>iF F
omit A in
def Yn:AY ["net","ties"] ["net","ties"]^AJ V1:=by walk_at "s"
def NT:c5 P w K mg base:=A.got A.h_only λT F m b=>EN F Yn (λhr=>(AI^AX^Ao^AC (AW AL Ak (dv 0) AG)^AC (BC A5 CB rfl T.Gab kh (AK (Aa Rl Zq rfl T.Gae lV (AK (Cp 1) AU)) AU)) AR)) UH
omit A in
def Qx:AY ["net","ties"] ["net","ties"]^AJ MA:=by walk_at "s"
def KO:VH P w K mg base:=A.got A.h_without λT F m b=>have pV:=NT A;EN F Qx (λhr=>(AI^AX^cg hr pV^AA (AV^dv 0)^AA (CJ^Qg [("ties":Str),("tie":Str)] [P3 1,r_] (BL^AW AL Ak (dv 0) AG) (Am (i:=1) (show jG [("ties":Str),("tie":Str)] by decide +kernel) rfl (ZB rfl)) (CS^Ad (BQ hr) DB (dv 1) (Cp 0)^by with_unfolding_all rfl) (dv 1)^by kernel_rfl) AN)) NE
omit A in
def O4:AY ["net","thin"] ["net","thin"]^AJ Jz:=by walk_at "s"
def PR:R8 P w K mg base:=A.got A.h_left_out λT F m b=>have pW:=IK A;EN F O4 (λhr=>(AI^AX^cg hr pW^AA (AV^Qg [("thin":Str),("tie":Str)] [P3 1,r_] (BL^AW AL Ak (dv 0) AG) (Am (i:=1) (show jG [("thin":Str),("tie":Str)] by decide +kernel) rfl (ZB rfl)) (CS^Ad (BQ hr) DB (dv 1) (AW AL Ak (dv 0) AG)^by with_unfolding_all rfl) (dv 1)^by kernel_rfl) AN)) UI
omit A in
omit A in
omit A in
def M6:AY ["word"] ["word"]^AJ IB:=by walk_at "s"
def NX:QV P w K mg base:=A.got A.h_is_length λT F m b=>have pX:=NW A;by
 let#[_,Gac]:=T.Gac;exact EN F M6 (λhr=>(AF (Ax (DTW.dt^DV (Ad B0 DC (dv 0) Ag^Ah _)^DV (Ad B0 DC (AW AL Ak (dv 0) AG) Ag^Ah _)^Ce^Ad KL QQ (Aa As Bt rfl T.Gaa PySem.boot_len (AK (dv 0) AU)) (Aa As Bt rfl T.Gaa PySem.boot_len (AK (BC MZ YF rfl T.Gam boot_str (AK (EH rfl Gac) AU)) AU))^Ah _) (AI^AX IX) Ai)
 (AI^AX^N2 (Aa (K2 rfl) YL rfl T.Gap nC (AK (Qg [("sign":Str)] [r_] (BL^dv 0) (Am (i:=0) (show jG [("sign":Str)] by decide +kernel) rfl (ZB rfl)) Cf (F5 b9 fR (dv 0) Ag^by with_unfolding_all rfl)^by kernel_rfl) AU))^Hg^cg hr pX^AA (AV (BC Mb YK rfl T.Gaq boot_int (AK (dv 0) AU))) AN))) J8
omit A in
def Jq:AY ["words","places","ties"] ["words","places","ties"]^AJ FP:=by walk_at "s"
def KP:Ll P w K mg base:=A.got A.h_place_fault λT F m b=>have pY:=RI A;by
 let#[_,Gad]:=T.Gad;exact EN F Jq (λhr=>(AF (Ax (DTW.dt^DV (Kr^Cp 2)^Ce^Ad B0 DC (Aa As Bt rfl T.Gaa PySem.boot_len (AK (Cp 1) AU)) (EH rfl Gad)^Ah _) (AI^AX AG) Ai)
 (AF (Ax (DTW.dt^DV (Ad (D8 hr) G3 (Aa As Bt rfl T.Gaa PySem.boot_len (AK (dv 0) AU)) AG^Ah _)^Ce^C_^Ej^cg hr pY^AA (AV^AW AL Ak (dv 0) AG) AN) (AI^AX AG) Ai)
 (AF (Ax (DTW.dt^Nx (Kr^Cp 1)^JM^Ad D9 G4 (AW AL Ak (dv 0) AG) (AW AL Ak (Cp 1)^X2 AG)^Ah _) (AI^AX AG) Ai)
 (AI^AX^P4 (Ad KL QQ (Aa As Bt rfl T.Gaa PySem.boot_len (AK (dv 0) AU)) AG^Ah _) AG CT))))) HM
omit A in
def HK:AY ["a","b","places","ties"] ["a","b","places","ties"]^AJ EL:=by walk_at "s"
def HP:Iz P w K mg base:=A.got A.h_is_second_end λT F m b=>EN F HK (λhr=>(AF (Ax (DTW.dt^DV (Ad (BQ hr) DB (dv 1) (Cp 2)^by with_unfolding_all rfl)^Ce^Ad D9 G4 (dv 1) (dv 0)^Ah _) (AI^AX IX) Ai)
 (AI^AX^aX (Zb^Cp 3)^Hg^F5 (b_ hr) fS (Ao^AC (dv 0)^AC (dv 1) AR) (P2 Vv QP (AW AL Ak (Cp 3)^X2 AG) Gp^Gn AG)^Ah _))) Ft
omit A in
def Mx:AY ["words","places","ties"] ["words","places","ties"]^AJ Hy:=by walk_at "s"
def NS:QR P w K mg base:=A.got A.h_tie_fault λT F m b=>have pZ:=NX A;have pc:=HP A;by
 let#[_,Gaf]:=T.Gaf;exact EN F Mx (λhr=>(AF (Ax (Ad B0 DC (Aa As Bt rfl T.Gaa PySem.boot_len (AK (Cp 2) AU)) (EH rfl Gaf)^Ah _) (AI^AX AG) Ai)
 (AF (Ax (DTW.dt^DV (Ad (D8 hr) G3 (Aa As Bt rfl T.Gaa PySem.boot_len (AK (dv 0) AU)) AG^Ah _)^Ce^Ad (BQ hr) DB (AW AL Ak (dv 0) AG) (Cp 1)^by with_unfolding_all rfl) (AI^AX AG) Ai)
 (AF (Ax (DTW.dt^DV (Ad (D8 hr) G3 (Aa As Bt rfl T.Gaa PySem.boot_len (AK (dv 0) AU)) AG^Ah _)^Ce^C_^Ej^cg hr pc^AA (AV^AW AL Ak (dv 0) AG)^AA (AV^AW AL Ak (dv 0) AG)^AA (CJ^Cp 1)^AA (CJ^Cp 2) AN) (AI^AX AG) Ai)
 (AF (Ax (DTW.dt^DV (Ad (D8 hr) G3 (Aa As Bt rfl T.Gaa PySem.boot_len (AK (dv 0) AU)) AG^Ah _)^Ce^C_^Ej^cg hr pZ^AA (AV^AW AL Ak (dv 0) AG) AN) (AI^AX AG) Ai)
 (AI^AX^P4 (Ad KL QQ (Aa As Bt rfl T.Gaa PySem.boot_len (AK (dv 0) AU)) AG^Ah _) AG CT)))))) J4
omit A in
def LL:AY ["words","places","ties"] ["words","places","ties"]^AJ GG:=by walk_at "s"
def LX:OH P w K mg base:=A.got A.h_line_fault λT F m b=>have pd:=KP A;have pf:=NS A;EN F LL (λhr=>(AF (Ax (Ad B0 DC (AW AL Ak (dv 0) AG) Ag^Ah _) (AI^AX^cg hr pd^AA (AV^dv 0)^AA (CJ^Cp 1)^AA (CJ^Cp 2) AN) Ai)
 (AI^AX^P4 (Ad B0 DC (AW AL Ak (dv 0) AG) Ag^Ah _) (cg hr pf^AA (AV^dv 0)^AA (CJ^Cp 1)^AA (CJ^Cp 2) AN) AG))) Ip
omit A in
def ph:AY ["lines","places","ties","row","line","words","fault"] ["lines"]^AJ Jw:=by walk_at "s"
def PP:R0 P w K mg base:=A.got A.h_read_net λT F m b=>have pi:=LX A;EN F ph (λhr=>(AF (Cy (i:=1) ph.nd rfl (ZB rfl) (Bh AR))
 (AF (Cy (i:=2) ph.nd rfl (ZB rfl) (Bh AR))
 (AF (Xw jc rfl rfl T.Gao (pv 0) (Hf rfl (Bc (Am (i:=3) ph.nd rfl (ZB rfl))^Bc (Am (i:=4) ph.nd rfl (ZB rfl)) FH)) (AF (Ar (i:=5) ph.nd rfl (ZB rfl) (fN PySem.F.plainAttrs_str PySem.F.slot_str_split PySem.F.type_str_split W5 Zo (dv 4)^AK Ag AU))
 (AF (Ar (i:=6) ph.nd rfl (ZB rfl) (cg hr pi^AA (AV^dv 5)^AA (CJ^Cp 1)^AA (CJ^Cp 2) AN))
 (AF (Ax (Ad Sz YH (dv 6) CT^Ah _) (AI DA) Ai)
 (AI^Ax (Ad B0 DC (AW AL Ak (dv 5) AG) Ag^Ah _) (AI^Gk 1 PySem.F.plainAttrs_list PySem.F.slot_list_append PySem.F.type_list_append B8 Ie (pv 1)^AC (AW AL Ak (dv 5) AG) AR)^AI^Gk 2 PySem.F.plainAttrs_list PySem.F.slot_list_append PySem.F.type_list_append B8 Ie (pv 2)^AC (Ao^AC (AW AL Ak (dv 5) AG)^AC (AW AL Ak (dv 5) AG)^AC (BC Mb YK rfl T.Gaq boot_int (AK (AW AL Ak (dv 5) AG) AU)) AR) AR)))))
 (AI^AX^Ao^AC (BC A5 CB rfl T.Gab kh (AK (Cp 1) AU))^AC (BC A5 CB rfl T.Gab kh (AK (Cp 2) AU)) AR))))) LP
omit A in
def pj:AY ["net","thing","steps","length","here","there"] ["net","thing"]^AJ Hz:=by walk_at "s"
def NU:QS P w K mg base:=A.got A.h_length_of λT F m b=>have pk:=IJ A;EN F pj (λhr=>(AF (Ax (DTW.dt^DV (C_^Ej (Ku kit_tuple (dv 1) rfl T.Gag rfl T.Gab (by decide +kernel)))^Ce^Ad B0 DC (Aa As Bt rfl T.Gaa PySem.boot_len (AK (dv 1) AU)) AG^Ah _) (AI^AX CT) Ai)
 (AF (Ax (C_^Ej (Aa (K2 rfl) YL rfl T.Gap nC (AK (Qg [("place":Str)] [r_] (BL^dv 1) (Am (i:=0) (show jG [("place":Str)] by decide +kernel) rfl (ZB rfl)) Cf (Ku S6 (dv 0) rfl T.Gag rfl T.Gam (by decide +kernel))^by kernel_rfl) AU))) (AI^AX CT) Ai)
 (AF (Ar (i:=2) pj.nd rfl (ZB rfl) (cg hr pk^AA (AV^dv 0) AN))
 (AF (Ax (Ad (E7 hr) G5 (AW AL Ak (dv 1) AG) (dv 2)^by with_unfolding_all rfl) (AI^AX CT) Ai)
 (AF (Ar (i:=3) pj.nd rfl (ZB rfl) AG)
 (AF (F4 jc rfl (cf rfl T.Gat (AC (dv 1)^AC (P2 Vv QP (dv 1) (Gn AG) Gp) AR)) (Hf rfl (Bc (Am (i:=4) pj.nd rfl (ZB rfl))^Bc (Am (i:=5) pj.nd rfl (ZB rfl)) FH)) (AF (Ax (Ad (E7 hr) G5 (dv 5) (BF hr (dv 2)^dv 4)^by with_unfolding_all rfl) (AI^AX CT) Ai)
 (AI (ZZ (i:=3) pj.nd rfl (ZB rfl) (BF hr (BF hr (dv 2)^dv 4)^dv 5)))))
 (AI^AX^dv 3)))))))) NG
omit A in
def LK:AY ["waiting","found"] ["waiting","found"]^AJ GF:=by walk_at "s"
def LW:OG P w K mg base:=A.got A.h_nearest_of λT F m b=>EN F LK (λhr=>(AI^AX^AW AL Ak (Aa (Ma hr) YI rfl T.Gai oq (AK (Qg [("found":Str),("place":Str)] [P3 1,r_] (BL^Cp 0) (Am (i:=1) (show jG [("found":Str),("place":Str)] by decide +kernel) rfl (ZB rfl)) Cf (Ao^AC (AW AL Ak (BF hr (Cp 0)^dv 1) AG)^AC (dv 1) AR)^by kernel_rfl) AU)) AG)) LQ
omit A in
def pq:AY ["net","start","steps","found","waiting","place","other","step","length"] ["net","start"]^AJ GH:=by walk_at "s"
def FX:OI P w K mg base:=A.got A.h_least_ways λT F m b=>have px:=LW A;have pk:=IJ A;EN F pq (λhr=>(AF (Ar (i:=2) pq.nd rfl (ZB rfl) (cg hr pk^AA (AV^dv 0) AN))
 (AF (Cy (i:=3) pq.nd rfl (ZB rfl) (X5 (dv 1)^Ao^AC AG^AC CT AR))
 (AF (Cy (i:=4) pq.nd rfl (ZB rfl) (Bh^AC (dv 1) AR))
 (AF (Py jc (Kr^Cp 4) (AF (Ar (i:=5) pq.nd rfl (ZB rfl) (cg hr px^AA (CJ^Cp 4)^AA (CJ^Cp 3) AN))
 (AF (Gk 4 PySem.F.plainAttrs_list PySem.F.slot_list_remove PySem.F.type_list_remove (MK hr) ag (pv 4)^AC (dv 5) AR)
 (AI (F4 jc rfl (X0^BF hr (dv 2)^dv 5) (Hf rfl (Bc (Am (i:=6) pq.nd rfl (ZB rfl))^Bc (Am (i:=7) pq.nd rfl (ZB rfl)) FH)) (AF (Ar (i:=8) pq.nd rfl (ZB rfl) (BE A9 BZ (AW AL Ak (BF hr (Cp 3)^dv 5) AG)^dv 7))
 (AI (Ax (Ad (E7 hr) G5 (dv 6) (Cp 3)^by with_unfolding_all rfl) (AF (Gk 4 PySem.F.plainAttrs_list PySem.F.slot_list_append PySem.F.type_list_append B8 Ie (pv 4)^AC (dv 6) AR)
 (AI^TR (i:=3) hr (pv 3) (dv 6)^Ao^AC (dv 8)^AC (dv 5) AR))^AI^Ax (Ad (D8 hr) G3 (dv 8) (AW AL Ak (BF hr (Cp 3)^dv 6) AG)^Ah _) (AI^TR (i:=3) hr (pv 3) (dv 6)^Ao^AC (dv 8)^AC (dv 5) AR) Ai))))))))
 (AI^ZY 3^pv 3)))))) LS
omit A in
def p6:AY ["net","a","b","found"] ["net","a","b"]^AJ Z6:=by walk_at "s"
def cD:fX P w K mg base:=A.got A.h_far λT F m b=>have p7:=FX A;EN F p6 (λhr=>(AF (Ar (i:=3) p6.nd rfl (ZB rfl) (cg hr p7^AA (AV^dv 0)^AA (AV^dv 1) AN))
 (AI^AX^P4 (Ad (cB hr) fV (dv 2) (dv 3)^by with_unfolding_all rfl) (AW AL Ak (BF hr (dv 3)^dv 2) AG) CT))) bY
def QO:Got P w K mg base "far_ways" 3 ["net","a","b"] .sh Zt:=by
 let#[f,a,b]:=A.a_far_ways;let#[f1,fd,ok,m,r]:=cD A;cases m.symm.trans^mg_of A.X A.G a;exact#[f,fd,ok,mg_of A.X A.G b,r]
omit A in
def p8:AY ["net","a","b","found","way","place"] ["net","a","b"]^AJ O6:=by walk_at "s"
def UZ:YM P w K mg base:=A.got A.h_way_of λT F m b=>have p7:=FX A;EN F p8 (λhr=>(AF (Ar (i:=3) p8.nd rfl (ZB rfl) (cg hr p7^AA (AV^dv 0)^AA (AV^dv 1) AN))
 (AF (Ax (Ad (E7 hr) G5 (dv 2) (dv 3)^by with_unfolding_all rfl) (AI^AX CT) Ai)
 (AF (Cy (i:=4) p8.nd rfl (ZB rfl) (Bh AR))
 (AF (Ar (i:=5) p8.nd rfl (ZB rfl) (dv 2))
 (AF (Py jc (Ad Sz YH (dv 5) CT^Ah _) (AF (Gk 4 PySem.F.plainAttrs_list PySem.F.slot_list_append PySem.F.type_list_append B8 Ie (pv 4)^AC (dv 5) AR)
 (AI (Ar (i:=5) p8.nd rfl (ZB rfl) (AW AL Ak (BF hr (dv 3)^dv 5) AG)))))
 (AI^AX (U4 rfl (Cp 4) rfl T.Gab rfl T.Gar)))))))) T9
omit A in
def Mz:AY ["length","times","number"] ["length","times","number"]^AJ H_:=by walk_at "s"
def NV:QT P w K mg base:=A.got A.h_is_within λT F m b=>EN F Mz (λhr=>(AI^AX^F5 D9 G4 (BE NQ Ru (dv 0)^AW AL Ak (dv 1) AG) (BE NQ Ru (dv 2)^AW AL Ak (dv 1) AG)^Ah _)) NI
omit A in
def p9:AY ["net","times","tie","way"] ["net","times","tie"]^AJ Jy:=by walk_at "s"
def PQ:R7 P w K mg base:=A.got A.h_near_way λT F m b=>have p_:=NV A;have qA:=NU A;have qB:=UZ A;EN F p9 (λhr=>(AF (Ar (i:=3) p9.nd rfl (ZB rfl) (cg hr qB^AA (AV^dv 0)^AA (AV^AW AL Ak (dv 2) AG)^AA (AV^AW AL Ak (dv 2) AG) AN))
 (AF (Ax (DTW.dt^DV (Ad Wu ak (dv 3) CT^Ah _)^Ce^C_^Ej^cg hr p_^AA (AV^cg hr qA^AA (AV^dv 0)^AA (AV^dv 3) AN)^AA (AV^dv 1)^AA (AV^AW AL Ak (dv 2) AG) AN) (AI^AX CT) Ai)
 (AI^AX^dv 3)))) LR
omit A in
def qC:AY ["net","times","kept","tie"] ["net","times"]^AJ MB:=by walk_at "s"
def RG:VI P w K mg base:=A.got A.h_thinned λT F m b=>have qD:=PQ A;have pV:=NT A;have pW:=IK A;EN F qC (λhr=>(AF (Cy (i:=2) qC.nd rfl (ZB rfl) (Bh AR))
 (AF (F4 jc rfl (Rc^cg hr pW^AA (AV^AW AL Ak (dv 0) AG) AN) (Am (i:=3) qC.nd rfl (ZB rfl)) (AI^Ax (Ad Wu ak (cg hr qD^AA (AV^cg hr pV^AA (AV^dv 0)^AA (CJ^Cp 2) AN)^AA (AV^dv 1)^AA (AV^dv 3) AN) CT^Ah _) (AI^Gk 2 PySem.F.plainAttrs_list PySem.F.slot_list_append PySem.F.type_list_append B8 Ie (pv 2)^AC (dv 3) AR) Ai))
 (AI^AX^cg hr pV^AA (AV^dv 0)^AA (CJ^Cp 2) AN)))) NF
omit A in
def Fq:AY ["self","times"] ["self","times"]^AJ A7:=by walk_at "s"
def Fx:G7 P w K mg base C_Keeper:=A.gotC λT F=>VT F Fq (λhr=>(AF (Ks A.cl_Keeper A.na_Keeper_times (dv 0)^dv 1)
 (AF (Ks A.cl_Keeper A.na_Keeper_whole (dv 0)^Ao^AC (Ao AR)^AC (Ao AR) AR)
 (AI^Ks A.cl_Keeper A.na_Keeper_kept (dv 0)^Ao^AC (Ao AR)^AC (Ao AR) AR)))) UK
omit A in
def qE:AY ["self","net","before"] ["self","net"]^AJ Dl:=by walk_at "s"
def Bb:Ho P w K mg base C_Keeper:=A.gotM A.m_Keeper_turn_to λT F=>have qF:=PR A;have qG:=RG A;VT F qE (λhr=>(AF (Ar (i:=2) qE.nd rfl (ZB rfl) (Bq A.cl_Keeper A.na_Keeper_kept^dv 0))
 (AF (Ks A.cl_Keeper A.na_Keeper_whole (dv 0)^dv 1)
 (AF (Ks A.cl_Keeper A.na_Keeper_kept (dv 0)^cg hr qG^AA (AV^dv 1)^AA (AV^Bq A.cl_Keeper A.na_Keeper_times^dv 0) AN)
 (AI^AX^Ao^AC (JS^cg hr qF^AA (AV^Bq A.cl_Keeper A.na_Keeper_kept^dv 0)^AA (AV^dv 2) AN)^AC (JS^cg hr qF^AA (AV^dv 2)^AA (AV^Bq A.cl_Keeper A.na_Keeper_kept^dv 0) AN) AR))))) T_
omit A in
def qH:AY ["lines","times","keeper"] ["lines","times"]^AJ Jv:=by walk_at "s"
def PN:Ry P w K mg base C_Keeper:=A.got A.h_taken_up λT F m b=>have qI:=Fx A;have qJ:=Bb A;have qK:=PP A;EN F qH (λhr=>(AF (Ar (i:=2) qH.nd rfl (ZB rfl) (Zd qI (hr.mono^by cbv) rfl (AA (AV^dv 1) AN)))
 (AF (CF^BV A.cl_Keeper qJ (hr.mono^by cbv) (dv 2)^AA (AV^cg hr qK^AA (CJ^Cp 0) AN) AN)
 (AI^AX^dv 2)))) Q3
def Bo:Qa P w K mg base:=A.got A.h__law_next λT F _ _=>ZD F T.Gaa
omit A in
def qL:AY ["_law_names_here"] []^AJ GK:=by walk_at "s"
def FY:OL P w K mg base:=A.got A.h__law_names λT F m b=>EN F qL (λhr=>(AF (Ar (i:=0) qL.nd rfl (ZB rfl) (Bh^AC Ag^AC Ag^AC Ag^AC Ag^AC Ag^AC Ag^AC Ag^AC Ag^AC Ag^AC Ag^AC Ag^AC Ag^AC Ag^AC Ag^AC Ag^AC Ag^AC Ag AR))
 (AI^AX^BE A9 BZ (dv 0)^Bh^AC Ag^AC Ag^AC Ag^AC Ag^AC Ag^AC Ag^AC Ag^AC Ag^AC Ag AR))) LU
omit A in
def qM:AY ["_law_feed_here","_law_many","_law_names_here","_law_at","_law_step"] ["_law_feed_here","_law_many"]^AJ FR:=by walk_at "s"
def KR:Ln P w K mg base:=A.got A.h__law_places λT F m b=>have qN:=FY A;have qO:=Bo A;EN F qM (λhr=>(AF (Ar (i:=2) qM.nd rfl (kT rfl) (MV qN (hr.mono^by cbv) rfl))
 (AF (Ar (i:=3) qM.nd rfl (kT rfl) (cg hr qO^AA (Bm 0)^AA (AV AG) AN))
 (AF (Ar (i:=4) qM.nd rfl (kT rfl) (AW AL Ak (Bh^AC AG^AC AG^AC AG^AC AG AR)^cg hr qO^AA (Bm 0)^AA (AV AG) AN))
 (AI^AX (BC A5 CB rfl T.Gab kh (AK (Aa K1 Tj rfl T.Gae lV (AK (Qg [("_law_names_here":Str),("_law_at":Str),("_law_step":Str),("_law_k":Str)] [P3 2,P3 3,P3 4,r_] (DI.c (He rfl T.Gak (AK (dv 1) AU))) (Am (i:=3) (show jG [("_law_names_here":Str),("_law_at":Str),("_law_step":Str),("_law_k":Str)] by decide +kernel) rfl (ZB rfl)) Cf (AW AL Ak (dv 0)^BE C6 Eu (BE A9 BZ (dv 1)^BE NQ Ru (dv 2)^dv 3) AG)^by kernel_rfl) AU)) AU))))))) J6
omit A in
def Jr:AY ["_law_feed_here","_law_sort"] ["_law_feed_here","_law_sort"]^AJ FT:=by walk_at "s"
def Ee:Lp P w K mg base:=A.got A.h__law_length λT F m b=>have qO:=Bo A;EN F Jr (λhr=>(AF (Ax (Ad B0 DC (dv 1) AG^Ah _) (AI^AX^BE JF OC (BE RE Eu AG AG)^cg hr qO^AA (Bm 0)^AA (AV AG) AN) Ai)
 (AI^AX^BE A9 BZ AG^cg hr qO^AA (Bm 0)^AA (AV^AW AL Ak (Bh^AC AG^AC AG^AC AG AR)^dv 1) AN))) J7
omit A in
def qP:AY ["_law_feed_here","_law_places_here","_law_most","_law_found","_law_sort","_law_k","_law_a","_law_b"] ["_law_feed_here","_law_places_here","_law_most"]^AJ ID:=by walk_at "s"
def NZ:QX P w K mg base:=A.got A.h__law_ties λT F m b=>have qQ:=Ee A;have qO:=Bo A;EN F qP (λhr=>(AF (Cy (i:=3) qP.nd rfl (kT rfl) P5)
 (AF (Ar (i:=4) qP.nd rfl (ZB rfl) (cg hr qO^AA (Bm 0)^AA (AV AG) AN))
 (AF (F4 jc rfl (He rfl T.Gak (AK (cg hr qO^AA (Bm 0)^AA (AV^BE A9 BZ (dv 2) AG) AN) AU)) (Am (i:=5) qP.nd rfl (ZB rfl)) (AI (Ax (Ad KL QQ (Aa As Bt rfl T.Gaa PySem.boot_len (AK (dv 1) AU)) AG^Ah _) (AF (Ar (i:=6) qP.nd rfl (ZB rfl) (cg hr qO^AA (Bm 0)^AA (AV (Aa As Bt rfl T.Gaa PySem.boot_len (AK (dv 1) AU))) AN))
 (AF (Ar (i:=7) qP.nd rfl (ZB rfl) (BE C6 Eu (BE A9 BZ (BE A9 BZ (dv 6) AG)^cg hr qO^AA (Bm 0)^AA (AV^BE JF OC (Aa As Bt rfl T.Gaa PySem.boot_len (AK (dv 1) AU)) AG) AN) (Aa As Bt rfl T.Gaa PySem.boot_len (AK (dv 1) AU))))
 (AI^ZX (i:=3) hr (pv 3) (Ao^AC (AW AL Ak (dv 1) (Aa (U8 rfl) cv rfl T.Gai oq (AK (dv 6)^AK (dv 7) AU)))^AC (AW AL Ak (dv 1) (Aa (U9 rfl) cw rfl T.Gal boot_max (AK (dv 6)^AK (dv 7) AU))) AR)^cg hr qQ^AA (Bm 0)^AA (AV^AW AL Ak (Bh^AC (dv 4)^AC (BE C6 Eu (dv 5) AG) AR)^BE JG Eu (dv 4) AG) AN))) Ai)))
 (AI^AX (BC A5 CB rfl T.Gab kh (AK (Qg [("_law_found":Str),("_law_pair_here":Str)] [P3 3,r_] (BL (Aa (F8 rfl) OD rfl T.Gae lV (AK (Cp 3) AU))) (Am (i:=1) (show jG [("_law_found":Str),("_law_pair_here":Str)] by decide +kernel) rfl (ZB rfl)) Cf (BE A9 BZ (dv 1)^Ao^AC (TX hr (Cp 0)^dv 1) AR)^by kernel_rfl) AU))))))) NH
omit A in
def qR:AY ["_law_feed_here","_law_some"] ["_law_feed_here"]^AJ GI:=by walk_at "s"
def LY:OJ P w K mg base:=A.got A.h__law_times λT F m b=>have qO:=Bo A;EN F qR (λhr=>(AF (Ar (i:=1) qR.nd rfl (ZB rfl) (Bh^AC (Ao^AC AG^AC AG AR)^AC (Ao^AC AG^AC AG AR)^AC (Ao^AC AG^AC AG AR)^AC (Ao^AC AG^AC AG AR)^AC (Ao^AC AG^AC AG AR)^AC (Ao^AC AG^AC AG AR)^AC (Ao^AC (BE RE Eu AG AG)^AC AG AR)^AC (Ao^AC AG^AC AG AR) AR))
 (AI^AX^AW AL Ak (dv 1)^cg hr qO^AA (Bm 0)^AA (AV AG) AN))) Q1
omit A in
def M8:AY ["_law_tie"] ["_law_tie"]^AJ IE:=by walk_at "s"
def GY:QY P w K mg base:=A.got A.h__law_rank λT F m b=>EN F M8 (λhr=>(AI^AX^Ao^AC (AW AL Ak (dv 0) AG)^AC (AW AL Ak (dv 0) AG)^AC (AW AL Ak (dv 0) AG) AR)) Q5
omit A in
def LM:AY ["_law_ties_here"] ["_law_ties_here"]^AJ GJ:=by walk_at "s"
def LZ:OK P w K mg base:=A.got A.h__law_order λT F m b=>have qS:=GY A;EN F LM (λhr=>(AI^AX (P1 qS (hr.mono^by cbv) rfl T.Gae rfl (dv 0)))) O9
omit A in
def qT:AY ["_law_state","_law_ties_here"] ["_law_state"]^AJ FS:=by walk_at "s"
def KS:Lo P w K mg base:=A.got A.h__law_net_of λT F m b=>EN F qT (λhr=>(AF (Ar (i:=1) qT.nd rfl (kT rfl) (BF hr (dv 0) Ag))
 (AI^AX^Ao^AC (BC A5 CB rfl T.Gab kh (AK (Aa K1 Tj rfl T.Gae lV (AK (BF hr (dv 0) Ag) AU)) AU))^AC (BC A5 CB rfl T.Gab kh (AK (Qg [("_law_ties_here":Str),("_law_pair_here":Str)] [P3 1,r_] (BL (Aa (F8 rfl) OD rfl T.Gae lV (AK (dv 1) AU))) (Am (i:=1) (show jG [("_law_ties_here":Str),("_law_pair_here":Str)] by decide +kernel) rfl (ZB rfl)) Cf (BE A9 BZ (dv 1)^Ao^AC (TX hr (dv 0)^dv 1) AR)^by kernel_rfl) AU)) AR))) Q4
omit A in
def M9:AY ["_law_a","_law_b"] ["_law_a","_law_b"]^AJ IF:=by walk_at "s"
def Na:QZ P w K mg base:=A.got A.h__law_pair λT F m b=>EN F M9 (λhr=>(AI^AX^Ao^AC (Aa (Hk rfl) Rv rfl T.Gai oq (AK (dv 0)^AK (dv 1) AU))^AC (Aa (Hl rfl) Rw rfl T.Gal boot_max (AK (dv 0)^AK (dv 1) AU)) AR)) UG
omit A in
def qU:AY ["_law_state","_law_deed_here","_law_pair_here"] ["_law_state","_law_deed_here"]^AJ ME:=by walk_at "s"
def KU:VM P w K mg base:=A.got A.h__law_do λT F m b=>have qV:=Na A;EN F qU (λhr=>(AF (Ax (Ad B0 DC (AW AL Ak (dv 1) AG) Ag^Ah _) (AI^CF^TY PySem.F.plainAttrs_list PySem.F.slot_list_append PySem.F.type_list_append B8 Ie (BF hr (dv 0) Ag)^AC (AW AL Ak (dv 1) AG) AR) Ai)
 (AF (Ax (Ad B0 DC (AW AL Ak (dv 1) AG) Ag^Ah _) (AF (CF^TY PySem.F.plainAttrs_list PySem.F.slot_list_remove PySem.F.type_list_remove (MK hr) ag (BF hr (dv 0) Ag)^AC (AW AL Ak (dv 1) AG) AR)
 (AI (F4 jc rfl (Rc (Rh (Rm rfl) Zr rfl T.Gan boot_list (AK (BF hr (dv 0) Ag) AU))) (Am (i:=2) qU.nd rfl (ZB rfl)) (AI^Ax (Ad (Wv hr) DB (AW AL Ak (dv 1) AG) (dv 2)^by with_unfolding_all rfl) (AI^CF^TY PySem.F.plainAttrs_dict PySem.F.slot_dict_pop PySem.F.type_dict_pop (S4 hr) YG (BF hr (dv 0) Ag)^AC (dv 2) AR) Ai)))) Ai)
 (AF (Ax (Ad B0 DC (AW AL Ak (dv 1) AG) Ag^Ah _) (AI^ZW hr (BF hr (dv 0) Ag) (cg hr qV^AA (AV^AW AL Ak (dv 1) AG)^AA (AV^AW AL Ak (dv 1) AG) AN)^AW AL Ak (dv 1) AG) Ai)
 (AI^Ax (Ad B0 DC (AW AL Ak (dv 1) AG) Ag^Ah _) (AI^CF^TY PySem.F.plainAttrs_dict PySem.F.slot_dict_pop PySem.F.type_dict_pop (S4 hr) YG (BF hr (dv 0) Ag)^AC (cg hr qV^AA (AV^AW AL Ak (dv 1) AG)^AA (AV^AW AL Ak (dv 1) AG) AN) AR) Ai))))) Yr
omit A in
def Ju:AY ["self","name"] ["self","name"]^AJ FW:=by walk_at "s"
def KZ:Ls P w K mg base C_Keeper:=A.gotM A.m_Keeper_come λT F=>have qJ:=Bb A;by
 let#[_,Gad]:=T.Gad;exact VT F Ju (λhr=>(AF (Ax (Ad (Wv hr) DB (dv 1) (AW AL Ak (Bq A.cl_Keeper A.na_Keeper_whole^dv 0) AG)^by with_unfolding_all rfl) (AI DA) Ai)
 (AF (Ax (Ad B0 DC (Aa As Bt rfl T.Gaa PySem.boot_len (AK (AW AL Ak (Bq A.cl_Keeper A.na_Keeper_whole^dv 0) AG) AU)) (EH rfl Gad)^Ah _) (AI DA) Ai)
 (AI^AX^BV A.cl_Keeper qJ (hr.mono^by cbv) (dv 0)^AA (AV^Ao^AC (BC A5 CB rfl T.Gab kh (AK (Aa Rk Zp rfl T.Gae lV (AK (BE A9 BZ (AW AL Ak (Bq A.cl_Keeper A.na_Keeper_whole^dv 0) AG)^Ao^AC (dv 1) AR) AU)) AU))^AC (AW AL Ak (Bq A.cl_Keeper A.na_Keeper_whole^dv 0) AG) AR) AN)))) UM
omit A in
def FK:AY ["self","name"] ["self","name"]^AJ C2:=by walk_at "s"
def B_:F_ P w K mg base C_Keeper:=A.gotM A.m_Keeper_ask_place λT F=>VT F FK (λhr=>(AI^Ax (Ad (BQ hr) DB (dv 1) (AW AL Ak (Bq A.cl_Keeper A.na_Keeper_whole^dv 0) AG)^by with_unfolding_all rfl) (AI DA) Ai)) V_
omit A in
def LO:AY ["self","a","b"] ["self","a","b"]^AJ GP:=by walk_at "s"
def Ld:OP P w K mg base C_Keeper:=A.gotM A.m_Keeper_far λT F=>have qW:=B_ A;have qX:=QO A;VT F LO (λhr=>(AF (CF^BV A.cl_Keeper qW (hr.mono^by cbv) (dv 0)^AA (AV^dv 1) AN)
 (AF (CF^BV A.cl_Keeper qW (hr.mono^by cbv) (dv 0)^AA (AV^dv 2) AN)
 (AI^AX^cg hr qX^AA (AV^Bq A.cl_Keeper A.na_Keeper_kept^dv 0)^AA (AV^dv 1)^AA (AV^dv 2) AN)))) UJ
omit A in
def qY:AY ["self","name","places","ties"] ["self","name"]^AJ IH:=by walk_at "s"
def Nd:Qc P w K mg base C_Keeper:=A.gotM A.m_Keeper_go λT F=>have qW:=B_ A;have qJ:=Bb A;VT F qY (λhr=>(AF (CF^BV A.cl_Keeper qW (hr.mono^by cbv) (dv 0)^AA (AV^dv 1) AN)
 (AF (JO (i:=2) qY.nd rfl (ZB rfl) rfl [("name":Str),("place":Str)] [P3 1,r_] (BL^AW AL Ak (Bq A.cl_Keeper A.na_Keeper_whole^dv 0) AG) (λ_ _ _ _ _=>(Am (i:=1) (show jG [("name":Str),("place":Str)] by decide +kernel) rfl (ZB rfl))) (λ_ _ _ _ _=>(CS^Ad Ws cu (dv 1) (dv 0)^Ah _)) (λ_ _ _ _ _=>(dv 1)) (by kernel_rfl))
 (AF (JO (i:=3) qY.nd rfl (ZB rfl) rfl [("name":Str),("tie":Str)] [P3 1,r_] (BL^AW AL Ak (Bq A.cl_Keeper A.na_Keeper_whole^dv 0) AG) (λ_ _ _ _ _=>(Am (i:=1) (show jG [("name":Str),("tie":Str)] by decide +kernel) rfl (ZB rfl))) (λ_ _ _ _ _=>(CS^Ad (BQ hr) DB (dv 0) (P2 Vv QP (dv 1) Gp^Gn AG)^by with_unfolding_all rfl)) (λ_ _ _ _ _=>(dv 1)) (by kernel_rfl))
 (AI^AX^BV A.cl_Keeper qJ (hr.mono^by cbv) (dv 0)^AA (AV^Ao^AC (BC A5 CB rfl T.Gab kh (AK (dv 2) AU))^AC (BC A5 CB rfl T.Gab kh (AK (dv 3) AU)) AR) AN))))) Yq
omit A in
def D6:AY ["self","a","b"] ["self","a","b"]^AJ CU:=by walk_at "s"
def CP:EV P w K mg base C_Keeper:=A.gotM A.m_Keeper_ties_between λT F=>have qW:=B_ A;VT F D6 (λhr=>(AF (CF^BV A.cl_Keeper qW (hr.mono^by cbv) (dv 0)^AA (AV^dv 1) AN)
 (AF (CF^BV A.cl_Keeper qW (hr.mono^by cbv) (dv 0)^AA (AV^dv 2) AN)
 (AI^AX^Qg [("a":Str),("b":Str),("tie":Str)] [P3 1,P3 2,r_] (BL^AW AL Ak (Bq A.cl_Keeper A.na_Keeper_whole^dv 0) AG) (Am (i:=2) (show jG [("a":Str),("b":Str),("tie":Str)] by decide +kernel) rfl (ZB rfl)) (CS^Ad (NR hr) Tl (P2 Vv QP (dv 2) Gp^Gn AG) (Ao^AC (Aa (Hk rfl) Rv rfl T.Gai oq (AK (dv 0)^AK (dv 1) AU))^AC (Aa (Hl rfl) Rw rfl T.Gal boot_max (AK (dv 0)^AK (dv 1) AU)) AR)^Ah _) (dv 2)^by kernel_rfl)))) Q2
omit A in
def qZ:AY ["self","a","b","length","ties","others"] ["self","a","b","length"]^AJ GO:=by walk_at "s"
def Lc:OO P w K mg base C_Keeper:=A.gotM A.m_Keeper_lay λT F=>have qa:=CP A;have qJ:=Bb A;have pV:=NT A;have qc:=KO A;by
 let#[_,Gaf]:=T.Gaf;exact VT F qZ (λhr=>(AF (Ar (i:=4) qZ.nd rfl (ZB rfl) (BV A.cl_Keeper qa (hr.mono^by cbv) (dv 0)^AA (AV^dv 1)^AA (AV^dv 2) AN))
 (AF (Ax (Ad B0 DC (dv 1) (dv 2)^Ah _) (AI DA) Ai)
 (AF (Ax (DTW.dt^Nx (C_^Kr^Cp 4)^JM^Ad B0 DC (Aa As Bt rfl T.Gaa PySem.boot_len (AK (AW AL Ak (Bq A.cl_Keeper A.na_Keeper_whole^dv 0) AG) AU)) (EH rfl Gaf)^Ah _) (AI DA) Ai)
 (AF (Ar (i:=5) qZ.nd rfl (ZB rfl) (AW AL Ak (cg hr qc^AA (AV^Bq A.cl_Keeper A.na_Keeper_whole^dv 0)^AA (CJ^Cp 4) AN) AG))
 (AI^AX^BV A.cl_Keeper qJ (hr.mono^by cbv) (dv 0)^AA (AV^cg hr pV^AA (AV^Bq A.cl_Keeper A.na_Keeper_whole^dv 0)^AA (CJ^BE A9 BZ (dv 5)^Ao^AC (Ao^AC (Aa (Hk rfl) Rv rfl T.Gai oq (AK (dv 1)^AK (dv 2) AU))^AC (Aa (Hl rfl) Rw rfl T.Gal boot_max (AK (dv 1)^AK (dv 2) AU))^AC (dv 3) AR) AR) AN) AN)))))) V9
omit A in
def qd:AY ["self","a","b","ties"] ["self","a","b"]^AJ Ci:=by walk_at "s"
def ET:Ew P w K mg base C_Keeper:=A.gotM A.m_Keeper_tie_between λT F=>have qa:=CP A;VT F qd (λhr=>(AF (Ar (i:=3) qd.nd rfl (ZB rfl) (BV A.cl_Keeper qa (hr.mono^by cbv) (dv 0)^AA (AV^dv 1)^AA (AV^dv 2) AN))
 (AF (Ax (C_^Kr^Cp 3) (AI DA) Ai)
 (AI^AX^AW AL Ak (Cp 3) AG)))) UB
omit A in
def Jt:AY ["self","a","b"] ["self","a","b"]^AJ FV:=by walk_at "s"
def KY:Lr P w K mg base C_Keeper:=A.gotM A.m_Keeper_take λT F=>have qe:=ET A;have qJ:=Bb A;have qc:=KO A;VT F Jt (λhr=>(AI^AX^BV A.cl_Keeper qJ (hr.mono^by cbv) (dv 0)^AA (AV^cg hr qc^AA (AV^Bq A.cl_Keeper A.na_Keeper_whole^dv 0)^AA (CJ^Bh^AC (BV A.cl_Keeper qe (hr.mono^by cbv) (dv 0)^AA (AV^dv 1)^AA (AV^dv 2) AN) AR) AN) AN)) UD
omit A in
def M7:AY ["_law_keeper","_law_deed_here"] ["_law_keeper","_law_deed_here"]^AJ IC:=by walk_at "s"
def NY:QW P w K mg base C_Keeper:=A.got A.h__law_told λT F m b=>have qf:=KZ A;have qg:=Ld A;have qh:=Nd A;have qi:=Lc A;have qj:=KY A;EN F M7 (λhr=>(AF (Ax (Ad B0 DC (AW AL Ak (dv 1) AG) Ag^Ah _) (AI^AX^BV A.cl_Keeper qf (hr.mono^by cbv) (dv 0)^AA (AV^AW AL Ak (dv 1) AG) AN) Ai)
 (AF (Ax (Ad B0 DC (AW AL Ak (dv 1) AG) Ag^Ah _) (AI^AX^BV A.cl_Keeper qh (hr.mono^by cbv) (dv 0)^AA (AV^AW AL Ak (dv 1) AG) AN) Ai)
 (AF (Ax (Ad B0 DC (AW AL Ak (dv 1) AG) Ag^Ah _) (AI^AX^BV A.cl_Keeper qi (hr.mono^by cbv) (dv 0)^AA (AV^AW AL Ak (dv 1) AG)^AA (AV^AW AL Ak (dv 1) AG)^AA (AV^AW AL Ak (dv 1) AG) AN) Ai)
 (AF (Ax (Ad B0 DC (AW AL Ak (dv 1) AG) Ag^Ah _) (AI^AX^BV A.cl_Keeper qj (hr.mono^by cbv) (dv 0)^AA (AV^AW AL Ak (dv 1) AG)^AA (AV^AW AL Ak (dv 1) AG) AN) Ai)
 (AI^AX^BV A.cl_Keeper qg (hr.mono^by cbv) (dv 0)^AA (AV^AW AL Ak (dv 1) AG)^AA (AV^AW AL Ak (dv 1) AG) AN)))))) UA
omit A in
def qk:AY ["_law_before","_law_after","_law_came"] ["_law_before","_law_after"]^AJ FQ:=by walk_at "s"
def KQ:Lm P w K mg base:=A.got A.h__law_turned λT F m b=>have ql:=LZ A;EN F qk (λhr=>(AF (Ar (i:=2) qk.nd rfl (ZB rfl) (cg hr ql^AA (AV^Qg [("_law_before":Str),("_law_tie":Str)] [P3 0,r_] (BL^AW AL Ak (dv 1) AG) (Am (i:=1) (show jG [("_law_before":Str),("_law_tie":Str)] by decide +kernel) rfl (ZB rfl)) (CS^Ad (BQ hr) DB (dv 1) (AW AL Ak (dv 0) AG)^by with_unfolding_all rfl) (dv 1)^by kernel_rfl) AN))
 (AI^AX^Ao^AC (dv 2)^AC (cg hr ql^AA (AV^Qg [("_law_after":Str),("_law_tie":Str)] [P3 1,r_] (BL^AW AL Ak (dv 0) AG) (Am (i:=1) (show jG [("_law_after":Str),("_law_tie":Str)] by decide +kernel) rfl (ZB rfl)) (CS^Ad (BQ hr) DB (dv 1) (AW AL Ak (dv 0) AG)^by with_unfolding_all rfl) (dv 1)^by kernel_rfl) AN) AR))) O8
omit A in
def qm:AY ["_law_feed_here","_law_state","_law_pool","_law_sort","_law_places_here","_law_new","_law_way","_law_pair_here","_law_side","_law_a","_law_b"] ["_law_feed_here","_law_state","_law_pool","_law_sort"]^AJ IG:=by walk_at "s"
def Nc:Qb P w K mg base:=A.got A.h__law_deed λT F m b=>have qQ:=Ee A;have qO:=Bo A;EN F qm (λhr=>(AF (Ar (i:=4) qm.nd rfl (kT rfl) (BF hr (dv 1) Ag))
 (AF (JO (i:=5) qm.nd rfl (ZB rfl) rfl [("_law_places_here":Str),("_law_name":Str)] [P3 4,r_] (BL^dv 2) (λ_ _ _ _ _=>(Am (i:=1) (show jG [("_law_places_here":Str),("_law_name":Str)] by decide +kernel) rfl (ZB rfl))) (λ_ _ _ _ _=>(CS^Ad (BQ hr) DB (dv 1) (dv 0)^by with_unfolding_all rfl)) (λ_ _ _ _ _=>(dv 1)) (by kernel_rfl))
 (AF (Ar (i:=6) qm.nd rfl (ZB rfl) (cg hr qO^AA (Bm 0)^AA (AV AG) AN))
 (AF (Ax (DTW.dt^Nx (Ad (Wq hr) ah (dv 5) (Bh AR)^Ah _)^JM^DTW.dt^DV (Ad (D8 hr) G3 (dv 6) AG^Ah _)^Ce^Ad (D8 hr) G3 (Aa As Bt rfl T.Gaa PySem.boot_len (AK (dv 4) AU)) AG^Ah _) (AI^AX^Ao^AC Ag^AC (AW AL Ak (dv 5)^cg hr qO^AA (Bm 0)^AA (AV (Aa As Bt rfl T.Gaa PySem.boot_len (AK (dv 5) AU))) AN) AR) Ai)
 (AF (Ax (Ad B0 DC (dv 6) AG^Ah _) (AI^AX^Ao^AC Ag^AC (AW AL Ak (dv 4)^cg hr qO^AA (Bm 0)^AA (AV (Aa As Bt rfl T.Gaa PySem.boot_len (AK (dv 4) AU))) AN) AR) Ai)
 (AF (Ax (DTW.dt^Nx (Ad B0 DC (dv 6) AG^Ah _)^JM^Ad (b7 hr) fQ (BF hr (dv 1) Ag) X6^Ah _) (AF (Ar (i:=7) qm.nd rfl (ZB rfl) (AW AL Ak (Aa (F8 rfl) OD rfl T.Gae lV (AK (BF hr (dv 1) Ag) AU))^cg hr qO^AA (Bm 0)^AA (AV (Aa U_ cx rfl T.Gaa PySem.boot_len (AK (BF hr (dv 1) Ag) AU))) AN))
 (AF (Ar (i:=8) qm.nd rfl (ZB rfl) (cg hr qO^AA (Bm 0)^AA (AV AG) AN))
 (AI^AX^Ao^AC Ag^AC (AW AL Ak (dv 7)^dv 8)^AC (AW AL Ak (dv 7)^BE JF OC AG^dv 8) AR))) Ai)
 (AF (Ar (i:=9) qm.nd rfl (ZB rfl) (cg hr qO^AA (Bm 0)^AA (AV (Aa As Bt rfl T.Gaa PySem.boot_len (AK (dv 4) AU))) AN))
 (AF (Ar (i:=10) qm.nd rfl (ZB rfl) (BE C6 Eu (BE A9 BZ (BE A9 BZ (dv 9) AG)^cg hr qO^AA (Bm 0)^AA (AV^BE JF OC (Aa As Bt rfl T.Gaa PySem.boot_len (AK (dv 4) AU)) AG) AN) (Aa As Bt rfl T.Gaa PySem.boot_len (AK (dv 4) AU))))
 (AI^AX^Ao^AC Ag^AC (AW AL Ak (dv 4)^dv 9)^AC (AW AL Ak (dv 4)^dv 10)^AC (cg hr qQ^AA (Bm 0)^AA (AV^P4 (Ad (D8 hr) G3 (dv 3) AG^Ah _) (dv 3)^cg hr qO^AA (Bm 0)^AA (AV AG) AN) AN) AR)))))))))) UL
omit A in
def qo:AY ["_law_feed_here","_law_times_here","_law_places_here","_law_ties_here","_law_lines","_law_state","_law_a","_law_b","_law_length_here"] ["_law_feed_here","_law_times_here"]^AJ GL:=by walk_at "s"
def La:OM P w K mg base C_Keeper:=A.got A.h__law_begun λT F m b=>have qp:=KU A;have qO:=Bo A;have qq:=KR A;have qr:=NZ A;have qt:=PN A;EN F qo (λhr=>(AF (Ar (i:=2) qo.nd rfl (ZB rfl) (cg hr qq^AA (Bm 0)^AA (AV^BE A9 BZ AG^cg hr qO^AA (Bm 0)^AA (AV AG) AN) AN))
 (AF (Ar (i:=3) qo.nd rfl (ZB rfl) (cg hr qr^AA (Bm 0)^AA (AV^dv 2)^AA (AV AG) AN))
 (AF (Xv (i:=4) qo.nd rfl (ZB rfl) rfl [("_law_name":Str)] [r_] (BL^dv 2) (λ_ _ _ _ _=>(Am (i:=0) (show jG [("_law_name":Str)] by decide +kernel) rfl (ZB rfl))) (λ_ _ _ _ _=>Cf) (λ_ _ _ _ _=>(BE A9 BZ Ag^dv 0)) (by kernel_rfl))
 (AF (Gk 4 PySem.F.plainAttrs_list PySem.F.slot_list_extend PySem.F.type_list_extend Ui fT (pv 4)^AC (Qg [("_law_a":Str),("_law_b":Str),("_law_length_here":Str)] [r_,r_,r_] (BL^dv 3) (Hf rfl (Bc (Am (i:=0) (show jG [("_law_a":Str),("_law_b":Str),("_law_length_here":Str)] by decide +kernel) rfl (ZB rfl))^Bc (Am (i:=1) (show jG [("_law_a":Str),("_law_b":Str),("_law_length_here":Str)] by decide +kernel) rfl (ZB rfl))^Bc (Am (i:=2) (show jG [("_law_a":Str),("_law_b":Str),("_law_length_here":Str)] by decide +kernel) rfl (ZB rfl)) FH)) Cf (BE A9 BZ (BE A9 BZ (BE A9 BZ (BE A9 BZ (BE A9 BZ Ag^dv 0) Ag)^dv 1) Ag) (BC MZ YF rfl T.Gam boot_str (AK (dv 2) AU)))^by kernel_rfl) AR)
 (AF (Ar (i:=5) qo.nd rfl (ZB rfl) (X4 (JS (BC Gu Zs rfl T.Gan boot_list (AK (dv 2) AU)))^JS P5))
 (AF (F4 jc rfl (Rc^dv 3) (Hf rfl (Bc (Am (i:=6) qo.nd rfl (ZB rfl))^Bc (Am (i:=7) qo.nd rfl (ZB rfl))^Bc (Am (i:=8) qo.nd rfl (ZB rfl)) FH)) (AI^CF^cg hr qp^AA (AV^dv 5)^AA (AV^Ao^AC Ag^AC (dv 6)^AC (dv 7)^AC (dv 8) AR) AN))
 (AI^AX^Ao^AC (cg hr qt^AA (CJ^Cp 4)^AA (AV^dv 1) AN)^AC (dv 5) AR)))))))) Q8
omit A in
def qu:AY ["_law_deed_here","_law_nets","_law_thins","_law_told_here","_law_changed","_law_first","_law_was_out"] ["_law_deed_here","_law_nets","_law_thins","_law_told_here"]^AJ DK:=by walk_at "s"
def Fw:G6 P w K mg base:=A.got A.h__law_step_right λT F m b=>have qS:=GY A;have qv:=KQ A;EN F qu (λhr=>(AF (Ax (Ad Ws cu (Aa (FI hr) OE rfl T.Gaj boot_repr (AK (dv 3) AU)) (Aa (FI hr) OE rfl T.Gaj boot_repr (AK (cg hr qv^AA (AV^AW AL Ak (Cp 2) AG)^AA (AV^AW AL Ak (Cp 2) AG) AN) AU))^Ah _) (AI^AX IX) Ai)
 (AF (JO (i:=4) qu.nd rfl (ZB rfl) rfl [("_law_nets":Str),("_law_tie":Str)] [P3 1,r_] (BL^AW AL Ak (AW AL Ak (Cp 1) AG) AG) (λ_ _ _ _ _=>(Am (i:=1) (show jG [("_law_nets":Str),("_law_tie":Str)] by decide +kernel) rfl (ZB rfl))) (λ_ _ _ _ _=>(CS^Ad (BQ hr) DB (dv 1) (AW AL Ak (AW AL Ak (Cp 0) AG) AG)^by with_unfolding_all rfl)) (λ_ _ _ _ _=>(dv 1)) (by kernel_rfl))
 (AF (Ar (i:=4) qu.nd rfl (ZB rfl) (BE A9 BZ (dv 4)^Qg [("_law_nets":Str),("_law_tie":Str)] [P3 1,r_] (BL^AW AL Ak (AW AL Ak (Cp 1) AG) AG) (Am (i:=1) (show jG [("_law_nets":Str),("_law_tie":Str)] by decide +kernel) rfl (ZB rfl)) (CS^Ad (BQ hr) DB (dv 1) (AW AL Ak (AW AL Ak (Cp 0) AG) AG)^by with_unfolding_all rfl) (dv 1)^by kernel_rfl))
 (AF (Ax (Ad (NR hr) Tl (dv 4) (Bh AR)^Ah _) (AI^AX^F5 (NR hr) Tl (dv 3) (Ao^AC (Bh AR)^AC (Bh AR) AR)^Ah _) Ai)
 (AF (Ar (i:=5) qu.nd rfl (kT rfl) (Aa (Ma hr) YI rfl T.Gai oq (AK (Qg [("_law_tie":Str)] [r_] (BL^dv 4) (Am (i:=0) (show jG [("_law_tie":Str)] by decide +kernel) rfl (ZB rfl)) Cf (cg hr qS^AA (AV^dv 0) AN)^by kernel_rfl) AU)))
 (AF (Ax (Ad (Wq hr) ah (Qg [("_law_first":Str),("_law_tie":Str)] [P3 5,r_] (BL^BE A9 BZ (AW AL Ak (dv 3) AG)^AW AL Ak (dv 3) AG) (Am (i:=1) (show jG [("_law_first":Str),("_law_tie":Str)] by decide +kernel) rfl (ZB rfl)) (CS^Ad (D8 hr) G3 (cg hr qS^AA (AV^dv 1) AN) (dv 0)^Ah _) (dv 1)^by kernel_rfl) (Bh AR)^Ah _) (AI^AX IX) Ai)
 (AF (Ax (DTW.dt^DV (Ad B0 DC (AW AL Ak (dv 0) AG) Ag^Ah _)^Ce^Ad KL QQ (Aa As Bt rfl T.Gaa PySem.boot_len (AK (dv 4) AU)) AG^Ah _) (AI^AX IX) Ai)
 (AF (Ar (i:=6) qu.nd rfl (ZB rfl) (N2 (F5 (BQ hr) DB (AW AL Ak (dv 4) AG) (AW AL Ak (AW AL Ak (Cp 2) AG) AG)^by with_unfolding_all rfl)^Hg^F5 (BQ hr) DB (AW AL Ak (dv 4) AG) (AW AL Ak (AW AL Ak (Cp 2) AG) AG)^by with_unfolding_all rfl))
 (AI^AX^aX (X1^dv 6)^Hg^F5 (NR hr) Tl (dv 3) (Ao^AC (Bh AR)^AC (Bh AR) AR)^Ah _)))))))))) UE
omit A in
def LN:AY ["self"] ["self"]^AJ GN:=by walk_at "s"
def Lb:ON P w K mg base C_Keeper:=A.gotM A.m_Keeper_net λT F=>VT F LN (λhr=>(AI^AX^Bq A.cl_Keeper A.na_Keeper_whole^dv 0)) V8
omit A in
def Js:AY ["self"] ["self"]^AJ FU:=by walk_at "s"
def KW:Lq P w K mg base C_Keeper:=A.gotM A.m_Keeper_thin λT F=>VT F Js (λhr=>(AI^AX^Bq A.cl_Keeper A.na_Keeper_kept^dv 0)) UC
omit A in
end
section
variable {P:Program}{w:World}{K:Frag}{mg:Str->v_ Value}{base:Heap}
def M_:AY ["_law_script"] ["_law_script"]^AJ Eb:=by constructor <;>first|rfl|decide +kernel
def Nb{f:Ch}{fd:jK}(T:Txt K mg)(F:Fun K "_law_feed" "_law_feed" Eb f fd):FnOk P w K mg base GC 1 f fd ["_law_script"]^Mt K:=by
 refine F.ok M_ (λvs H Q E h=>?_) λcdv A outer s H vs Q E hr h=>?_
 .let#[a,ns,rfl,_]:=h
  rfl
 .let#[a,ns,rfl,#[hl,hS],q]:=h
  refine#[_,DM^Fv^RD^B7 (HN Gu rfl T.Gan boot_list (B7 (PL sl_list (pv 0) Su^Ss A3) C5))^B7 A3^B7 A3 C5,?_];refine#[_,rfl,63,rfl,a,_,rfl,hS,λp hp=>#[p,_,rfl,.inl^SqL.of AQ,λc hc=>#[by show 3<=sizeLine;decide,λg hg=>?_]]];rw[fO hl]at hg ⊢;have ncg:c≠g:=λz=>by rw[←z,AQ]at hg;cases hg
  exact q c g _ ncg (by rw[AO ncg,AQ]) AQ
def qw:AY ["_law_script","_law_feed_here","_law_keeper","_law_state","_law_pool","_law_sort","_law_k","_law_deed_here","_law_nets","_law_thins","_law_told_here"] ["_law_script"]^AJ J0:=by walk_at "s"
def cC{h:iQ}{C_Keeper f ff:Ch}{fd fdf:jK}(A:Ctx P w K mg base h C_Keeper)(Gf:FnOk P w K mg base GC 1 ff fdf ["_law_script"]^Mt K)(mf:mg "_law_feed"=P3^.ref ff)(kf:keepIn K^.ref ff=s_)(bf:Binds K fdf ["_law_script"] [])(F:Fun K "law" "law" J0 f fd):FnOk P w K mg base GC 9 f fd ["_law_script"]^O1 K:=by
 have qz:=Lb A;have q_:=KW A;have rA:=La A;have rB:=Nc A;have qp:=KU A;have qN:=FY A;have rC:=KS A;have qO:=Bo A;have rD:=Fw A;have rE:=LY A;have rF:=NY A;have T:=A.T
 exact fH (n0:=3000) F qw rfl (by cbv) (λcdv A0 outer s H E hr=>Ec (i:=1) qw.nd rfl (ZB rfl) (NP Gf (hr.mono^by cbv) rfl mf kf bf .nil KI (B7 (pv 0) C5)))
  (λcdv A0 outer s H E hr=>(AF (ce (cg hr rA^AA (Bm 1)^AA (AV^cg hr rE^AA (Bm 1) AN) AN) (Hf rfl (Bc (Am (i:=2) qw.nd rfl (ZB rfl))^Bc (Am (i:=3) qw.nd rfl (ZB rfl)) FH)))
 (AF (Ar (i:=4) qw.nd rfl (ZB rfl) (MV qN (hr.mono^by cbv) rfl))
 (AF (Ar (i:=5) qw.nd rfl (ZB rfl) (cg hr qO^AA (Bm 1)^AA (AV AG) AN))
 (AF (F4 jc rfl (He rfl T.Gak (AK AG AU)) (Am (i:=6) qw.nd rfl (ZB rfl)) (AF (Ar (i:=7) qw.nd rfl (ZB rfl) (Kv rB (hr.mono^by cbv) rfl (AA (Bm 1)^AA (AV^dv 3)^AA (AV^P2 Vv QP (dv 4) Gp^Gn AG)^AA (AV^dv 5) AN)))
 (AF (Cy (i:=8) qw.nd rfl (ZB rfl) (Bh^AC (Gq A.cl_Keeper qz (hr.mono^by cbv)^dv 2) AR))
 (AF (Cy (i:=9) qw.nd rfl (ZB rfl) (Bh^AC (Gq A.cl_Keeper q_ (hr.mono^by cbv)^dv 2) AR))
 (AF (Ar (i:=10) qw.nd rfl (ZB rfl) (cg hr rF^AA (AV^dv 2)^AA (AV^dv 7) AN))
 (AF (CF^cg hr qp^AA (AV^dv 3)^AA (AV^dv 7) AN)
 (AF (Gk 8 PySem.F.plainAttrs_list PySem.F.slot_list_append PySem.F.type_list_append B8 Ie (pv 8)^AC (Gq A.cl_Keeper qz (hr.mono^by cbv)^dv 2) AR)
 (AF (Gk 9 PySem.F.plainAttrs_list PySem.F.slot_list_append PySem.F.type_list_append B8 Ie (pv 9)^AC (Gq A.cl_Keeper q_ (hr.mono^by cbv)^dv 2) AR)
 (AI^Ax (DTW.dt^DV (Ad Ws cu (Aa (FI hr) OE rfl T.Gaj boot_repr (AK (AW AL Ak (Cp 8) AG) AU)) (Aa (FI hr) OE rfl T.Gaj boot_repr (AK (Kv rC (hr.mono^by cbv) rfl (AA (AV^dv 3) AN)) AU))^Ah _)^Ce^C_^Ej (Kv rD (hr.mono^by cbv) rfl (AA (AV^dv 7)^AA (CJ^Cp 8)^AA (CJ^Cp 9)^AA (AV^dv 10) AN))) (AI^AX IX) Ai)))))))))
 (AI^AX IX)))))) (Q6^by cbv)
end
local macro_rules|`(tactic|walk_at "B")=>`(tactic|(intro _ _ _ _ _ _;exact g9 λ_=>rfl))
def all_mk{l:PySem.W.OpenLaw}{w:ip}{K:Frag}{h:iQ}{mg:Str->v_ Db}{fa C_Keeper:Ch}(hfa:mg "law"=P3^.ref fa)(A:C0 K mg h C_Keeper):∃fd:jK,(∀(s:No) (v:Db),oY s fd #[[v],[]] [("_law_script",v)])/\∀base:iQ,K.In base->base.Ns mainGlobals mg->FnOk l.prog w K mg base GC 9 fa fd ["_law_script"]^O1 K:=by
 let#[ff,ffd,mf,Ff]:=A.h__law_feed.fn A.X A.G;have bf:=Ff.binds (ps:=["_law_script"]) (by walk_at "B");let#[f,oc,od,an,sl,kV,dc,pm,cd,ct,a,l',c,k]:=A.h_law;cases hfa.symm.trans^mg_of A.X A.G a;exact#[fnOf "law" "law" (CG J0) (Be J0) (AJ J0) .none kV dc pm an cd ct,λs v=>.of_eq rfl,λbase _ _=>cC A (Nb A.T Ff) mf Ff.kp bf^Np (st:=J0) l' c k]
def walk{l:PySem.W.OpenLaw}{q:ic}{loose:u_ Str}{XP:(Str->v_ Db)->iQ->Prop}{YP:ip->iQ->Prop}{d:DefRec}{K:Params->Frag}(hn:l.most=P3 63)(hdf:d.params.defaults=[])
  (hY:∀(w:ip) (h:iQ),YP w h->(K w.params).In h)
  (F:∀(w:ip) (mg:Str->v_ Db) (fa:Ch) (h:iQ),(K w.params).In h->h.Ns mainGlobals mg->mg d.name=P3^.ref fa->
   ∃fd:jK,(∀(s:No) (u:Db),oY s fd #[[u],[]] [("_law_script",u)])/\∀base:iQ,(K w.params).In base->base.Ns mainGlobals mg->FnOk l.prog w (K w.params) mg base GC 9 fa fd ["_law_script"]^O1^K w.params):
  PySem.W.WalkO q loose XP YP l.row.toRowW d [] (λf vs=>PySem.call f vs):=
 L2.SG (n:=63) (k:=9) (x:="_law_script") (CX:=λ_=>GC) (sp:=λw=>O1^K w.params) hn (by cbv) hdf #[rfl,by cbv,by cbv,rfl] hY F (λ_ _ a ns hl _ hS=>#[a,ns,rfl,#[hl,hS],λ_=>rfl]) λ_ _ _ _ _ z=>z
end K68
end _p
namespace PySem.W.Fast
theorem tw9492067619228907444:True:=⟨⟩
theorem tw9282849999499759087:True:=⟨⟩
theorem tw13042565498021435893:True:=⟨⟩
theorem tw10645255614885515011:True:=⟨⟩
theorem tw16272343935778500489:True:=⟨⟩
theorem tw17087647509510230033:True:=⟨⟩
theorem tw8931322766691756225:True:=⟨⟩
theorem tw13570399225181111090:True:=⟨⟩
theorem tw7392271206922955779:True:=⟨⟩
theorem tw18099299071211956037:True:=⟨⟩
theorem tw17278847528516170031:True:=⟨⟩
theorem tw9613379170931049052:True:=⟨⟩
theorem tw13418278106345854480:True:=⟨⟩
theorem tw856165604263192233:True:=⟨⟩
theorem tw5511433977921259793:True:=⟨⟩
theorem tw10867062162936980970:True:=⟨⟩
theorem tw13852074355511057717:True:=⟨⟩
theorem tw15722566600470284179:True:=⟨⟩
theorem tw18371981612370902930:True:=⟨⟩
theorem tw972689694824221352:True:=⟨⟩
theorem tw17511916318011411152:True:=⟨⟩
theorem tw6447436791240793449:True:=⟨⟩
theorem tw13598316008544550137:True:=⟨⟩
theorem tw5506605427208815992:True:=⟨⟩
theorem tw9672349928573980261:True:=⟨⟩
theorem tw2158162945321179252:True:=⟨⟩
theorem tw3515791818663704270:True:=⟨⟩
theorem tw6873206328784925099:True:=⟨⟩
theorem tw9703161130859842117:True:=⟨⟩
theorem tw2379828313167545923:True:=⟨⟩
theorem tw8184892574991399367:True:=⟨⟩
theorem tw12646881974489054820:True:=⟨⟩
theorem tw5971799538177212047:True:=⟨⟩
theorem tw7314231550731802800:True:=⟨⟩
theorem tw2241134095665021714:True:=⟨⟩
theorem tw12857638867929906347:True:=⟨⟩
theorem tw12775863920985785586:True:=⟨⟩
theorem tw16320471049614331226:True:=⟨⟩
theorem tw2713269800140955935:True:=⟨⟩
theorem tw5070010818926676652:True:=⟨⟩
theorem tw15787145924693461166:True:=⟨⟩
theorem tw12438466632702406037:True:=⟨⟩
theorem tw11637911651947462251:True:=⟨⟩
theorem tw4366965851794633563:True:=⟨⟩
theorem tw16071155636421060809:True:=⟨⟩
theorem tw15627361265656095828:True:=⟨⟩
theorem tw3592889452889630195:True:=⟨⟩
theorem tw408600134098857654:True:=⟨⟩
theorem tw13699868473962482298:True:=⟨⟩
theorem tw538493849626212246:True:=⟨⟩
theorem tw14119289035492423233:True:=⟨⟩
theorem tw1729566038822744235:True:=⟨⟩
theorem tw4459966841976276525:True:=⟨⟩
theorem tw17122572093073616560:True:=⟨⟩
theorem tw2970171338485306663:True:=⟨⟩
theorem tw7396559716755172633:True:=⟨⟩
theorem tw4146343128371784283:True:=⟨⟩
theorem tw592202566156146773:True:=⟨⟩
theorem tw9062406908177168141:True:=⟨⟩
theorem tw15724767449823088314:True:=⟨⟩
theorem tw13208492071226939051:True:=⟨⟩
theorem tw7877171992687653474:True:=⟨⟩
theorem tw12497354553310938706:True:=⟨⟩
theorem tw3941312157850369210:True:=⟨⟩
theorem tw12383699754901239408:True:=⟨⟩
theorem tw3461462346632876954:True:=⟨⟩
theorem tw18325090067257781986:True:=⟨⟩
theorem tw13810477163134407231:True:=⟨⟩
theorem tw14732192953188948754:True:=⟨⟩
theorem tw16589474193803800007:True:=⟨⟩
theorem tw12907626463932573688:True:=⟨⟩
theorem tw1476492907818183292:True:=⟨⟩
theorem tw2840448646991597072:True:=⟨⟩
theorem tw10600705182015281338:True:=⟨⟩
theorem tw9163551152800195355:True:=⟨⟩
theorem tw5617810330274711002:True:=⟨⟩
theorem tw6598141173477543498:True:=⟨⟩
theorem tw17376180558778694937:True:=⟨⟩
theorem tw705982973817327558:True:=⟨⟩
theorem tw4115760473581210172:True:=⟨⟩
theorem tw2947174240855437772:True:=⟨⟩
theorem tw14619838309239445717:True:=⟨⟩
theorem tw8551301104508854992:True:=⟨⟩
theorem tw9821758156944125156:True:=⟨⟩
theorem tw2895310738504001826:True:=⟨⟩
theorem tw16348148248995621848:True:=⟨⟩
theorem tw12000435438523018039:True:=⟨⟩
theorem tw6191452244090531570:True:=⟨⟩
theorem tw8572803458905943975:True:=⟨⟩
theorem tw6724200492953155025:True:=⟨⟩
theorem tw500372856784096926:True:=⟨⟩
theorem tw13632893707346898123:True:=⟨⟩
theorem tw7852564504247986516:True:=⟨⟩
theorem tw3775994884420137567:True:=⟨⟩
theorem tw17951929447947281072:True:=⟨⟩
theorem tw16956144124908414181:True:=⟨⟩
theorem tw12880598211776290395:True:=⟨⟩
theorem tw13515609731167615696:True:=⟨⟩
theorem tw11298443174841184117:True:=⟨⟩
theorem tw5582615212701486990:True:=⟨⟩
theorem tw9109675153322012368:True:=⟨⟩
theorem tw6091856554268320810:True:=⟨⟩
theorem tw17188574689206078677:True:=⟨⟩
theorem tw12942802738441673605:True:=⟨⟩
theorem tw14073095569185487805:True:=⟨⟩
theorem tw17919152496999557608:True:=⟨⟩
theorem tw6563700667725377514:True:=⟨⟩
theorem tw3661581645559508637:True:=⟨⟩
theorem tw7526057326907515861:True:=⟨⟩
theorem tw5493878646331604048:True:=⟨⟩
theorem tw12391652346936469231:True:=⟨⟩
theorem tw16438626525080129079:True:=⟨⟩
theorem tw4419512057720613686:True:=⟨⟩
theorem tw14252202422375776792:True:=⟨⟩
theorem tw2817880353342704129:True:=⟨⟩
theorem tw14710221890117896083:True:=⟨⟩
theorem tw6263313638554928077:True:=⟨⟩
theorem tw3762672592778570655:True:=⟨⟩
theorem tw12298517160372655600:True:=⟨⟩
theorem tw9992397254309066366:True:=⟨⟩
theorem tw730559104202246865:True:=⟨⟩
theorem tw7169268584729842453:True:=⟨⟩
theorem tw15060333888364267949:True:=⟨⟩
theorem tw14324386885346990102:True:=⟨⟩
theorem tw8528202779550197775:True:=⟨⟩
theorem tw17665982599836298287:True:=⟨⟩
theorem tw6691119898914531566:True:=⟨⟩
theorem tw14773380788575774314:True:=⟨⟩
theorem tw10050183148147193796:True:=⟨⟩
theorem tw9030963711840192450:True:=⟨⟩
theorem tw5743778595750172313:True:=⟨⟩
theorem tw9107170341729266577:True:=⟨⟩
theorem tw5762235991416057661:True:=⟨⟩
theorem tw14089914653777878724:True:=⟨⟩
theorem tw4171985092122751629:True:=⟨⟩
theorem tw9619310568318171570:True:=⟨⟩
theorem tw2163451096164960294:True:=⟨⟩
theorem tw4361481307287593898:True:=⟨⟩
theorem tw3463098316962980363:True:=⟨⟩
theorem tw16259607571019679428:True:=⟨⟩
theorem tw15841940036830530620:True:=⟨⟩
theorem tw3307919759781407970:True:=⟨⟩
theorem tw11822613278240823326:True:=⟨⟩
theorem tw4466344237698600057:True:=⟨⟩
theorem tw3726978647542745744:True:=⟨⟩
theorem tw15988008941582385820:True:=⟨⟩
theorem tw16920194507587726535:True:=⟨⟩
theorem tw11802820333117518163:True:=⟨⟩
theorem tw13214520407230888210:True:=⟨⟩
theorem tw2392792570408138112:True:=⟨⟩
theorem tw1563573574789185836:True:=⟨⟩
theorem tw8223037436007344875:True:=⟨⟩
theorem tw4084733837079169255:True:=⟨⟩
theorem tw3447790481861673567:True:=⟨⟩
theorem tw3772344044104076075:True:=⟨⟩
theorem tw402312326262749921:True:=⟨⟩
theorem tw11235505228528821944:True:=⟨⟩
theorem tw3622055161802733943:True:=⟨⟩
theorem tw3581599687579210917:True:=⟨⟩
theorem tw744164518419676933:True:=⟨⟩
theorem tw10608321148824208170:True:=⟨⟩
theorem tw11245363629746824288:True:=⟨⟩
theorem tw1197754219207698495:True:=⟨⟩
theorem tw9820907131973953472:True:=⟨⟩
theorem tw2616137386011141154:True:=⟨⟩
theorem tw13942530429781600002:True:=⟨⟩
theorem tw5316064193660481317:True:=⟨⟩
theorem tw14678864924582914522:True:=⟨⟩
theorem tw15053792971182704013:True:=⟨⟩
theorem tw15184244249017374030:True:=⟨⟩
theorem tw4531927283758872042:True:=⟨⟩
theorem tw3122971596053087109:True:=⟨⟩
theorem tw3802288017953727308:True:=⟨⟩
theorem tw8751398737686968873:True:=⟨⟩
theorem tw9612196585469112324:True:=⟨⟩
theorem tw13441841990312913428:True:=⟨⟩
theorem tw16426293187335426230:True:=⟨⟩
theorem tw11969454637160674145:True:=⟨⟩
theorem tw17686421517264428324:True:=⟨⟩
theorem tw8243836429615680914:True:=⟨⟩
theorem tw4235265477221549562:True:=⟨⟩
theorem tw14972218465608201164:True:=⟨⟩
theorem tw8210716848693069985:True:=⟨⟩
theorem tw383974281676381052:True:=⟨⟩
theorem tw5936294532095457669:True:=⟨⟩
theorem tw13602264028612446650:True:=⟨⟩
theorem tw7809067050591740121:True:=⟨⟩
theorem tw8754226961348547223:True:=⟨⟩
theorem tw15054804609917507651:True:=⟨⟩
theorem tw16403111327561676891:True:=⟨⟩
theorem tw14462553271197256725:True:=⟨⟩
theorem tw11168769746479818329:True:=⟨⟩
theorem tw16987611213311071815:True:=⟨⟩
theorem tw7970617287155768115:True:=⟨⟩
theorem tw17890967996600009730:True:=⟨⟩
theorem tw203216643846979990:True:=⟨⟩
theorem tw3956154487264533922:True:=⟨⟩
theorem tw6837964270120272878:True:=⟨⟩
theorem tw9841614870798769257:True:=⟨⟩
theorem tw9722319698770146418:True:=⟨⟩
theorem tw17550633670443079716:True:=⟨⟩
theorem tw13962600246431993627:True:=⟨⟩
theorem tw16710515671103350209:True:=⟨⟩
theorem tw18023160717083799664:True:=⟨⟩
theorem tw13747058678602412166:True:=⟨⟩
theorem tw17001205002324775850:True:=⟨⟩
theorem tw16773311679799219718:True:=⟨⟩
theorem tw5676088052082242933:True:=⟨⟩
theorem tw5088248145732829174:True:=⟨⟩
theorem tw9024300593932108109:True:=⟨⟩
theorem tw14978128816337578615:True:=⟨⟩
theorem tw6538660416696072661:True:=⟨⟩
theorem tw4381002383804837184:True:=⟨⟩
theorem tw8498766081055007554:True:=⟨⟩
theorem tw13796701263876572565:True:=⟨⟩
theorem tw10177859273111984136:True:=⟨⟩
theorem tw11928938768695641524:True:=⟨⟩
theorem tw14495938787679215631:True:=⟨⟩
theorem tw14535754701075635638:True:=⟨⟩
theorem tw8071880548206770899:True:=⟨⟩
theorem tw17699005564652184747:True:=⟨⟩
theorem tw18116058194058889647:True:=⟨⟩
theorem tw5229260083520062822:True:=⟨⟩
theorem tw10372754002870867299:True:=⟨⟩
theorem tw13181311342098674852:True:=⟨⟩
theorem tw5007172082334434172:True:=⟨⟩
theorem tw18289315745750539513:True:=⟨⟩
theorem tw1577305423099267209:True:=⟨⟩
theorem tw11509950942712125330:True:=⟨⟩
theorem tw13573750941588134934:True:=⟨⟩
theorem tw10288345192412032748:True:=⟨⟩
theorem tw4901915297999589811:True:=⟨⟩
theorem tw6457664744604389056:True:=⟨⟩
theorem tw1302621739296035834:True:=⟨⟩
theorem tw12879826789929124358:True:=⟨⟩
theorem tw171971031693466575:True:=⟨⟩
theorem tw6878051654638297580:True:=⟨⟩
theorem tw5958905555981675423:True:=⟨⟩
theorem tw2757717638664598813:True:=⟨⟩
end PySem.W.Fast
open _p
open PySem.W
set_option maxRecDepth 100000 in
set_option maxHeartbeats 0 in
theorem PySem.Challenge.cw_thinnet_k68_whole_what_turns_holds : PySem.Challenge.rw_thinnet_k68_whole_what_turns.Holds := by
 w_on;o_law;k_head;(case hw=>w_witness2)
 k_fill
 refine K68.walk (l:=PySem.Challenge.rw_thinnet_k68_whole_what_turns) rfl rfl (λw h Y=>PySem.W.kIn_of Y) ?F
 case F =>
  intro w mg fa h KX G hmg
  refine' K68.all_mk (h:=h) hmg (K68.C0.mk KX G ?cK (L2.Cls.mk ?pg ?hd ?po ?sa) ?_ ?_ ?_ ?_ ?_ ?_ ?_ ?_ ?_ ?_ ?_ ?_ ?_ ?_ ?_ ?_ ?_ ?_ ?_ ?_ ?_ ?_ ?_ ?_ ?_ ?_ ?_ ?_ ?_ ?_ ?_ ?_ ?_ ?_ ?_ ?_ ?_ ?_ ?_ ?_ ?_ ?_ ?_ ?_ ?_ ?_ ?_ ?_ ?_ ?_ ?_ ?_ ?_ ?_ ?_ ?_ ?_ ?_ ?_ ?_ ?_ ?_ ?_ ?_ ?_ ?_ ?_ ?_ ?_ ?_ ?_ ?_ ?_ ?_ ?_ ?_ ?_ ?_ ?_ ?_ ?_ ?_ ?_)
  case cK=>k_is
  case pg=>k_is
  case hd=>k_is
  case po=>k_is
  case sa=>k_is
  all_goals first
   | (refine' K68.Ht.mk ?a ?l ?c ?k;(case a=>k_is);(case l=>k_is);(case c=>k_is);(case k=>k_is))
   | (refine' K68.Hm.mk ?a ?l ?c ?n ?k;(case a=>k_is);(case l=>k_is);(case c=>k_is);(case n=>k_is);(case k=>k_is))
   | (refine' K68.Hn.mk ?a;(case a=>k_is))
   | (refine' K68.Hi.mk ?a;(case a=>k_is))
   | (refine' K68.Ha.mk ?a ?b;(case a=>k_is);(case b=>k_is))
   | (unfold L2.NoAttr;k_is)
   | k_is
#print axioms PySem.Challenge.cw_thinnet_k68_whole_what_turns_holds

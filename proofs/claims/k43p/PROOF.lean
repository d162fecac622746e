import PyProof.Rows.All
import Wide.All
import OpenK.AllK
import Wide.FinOn
import Lean
import PyProof.EqAt
import PyProof.EqKinds
import PyProof.TupleCall
import PyProof.StationsW
import PyProof.PassesOwn
import PyProof.RulesAs
import PyProof.ExcClass3
import PyProof.Rows.CatchOwn
import OpenK.KMake
import OpenK.KWalk
import PyProof.InstStoreFacts
import PyProof.ExcBaseAll.ValueError
import PyProof.RangeIter
import OpenK.KRaise
import PyProof.NsDelKeeps
import KE.KIsAll
import PyProof.P3In
import PyProof.NeData
import PyProof.ExcArgs
import KE.KSortTup
import PyProof.CompUse
import KE.KRevIter
import PyProof.TupleOfGen
import PyProof.CollectIter
import PyProof.ListMulRoad
import PyProof.Draws
import PyProof.EnumMake
import PyProof.ListNew
import PyProof.AttrMissHeap
import PyProof.FactsAll.dict
import KE.KEqDict
import PyProof.FactsAll.zip
import PyProof.StrBlockH
import PyProof.MeetsStr2
import KE.KIntText
import PyProof.Rows.FStr
import PyProof.ReprLen
import PyProof.SumAny
import PyProof.Rows.SeqCalls
import PySem.SetOps
import PyProof.TupleKey
import PyProof.SetKind
import PyProof.IsRules
import PyProof.Rows.SetFrom
import PyProof.WalksMore
import PyProof.TupleIter
import KE.KDictSum
import PyProof.RulesTry
import PySem.Challenge.RW_thinnet_k43_whole_steady
open PySem.W (Frag nsIn keepIn fnOf codeIn mg_of mg_none_of)
set_option Elab.async false
set_option linter.all false
set_option maxRecDepth 100000
open Array renaming length_toList->iI,getElem?_eq_getElem->iR,getElem?_eq_some_iff->ju,getElem_mem->lc,getElem?_eq_none->mO
open Array.Perm renaming refl->mH
open Bool renaming and_eq_true->fN,false_ne_true->fV,eq_false_iff->fj,false_eq_true->gQ,eq_iff_iff->gf
open Classical renaming propDecidable->ii,byContradiction->j6
open False renaming elim->gC
open ForInStep renaming yield->iY
open Int renaming le_refl->iy,mul_le_mul_of_nonneg_right->jc,mul_le_mul_of_nonneg_left->jf,toNat_natCast->jg,zero_add->kG,le_trans->lA,add_assoc->lX
open List renaming length_map->FM,getElem?_eq_getElem->On,mem_singleton->Op,mem_cons_self->Re,mem_cons_of_mem->Sc,mem_map->TM,mem_cons->Tk,length_append->XV,mem_append->ZB,getElem?_eq_some_iff->eq,length_cons->fF,not_mem_nil->fH,getElem?_map->fK,size_toArray->fM,mem_append_right->fR,length_singleton->fS,nil_append->fW,nodup_cons->fX,map_append->fg,append_nil->fh,toArray->fk,range->fo,getD_eq_getElem?_getD->fw,getElem_mem->f7,mem_of_getElem?->f8,map_cons->gD,append_assoc->gF,replicate->gK,nodup_nil->gL,mem_append_left->gP,pairwise_cons->gR,mem_filter->gS,nodup_append->gX,map_map->gY,drop_eq_getElem_cons->gZ,length_nil->gn,length_set->gp,mem_range->gu,length_filter_le->gv,mem_flatMap->g9,cons_ne_nil->g_,filter_congr->hV,getElem?_append_left->hX,mem_iff_getElem?->h9,getElem?_append_right->iL,all_eq_true->iM,lt_irrefl->iP,mem_of_find?_eq_some->iS,map_id->iT,length_take->im,lookup_cons->io,drop_length->iq,lookup->ir,take_append_drop->jA,perm_ext_iff_of_nodup->jD,pairwise_map->jF,filter_sublist->jO,length_eq_zero_iff->jQ,filter_map->jb,reverse_cons->jh,length_range->jj,getElem?_set_ne->jp,length->jw,of_mem_zip->jy,forIn_cons->j1,find?_some->j7,zip_cons_cons->kC,zipWith->kF,getElem?_replicate->kJ,pairwise_singleton->kL,take_of_length_le->kN,lt_trans->kT,length_drop->kU,any_eq_true->kX,getElem?_zipWith->kY,getElem?_eq_none->kZ,singleton_append->kc,pairwise_append->ku,mem_of_mem_drop->k7,mem_of_mem_take->k8,Nodup->lB,length_zipWith->lD,length_reverse->lE,map_congr_left->lF,mem_filterMap->lN,filter_filter->lQ,getElem?_set->lZ,pairwise_iff_getElem->lj,getElem?_zip_eq_some->lq,take_length->l_,cons_append->mE,sublist_append_left->mF,getElem?_cons_succ->mG,length_zip->mI,getElem?_set_self->mJ,length_replicate->mP,drop_zero->mQ,all_cons->mY
open List.Pairwise renaming nil->mj
open List.Sublist renaming refl->lf
open Nat renaming le_refl->Rs,zero_le->Uf,le_trans->fJ,ne_of_lt->fQ,lt_of_lt_of_le->fc,le_succ->fu,lt_irrefl->gM,lt_succ_of_lt->gj,ne_of_gt->iV,min_eq_left->ia,le_sub_of_add_le->jG,succ_le_succ->jK,lt_succ_self->jM,min_le_right->jN,lt_of_le_of_lt->jU,not_lt->jV,le_of_ble_eq_true->jo,le_of_lt->j8,zero_add->k6,sub_le_sub_right->k9,ble->lJ,le_of_eq->lw,lt_trans->l7,le_add_right->mB,mul_le_mul->mT,mod_lt->mX
open Ne renaming symm->gE
open Option renaming map_eq_some_iff->fq,isSome_map->lY,some_beq_some->mW
open Option.some renaming inj->fG
open Or renaming inl->f9,inr->g7
open PyProof.Rows renaming slot_tuple_getitem->gW,callWith_type1->gz,boot_all->iQ,listUpdate_at->jC,boot_sorted->jI,get?_update_seq->jY,AllBare->jk,IsTup->kO,listItems_at->kr,seqEpoch_at->lL,lt_int->mL
open PyProof.Rows.KeyOrd renaming kle_refl->hZ,kle_of_klt->kM,kle_trans->kW,kle_antisymm->me
open PySem renaming wpAny_bind->Ch,Addr->Db,Value->Ev,Shared->No,wpAny_pure->TW,Heap->fO,Program->fT,World->fY,Expr->fZ,Around->fb,wpAny_mono->ft,sizeLine_eq->fz,wpAny_field->f6,FuncData->f_,wpAny_holding->gG,Stmt->gJ,wpAny_loadPart_at->gO,wpAny_Call_Name_kw->gc,wpAny_loadPart'->gg,wpAny_isSubtype_exc->gh,wpAny_newObj_type->gi,wpAny_callSpecial?_slot->gl,wpAny_pyIter_tuple->gm,builtinLookup_eq_fast->gw,codeAny_builtin->gy,wpAny_call_entry->g8,wpAny_seqItems->hG,wpAny_pyIter_list->hU,Builtin->h8,IsPair->iA,wpAny_of_eq->iB,plainId_quiet->iC,wpAny_truthy_bool->iG,wpAny_call->iK,Keyword->iO,Scope->iU,wpAny_specialOf->iX,codeAny_call_builtin->iZ,typeLookup_type->ic,wpAny_attempt->ig,NameKind->ij,wpAny_setField->ip,tupleKind_room_in1->i6,wpAny_setField_rec->i7,wpAny_passesOwn->i_,codeAny_mono->jJ,wpAny_getItem_str_slice->jP,wpAny_execs_nil->jT,PyData->jX,wpAny_updateSeq->jZ,wpAny_letGo->jd,IsZip->ji,isSubtype_type->jn,wpAny_rule->jr,wpAny_isInstance->jt,ExceptHandler->jv,PassesOwn->j9,wpAny_typeOf->j_,typeIs_str->kI,wpAny_standAt->kP,wpAny_onRaise->kR,plainObj_wpAny_Assign_Attribute->kd,IsPart->ke,call_meetsIn->kg,codeAny_of_tree->ki,post_val_or_str->kj,wpAny_updateSeq_pair->km,BindsTo->lG,wpAny_tryCatch->lI,SetTable->lK,wpAny_newFunctionEnv_cells->lT,wpAny_newList->lW,wpAny_execs_cons->lr,noFill_tuple_add->lu,wpAny_madeBy_exc->l8
open PySem.Around renaming under_plainId->iF,frames_deeper->mV
open PySem.Builtin.Builtins renaming bindParams->lP
open PySem.Builtin.List renaming listExtendWith->i8,listLengthHint->i9,listTooLong->jL,listSameRef->mC
open PySem.Builtin.ObjectAttr renaming storeInDict->kh
open PySem.Builtin.Slice renaming slicePlaces->jz,sliceAdjust->lh
open PySem.Builtin.SmallTypes renaming nextOf->gs,ownedTupleIsFree->iE,ownedTupleHandOut->kE
open PySem.Builtin.Tuple renaming tupleExact->kA,tupleItemsOf->lU,tupleIsExact->lV
open PySem.Calls renaming spliced_cons->iN,callWith_builtin->iu,spliced_nil->jE,evalArgs_plain->jq,Name_function_global->lR
open PySem.Code renaming quiet_builtin->jW
open PySem.EntryCells renaming newEntry->mZ
open PySem.Expr renaming Call->ja
open PySem.F renaming slot_tuple_iterator_next->jB,slot_zip_next->ko,args_object_init_2->kz,plain_reversed_new->k_,args_tuple_iterator_next_1->lH,entry_tuple_iterator_next->lO,called_tuple->mR
open PySem.Heap renaming get?_push_of_some->Go,lt_size->T0,get?_push_size->UF,get?_update_other->fL,get?_update_self->gA,size_push->gU,SameBut->iz,get?_update_ne->jx,IsTuple->l9,ExtBut->mM,IsList->mN
open PySem.Heap.ExtBut renaming push->mn
open PySem.Heap.SameBut renaming update->lC
open PySem.Heap.UpToSlots renaming refl->md
open PySem.NameKind renaming free->gN,cell->kQ
open PySem.Obj renaming mapSeq->gH,data_mapFields->h_,mapFields->ie,isFreed_of_fields->jm
open PySem.PassesOwn renaming never->fP
open PySem.PyData renaming eqv->gI,depthAll->gq,canLayAll0->iH,eqvAll->jS,leavesShortAll->mS
open PySem.SeqAt.EqAt renaming int_str->mh,str_int->mi
open PySem.Shared renaming heap->je
open PySem.Str renaming ofString->iJ
open PySem.Value renaming ref->fI,none->fm,type->gB,str->jH,builtin->jR,bool->lg
open Std.Legacy.Range renaming size->mU
open Sum renaming inr->iD,inl->kH
open Sum.inr renaming inj->iw
open True renaming intro->iW
open PySem PySem.Spec PyProof.Rows
local macro_rules | `(tactic| walk_at "s")=>`(tactic| (constructor <;> first | rfl | decide +kernel))
namespace _p

local macro_rules|`(tactic|let#[$x,*]:=$e)=>open Lean Parser Tactic in do
 let q k a:=mkNode ``rcasesPatLo #[mkNode ``rcasesPatMed #[mkNullNode #[mkNode k a]],mkNullNode]
 let p:Syntax:=(← `(term|⟨$x,*⟩)).raw.rewriteBottomUp fun s=>if s.isIdent then q ``rcasesPat.one #[s] else if s.getKind= ``Term.hole then q ``rcasesPat.ignore s.getArgs else if s.getKind= ``Term.anonymousCtor||s.getKind= `«term#[_,]» then q ``rcasesPat.tuple s.getArgs else s
 let m:TSyntax ``rcasesPatMed:=⟨p[0]⟩
 `(tactic|obtain $m:rcasesPatMed:=$e)
local macro_rules|`(tactic|exists $x,*)=>`(tactic|refine⟨$x,*, ?_⟩)
local macro_rules|`(tactic|lk)=>`(tactic|first|lia|omega)
local macro_rules|`(tactic|cbv)=>`(tactic|decide)
local macro_rules|`($f^$x)=>if f.raw.getTrailingSize>0 then Lean.Macro.throwUnsupported else match f with|`($g $a*)=>`($g $a* $x)|_=>`($f $x)
local macro_rules|`(#[%$t $y,*])=>if t.getTrailingSize>0||y.getElems.size=0 then Lean.Macro.throwUnsupported else `(⟨$y,*⟩)
open Option renaming some->P3,none->n_
open Bool renaming true->o_,false->p_
abbrev q_(a:Type u):=List a
abbrev r_(a:Type u):=Option a
namespace L2
abbrev Key:=Sum Int Str
def Kf:Key->Ev->Bool
 |.inl k,v=>Value.isInt k v
 |.inr x,v=>Value.isStrOf x v
def cu(w:fY):Key->Int
 |.inl k=>hashInt k
 |.inr x=>hashStr w x
theorem BI:∀{k:Key}{v:Ev},Kf k v=o_->(∃i t,k=kH i/\v=Value.int i t)\/(∃x t,k=iD x/\v=jH x t)
 |.inl i,v,h=>by
  let#[t,e]:=Value.isInt_shape h;exact .inl #[i,t,rfl,e]
 |.inr x,v,h=>by
  let#[t,e]:=Value.isStrOf_shape h;exact .inr #[x,t,rfl,e]
def Qn(i:Int)(t:Tok):Kf (.inl i)^.int i t=o_:=by simp[Kf,Value.isInt]
def Qm(x:Str)(t:Tok):Kf (.inr x)^.str x t=o_:=by simp[Kf,Value.isStrOf]
def YT(a b:Int):decide ((kH a:Key)=kH b)=(a==b):=by
 grind
def YQ(a b:Str):decide ((iD a:Key)=iD b)=decide (a=b):=by
 grind
def YS(a:Int)(b:Str):decide ((kH a:Key)=iD b)=p_:=decide_eq_false λq=>nomatch q
def YR(a:Str)(b:Int):decide ((iD a:Key)=kH b)=p_:=decide_eq_false λq=>nomatch q
def BC(c:fT)(w:fY):PySem.KeyKind c w Key where
 is:=Kf
 hash:=cu w
 inj:=λv a b l g=>by
  rcases BI l with⟨i,t,rfl,rfl⟩|⟨x,t,rfl,rfl⟩
  .rcases BI g with⟨j,u,rfl,e⟩|⟨y,u,rfl,e⟩
   .injection e with d _;rw[d]
   .exact nomatch e
  .rcases BI g with⟨j,u,rfl,e⟩|⟨y,u,rfl,e⟩
   .exact nomatch e
   .injection e with d _;rw[d]
 byValue:=λk v h=>by
  rcases BI h with⟨i,t,rfl,rfl⟩|⟨x,t,rfl,rfl⟩ <;>rfl
 pyHash:=λf h=>by
  rcases BI f with⟨i,t,rfl,rfl⟩|⟨x,t,rfl,rfl⟩
  .exact wpAny_pyHash_int h
  .exact wpAny_pyHash_str h
 eqBool:=λm f h=>by
  rcases BI m with⟨i,t,rfl,rfl⟩|⟨x,t,rfl,rfl⟩
  .rcases BI f with⟨j,u,rfl,rfl⟩|⟨y,u,rfl,rfl⟩
   .rw[YT]at h;exact wpAny_eqBool_int h
   .rw[YS]at h;exact mh i t y u _ _ _ _ h
  .rcases BI f with⟨j,u,rfl,rfl⟩|⟨y,u,rfl,rfl⟩
   .rw[YR]at h;exact mi x t j u _ _ _ _ h
   .rw[YQ]at h;exact wpAny_eqBool_str h
 «strs»:=λk x t v h=>by
  rcases BI h with⟨i,u,rfl,e⟩|⟨y,u,rfl,e⟩
  .exact nomatch e
  .injection e with d _
   subst d
   cases v <;>rfl
def Mn(a:fT)(w:fY)(i:Int)(t:Tok):(BC a w).is (.inl i)^.int i t=o_:=Qn i t
def Mm(a:fT)(w:fY)(x:Str)(t:Tok):(BC a w).is (.inr x)^.str x t=o_:=Qm x t
inductive V where
 |non|bl (b:Bool)|int (i:Int)|str (x:Str)|byt (b:Array UInt8)|flt (b:UInt64)|ref (a:Db)|ty (n:String)
 deriving DecidableEq
def RelV:V->Ev->Prop
 |.non,u=>u=fm
 |.bl b,u=>u=lg b
 |.int i,u=>∃t,u=Value.int i t
 |.str x,u=>∃t,u=jH x t
 |.byt b,u=>∃t,u=Value.bytes b t
 |.flt b,u=>∃t,u=Value.float b t
 |.ref a,u=>u=fI a
 |.ty n,u=>u=gB n
abbrev Vals:q_ V->q_ Ev->Prop:=Paired RelV
def Vals.length{a:q_ V}{b:q_ Ev}(r:Vals a b):a.length=b.length:=Paired.length r
theorem Vals.get:∀{a:q_ V}{b:q_ Ev}{i:Nat}{x:V},Vals a b->a[i]?=P3 x->∃u,b[i]?=P3 u/\RelV x u
 |_,_,_,_,.nil,e=>by simp at e
 |_,_,0,_,.cons r _,e=>by simp_all
 |_,_,i+1,x,.cons _ t,e=>by
  let#[u,c,d]:=Vals.get t^by simpa using e
  simp_all
theorem Vals.set{x:V}{u:Ev}(r:RelV x u):∀{a:q_ V}{b:q_ Ev} (i:Nat),Vals a b->Vals (a.set i x)^b.set i u
 |_,_,_,.nil=>.nil
 |_,_,0,.cons _ t=>.cons r t
 |_,_,i+1,.cons q t=>.cons q^Vals.set r i t
theorem Vals.append:∀{a b:q_ V}{c d:q_ Ev},Vals a c->Vals b d->Vals (a++b) (c++d)
 |_,_,_,_,.nil,s=>s
 |_,_,_,_,.cons r t,s=>.cons r^Vals.append t s
theorem Vals.take:∀{a:q_ V}{b:q_ Ev} (n:Nat),Vals a b->Vals (a.take n)^b.take n
 |_,_,0,_=>.nil
 |_,_,_+1,.nil=>.nil
 |_,_,n+1,.cons r t=>.cons r^Vals.take n t
theorem Vals.drop:∀{a:q_ V}{b:q_ Ev} (n:Nat),Vals a b->Vals (a.drop n)^b.drop n
 |_,_,0,r=>r
 |_,_,_+1,.nil=>.nil
 |_,_,n+1,.cons _ t=>Vals.drop n t
def RelO:r_ V->r_ Ev->Prop
 |some v,P3 u=>RelV v u
 |none,n_=>True
 |_,_=>False
def KV{a:Type}:q_ (a×V)->q_ (a×Ev)->Prop:=Paired fun(p:a×V) (q:a×Ev)=>p.1=q.1/\RelV p.2 q.2
def kV:Key->V
 |.inl i=>.int i
 |.inr x=>.str x
inductive HO where
 |lst (xs:List V)
 |tup (xs:List V)
 |dK (kvs:List (Key×V))|dT (kvs:List (List Key×V))
 |set (S:Int->Bool) (n:Nat)
 |ins (C dx:Db) (fs:List (Str×V))
 |own (x:Db)
 |xd (fs:List (Str×V))
 |met (f x:Db)
 |rng (lo hi:Int)
 |frz (o:Obj) (u:HO)
 |tbl (ps:Array Ev)
 |ext (φ:fO->Prop)
abbrev Hp:=Db->r_ HO
def Ar(H:Hp)(a:Db)(o:HO):Hp:=λb=>if b=a then P3 o else H b
def AR{H:Hp}{a:Db}{o:HO}:Ar H a o a=P3 o:=by unfold Ar;grind
def AM{H:Hp}{a b:Db}{o:HO}(h:b≠a):Ar H a o b=H b:=by unfold Ar;rw[if_neg h]
def aF{H:Hp}{a b:Db}{o u:HO}(h:H a=P3 o)(c:H b=P3 u)(d:o≠u):a≠b:=by
 grind
def An{H:Hp}{a b:Db}{o:HO}(h:H a=P3 o)(c:H b=n_):a≠b:=by
 grind
def IsTupN(h:fO)(a:Db)(b:Array Ev):Prop:=∃o,h.get? a=P3 o/\o.cls=.type "tuple"/\∃n,o.data=.seq b n/\o.dict=n_/\o.slots=#[]
def IsTupN.tup{h:fO}{a:Db}{b:Array Ev}(x:IsTupN h a b):kO h a b:=let #[o,c,d,n,e,_]:=x;#[o,c,d,n,e]
def IsTupN.new(h:fO)(a:Array Ev):IsTupN (h.push {cls:=.type "tuple",data:=.seq a}) h.objs.size a:=#[_,UF _ rfl,rfl,_,rfl,rfl,rfl]
section
variable (P:Program)(w:World)
def ObjOk(H:Hp)(h:fO)(a:Db):HO->Prop
 |.lst d=>d.length<=sizeLine/\∃(b:q_ Ev) (n:Nat),Vals d b/\h.get? a=P3 {cls:=.type "list",data:=.seq b.toArray n}
 |.tup d=>d.length<=sizeLine/\∃b:q_ Ev,Vals d b/\IsTupN h a b.toArray
 |.dK c=>c.length<=sizeLine/\(a==sysModules)=p_/\∃k,KV c k/\h.DictOf (BC P w) a k
 | .dT c=>c.length<=sizeLine/\(a==sysModules)=p_/\∃d:q_ (q_ Key×Db×Ev),
   Paired (fun(p:q_ Key×V) (q:q_ Key×Db×Ev)=>p.1=q.1/\H q.2.1=P3^.tup^p.1.map kV/\RelV p.2 q.2.2) c d /\
   ∃o l y,h.get? a=P3 o/\o.ExactDict/\o.data=.dict l y/\l.toList=d.map^entryOfKey^tupleKind^BC P w/\(d.map (·.1)).Nodup
 |.set S n=>h.SetOf (intKind P w) a S n
 | .ins C i g=>H i=P3^.own a/\g.length<=1000/\i≠a/\h.get? a=P3^PySem.W.instObj C i /\
   ∃e,h.Ns1 i e/\(∀f,RelO (g.lookup f)^e f)/\PySem.Within e (g.map (·.1))
 |.own _=>∃o,h.get? a=P3 o
 |.xd g=>∃e,h.Ns1 a e/\∀f,RelO (g.lookup f)^e f
 |.rng z A=>∃t u v,h.get? a=P3 {cls:=.type "range",data:=.fields #[ .int z t,.int A u,.int 1 v]}
 |.frz o u=>h.get? a=P3 o/\ObjOk H h a u
 |.tbl B=>h.get? a=P3 {cls:=.none,data:=.fields B}
 |.met f x=>h.get? a=P3^PySem.W.methodObj (.ref f)^.ref x
 |.ext j=>j h/\(∃o,h.get? a=P3 o)/\∀m r:fO,j m->(∀o,m.get? a=P3 o->r.get? a=P3 o)->j r
def HOk(H:Hp)(h:fO):Prop:=∀a o,H a=P3 o->ObjOk P w H h a o
end
section
variable {P:Program}{w:World}{H H':Hp}{h h':Heap}{a:Addr}{o:HO}
def ObjOk.lt(x:ObjOk P w H h a o):a<h.objs.size:=by
 cases o with
 |lst c=>let#[_,_,_,_,e]:=x;exact T0 e
 |tup c=>let#[_,_,_,p]:=x;exact p.tup.lt
 |dK b=>let#[_,_,_,_,o,_,_,e,_]:=x;exact T0 e
 |dT b=>let#[_,_,_,_,o,_,_,e,_]:=x;exact T0 e
 |set S n=>let#[o,_,_,_,e,_]:=x;exact T0 e
 |ins C g d=>let#[_,_,_,e,_]:=x;exact T0 e
 |own y=>let#[_,e]:=x;exact T0 e
 |xd d=>let#[_,#[_,_,_,e,_],_]:=x;exact T0 e
 |rng i j=>let#[_,_,_,e]:=x;exact T0 e
 |frz k u=>let#[e,_]:=x;exact T0 e
 |tbl l=>exact T0 (show h.get? a=P3 _ from x)
 |met f y=>exact T0 (show h.get? a=P3 _ from x)
 |ext m=>let#[_,#[_,e],_]:=x;exact T0 e
theorem Paired.mapP{e g:Type}{F G:e->g->Prop}:∀{c:q_ e}{d:q_ g},Paired F c d->(∀a b,F a b->G a b)->Paired G c d
 |_,_,.nil,_=>.nil
 |_,_,.cons r t,f=>.cons (f _ _ r)^Paired.mapP t f
def ObjOk.stay(x:ObjOk P w H h a o)(k:∀b u,(b=a\/H b=P3^.own a)->h.get? b=P3 u->h'.get? b=P3 u)
  (F:∀b,H b=P3^.own a->H' b=P3^.own a) (G:∀b m,H b=P3^.tup m->H' b=P3^.tup m):ObjOk P w H' h' a o:=by
 induction o with
 |lst m=>let#[z,l,n,r,e]:=x;exact#[z,l,n,r,k _ _ (.inl rfl) e]
 |tup m=>let#[z,l,r,g,e,c]:=x;exact#[z,l,r,g,k _ _ (.inl rfl) e,c]
 |dK s=>let#[z,y,I,r,g,i,j,e,c]:=x;exact#[z,y,I,r,g,i,j,k _ _ (.inl rfl) e,c]
 |dT s=>
  let#[z,y,m,r,g,i,j,e,c]:=x;exact#[z,y,m,Paired.mapP r λp q z=>#[z.1,G _ _ z.2.1,z.2.2],g,i,j,k _ _ (.inl rfl) e,c]
 |set S n=>let#[g,i,j,t,e,c]:=x;exact#[g,i,j,t,k _ _ (.inl rfl) e,c]
 |ins C N J=>
  let#[d,z,K,e,A,#[B,i,j,L,c],r]:=x;exact#[F _ d,z,K,k _ _ (.inl rfl) e,A,#[B,i,j,k _ _ (.inr d) L,c],r]
 |own y=>let#[g,e]:=x;exact#[g,k _ _ (.inl rfl) e]
 |xd J=>let#[A,#[B,i,j,e,c],r]:=x;exact#[A,#[B,i,j,k _ _ (.inl rfl) e,c],r]
 |rng O Q=>let#[t,u,v,e]:=x;exact#[t,u,v,k _ _ (.inl rfl) e]
 |frz g u M=>let#[e,q]:=x;exact#[k _ _ (.inl rfl) e,M q]
 |tbl D=>
  have e:h.get? a=P3 {cls:=.none,data:=.fields D}:=x;show h'.get? a=P3 {cls:=.none,data:=.fields D};exact k a _ (.inl rfl) e
 |met f y=>
  have e:h.get? a=P3^PySem.W.methodObj (.ref f)^.ref y:=x;show h'.get? a=P3^PySem.W.methodObj (.ref f)^.ref y;exact k a _ (.inl rfl) e
 |ext R=>let#[p,#[o,e],E]:=x;exact#[E _ _ p λo q=>k _ _ (.inl rfl) q,#[o,k _ _ (.inl rfl) e],E]
def HOk.lt(x:HOk P w H h)(e:H a=P3 o):a<h.objs.size:=(x a o e).lt
def HOk.fresh(x:HOk P w H h)(e:h.objs.size<=a):H a=n_:=by
 cases q:H a with
 |none=>rfl
 |some u=>exact absurd (fc (x.lt q) e)^gM _
def HOk.kept(x:HOk P w H h)(k:∀b u,h.get? b=P3 u->h'.get? b=P3 u):HOk P w H h':=λa o e=>
 (x a o e).stay (λb u _ q=>k b u q) (λ_ q=>q) λ_ _ q=>q
def HOk.laid(x:HOk P w H h)(k:∀b u,h.get? b=P3 u->h'.get? b=P3 u)(g:h.objs.size<=a)(new:ObjOk P w (Ar H a o) h' a o):HOk P w (Ar H a o) h':=λb u e=>by
 have d:=x.fresh g
 by_cases f:b=a
 .subst f;rw[AR]at e;grind
 .rw[AM f]at e
  exact(x b u e).stay (λc v _ q=>k c v q) (λc q=>by rw[AM^An q d];exact q) λc i q=>by rw[AM^An q d];exact q
end
def Rd(H:Hp)(a:Db)(u:HO):Prop:=H a=P3 u\/∃o,H a=P3^.frz o u
def Rd.ok{P:fT}{w:fY}{H:Hp}{h:fO}{a:Db}{u:HO}(r:Rd H a u)(x:HOk P w H h):ObjOk P w H h a u:=by
 rcases r with r|⟨o,r⟩
 .exact x a u r
 .let#[_,q]:=x a _ r
  exact q
def bZ:r_ HO->Prop
 |some (.lst _)=>True
 |some (.dK _)=>True
 |some (.dT _)=>True
 |some (.set _ _)=>True
 |some (.ins _ _ _)=>True
 |some (.ext _)=>True
 |_=>False
section
variable {P:Program}{w:World}{H:Hp}{h h':Heap}{x e:Addr}{o':HO}
def HOk.write(ok:HOk P w H h)(f:bZ^H x)(o:e=x\/H e=P3^.own x)(k:∀b u,b≠e->h.get? b=P3 u->h'.get? b=P3 u)(i:∃u,h'.get? e=P3 u)
  (new:ObjOk P w (Ar H x o') h' x o'):HOk P w (Ar H x o') h':=λb u q=>by
 have a:∀c y,H c=P3^.own y->c≠x:=λc y r z=>by subst z;rw[r]at f;exact f
 have d:∀c g,H c=P3^.tup g->c≠x:=λc g r z=>by subst z;rw[r]at f;exact f
 by_cases l:b=x
 .subst l;rw[AR]at q;cases q;exact new
 .rw[AM l]at q
  by_cases j:b=e
  .have m:H b=P3^.own x:=by
    grind
   rw[q]at m;cases m
   let#[v,n]:=i;exact#[v,by rw[j];exact n]
  .refine(ok b u q).stay (λc v p r=>k c v ?_ r) (λc r=>by rw[AM^a c b r];exact r) λc g r=>by rw[AM^d c g r];exact r
   grind
end
structure Un (fs ex:List Db) (H H':Hp) (h h':fO):Prop where
 keep:∀b o,h.get? b=P3 o->H b=n_->b∉fs->b∉ex->h'.get? b=P3 o
 slot:∀b o,h.get? b=P3 o->H b=n_->b∈fs->b∉ex->∃sl,h'.get? b=P3 {o with slots:=sl}
 free:∀b o,h.get? b=P3 o->H b=n_->b∉ex->H' b=n_
 there:∀b o,h.get? b=P3 o->b∉ex->∃o',h'.get? b=P3 o'
 tups:∀b xs,H b=P3^.tup xs->H' b=P3 (.tup xs)
 frzs:∀b o u,H b=P3^.frz o u->H' b=P3 (.frz o u)
 tbls:∀b ps,H b=P3^.tbl ps->∃more,H' b=P3^.tbl (ps++more)
section
variable {fs ex:q_ Addr}{H H1 H2:Hp}{h h1 h2 h':Heap}{a x e:Addr}{o:HO}
def Un.any(u:Un fs ex H H1 h h1){b:Db}{c:Obj}(q:h.get? b=P3 c)(n:H b=n_)(hx:b∉ex):∃e,h1.get? b=P3 {c with slots:=e}:=by
 by_cases d:b∈fs
 .exact u.slot b c q n d hx
 .exact#[_,u.keep b c q n d hx]
def Un.trans(a:Un fs ex H H1 h h1)(b:Un fs ex H1 H2 h1 h2):Un fs ex H H2 h h2 where
 keep:=λc d q n g e=>b.keep c d (a.keep c d q n g e) (a.free c d q n e) g e
 slot:=λc d q n g e=>by
  let#[p,f]:=a.slot c d q n g e;let#[l,k]:=b.slot c _ f (a.free c d q n e) g e;exact#[_,k]
 free:=λc d q n e=>by
  let#[j,f]:=a.there c d q e;exact b.free c j f (a.free c d q n e) e
 there:=λc d q e=>by
  let#[j,f]:=a.there c d q e;exact b.there c j f e
 tups:=λc i q=>b.tups c i (a.tups c i q)
 frzs:=λc d i q=>b.frzs c d i (a.frzs c d i q)
 tbls:=λc m q=>by
  let#[r,f]:=a.tbls c m q;let#[s,k]:=b.tbls c _ f
  grind
def Un.kept(k:∀b u,h.get? b=P3 u->h'.get? b=P3 u):Un fs ex H H h h':=
 #[λb c q _ _ _=>k b c q,λb c q _ _ _=>#[_,k b c q],λ_ _ _ n _=>n,λb c q _=>#[c,k b c q],λ_ _ q=>q,λ_ _ _ q=>q,λ_ d q=>#[#[],by rw[q];simp]]
def Un.refl:Un fs ex H H h h:=Un.kept λ_ _ q=>q
def Un.laid(k:∀b u,h.get? b=P3 u->h'.get? b=P3 u)(d:h.objs.size<=a)(c:H a=n_):Un fs ex H (Ar H a o) h h' where
 keep:=λb u q _ _ _=>k b u q
 slot:=λb u q _ _ _=>#[_,k b u q]
 free:=λb u q n _=>by rw[AM^fQ^fc (T0 q) d];exact n
 there:=λb u q _=>#[u,k b u q]
 tups:=λb e q=>by rw[AM^An q c];exact q
 frzs:=λb u e q=>by rw[AM^An q c];exact q
 tbls:=λb f q=>#[#[],by rw[AM^An q c,q];simp]
def Un.write(f:bZ^H x)(m:e=x\/H e=P3^.own x)(k:∀b u,b≠e->h.get? b=P3 u->h'.get? b=P3 u)(i:∃u,h'.get? e=P3 u):Un fs ex H (Ar H x o) h h':=by
 have j:∀b,H b=n_->b≠x:=λb n z=>by subst z;rw[n]at f;exact f
 have g:∀b,H b=n_->b≠e:=λb n z=>by
  grind
 have c:∀b u,H b=P3 u->¬bZ^P3 u->b≠x:=λb u q p z=>by grind
 refine#[λb u q n _ _=>k b u (g b n) q,λb u q n _ _=>#[u.slots,k b u (g b n) q],λb u q n _=>by rw[AM^j b n];exact n,λb u q _=>?_,
  λb l q=>by rw[AM^c b _ q λz=>z];exact q,λb u l q=>by rw[AM^c b _ q λz=>z];exact q,λb r q=>#[#[],by rw[AM^c b _ q λz=>z,q];simp]]
 by_cases d:b=e
 .simp_all
 .exact#[u,k b u d q]
end
def eQ(h:fO)(H:Hp):q_ Db:=(fo h.objs.size).filter λa=>(H a).isSome
def Lk(h:fO)(H:Hp):fO:=PySem.W.hideAll h^eQ h H
def Qr(h:fO)(H:Hp):(Lk h H).objs.size=h.objs.size:=PySem.W.hideAll_size _ _
def TL{h:fO}{H:Hp}{b:Db}{o:Obj}(e:h.get? b=P3 o)(n:H b=n_):(Lk h H).get? b=P3 o:=
 PySem.W.hideAll_get _ e λa=>by
  have q:=(gS.mp a).2
  grind
def VN{h:fO}{H:Hp}{b:Db}{o:Obj}(e:(Lk h H).get? b=P3 o):h.get? b=P3 o/\H b=n_:=by
 have a:=PySem.W.of_hideAll _ e;exists a;cases q:H b with
 |none=>rfl
 |some x=>
  have z:(Lk h H).get? b=n_:=PySem.W.hideAll_none _^gS.mpr #[gu.mpr^T0 a,by simp[q]]
  grind
structure Mod (K:Frag) (mg:Str->Option Ev) (base:fO):Prop where
 kin:K.In base
 glob:base.Ns mainGlobals mg
 blt:∃mb,base.Ns builtinsNs mb/\∀x:Str,x ≠ "__name__"->mb x=bootBuiltins x
 nolimit:base.NoLimit
/-- the context:a def's body (or a comprehension's block) running. base:fixed through the whole law;s₀,H₀:the entry;outer:the frames whose slots others may change (a def's callers);stack:all frames that run;
   ex:iterators that were made ahead of the entry and are walked here^a comprehension's;fn:the names whose cells were made at the entry (a def:all;a comprehension's block:its own);calm:not within an except suite;pn:zH that every state bears;xe:what is wanted of an exception that leaves the code -/
structure Cx where
 prog:fT
 w:fY
 K:Frag
 mg:Str->Option Ev
 base:fO
 A:fb
 N:List Str
 s₀:No
 H₀:Hp
 env:Env
 outer:List Env
 stack:List Env
 ex:List Db
 fn:Str->Bool
 calm:Bool
 pn:List (Db×Obj)
 xe:Ev->No->Prop
def Kj(l:q_ Env):q_ Db:=l.filterMap (·.frame)
abbrev Cx.fs(X:Cx):q_ Db:=Kj X.outer
def RB(a:iU)(x:Str):Prop:=a.names.lookup x=P3 .local\/a.names.lookup x=P3 .cell\/a.names.lookup x=P3 .free
def Loc(a:iU)(x:Str):Prop:=a.names.lookup x=P3 .local\/a.names.lookup x=P3 .cell
def Look(a:Env)(h:fO)(m:Str->r_ Ev)(x:Str)(u:Ev):Prop:=
 (a.kindOf x=P3 .local/\m x=P3 u)\/((a.kindOf x=P3 .cell\/a.kindOf x=P3 .free)/\∃c,a.cells.lookup x=P3 c/\h.IsCell c^P3 u)
structure Cx.Ok (X:Cx):Prop where
 mod:Mod X.K X.mg X.base
 kind:X.env.scope.kind=.function
 glob:X.env.globals=mainGlobals
 blt:X.env.builtins=builtinsNs
 above:X.s₀.heap.objs.size<=X.env.locals
 inj:∀x y c,X.env.cells.lookup x=P3 c->X.env.cells.lookup y=P3 c->x=y
 has:∀x,(X.env.kindOf x=P3 .cell\/X.env.kindOf x=P3 .free)->∃c,X.env.cells.lookup x=P3 c
 cab:∀x c,X.fn x=o_->X.env.cells.lookup x=P3 c->X.s₀.heap.objs.size<=c
 hd:X.calm=o_->X.A.handled=n_
 frames:X.A.frames=P3 X.stack
 stk:X.stack=X.outer\/(X.stack=X.env::X.outer/\X.env.frame=P3 X.env.locals)
 exf:∀b∈X.ex,b≠X.env.locals/\∀x c,X.env.cells.lookup x=P3 c->c≠b
 bs:∀b o,X.base.get? b=P3 o->X.s₀.heap.get? b=P3 o/\X.H₀ b=n_
 bsz:X.base.objs.size<=X.s₀.heap.objs.size
 noex:∀b o,X.base.get? b=P3 o->b∉X.ex
 exfs:∀b∈X.ex,b∉X.fs
 funs:X.s₀.heap.FunFrames X.base X.outer
 frf:∀b∈X.fs,X.H₀ b=n_
structure Inv (X:Cx) (zH:List (Db×Obj)) (Z:List^Option V) (H:Hp) (s:No):Prop where
 ok:X.Ok
 os:s.os=X.s₀.os
 bare:jk s.gens
 base:Un X.fs X.ex X.H₀ H X.s₀.heap s.heap
 loc:∃m,s.heap.Ns X.env.locals m/\∀(i:Nat) (x:Str) (v:V),X.N[i]?=P3 x->Z[i]?=P3^P3 v->RB X.env.scope x->∃u,RelV v u/\Look X.env s.heap m x u
 cell:∀x c,X.env.cells.lookup x=P3 c->∃v,s.heap.IsCell c v
 free:H X.env.locals=n_
 freeC:∀x c,X.env.cells.lookup x=P3 c->H c=n_
 pin:∀p∈X.pn++zH,s.heap.get? p.1=P3 p.2/\H p.1=n_/\p.1≠X.env.locals/\p.1∉X.fs/\∀v,p.2.data≠.cell v
 hok:HOk X.prog X.w H s.heap
 len:Z.length=X.N.length
section
variable {X:Cx}{zH:q_ (Addr×Obj)}{Z:q_^r_ V}{H H':Hp}{s:Shared}{h':Heap}
def Cx.Ok.nofr(ok:X.Ok){b:Db}{o:Obj}(e:X.base.get? b=P3 o):b∉X.fs:=λa=>by
 have:=(ok.funs.mem a).1
 grind
def Inv.bs(I:Inv X zH Z H s):∀b o,X.base.get? b=P3 o->s.heap.get? b=P3 o/\H b=n_:=λb o e=>
 #[I.base.keep b o (I.ok.bs b o e).1 (I.ok.bs b o e).2 (I.ok.nofr e)^I.ok.noex b o e,I.base.free b o (I.ok.bs b o e).1 (I.ok.bs b o e).2 (I.ok.noex b o e)]
def Inv.bk(I:Inv X zH Z H s):∀b o,X.base.get? b=P3 o->s.heap.get? b=P3 o:=λb o e=>(I.bs b o e).1
def Inv.mod(I:Inv X zH Z H s):Mod X.K X.mg X.base:=I.ok.mod
def Inv.kIn(I:Inv X zH Z H s):X.K.In s.heap:=I.ok.mod.kin.keeps I.bk
def Inv.lt(I:Inv X zH Z H s):X.env.locals<s.heap.objs.size:=let #[_,a,_]:=I.loc;a.lt
def Inv.sz(I:Inv X zH Z H s):X.s₀.heap.objs.size<=s.heap.objs.size:=fJ I.ok.above^j8 I.lt
def Inv.nofs(I:Inv X zH Z H s){a:Db}(h:s.heap.objs.size<=a):a∉X.fs:=λb=>by
 let#[_,o,c,_]:=I.ok.funs.mem b;exact absurd (fc (T0 c)^fJ I.sz h)^gM _
def Inv.cne(I:Inv X zH Z H s):∀x c,X.env.cells.lookup x=P3 c->c≠X.env.locals:=λx c e z=>by
 let#[v,o,d,f]:=I.cell x c e;let#[m,#[g,h,i,a,b,_],_]:=I.loc
 grind
def Inv.funs(I:Inv X zH Z H s):s.heap.FunFrames X.base X.outer:=by
 have all:∀(l:q_ _),(∀b∈Kj l,b∈X.fs)->X.s₀.heap.FunFrames X.base l->s.heap.FunFrames X.base l:=by
  intro l
  induction l with
  |nil=>intro _ _;trivial
  |cons g r h=>
   intro d i;let#[j,#[L,o,f,k,m,n],p]:=i;have a:=d L (by unfold Kj;simp_all);let#[q,e]:=I.base.slot L o m (I.ok.frf L a) a λz=>I.ok.exfs L z a;exact#[j,#[L,_,f,k,e,n],h (λb c=>d b^by unfold Kj;rw[List.filterMap_cons,f];exact Sc _ c) p]
 exact all _ (λ_ c=>c) I.ok.funs
def Inv.stack(I:Inv X zH Z H s):s.heap.FunFrames X.base X.stack:=by
 rcases I.ok.stk with e|⟨e,a⟩
 .rw[e];exact I.funs
 .rw[e]
  let#[m,b,_]:=I.loc;exact .cons (by rw[I.ok.kind];decide) a b (Heap.get?_none_of_le^fJ I.ok.bsz I.ok.above) I.funs
def Inv.stkSub(I:Inv X zH Z H s):∀b∈Kj X.stack,b∈X.env.locals::X.fs:=λb a=>by
 rcases I.ok.stk with e|⟨e,c⟩
 .grind
 .rw[e]at a
  unfold Kj at a;rw[List.filterMap_cons,c]at a;exact a
def Inv.stkFree(I:Inv X zH Z H s):∀b∈Kj X.stack,H b=n_:=λb a=>by
 rcases Tk.mp^I.stkSub b a with e|a
 .rw[e];exact I.free
 .let#[_,o,c,_]:=I.ok.funs.mem a
  exact I.base.free b o c (I.ok.frf b a) λz=>I.ok.exfs b z a
def Inv.step{g':Array GenState}{t':Nat}{d':Drawn}{ch:q_ Db}(I:Inv X zH Z H s)
  (f:∀b∈ch,(b∈X.ex\/X.s₀.heap.objs.size<=b)/\b≠X.env.locals/\(∀x c,X.env.cells.lookup x=P3 c->c≠b)/\∀p∈X.pn++zH,p.1≠b)
  (keep:∀b o,b≠X.env.locals->b∉X.fs->b∉ch->s.heap.get? b=P3 o->H b=n_->h'.get? b=P3 o)
  (y:∀b o,b≠X.env.locals->b∈X.fs->b∉ch->s.heap.get? b=P3 o->H b=n_->∃N,h'.get? b=P3 {o with slots:=N}) (free:∀b o,b∉ch->s.heap.get? b=P3 o->H b=n_->H' b=n_)
  (B:∀b o,b∉ch->s.heap.get? b=P3 o->∃E,h'.get? b=P3 E)
  (tups:∀b A,H b=P3^.tup A->H' b=P3^.tup A) (F:∀b o u,H b=P3^.frz o u->H' b=P3^.frz o u) (G:∀b M,H b=P3^.tbl M->∃J,H' b=P3^.tbl (M++J))
  (V:∀m,s.heap.Ns X.env.locals m->h'.Ns X.env.locals m) (O:HOk X.prog X.w H' h') (W:jk g'):
  Inv X zH Z H' {s with heap:=h',gens:=g',drawn:=d',toks:=t'}:=by
 have K:∀b o,X.s₀.heap.get? b=P3 o->b≠X.env.locals:=λb o e=>fQ^fc (T0 e) I.ok.above
 have j:∀b o,X.s₀.heap.get? b=P3 o->b∉X.ex->b∉ch:=λb o e a C=>by
  rcases(f b C).1 with z|z
  .exact a z
  .exact absurd (fc (T0 e) z)^gM _
 have g:∀x c,X.env.cells.lookup x=P3 c->∀v,s.heap.IsCell c v->h'.IsCell c v:=λx c e v #[o,D,P]=>by
  have h:c∉ch:=λz=>(f c z).2.2.1 x c e rfl
  by_cases R:c∈X.fs
  .let#[N,q]:=y c o (I.cne x c e) R h D^I.freeC x c e
   exact#[_,q,P]
  .exact#[o,keep c o (I.cne x c e) R h D^I.freeC x c e,P]
 refine#[I.ok,I.os,W,#[λb o e n C a=>?_,λb o e n C a=>?_,λb o e n a=>?_,λb o e a=>?_,λb A e=>tups b A^I.base.tups b A e,λb o A e=>F b o A^I.base.frzs b o A e,λb M e=>?_],?_,λx c e=>?_,?_,λx c e=>?_,λp S=>?_,O,I.len]
 .exact keep b o (K b o e) C (j b o e a) (I.base.keep b o e n C a)^I.base.free b o e n a
 .let#[N,t]:=I.base.slot b o e n C a
  let#[Q,L]:=y b _ (K b o e) C (j b o e a) t^I.base.free b o e n a;exact#[Q,L]
 .let#[E,t]:=I.base.there b o e a
  exact free b E (j b o e a) t^I.base.free b o e n a
 .let#[E,t]:=I.base.there b o e a
  exact B b E (j b o e a) t
 .let#[Y,t]:=I.base.tbls b M e
  let#[m2,L]:=G b _ t;exact#[Y++m2,by rw[L,Array.append_assoc]]
 .let#[m,hn,hl]:=I.loc
  refine#[m,V m hn,λi x v t L e3=>?_];let#[u,r,l]:=hl i x v t L e3;exists u,r
  rcases l with l|⟨k,c,e,z⟩
  .exact .inl l
  .exact .inr #[k,c,e,g x c e _ z]
 .let#[v,z]:=I.cell x c e
  exact#[v,g x c e v z]
 .let#[m,#[o,_,_,D,_],_]:=I.loc
  exact free _ o (λz=>(f _ z).2.1 rfl) D I.free
 .let#[v,o,D,P]:=I.cell x c e
  exact free c o (λz=>(f c z).2.2.1 x c e rfl) D^I.freeC x c e
 .let#[e,n,T,U,d]:=I.pin p S
  have h:p.1∉ch:=λz=>(f p.1 z).2.2.2 p S rfl;exact#[keep p.1 p.2 T U h e n,free p.1 p.2 h e n,T,U,d]
def Inv.un{t':Nat}(I:Inv X zH Z H s)(u:Un X.fs [] H H' s.heap h')(c:HOk X.prog X.w H' h'):Inv X zH Z H' {s with heap:=h',toks:=t'}:=by
 let#[m,#[o,l,p,f,r],_]:=id I.loc;let#[q,g]:=u.any f I.free^by simp
 exact I.step (ch:=[]) (λ_ z=>nomatch z) (λb o _ d _ e n=>u.keep b o e n d^by simp) (λb o _ d _ e n=>u.slot b o e n d^by simp) (λb o _ e n=>u.free b o e n^by simp) (λb o _ e=>u.there b o e^by simp) u.tups u.frzs u.tbls (λt h=>by
  let#[v,i,j,a,k]:=h;rw[f]at a;cases a
  exact#[_,_,_,g,k]) c I.bare
def Inv.call{i:Array GenState}{l:Nat}{q:Drawn}{j:q_ Db}(I:Inv X zH Z H s)(u:Un (Kj X.stack) j H H' s.heap h')(g:HOk X.prog X.w H' h')(t:jk i)
  (d:∀b∈j,(b∈X.ex\/X.s₀.heap.objs.size<=b)/\b≠X.env.locals/\(∀x c,X.env.cells.lookup x=P3 c->c≠b)/\∀p∈X.pn++zH,p.1≠b):
  Inv X zH Z H' {s with heap:=h',gens:=i,drawn:=q,toks:=l}:=by
 let#[m,#[o,D,E,k,r],_]:=id I.loc;let#[F,h]:=u.any k I.free λz=>(d _ z).2.1 rfl
 exact I.step d (λb o h v a e n=>u.keep b o e n (λz=>(Tk.mp^I.stkSub b z).elim h v) a) (λb o _ _ a e n=>u.any e n a) (λb o a e n=>u.free b o e n a) (λb o a e=>u.there b o e a) u.tups u.frzs u.tbls (λG y=>by
  let#[J,A,B,f,C]:=y;rw[k]at f;cases f
  exact#[_,_,_,h,C]) g t
def Inv.turned{t':Nat}{it:Db}(I:Inv X zH Z H s)(k:∀b o,b≠it->s.heap.get? b=P3 o->h'.get? b=P3 o)(A:H it=n_)(d:it≠X.env.locals)
  (f:it∈X.ex\/X.s₀.heap.objs.size<=it) (g:∀x c,X.env.cells.lookup x=P3 c->c≠it) (h:∀p∈X.pn++zH,p.1≠it):Inv X zH Z H {s with heap:=h',toks:=t'}:=by
 have i:∀b u,H b=P3 u->b≠it:=λb u e z=>by grind
 refine I.step (g':=s.gens) (d':=s.drawn) (ch:=[it]) (λb j=>?_) (λb o _ _ a e _=>k b o (λz=>a^by simp[z]) e) (λb o _ _ a e _=>#[o.slots,k b o (λz=>a^by simp[z]) e]) (λ_ _ _ _ n=>n)
  (λb o a e=>#[o,k b o (λz=>a^by simp[z]) e]) (λ_ _ e=>e) (λ_ _ _ e=>e) (λb B e=>#[#[],by rw[e];simp]) (λm l=>?_) (λb u e=>?_) I.bare
 .have e:b=it:=by simpa using j
  subst e;exact#[f,d,g,h]
 .let#[o,t,w,y,r]:=l
  exact#[o,t,w,k _ o (gE d) y,r]
 .refine(I.hok b u e).stay (λc v a q=>k c v ?_ q) (λ_ q=>q) λ_ _ q=>q
  grind
def Inv.tok(I:Inv X zH Z H s)(t:Nat):Inv X zH Z H {s with toks:=t}:=I.un Un.refl I.hok
def Inv.kept{t':Nat}(I:Inv X zH Z H s)(k:∀b u,s.heap.get? b=P3 u->h'.get? b=P3 u):Inv X zH Z H {s with heap:=h',toks:=t'}:=I.un (Un.kept k)^I.hok.kept k
def Inv.laid{a:Db}{o:HO}{t':Nat}(I:Inv X zH Z H s)(k:∀b u,s.heap.get? b=P3 u->h'.get? b=P3 u)(c:s.heap.objs.size<=a)(d:ObjOk X.prog X.w (Ar H a o) h' a o):
  Inv X zH Z (Ar H a o) {s with heap:=h',toks:=t'}:=I.un (Un.laid k c^I.hok.fresh c)^I.hok.laid k c d
def Inv.write{x e:Db}{o:HO}{g:Nat}(I:Inv X zH Z H s)(d:bZ^H x)(f:e=x\/H e=P3^.own x)(k:∀b u,b≠e->s.heap.get? b=P3 u->h'.get? b=P3 u)(a:∃u,h'.get? e=P3 u)
  (c:ObjOk X.prog X.w (Ar H x o) h' x o):Inv X zH Z (Ar H x o) {s with heap:=h',toks:=g}:=I.un (Un.write d f k a)^I.hok.write d f k a c
def Inv.pins_of{a:q_ (Db×Obj)}(I:Inv X zH Z H s)(h:∀p∈a,s.heap.get? p.1=P3 p.2/\H p.1=n_/\p.1≠X.env.locals/\p.1∉X.fs/\∀v,p.2.data≠.cell v):Inv X a Z H s:=
 #[I.ok,I.os,I.bare,I.base,I.loc,I.cell,I.free,I.freeC,λp b=>(ZB.mp b).elim (λz=>I.pin p^gP _ z)^h p,I.hok,I.len]
def I_{N:q_ Str}(c:N.Nodup){i j:Nat}{x:Str}(a:N[i]?=P3 x)(b:N[j]?=P3 x):i=j:=by
 let#[f,d]:=eq.mp a;let#[g,e]:=eq.mp b;exact(List.getElem_inj c).mp^d.trans e.symm
def KH{M:Model}{A:fb}{E:Ev->No->Prop}{i:Nat}{x:Str}{v:V}{u:Ev}{Q:Unit->No->Prop}(I:Inv X zH Z H s)(hN:X.N.Nodup)(P:X.N[i]?=P3 x)(B:Loc X.env.scope x)(r:RelV v u)
  (h:∀s',Inv X zH (Z.set i^P3 v) H s'->(∃a,iz a s.heap s'.heap/\(a=X.env.locals\/X.env.cells.lookup x=P3 a))->Q () s') (hf:X.fn x=o_\/X.env.scope.names.lookup x=P3 .local:=by first|exact .inl rfl|exact .inr rfl|assumption):wpAny M A (storeName X.env x u) Q E s:=by
 let#[m,hn,hl]:=id I.loc;have R:(X.env.scope.kind==.class||(X.env.scope.kind==.module&&X.env.locals !=X.env.globals))=p_:=by rw[I.ok.kind];rfl
 have F:i<Z.length:=by rw[I.len];exact(eq.mp P).1
 have J:=I.cne
 have g:∀{a:Db}{h':fO},(∃o,s.heap.get? a=P3 o/\H a=n_)->iz a s.heap h'->HOk X.prog X.w H h':=λ{a h'} ha f b ob e=>by
  let#[_,_,C]:=ha;refine(I.hok b ob e).stay (λc Y t q=>(f.2 c ?_).trans q) (λ_ q=>q) λ_ _ q=>q;rintro rfl
  rcases t with rfl|t
  .rw[C]at e;cases e
  .rw[C]at t;cases t
 rcases B with G|G
 .refine wpAny_storeName_local G hn (λh' a0 f=>?_) R
  let#[oL,_,_,a1,_]:=id hn;refine h _ #[I.ok,I.os,I.bare,#[λb o e n K B=>?_,λb o e n K B=>?_,I.base.free,λb o e B=>?_,I.base.tups,I.base.frzs,I.base.tbls],#[_,a0,λj y v' l D e3=>?_],λy c e=>?_,I.free,I.freeC,λp hp=>?_,g #[oL,a1,I.free] f,by simpa using I.len] #[_,f,.inl rfl]
  .exact(f.2 b^fQ^fc (T0 e) I.ok.above).trans^I.base.keep b o e n K B
  .let#[sl,l]:=I.base.slot b o e n K B
   exact#[sl,(f.2 b^fQ^fc (T0 e) I.ok.above).trans l]
  .let#[o',l]:=I.base.there b o e B
   exact#[o',(f.2 b^fQ^fc (T0 e) I.ok.above).trans l]
  .by_cases L:j=i
   .subst L
    rw[P]at l;cases l
    rw[mJ F]at D;cases D;exact#[u,r,.inl #[G,by simp]]
   .rw[jp^gE L]at D
    let#[u',r',q]:=hl j y v' l D e3;exists u',r'
    rcases q with⟨k,e⟩|⟨k,c,e,z⟩
    .refine .inl #[k,?_]
     have:y≠x:=λe=>L^I_ hN l (e▸P)
     simp[this,e]
    .exact .inr #[k,c,e,z.sameBut f^J y c e]
  .let#[Y,z]:=I.cell y c e
   exact#[Y,z.sameBut f^J y c e]
  .let#[e,n,ne,nf,d]:=I.pin p hp
   exact#[(f.2 p.1 ne).trans e,n,ne,nf,d]
 .have O:X.fn x=o_:=by
   rcases hf with z|z
   .exact z
   .rw[z]at G;cases G
  let#[c,t]:=I.ok.has x^.inl G;let#[Y,z]:=I.cell x c t;refine wpAny_storeName_cell I.ok.kind G t z λh' S f=>?_;let#[oc,T,U]:=id z;refine h {s with heap:=h'} #[I.ok,I.os,I.bare,#[λb o e n K B=>?_,λb o e n K B=>?_,I.base.free,λb o e B=>?_,I.base.tups,I.base.frzs,I.base.tbls],#[m,hn.sameBut f^gE^J x c t,λj y v' l D e3=>?_],λy c' e=>?_,I.free,I.freeC,λp hp=>?_,g #[oc,T,I.freeC x c t] f,by simpa using I.len] #[c,f,.inr t]
  .exact(f.2 b^fQ^fc (T0 e)^I.ok.cab x c O t).trans^I.base.keep b o e n K B
  .let#[sl,l]:=I.base.slot b o e n K B
   exact#[sl,(f.2 b^fQ^fc (T0 e)^I.ok.cab x c O t).trans l]
  .let#[o',l]:=I.base.there b o e B
   exact#[o',(f.2 b^fQ^fc (T0 e)^I.ok.cab x c O t).trans l]
  .by_cases L:j=i
   .subst L
    rw[P]at l;cases l
    rw[mJ F]at D;cases D;exact#[u,r,.inr #[.inl G,c,t,S]]
   .rw[jp^gE L]at D
    let#[u',r',q]:=hl j y v' l D e3;exists u',r'
    rcases q with q|⟨k,c',e,z'⟩
    .exact .inl q
    .refine .inr #[k,c',e,z'.sameBut f ?_]
     rintro rfl;exact L^I_ hN l (I.ok.inj _ _ _ e t▸P)
  .by_cases W:c'=c
   .subst W;exact#[_,S]
   .let#[w2,z2]:=I.cell y c' e
    exact#[w2,z2.sameBut f W]
  .let#[e,n,ne,nf,d]:=I.pin p hp
   refine#[(f.2 p.1 ?_).trans e,n,ne,nf,d];intro q;rw[q,T]at e;have q':oc=p.2:=fG e;exact d Y^by rw[←q'];exact U
def Eg{M:Model}{A:fb}{E:Ev->No->Prop}{i:Nat}{x:Str}{v:V}{u:Ev}{Q:Unit->No->Prop}(I:Inv X zH Z H s)(b:X.N.Nodup)(c:X.N[i]?=P3 x)(hx:Loc X.env.scope x)(r:RelV v u)
  (h:∀a,Inv X zH (Z.set i^P3 v) H a->Q () a) (d:X.fn x=o_\/X.env.scope.names.lookup x=P3 .local:=by first|exact .inl rfl|exact .inr rfl|assumption):wpAny M A (storeName X.env x u) Q E s:=
 KH I b c hx r (λa e _=>h a e) d
def Inv.call'{a:No}{f:q_ Db}(I:Inv X zH Z H s)(g:a.os=s.os)(u:Un (Kj X.stack) f H H' s.heap a.heap)(d:HOk X.prog X.w H' a.heap)(h:jk a.gens)
  (e:∀b∈f,(b∈X.ex\/X.s₀.heap.objs.size<=b)/\b≠X.env.locals/\(∀x c,X.env.cells.lookup x=P3 c->c≠b)/\∀p∈X.pn++zH,p.1≠b):Inv X zH Z H' a:=by
 let#[h',i,j,k,l]:=a;subst g;exact I.call u d h e
end
abbrev XK:=Ev->r_ Db->Hp->Prop
abbrev St:=q_^r_ V
abbrev VK:=V->Hp->Prop
abbrev TE:=St->Hp->VK->Prop
abbrev TT:=St->Hp->(Bool->Hp->Prop)->Prop
abbrev TA:=St->Hp->(q_ V->Hp->Prop)->Prop
structure Ends where
 nx:St->Hp->Prop
 rt:VK
 bk:St->Hp->Prop:=λ_ _=>False
 ct:St->Hp->Prop:=λ_ _=>False
abbrev TS:=Ends->St->Hp->Prop
def EP(X:Cx)(b:q_ (Db×Obj))(Z:St)(Q:VK)(u:Ev)(c:No):Prop:=∃v a,Inv X b Z a c/\RelV v u/\Q v a
def TP(X:Cx)(c:q_ (Db×Obj))(Z:St)(Q:Bool->Hp->Prop)(b:Bool)(d:No):Prop:=∃a,Inv X c Z a d/\Q b a
def AP(X:Cx)(c:q_ (Db×Obj))(Z:St)(Q:q_ V->Hp->Prop)(d:q_ Ev)(e:No):Prop:=∃a b,Inv X c Z b e/\Vals a d/\Q a b
def SP(X:Cx)(c:q_ (Db×Obj))(D:Ends)(f:Flow)(d:No):Prop:=
 match f with
 |.next=>∃b a,Inv X c b a d/\D.nx b a
 |.brk=>∃b a,Inv X c b a d/\D.bk b a
 |.cont=>∃b a,Inv X c b a d/\D.ct b a
 |.ret u=>∃v b a,Inv X c b a d/\RelV v u/\D.rt v a
def PE(X:Cx)(e:fZ)(t:TE):Prop:=
 ∀(a:q_ (Db×Obj)) (s:No) (Z:St) (H:Hp) (Q:VK),Inv X a Z H s->t Z H Q->wpAny (model X.prog X.w) X.A (eval e X.env) (EP X a Z Q) X.xe s
def PT(X:Cx)(e:fZ)(t:TT):Prop:=
 ∀(a:q_ (Db×Obj)) (s:No) (Z:St) (H:Hp) (Q:Bool->Hp->Prop),Inv X a Z H s->t Z H Q->wpAny (model X.prog X.w) X.A (isTrue e X.env^eval e X.env) (TP X a Z Q) X.xe s
def PW(X:Cx)(e:fZ)(t:TT):Prop:=
 ∀(a:Sem Ev) (b:q_ (Db×Obj)) (s:No) (Z:St) (H:Hp) (Q:Bool->Hp->Prop),Inv X b Z H s->t Z H Q->wpAny (model X.prog X.w) X.A (isTrue e X.env a) (TP X b Z Q) X.xe s
def PW.pt{X:Cx}{e:fZ}{t:TT}(h:PW X e t):PT X e t:=h _
def PA(X:Cx)(b:q_ fZ)(t:TA):Prop:=
 ∀(pos:Pos) (a:q_ (Db×Obj)) (s:No) (Z:St) (H:Hp) (Q:q_ V->Hp->Prop),Inv X a Z H s->t Z H Q->wpAny (model X.prog X.w) X.A (spliced^backTo pos^starEach b X.env) (AP X a Z Q) X.xe s
def PS(X:Cx)(st:gJ)(t:TS):Prop:=
 ∀(a:q_ (Db×Obj)) (s:No) (Z:St) (H:Hp) (D:Ends),Inv X a Z H s->t D Z H->wpAny (model X.prog X.w) X.A (exec st X.env) (SP X a D) X.xe s
def PSs(X:Cx)(st:q_ gJ)(t:TS):Prop:=
 ∀(a:q_ (Db×Obj)) (s:No) (Z:St) (H:Hp) (D:Ends),Inv X a Z H s->t D Z H->wpAny (model X.prog X.w) X.A (execs st X.env) (SP X a D) X.xe s
def thn{b:Type}{t:Sem b}{Q c:b->No->Prop}{M:Model}{A:fb}{E:Ev->No->Prop}{s:No}(h:wpAny M A t Q E s)(d:∀a s,Q a s->c a s):wpAny M A t c E s:=ft h d λ_ _ x=>x
section
variable {X:Cx}
def Bp(i:Nat):TE:=λZ H Q=>∃v,Z[i]?=P3^P3 v/\Q v H
def tC(v:V):TE:=λ_ H Q=>Q v H
def En{i:Nat}{x:Str}{pos:Pos}(j:X.N[i]?=P3 x)(k:RB X.env.scope x)(hd:(x==("__debug__":Str))=p_:=by cbv)(f:(x==("__classdict__":Str))=p_:=by cbv):PE X (.Name x pos)^Bp i:=by
 intro q s Z H Q I h;let#[v,e,h]:=h;let#[m,n,o]:=I.loc;let#[u,r,l]:=o i x v j e k;have b:EP X _ Z Q u s:=#[v,H,I,r,h]
 rcases l with⟨d,p⟩|⟨d,c,g,a⟩
 .exact wpAny_Name (wpAny_loadName_local I.ok.kind d n p b) hd
 .rcases d with d|d
  .exact wpAny_Name (wpAny_loadName_cell I.ok.kind d g a b) hd
  .exact wpAny_Name (wpAny_loadName_free I.ok.kind d g a b f) hd
def A0{i j pos}:PE X (.Constant (.int i) j pos)^tC^.int i:=λ_ _ _ H _ I h=>wpAny_Constant_int #[.int i,H,I.tok _,#[_,rfl],h]
def aB{b j pos}:PE X (.Constant (.bool b) j pos)^tC^.bl b:=λ_ _ _ H _ I h=>Constant_bool #[.bl b,H,I,rfl,h]
def YA{j pos}:PE X (.Constant .none j pos)^tC .non:=λ_ _ _ H _ I h=>Constant_none #[.non,H,I,rfl,h]
def X9{x j pos}:PE X (.Constant (.str x) j pos)^tC^.str x:=λ_ _ _ H _ I h=>Calls.Constant_str #[.str x,H,I.tok _,#[_,rfl],h]
def Gl(X:Cx)(x:Str):Prop:=X.env.kindOf x=P3 .globalImplicit
def Dn{E:Ev->No->Prop}{a:q_ (Db×Obj)}{s:No}{Z:St}{H:Hp}{x:Str}{u:Ev}{pos:Pos}{Q:Ev->No->Prop}(I:Inv X a Z H s)(b:Gl X x)(c:X.mg x=P3 u)(h:Q u s)
  (hd:(x==("__debug__":Str))=p_:=by cbv):wpAny (model X.prog X.w) X.A (eval (.Name x pos) X.env) Q E s:=
 lR I.ok.kind b (Calls.loadGlobal_global (by rw[I.ok.glob];exact I.mod.glob.keeps I.bk) c h) hd
def EM{E:Ev->No->Prop}{a:q_ (Db×Obj)}{s:No}{Z:St}{H:Hp}{x:Str}{u:Ev}{pos:Pos}{Q:Ev->No->Prop}(I:Inv X a Z H s)(b:Gl X x)(c:X.mg x=n_)(d:bootBuiltins x=P3 u)(h:Q u s)
  (e:x ≠ "__name__":=by cbv) (hd:(x==("__debug__":Str))=p_:=by cbv):wpAny (model X.prog X.w) X.A (eval (.Name x pos) X.env) Q E s:=by
 let#[i,f,g]:=I.mod.blt;exact lR I.ok.kind b (Calls.loadGlobal_builtin (by rw[I.ok.glob];exact I.mod.glob.keeps I.bk) c (by rw[I.ok.blt];exact f.keeps I.bk) ((g x e).trans d) h) hd
def VC{x:Str}{v:V}{u:Ev}{pos:Pos}(a:Gl X x)(b:X.mg x=P3 u)(r:RelV v u)(hd:(x==("__debug__":Str))=p_:=by cbv):PE X (.Name x pos)^tC v:=
 λ_ _ _ H _ I h=>Dn I a b #[v,H,I,r,h] hd
def PJ{x:Str}{v:V}{u:Ev}{pos:Pos}(a:Gl X x)(b:X.mg x=n_)(c:bootBuiltins x=P3 u)(r:RelV v u)(d:x ≠ "__name__":=by cbv)(hd:(x==("__debug__":Str))=p_:=by cbv):PE X (.Name x pos)^tC v:=
 λ_ _ _ H _ I h=>EM I a b c #[v,H,I,r,h] d hd
variable {a b:Expr}{ta tb:TE}{pos:Pos}
def tB(t:TE):TT:=λZ H Q=>t Z H λx d=>∃c,x=.bl c/\Q c d
def X1{e:fZ}{t:TE}(h:PE X e t)(f:∀c,isTrue e X.env c=(do let v ←c;standAt e.pos;holding [v]^truthy v):=by intro _;rfl):PT X e^tB t:=by
 intro m s Z H Q I g;refine isTrue_plain (thn (h _ s Z H _ I g) λv n zz=>?_)^f _;let#[x,i,j,k,l]:=zz;let#[d,rfl,q]:=l;cases k;exact iG #[i,j,q]
variable {tA tB':TT}{rest:q_ Expr}
def Zk(t u:TT):TT:=λZ H Q=>t Z H λc d=>if c=o_ then u Z d Q else Q p_ d
def eV(t u:TT):TT:=λZ H Q=>t Z H λc d=>if c=o_ then Q o_ d else u Z d Q
def cT(t:TT):TT:=λZ H Q=>t Z H λc d=>Q (!c) d
def O4(d:PT X a tA):PW X (.BoolOp .And [a] pos) tA:=by
 intro f g s Z H Q I h;refine isTrue_and^thn (d _ s Z H Q I h) λc i e=>?_;cases c with
 |true=>exact isTrue_and_nil e
 |false=>exact e
def Xz(d:PT X a tA):PW X (.BoolOp .Or [a] pos) tA:=by
 intro f g s Z H Q I h;refine isTrue_or^thn (d _ s Z H Q I h) λc i e=>?_;cases c with
 |false=>exact isTrue_or_nil e
 |true=>exact e
def SI(d:PT X a tA)(e:PW X (.BoolOp .And (b::rest) pos) tB'):PW X (.BoolOp .And (a::b::rest) pos)^Zk tA tB':=by
 intro f l s Z H Q I h;refine isTrue_and^thn (d _ s Z H _ I h) λc g #[i,j,k]=>?_;cases c with
 |true=>exact e f _ g Z i Q j k
 |false=>assumption
def Z7(d:PT X a tA)(e:PW X (.BoolOp .Or (b::rest) pos) tB'):PW X (.BoolOp .Or (a::b::rest) pos)^eV tA tB':=by
 intro f l s Z H Q I h;refine isTrue_or^thn (d _ s Z H _ I h) λc g #[i,j,k]=>?_;cases c with
 |true=>assumption
 |false=>exact e f _ g Z i Q j k
def X2(c:PT X a tA):PT X (.UnaryOp .Not a pos)^cT tA:=λd s Z H Q I h=>isTrue_not^c _ s Z H _ I h
def Zj(ta tb:TE):TE:=λZ H Q=>ta Z H λx d=>∃c,x=.bl c/\if c=o_ then tb Z d Q else Q (.bl p_) d
def Zc(ta:TE):TE:=λZ H Q=>ta Z H λx d=>∃c,x=.bl c/\Q (.bl (!c)) d
def YB(g:PE X a ta)(i:PE X (.BoolOp .And (b::rest) pos) tb):PE X (.BoolOp .And (a::b::rest) pos)^Zj ta tb:=by
 intro l s Z H Q I h;refine BoolOp_and^thn (g _ s Z H _ I h) λv j zz=>?_;let#[x,e,f,k,d]:=zz;let#[c,rfl,d]:=d;cases k;refine iG ?_;cases c with
 |true=>exact i _ j Z e Q f d
 |false=>exact#[.bl _,e,f,rfl,d]
def X_(e:PE X a ta):PE X (.UnaryOp .Not a pos)^Zc ta:=by
 intro j s Z H Q I h;refine UnaryOp_^thn (e _ s Z H _ I h) λv k zz=>?_;let#[x,f,g,i,d]:=zz;let#[c,rfl,d]:=d;cases i;exact not_of^iG #[.bl _,f,g,rfl,d]
def eW(t:TT)(ta tb:TE):TE:=λZ H Q=>t Z H λc d=>if c=o_ then ta Z d Q else tb Z d Q
def Ma{c:fZ}(j:PT X c tA)(k:PE X a ta)(l:PE X b tb):PE X (.IfExp c a b pos)^eW tA ta tb:=by
 intro m s Z H Q I h;refine wpAny_IfExp^thn (j _ s Z H _ I h) λd e zz=>?_;let#[f,g,i]:=zz;cases d with
 |true=>exact k _ e Z f Q g i
 |false=>exact l _ e Z f Q g i
end
def SqL(K:Frag)(H:Hp)(a:Db)(c:q_ V):Prop:=
 Rd H a (.lst c) \/
  ∃(o:Obj) (b:Array Ev) (n:Nat),K.lookup a=P3 o/\o.cls=.type "list"/\o.dict=n_/\o.data=.seq b n/\b.size<=sizeLine/\Vals c b.toList
def SqT(K:Frag)(H:Hp)(a:Db)(c:q_ V):Prop:=
 Rd H a (.tup c) \/
  ∃(o:Obj) (b:Array Ev) (n:Nat),K.lookup a=P3 o/\o.cls=.type "tuple"/\o.data=.seq b n/\b.size<=sizeLine/\Vals c b.toList
def dJ:Ev->r_ V
 |.none=>P3 .non
 |.bool b=>P3^.bl b
 |.int i _=>P3^.int i
 |.str x _=>P3^.str x
 |.bytes b _=>P3^.byt b
 |.float b _=>P3^.flt b
 |.ref a=>P3^.ref a
 |.type n=>P3^.ty n
 |_=>n_
def RelV.abs{x:V}{u:Ev}(r:RelV x u):dJ u=P3 x:=by
 cases x with
 |non=>cases r;rfl
 |bl _=>cases r;rfl
 |int _=>let#[t,rfl]:=r;rfl
 |str _=>let#[t,rfl]:=r;rfl
 |byt _=>let#[t,rfl]:=r;rfl
 |flt _=>let#[t,rfl]:=r;rfl
 |ref _=>cases r;rfl
 |ty _=>cases r;rfl
def RelV.inj{x y:V}{u:Ev}(r:RelV x u)(q:RelV y u):x=y:=fG^r.abs.symm.trans q.abs
theorem Vals.inj:∀{a b:q_ V}{c:q_ Ev},Vals a c->Vals b c->a=b
 |_,_,_,.nil,.nil=>rfl
 |_,_,_,.cons r t,.cons d e=>by rw[r.inj d,Vals.inj t e]
section
variable {X:Cx}{zH:q_ (Addr×Obj)}{Z:St}{H:Hp}{s:Shared}{a:Addr}{xs ys:q_ V}
def SqL.of{K:Frag}(h:H a=P3^.lst xs):SqL K H a xs:=.inl^.inl h
def SqT.of{K:Frag}(h:H a=P3^.tup xs):SqT K H a xs:=.inl^.inl h
def Inv.list(I:Inv X zH Z H s)(h:SqL X.K H a xs):∃b:q_ Ev,Vals xs b/\PlainL s.heap a b.toArray/\xs.length<=sizeLine:=by
 rcases h with h|⟨o,b,n,c,d,f,g,i,r⟩
 .let#[z,b,n,r,e]:=h.ok I.hok
  exact#[_,r,#[_,n,e,rfl,rfl,rfl],z]
 .exists _,r,#[o,n,I.kIn a o c,d,f,by lk]
  have e:=r.length
  grind
def Inv.tuple(I:Inv X zH Z H s)(h:SqT X.K H a xs):∃b:q_ Ev,Vals xs b/\kO s.heap a b.toArray/\xs.length<=sizeLine:=by
 rcases h with h|⟨o,b,n,c,d,f,g,r⟩
 .let#[z,b,r,p]:=h.ok I.hok
  exact#[_,r,p.tup,z]
 .exists _,r,#[o,I.kIn a o c,d,n,by lk]
  have e:=r.length
  grind
def Inv.list_inj(I:Inv X zH Z H s)(h:SqL X.K H a xs)(f:SqL X.K H a ys):xs=ys:=by
 let#[c,r,#[o,n,e,_,_,d],_]:=I.list h;let#[b,g,#[i,j,k,_,_,l],_]:=I.list f
 have:c=b:=by grind
 subst this;exact r.inj g
def Inv.tuple_inj(I:Inv X zH Z H s)(h:SqT X.K H a xs)(f:SqT X.K H a ys):xs=ys:=by
 let#[c,r,#[o,e,_,n,d],_]:=I.tuple h;let#[b,g,#[i,j,_,k,l],_]:=I.tuple f
 have:c=b:=by grind
 subst this;exact r.inj g
end
abbrev Cx.wish(X:Cx)(E:Ev->No->Prop):Cx:={X with xe:=E}
abbrev Cx.nox(X:Cx):Cx:=X.wish λ_ _=>False
def Cx.Ok.wish{X:Cx}(ok:X.Ok)(E:Ev->No->Prop):(X.wish E).Ok:=
 #[ok.mod,ok.kind,ok.glob,ok.blt,ok.above,ok.inj,ok.has,ok.cab,ok.hd,ok.frames,ok.stk,ok.exf,ok.bs,ok.bsz,ok.noex,ok.exfs,ok.funs,ok.frf]
def Cx.Ok.unwish{X:Cx}{E:Ev->No->Prop}(ok:(X.wish E).Ok):X.Ok:=
 #[ok.mod,ok.kind,ok.glob,ok.blt,ok.above,ok.inj,ok.has,ok.cab,ok.hd,ok.frames,ok.stk,ok.exf,ok.bs,ok.bsz,ok.noex,ok.exfs,ok.funs,ok.frf]
section
variable {X:Cx}{zH:q_ (Addr×Obj)}{Z:St}{H:Hp}{s:Shared}{E:Value->Shared->Prop}
def Inv.wish(I:Inv X zH Z H s)(E:Ev->No->Prop):Inv (X.wish E) zH Z H s:=#[I.ok.wish E,I.os,I.bare,I.base,I.loc,I.cell,I.free,I.freeC,I.pin,I.hok,I.len]
def Inv.unwish(I:Inv (X.wish E) zH Z H s):Inv X zH Z H s:=#[I.ok.unwish,I.os,I.bare,I.base,I.loc,I.cell,I.free,I.freeC,I.pin,I.hok,I.len]
def SP.unwish{D:Ends}{f:Flow}{c:No}(h:SP (X.wish E) zH D f c):SP X zH D f c:=by
 cases f with
 |next=>let#[b,a,I,q]:=h;exact#[_,a,I.unwish,q]
 |brk=>let#[b,a,I,q]:=h;exact#[_,a,I.unwish,q]
 |cont=>let#[b,a,I,q]:=h;exact#[_,a,I.unwish,q]
 |ret u=>let#[v,b,a,I,r,q]:=h;exact#[v,_,a,I.unwish,r,q]
def PSs.nox{st:q_ gJ}{t:TS}(h:PSs X.nox st t):PSs X st t:=λzH s Z H D I a=>
 ft (h _ s Z H D (I.wish _) a) (λ_ _ q=>q.unwish) λ_ _ z=>gC z
end
section
variable {X:Cx}{st:Stmt}{rest:q_ Stmt}{t u:TS}{e:Expr}{te:TE}{pos:Pos}
def Wc:TS:=λD Z H=>D.nx Z H
def QB(t u:TS):TS:=λD Z H=>t {D with nx:=u D} Z H
def LP:PSs X [] Wc:=λ_ _ Z H _ I h=>jT #[Z,H,I,h]
def A6(a:PS X st t)(b:PSs X rest u):PSs X (st::rest)^QB t u:=by
 intro g s Z H D I h;refine lr^thn (a _ s Z H _ I h) λf c q=>?_;cases f with
 |next=>
  let#[i,d,e,q]:=q;exact b _ c _ d D e q
 |ret v=>exact q
 |brk=>exact q
 |cont=>exact q
def Cf(a:PS X st t):PSs X [st] t:=by
 intro b s Z H D I h;refine lr^thn (a _ s Z H D I h) λf c q=>?_;cases f with
 |next=>exact jT q
 |ret v=>exact q
 |brk=>exact q
 |cont=>exact q
def Xr:TS:=λD Z H=>D.bk Z H
def Zi:TS:=λD Z H=>D.ct Z H
def SO:PS X (.Break pos) Xr:=λ_ _ Z H _ I h=>wpAny_Break #[Z,H,I,h]
def MY:PS X (.Continue pos) Zi:=λ_ _ Z H _ I h=>wpAny_Continue #[Z,H,I,h]
def Inv.quiet{a:q_ (Db×Obj)}{Z:St}{H:Hp}{s:No}(I:Inv X a Z H s):interactive X.env=p_:=by simp[interactive,I.ok.kind]
def Zf(te:TE):TS:=λD Z H=>te Z H λ_ a=>D.nx Z a
def O8(a:PE X e te)(b:swapsWith e n_ pos.line X.env=pure p_:=by rfl):PS X (.Expr e pos)^Zf te:=λg s Z H D I h=>wpAny_Expr_any (thn (a _ s Z H _ I h) λv i #[x,c,d,j,f]=>#[Z,c,d,f]) I.quiet b
def Ur(te:TE):TS:=λD Z H=>te Z H D.rt
def Fp(a:PE X e te):PS X (.Return (P3 e) pos)^Ur te:=λg s Z H D I h=>wpAny_Return_some^thn (a _ s Z H _ I h) λv i #[x,b,c,d,f]=>#[x,Z,b,c,d,f]
def Zd(c:TT)(t u:TS):TS:=λD Z H=>c Z H λb a=>if b=o_ then t D Z a else u D Z a
def O7{c:fZ}{a b:q_ gJ}{e:TT}(k:PT X c e)(l:PSs X a t)(m:PSs X b u):PS X (.If c a b pos)^Zd e t u:=by
 intro n s Z H D I h;refine wpAny_If^thn (k _ s Z H _ I h) λd f zz=>?_;let#[g,i,j]:=zz;cases d with
 |true=>exact l _ f Z g D i j
 |false=>exact m _ f Z g D i j
end
abbrev TG:=V->St->Hp->(St->Hp->Prop)->Prop
abbrev Y7:=q_ V->St->Hp->(St->Hp->Prop)->Prop
def PG(X:Cx)(a:fZ)(t:TG):Prop:=
 ∀(b:q_ (Db×Obj)) (s:No) (Z:St) (H:Hp) (v:V) (u:Ev) (Q:St->Hp->Prop),Inv X b Z H s->RelV v u->t v Z H Q->
  wpAny (model X.prog X.w) X.A (assign a X.env u) (λ_ e=>∃c d,Inv X b c d e/\Q c d) X.xe s
def bW(X:Cx)(f:q_ fZ)(t:Y7):Prop:=
 ∀(a:q_ (Db×Obj)) (s:No) (Z:St) (H:Hp) (b:q_ V) (c:q_ Ev) (Q:St->Hp->Prop),Inv X a Z H s->Vals b c->t b Z H Q->
  wpAny (model X.prog X.w) X.A (assignInOrder ((assignEach f X.env).map (·.2)) c) (λ_ g=>∃d e,Inv X a d e g/\Q d e) X.xe s
abbrev Y6:=V->V->V->Hp->(Hp->Prop)->Prop
def bU(X:Cx)(t:Y6):Prop:=
 ∀(a:q_ (Db×Obj)) (s:No) (Z:St) (H:Hp) (o i v:V) (b c u:Ev) (Q:Hp->Prop),Inv X a Z H s->RelV o b->RelV i c->RelV v u->t o i v H Q->
  wpAny (model X.prog X.w) X.A (setItem b c u) (λ_ e=>∃d,Inv X a Z d e/\Q d) X.xe s
abbrev b7:=V->V->Hp->VK->Prop
def eK(X:Cx)(b:Operator)(t:b7):Prop:=
 ∀(a:q_ (Db×Obj)) (s:No) (Z:St) (H:Hp) (x y:V) (v u:Ev) (Q:VK),Inv X a Z H s->RelV x v->RelV y u->t x y H Q->
  wpAny (model X.prog X.w) X.A (inplaceOp b v u) (EP X a Z Q) X.xe s
section
variable {X:Cx}{pos:Pos}
def Hf(i:Nat):TG:=λv Z H Q=>Q (Z.set i^P3 v) H
def GC{i:Nat}{x:Str}(a:X.N.Nodup)(b:X.N[i]?=P3 x)(hx:Loc X.env.scope x)(c:X.fn x=o_\/X.env.scope.names.lookup x=P3 .local:=by first|exact .inl rfl|exact .inr rfl|assumption):PG X (.Name x pos)^Hf i:=λe s Z H v u Q I r h=>wpAny_assign_Name^Eg I a b hx r (λf d=>#[_,H,d,h]) c
def c7:Y7:=λa Z H Q=>a=[]/\Q Z H
def aY(t:TG)(u:Y7):Y7:=λa Z H Q=>∃v r,a=v::r/\t v Z H λb c=>u r b c Q
def PB:bW X [] c7:=by
 intro a s Z H b c Q I r h;let#[e,h]:=h;exact assignInOrder_nil #[Z,H,I,h]
def GB{e:fZ}{a:q_ fZ}{t:TG}{u:Y7}(b:PG X e t)(c:bW X a u)
  (d:(assignEach (e::a) X.env).map (·.2)=assign e X.env::(assignEach a X.env).map (·.2):=by rfl):bW X (e::a)^aY t u:=by
 intro m s Z H n o Q I r h;let#[v,p,f,h]:=h;subst f;cases r with
 |cons r g=>
  rw[d];refine assignInOrder_cons^thn (b _ s Z H _ _ _ I r h) λ_ i zz=>?_;let#[_,j,k,l]:=zz;exact c _ i _ j _ _ Q k g l
def c6(K:Frag)(n:Nat)(t:Y7):TG:=λv Z H Q=>∃a b,v=.ref a/\SqT K H a b/\b.length=n/\t b Z H Q
def SW{c:q_ fZ}{k:Nat}{t:Y7}{n:Nat}(g:X.calm=o_)(h:bW X c t)
  (i:(assignEach c X.env).length=n:=by rfl) (d:(assignEach c X.env).findIdx? (·.1)=n_:=by rfl):PG X (.Tuple c k pos)^c6 X.K n t:=by
 intro z s Z H v u Q I r f;let#[a,j,l,m,p,f]:=f;subst l;cases r;let#[q,w,x,A]:=I.tuple m;exact assign_Tuple_tuple (I.ok.hd g) x (by simp[i,←p,w.length]) d λB y=>h _ _ Z H j _ Q (I.kept λb o e=>y b o (fQ^T0 e) e) (by lk) f
def aX(a b:TE)(t:Y6):TG:=λv Z H Q=>a Z H λo c=>b Z c λi H2=>t o i v H2 λd=>Q Z d
def Nx{o i:fZ}{c d:TE}{t:Y6}(e:PE X o c)(f:PE X i d)(g:bU X t)
  (D:∀v,assign (.Subscript o i pos) X.env v=(do
   let a ←holding [v]^eval o X.env
   let b ←holding [v,a] (eval i X.env)
   standAt pos
   holding [v,a,b] (setItem a b v)
   release [v,a,b] []):=by intro _;rfl):PG X (.Subscript o i pos)^aX c d t:=λE s Z H v u Q I r h=>Ch^gG^thn (e _ s Z H _ I h) λa j #[x,k,l,m,n]=>Ch^gG^thn (f _ j Z k _ l n) λb p #[y,H2,q,w,z]=>Ch^kP^Ch^gG^thn (g _ p Z H2 x y v a b u _ q m w r z) λ_ F #[A,B,C]=>wpAny_release #[Z,A,B,C]
def MP(a:TE)(g:TG):TS:=λD Z H=>a Z H λx b=>g x Z b D.nx
def LQ{a e:fZ}{b:TE}{g:TG}(c:PE X e b)(d:PG X a g)(f:swapsWithSole [a] e pos.line X.env=pure p_:=by rfl)(i:swappedStores [a] e X.env=pure n_:=by rfl)
  (j:(assignEach [a] X.env).map (·.2)=[assign a X.env]:=by rfl):PS X (.Assign [a] e pos)^MP b g:=by
 intro p s Z H D I h;refine wpAny_Assign_stores (thn (c _ s Z H _ I h) λv k #[x,l,m,n,o]=>?_) f i;rw[j];exact thn (d _ k Z l x v _ m n o) λ_ r q=>q
def ED{i:Nat}{x:Str}{e:fZ}{b:TE}{a:Pos}(c:X.N.Nodup)(d:X.N[i]?=P3 x)(hx:Loc X.env.scope x)(f:PE X e b)(g:swapsWith e (P3^.Name x a) pos.line X.env=pure p_:=by rfl)(j:X.fn x=o_\/X.env.scope.names.lookup x=P3 .local:=by first|exact .inl rfl|exact .inr rfl|assumption):
  PS X (.Assign [.Name x a] e pos) (MP b^Hf i):=λp s Z H D I h=>wpAny_Assign_Name (thn (f _ s Z H _ I h) λv q #[y,k,l,m,n]=>Eg l c d hx m (λr o=>#[_,k,o,n]) j) g
def cY(i:Nat)(a:TE)(b:b7):TS:=λD Z H=>∃x,Z[i]?=P3^P3 x/\a Z H λy c=>b x y c λz H2=>D.nx (Z.set i^P3 z) H2
def X4{i:Nat}{x:Str}{e:fZ}{p:TE}{j:Operator}{q:b7}{d:Pos}(C:X.N.Nodup)(t:X.N[i]?=P3 x)(hx:Loc X.env.scope x)(E:PE X e p)(F:eK X j q)(G:X.fn x=o_\/X.env.scope.names.lookup x=P3 .local:=by first|exact .inl rfl|exact .inr rfl|assumption):
  PS X (.AugAssign (.Name x d) j e pos) (cY i p q):=by
 intro n s Z H D I h;let#[v,J,h]:=h;let#[m,K,L]:=I.loc;have o:RB X.env.scope x:=by rcases hx with k|k;exact .inl k;exact .inr^.inl k
 let#[u,r,l]:=L i x v t J o;refine wpAny_AugAssign_Name ?_
 have B:wpAny (model X.prog X.w) X.A (eval e X.env) (λw f=>wpAny (model X.prog X.w) X.A (inplaceOp j u w) (λr g=>wpAny (model X.prog X.w) X.A (storeName X.env x r) (λ_=>SP X n D .next) X.xe g) X.xe f) X.xe s:=by
  refine thn (E n s Z H _ I h) λw M zz=>?_;let#[y,O,P,Q,R]:=zz;refine thn (F n M Z O v y u w _ P r Q R) λz s2 zz=>?_;let#[zv,H2,S,T,U]:=zz;exact Eg S C t hx T (λs3 V=>#[_,H2,V,U]) G
 rcases l with⟨a,W⟩|⟨a,c,Y,b⟩
 .exact wpAny_loadName_local I.ok.kind a K W B
 .rcases a with a|a
  .exact wpAny_loadName_cell I.ok.kind a Y b B
  .rcases hx with k|k
   .have:X.env.scope.names.lookup x=P3 .free:=a
    rw[k]at this;cases this
   .have:X.env.scope.names.lookup x=P3 .free:=a
    rw[k]at this;cases this
def e7(f:Int->Int->Int):b7:=λx y H Q=>∃i j,x=.int i/\y=.int j/\Q (.int^f i j) H
def YZ:eK X .Add (e7 λi j=>i+j):=by
 intro e s Z H x y v u Q I a b h;let#[i,j,c,d,q]:=h;subst c;subst d
 let#[t,rfl]:=a;let#[f,rfl]:=b;exact iadd_int #[.int _,H,I.tok _,#[_,rfl],q]
end
section
variable {X:Cx}{pos:Pos}
def Xj(c:TT)(g:TS):TS:=λD Z H=>∃W:Nat->St->Hp->Prop,(∃m,W m Z H)/\∀m Z H,W m Z H->
 c Z H λb a=>if b=o_ then ∃N:St->Hp->Prop,(∀d e,N d e->∃f,f<m/\W f d e)/\g {D with nx:=N,ct:=N,bk:=D.nx} Z a else D.nx Z a
def SN{c:fZ}{a:q_ gJ}{t:TT}{u:TS}(x:j9 (model X.prog X.w) X.A X.env X.xe)(F:PT X c t)(G:PSs X a u):PS X (.While c a [] pos)^Xj t u:=by
 intro l s Z H D I h;let#[W,#[J,K],d]:=h;refine wpAny_While^codeAny_whileLoop (λn L=>∃y z,Inv X l y z L/\W n y z) ?_ J #[Z,H,I,K];rintro n M ⟨i,B,O,P⟩;refine i_ x^thn (F l M i B _ O^d n i B P) λb Q zz=>?_;let#[H2,C,j]:=zz;cases b with
 | true=>
  let#[N,E,j]:=j;rw[if_pos rfl];refine i_ x^thn (G l Q i H2 _ C j) λf R k=>?_;cases f with
  |next=>
   let#[e,g,m,o]:=k;let#[p,q,r]:=E e g o;exact#[p,q,e,g,m,r]
  |cont=>
   let#[e,g,m,o]:=k;let#[p,q,r]:=E e g o;exact#[p,q,e,g,m,r]
  |brk=>exact k
  |ret v=>exact k
 |false=>
  rw[if_neg fV];exact jT #[i,H2,C,j]
end
structure It where
 go:Nat->Hp->Prop
 yld:Nat->Hp->V->Hp->Prop
 stop:Nat->Hp->Prop
def FW(X:Cx)(a:q_ (Db×Obj))(H:Hp)(b:Db):Prop:=
 H b=n_/\b≠X.env.locals/\b∉X.fs/\(b∈X.ex\/X.s₀.heap.objs.size<=b)/\(∀x c,X.env.cells.lookup x=P3 c->c≠b)/\∀p∈X.pn++a,p.1≠b
def Inv.fpOk{X:Cx}{d:q_ (Db×Obj)}{Z:St}{H f:Hp}{s:No}{b:Db}(I:Inv X d Z H s)(a:s.heap.objs.size<=b)(g:f b=n_):FW X d f b:=by
 refine#[g,iV^fc I.lt a,I.nofs a,.inr^fJ I.sz a,λx c e z=>?_,λp h z=>?_]
 .let#[v,q]:=I.cell x c e
  exact absurd (fc q.lt^by rw[z];exact a)^gM _
 .exact absurd (fc (T0 (I.pin p h).1)^by rw[z];exact a)^gM _
structure Turn (P:fT) (w:fY) (K:Frag) (tg:fZ) (J:It) (fp:List Db) (it:Db) (tn:Nat->fO->Prop):Prop where
 mem:it∈fp
 obj:∀i h,tn i h->∀b∈fp,∃o,h.get? b=P3 o/\∀v,o.data≠.cell v
 keep:∀i h h',tn i h->(∀b∈fp,∀o,h.get? b=P3 o->h'.get? b=P3 o)->tn i h'
 item:∀(X:Cx),X.prog=P->X.w=w->X.K=K->X.calm=o_->∀(i:Nat) (zH:List (Db×Obj)) (s:No) (Z:St) (H:Hp) (E:Ev->No->Prop),Inv X zH Z H s->(∀b∈fp,FW X zH H b)->tn i s.heap->J.go i H->
  wpAny (model P w) X.A (pyNext^.ref it) (λr s1=>∃u,r=P3 u /\
   wpAny (model P w) X.A (letOwnedTupleGo tg (.ref it) u) (λ_ s2=>∃x H',Inv X zH Z H' s2/\RelV x u/\J.yld i H x H'/\tn (i+1) s2.heap/\∀b∈fp,H' b=n_) E s1) E s
 done:∀(X:Cx),X.prog=P->X.w=w->X.K=K->X.calm=o_->∀(i:Nat) (zH:List (Db×Obj)) (s:No) (Z:St) (H:Hp) (E:Ev->No->Prop),Inv X zH Z H s->(∀b∈fp,FW X zH H b)->tn i s.heap->J.stop i H->
  wpAny (model P w) X.A (pyNext^.ref it) (λr s1=>r=n_/\Inv X zH Z H s1) E s
 self:∀(A:fb) (i:Nat) (s:No) (Q:Ev->No->Prop) (E:Ev->No->Prop),tn i s.heap->Q (.ref it) s->wpAny (model P w) A (pyIter^.ref it) Q E s
abbrev TI:=St->Hp->(It->Hp->Prop)->Prop
def eM(X:Cx)(d:q_ (Db×Obj))(Z:St)(h:fZ)(R:It->Hp->Prop)(a:Ev)(e:No):Prop:=
 ∃(it:Db) (f:q_ Db) (g:Nat->fO->Prop) (J:It) (c:Hp),a=.ref it/\Inv X d Z c e/\Turn X.prog X.w X.K h J f it g/\g 0 e.heap/\(∀b∈f,FW X d c b)/\R J c
def PI(X:Cx)(c a:fZ)(d:TI):Prop:=
 ∀(b:q_ (Db×Obj)) (s:No) (Z:St) (H:Hp) (R:It->Hp->Prop),Inv X b Z H s->d Z H R->
  wpAny (model X.prog X.w) X.A (eval a X.env) (λv e=>wpAny (model X.prog X.w) X.A (pyIter v) (eM X b Z c R) X.xe e) X.xe s
def M8 {M:Model}{A:fb}{E:Ev → No → Prop}{s:No}{b:fZ}{it:Db}{u:Ev}{o:Obj}{n:String}{c:Array Ev}{Q:Unit → No → Prop} (d:s.heap.get? it=P3 o) (e:o.cls=.type n) (hd:o.data=.fields c)
    (f:["enumerate","zip","dict_itemiterator","dict_reverseitemiterator","odict_iterator","itertools.zip_longest","itertools.pairwise"].contains n=p_) (a:Q () s):wpAny M A (letOwnedTupleGo b (.ref it) u) Q E s:=by
  unfold letOwnedTupleGo
  cases b <;>first
    |exact TW a
    |(cases u <;>first
        |exact TW a
        | (refine Ch^wpAny_load d ?_
           rw[e,hd];show wpAny M A (if(["enumerate","zip","dict_itemiterator","dict_reverseitemiterator","odict_iterator","itertools.zip_longest","itertools.pairwise"].contains n && c[0]?==P3^rawInt _)=o_ then _ else _) Q E s;rw[if_neg^by grind];exact TW a))
def da(K:Frag)(a:Db):It:=
 #[λi H=>∃b x,SqL K H a b/\b[i]?=P3 x,λi H x c=>c=H/\∀b,SqL K H a b->b[i]?=P3 x,λi H=>∃b,SqL K H a b/\b.length<=i]
def ZD(K:Frag)(a:Db):It:=
 #[λi H=>∃b x,SqT K H a b/\b[i]?=P3 x,λi H x c=>c=H/\∀b,SqT K H a b->b[i]?=P3 x,λi H=>∃b,SqT K H a b/\b.length<=i]
def b9(a:Int)(n:Nat):It:=#[λi _=>i<n,λi H x b=>b=H/\x=.int (a+i),λi _=>n<=i]
def P8{P:fT}{w:fY}{K:Frag}{O:fZ}(a it:Db):Turn P w K O (da K a) [it] it (λi h=>h.IsListIter it a i) where
 mem:=by simp
 obj:=λi h f b g=>by
  have e:b=it:=by simpa using g
  subst e;let#[o,e,c,d]:=f;exact#[o,e,λv z=>by rw[d]at z;cases z]
 keep:=λi h l f k=>f.at λo e=>k it (by simp) o e
 item:=by
  intro X q r t M i N s Z H E I m f y;subst q r t;let#[Q,x,n,A]:=y;let#[B,C,p,R]:=I.list n;let#[u,S,T]:=C.get A;let#[D,F,U,G,J,L]:=m it (by simp);refine wpAny_pyNext_list_item f p.isList (x:=u) (by simpa using S) λl j V=>?_;have W:Inv X N Z H {s with heap:=l}:=I.turned (t':=s.toks) (λb o g e=>(V.2 b g).trans e) D F G J L;let#[o,e,c,d]:=id j;exact#[u,rfl,M8 (s:={s with heap:=l}) e c d (by cbv) #[x,H,W,T,#[rfl,λys Y=>by rw[I.list_inj Y n];exact A],j,λb g=>(m b g).1]]
 done:=by
  intro X q r t M i N s Z H E I m f y;subst q r t;let#[Q,n,A]:=y;let#[B,C,p,R]:=I.list n;let#[D,F,U,G,J,L]:=m it (by simp);have hl:=C.length;exact wpAny_pyNext_list_end (I.ok.hd M) f p.isList (by simp;lk) λl eb=>#[rfl,I.turned (t':=s.toks) (λb o g e=>eb b o g e) D F G J L]
 self:=λ_ _ _ _ _ f h=>wpAny_pyIter_listiter f h
def IY{P:fT}{w:fY}{K:Frag}{O:fZ}(a it:Db):Turn P w K O (ZD K a) [it] it (λi h=>h.IsTupleIter it a i) where
 mem:=by simp
 obj:=λi h f b g=>by
  have e:b=it:=by simpa using g
  subst e;let#[o,e,c,d]:=f;exact#[o,e,λv z=>by rw[d]at z;cases z]
 keep:=λi h m f k=>f.at λo e=>k it (by simp) o e
 item:=by
  intro X r t y M i N s Z H E I n f A;subst r t y;let#[Q,x,q,B]:=A;let#[j,C,p,R]:=I.tuple q;let#[u,S,T]:=C.get B;let#[D,F,U,G,J,L]:=n it (by simp);refine wpAny_pyNext_tuple_item f (show s.heap.IsTuple a j.toArray from p) (x:=u) (by simpa using S) λm l V=>?_;have W:Inv X N Z H {s with heap:=m}:=I.turned (t':=s.toks) (λb o g e=>(V.2 b g).trans e) D F G J L;let#[o,e,c,d]:=id l;exact#[u,rfl,M8 (s:={s with heap:=m}) e c d (by cbv) #[x,H,W,T,#[rfl,λys Y=>by rw[I.tuple_inj Y q];exact B],l,λb g=>(n b g).1]]
 done:=by
  intro X r t y M i N s Z H E I n f A;subst r t y;let#[Q,q,B]:=A;let#[j,C,p,R]:=I.tuple q;let#[D,F,U,G,J,L]:=n it (by simp);have hl:=C.length;exact wpAny_pyNext_tuple_end (I.ok.hd M) f (show s.heap.IsTuple a j.toArray from p) (by simp;lk) λm eb=>#[rfl,I.turned (t':=s.toks) (λb o g e=>eb b o g e) D F G J L]
 self:=λ_ _ _ _ _ f h=>wpAny_pyIter_tupleiter f h
def Nc{P:fT}{w:fY}{K:Frag}{D:fZ}(it:Db)(f:Int)(n:Nat):Turn P w K D (b9 f n) [it] it (λi h=>IsRangeIter h it (f+(i:Nat)*1) ((n:Int) - (i:Nat)) 1) where
 mem:=by simp
 obj:=λi h a b c=>by
  simp_all
 keep:=λi h g a k=>k it (by simp) _ a
 item:=by
  intro X l m p q i B s Z H E I j a r;subst l m p;let#[u,x,F,y,z,A]:=j it (by simp);have W:=Walks.range (prog:=X.prog) (w:=X.w) (I.ok.hd q) it f 1 n;refine W.item i s _ _ r a λv g C G d J=>?_;let#[t,rfl]:=G;have L:Inv X B Z H {s with heap:=g,toks:=C}:=I.turned (λb o c e=>J b o (by simpa using c) e) u x y z A;refine#[_,rfl,M8 (s:={s with heap:=g,toks:=C}) (n:="range_iterator") d rfl rfl (by cbv) #[.int (f+i),H,L,#[t,?_],#[rfl,rfl],d,λb c=>(j b c).1]];rw[Int.mul_one]
 done:=by
  intro X l m p q i B s Z H E I j a r;subst l m p;let#[u,x,F,y,z,A]:=j it (by simp);exact wpAny_pyNext_range_end (I.ok.hd q) a (by have:n<=i:=r;lk) λg M=>#[rfl,I.turned (t':=s.toks) (λb o c e=>M b o c e) u x y z A]
 self:=λ_ _ _ _ _ a h=>wpAny_pyIter_rangeiter a h
section
variable {X:Cx}{tg:Expr}
def cz(K:Frag)(c:TE):TI:=λZ H R=>c Z H λx b=>∃a,x=.ref a/\(∃d,SqT K b a d)/\R (ZD K a) b
def SU{l:fZ}{d:TE}(f:PE X l d):PI X tg l^cz X.K d:=by
 intro r s Z H R I h;refine thn (f _ s Z H _ I h) λv g zz=>?_;let#[x,i,c,j,k]:=zz;let#[a,e,#[t,m],q]:=k;subst e;cases j;let#[n,u,p,w]:=c.tuple m;refine gm (p) ?_;refine#[_,_,_,_,i,rfl,c.kept λb o e=>Go _ e,IY a _,#[_,UF _ rfl,rfl,rfl],λb y=>?_,q];have e:b=g.heap.objs.size:=by grind
 subst e;exact c.fpOk (Rs _)^c.hok.fresh^Rs _
def R_{d:q_ (Db×Obj)}{Z:St}{H:Hp}{s:No}{R:It->Hp->Prop}{E:Ev->No->Prop}{a c:Int}{t u v:Tok}{f:Nat}(I:Inv X d Z H s)(h:-(2 ^ 62)<=a)(i:a<2 ^ 62)(j:-(2 ^ 62)<=c)(k:c<2 ^ 62)
  (q:R (b9 a (c - a).toNat) H):wpAny (model X.prog X.w) X.A (pyIter^.ref s.heap.objs.size) (eM X d Z tg R) E {s with heap:=s.heap.push {cls:=.type "range",data:=.fields #[ .int a t,.int c u,.int 1 v]},toks:=f}:=by
 refine wpAny_pyIter_range (IsRange.new ..) (small_one h i j k) ?_;have g:Inv X d Z H {s with heap:=s.heap.push {cls:=.type "range",data:=.fields #[ .int a t,.int c u,.int 1 v]},toks:=f}:=I.kept λb o e=>Go _ e
 refine#[(s.heap.push {cls:=.type "range",data:=.fields #[ .int a t,.int c u,.int 1 v]}).objs.size,[(s.heap.push {cls:=.type "range",data:=.fields #[ .int a t,.int c u,.int 1 v]}).objs.size],_,_,H,rfl,
  g.kept (t':=f) λb o e=>Go _ e,Nc _ a (c - a).toNat,?_,λb l=>?_,q]
 .have m:a+((0:Nat):Int)*1=a:=by simp
  have n:(((c - a).toNat:Nat):Int) - ((0:Nat):Int)=Builtin.Range.rangeSize a c 1:=by rw[rangeSize_one];grind
  show IsRangeIter _ _ (a+((0:Nat):Int)*1) ((((c - a).toNat:Nat):Int) - ((0:Nat):Int)) 1;rw[m,n];exact UF _ rfl
 .have e:b=(s.heap.push {cls:=.type "range",data:=.fields #[ .int a t,.int c u,.int 1 v]}).objs.size:=by simpa using l
  subst e;exact g.fpOk (Rs _)^g.hok.fresh^Rs _
def aU(a:TA):TI:=λZ H R=>a Z H λb c=>∃j:Int,b=[.int j]/\-(2 ^ 62)<=j/\j<2 ^ 62/\R (b9 0 j.toNat) c
def QJ{a:fZ}{c:TA}{p pos:Pos}(d:Gl X "range")(f:X.mg "range"=n_)(g:PA X [a] c)(i:starEach [a] X.env=[(p_,eval a X.env)]:=by rfl):PI X tg (.Call (.Name "range" p) [a] [] pos)^aU c:=by
 intro o s Z H R I h;refine Call_^EM I d f boot_range (gz (thn (g _ _ s Z H _ I h) λu v zz=>?_) i rfl);let#[w,x,k,l,b]:=zz;let#[j,e,b,m,q]:=b;subst e;cases l with
 |cons r n=>
  cases n;let#[t,rfl]:=r;exact call_range_1^R_ k (by lk) (by lk) b m^by simpa using q
def cX(d:TI)(g:TG)(e:TS):TS:=λD Z H=>d Z H λJ f=>∃W:Nat->Nat->St->Hp->Prop,(∃m,W 0 m Z f)/\∀i m Z H,W i m Z H->
 (J.stop i H/\D.nx Z H)\/(J.go i H/\∃N:St->Hp->Prop,(∀b a,N b a->∃c,c<m/\W (i+1) c b a)/\∀x a,J.yld i H x a->g x Z a λh H2=>e {D with nx:=N,ct:=N,bk:=D.nx} h H2)
def Iq(a:q_ Db)(h:fO):q_ (Db×Obj):=a.filterMap λb=>(h.get? b).map λo=>(b,o)
def EK{a:q_ Db}{h:fO}{b:Db}{o:Obj}(c:b∈a)(e:h.get? b=P3 o):(b,o)∈Iq a h:=lN.mpr #[b,c,by rw[e];rfl]
def QR{a:q_ Db}{h:fO}{p:Db×Obj}(c:p∈Iq a h):p.1∈a/\h.get? p.1=P3 p.2:=by
 let#[b,f,e]:=lN.mp c;cases q:h.get? b with
 |none=>grind
 |some o=>
  rw[q]at e;have d:=fG e;subst d
  simp_all
def Inv.pinned{a:q_ (Db×Obj)}{Z:St}{H:Hp}{s:No}{c:q_ Db}(I:Inv X a Z H s)(g:∀b∈c,FW X a H b)(h:∀b∈c,∃o,s.heap.get? b=P3 o/\∀v,o.data≠.cell v):Inv X (a++Iq c s.heap) Z H s:=
 I.pins_of λp i=>(ZB.mp i).elim (λz=>I.pin p^fR _ z) λz=>by
  let#[f,e]:=QR z;let#[j,k,l,_]:=g _ f;let#[o,m,d]:=h _ f
  grind
def Inv.unpinned{a b:q_ (Db×Obj)}{Z:St}{H:Hp}{s:No}(I:Inv X (a++b) Z H s):Inv X a Z H s:=I.pins_of λp c=>I.pin p^fR _^gP _ c
def G3{a:fZ}{t:q_ gJ}{wi:TI}{g:TG}{tb:TS}{pos:Pos}(C:j9 (model X.prog X.w) X.A X.env X.xe)(hc:X.calm=o_)(hi:PI X tg a wi)(hg:PG X tg g)(c:PSs X t tb)
  (hs:∀x,foldedSetIterable a X.env x=pure x:=by intro _;rfl):PS X (.For tg a t [] pos)^cX wi g tb:=by
 intro z s Z H D I h;refine wpAny_For (thn (hi z s Z H _ I h) λv s1 h1=>thn h1 λa0 s2 h2=>?_) hs;let#[it,E,tn,J,H2,e,I2,T,R,f2,W,#[m0,w0],F]:=h2;subst e;have j:∀{q:Hp},(∀b∈E,q b=n_)->∀b∈E,FW X z q b:=λhn b c=>#[hn b c,(f2 b c).2];refine codeAny_forLoop_any (λn s'=>∃i G q,Inv X z G q s'/\tn i s'.heap/\(∀b∈E,q b=n_)/\W i n G q) ?_ m0 #[0,Z,H2,I2,R,λb c=>(f2 b c).1,w0];rintro n s3 ⟨i,K,Q,I3,L,M,w3⟩
 rcases F i n K Q w3 with⟨O,qn⟩|⟨go,N,hN,step⟩
 .refine i_ C^thn (T.done X rfl rfl rfl hc i z s3 K Q X.xe I3 (j M) L O) λr s4 zz=>?_;let#[S,I4]:=zz
  subst S;exact jT #[K,Q,I4,qn]
 .refine i_ C^thn (T.item X rfl rfl rfl hc i z s3 K Q X.xe I3 (j M) L go) λr s4 zz=>?_;let#[u,S,h4]:=zz
  subst S;refine i_ C^thn h4 λ_ s5 zz=>?_;let#[x,H5,I5,r5,y5,B,U]:=zz;have V:=I5.pinned (j U)^T.obj _ _ B;refine i_ C^thn (hg _ s5 K H5 x u _ V r5^step x H5 y5) λ_ s6 zz=>?_;let#[Y,H6,I6,q6]:=zz;refine i_ C^thn (c _ s6 Y H6 _ I6 q6) λf s7 y=>?_
  have again:∀{k:St}{l:Hp},Inv X (z++Iq E s5.heap) k l s7->N k l->∃m,m<n/\∃i G q,Inv X z G q s7/\tn i s7.heap/\(∀b∈E,q b=n_)/\W i m G q:=λ{k l} p P=>by
   let#[m',hm,w7]:=hN k l P;refine#[m',hm,i+1,k,l,p.unpinned,T.keep _ _ _ B λb c o e=>(p.pin (b,o)^fR _^fR _^EK c e).1,λb c=>?_,w7];let#[o,e,d]:=T.obj _ _ B b c;exact(p.pin (b,o)^fR _^fR _^EK c e).2.1
  cases f with
  |next=>let#[k,l,p,P]:=y;exact again p P
  |cont=>let#[k,l,p,P]:=y;exact again p P
  |brk=>let#[k,l,p,y]:=y;exact#[k,l,p.unpinned,y]
  |ret v=>let#[x7,k,l,p,r7,y]:=y;exact#[x7,k,l,p.unpinned,r7,y]
end
def Pc{K:Frag}{a:Db}{xs:q_ V}{g:TG}{j:TS}{D:Ends}{Z:St}{H:Hp}(b:Nat->St->Hp->Prop)(l:b 0 Z H)(n:∀i Z H,i<=xs.length->b i Z H->SqT K H a xs)
  (o:∀i x Z H,xs[i]?=P3 x->b i Z H->g x Z H λd H2=>j {D with nx:=b (i+1),ct:=b (i+1),bk:=D.nx} d H2) (r:∀Z H,b xs.length Z H->D.nx Z H):
  ∃W:Nat->Nat->St->Hp->Prop,(∃m,W 0 m Z H)/\∀i m Z H,W i m Z H->
   ((ZD K a).stop i H/\D.nx Z H)\/((ZD K a).go i H/\∃N:St->Hp->Prop,(∀f c,N f c->∃k,k<m/\W (i+1) k f c)/\∀x c,(ZD K a).yld i H x c->g x Z c λd H2=>j {D with nx:=N,ct:=N,bk:=D.nx} d H2):=by
 exists λi m Z H=>m=xs.length - i/\i<=xs.length/\b i Z H,#[xs.length,by simp,Uf _,l];rintro i m Z H ⟨rfl,s,p⟩;have q:=n i Z H s p
 by_cases h:i<xs.length
 .refine .inr #[#[xs,xs[i],q,by simp],_,λf c t=>#[_,by lk,rfl,h,t],λx c y=>?_]
  let#[e,y]:=y;subst e;exact o i x Z _ (y xs q) p
 .have e:i=xs.length:=by lk
  subst e;exact .inl #[#[xs,q,Rs _],r Z H p]
abbrev R2:=V->V->Hp->VK->Prop
def OpR(X:Cx)(f:Ev->Ev->Sem Ev)(r:R2):Prop:=
 ∀(a:q_ (Db×Obj)) (s:No) (Z:St) (H:Hp) (x y:V) (v u:Ev) (Q:VK),Inv X a Z H s->RelV x v->RelV y u->r x y H Q->
  wpAny (model X.prog X.w) X.A (f v u) (EP X a Z Q) X.xe s
def dQ(X:Cx)(f:Ev->Sem Ev)(r:V->Hp->VK->Prop):Prop:=
 ∀(a:q_ (Db×Obj)) (s:No) (Z:St) (H:Hp) (x:V) (v:Ev) (Q:VK),Inv X a Z H s->RelV x v->r x H Q->
  wpAny (model X.prog X.w) X.A (f v) (EP X a Z Q) X.xe s
def Co(X:Cx)(f:Ev)(r:q_ V->Hp->VK->Prop):Prop:=
 ∀(a:q_ (Db×Obj)) (s:No) (Z:St) (H:Hp) (b:q_ V) (c:q_ Ev) (Q:VK),Inv X a Z H s->Vals b c->r b H Q->
  wpAny (model X.prog X.w) X.A (call f c) (EP X a Z Q) X.xe s
def dR(X:Cx)(r:V->Hp->(Bool->Hp->Prop)->Prop):Prop:=
 ∀(a:q_ (Db×Obj)) (s:No) (Z:St) (H:Hp) (x:V) (v:Ev) (Q:Bool->Hp->Prop),Inv X a Z H s->RelV x v->r x H Q->
  wpAny (model X.prog X.w) X.A (truthy v) (TP X a Z Q) X.xe s
def Dy(r:R2)(a b:TE):TE:=λZ H Q=>a Z H λx c=>b Z c λy H2=>r x y H2 Q
def eS(r:V->Hp->VK->Prop)(a:TE):TE:=λZ H Q=>a Z H λx b=>r x b Q
def rI(C:Int->Int->Prop)(g:Int->Int->V):R2:=λx y H Q=>∃i j,x=.int i/\y=.int j/\C i j/\Q (g i j) H
def HR(g:Int->Int->V):R2:=λx y H Q=>∃i j,x=.int i/\y=.int j/\Q (g i j) H
def rU(g:Int->V):V->Hp->VK->Prop:=λx H Q=>∃i,x=.int i/\Q (g i) H
section
variable {X:Cx}{a b:Expr}{ta tb:TE}{pos:Pos}
def Yt(j:PE X a ta)(k:PE X b tb){i:q_ (Db×Obj)}{s:No}{Z:St}{H:Hp}{R:V->V->Hp->Prop}(I:Inv X i Z H s)
  (h:ta Z H λx g=>tb Z g λy H2=>R x y H2) {Q:Ev->No->Prop}{f:Ev->Ev->Sem Ev}
  (l:∀v u e x y H2,Inv X i Z H2 e->RelV x v->RelV y u->R x y H2->wpAny (model X.prog X.w) X.A (f v u) Q X.xe e):
  wpAny (model X.prog X.w) X.A (eval a X.env) (λv c=>wpAny (model X.prog X.w) X.A (eval b X.env) (λu d=>wpAny (model X.prog X.w) X.A (f v u) Q X.xe d) X.xe c) X.xe s:=thn (j _ s Z H _ I h) λv m #[x,g,n,o,p]=>thn (k _ m Z g _ n p) λu e #[y,H2,q,r,t]=>l v u e x y H2 q o r t
def Bq{c:Operator}{r:R2}(d:OpR X (binaryOp c) r)(e:PE X a ta)(f:PE X b tb):PE X (.BinOp a c b pos)^Dy r ta tb:=λl s Z H Q I h=>wpAny_BinOp^Yt e f I h λv u g x y H2 i j k q=>d _ g Z H2 x y v u Q i j k q
def aA{c:UnaryOp}{r:V->Hp->VK->Prop}(d:dQ X (unaryOp c) r)(e:PE X a ta):PE X (.UnaryOp c a pos)^eS r ta:=λl s Z H Q I h=>UnaryOp_^thn (e _ s Z H _ I h) λv f #[x,g,i,j,k]=>d _ f Z g x v Q i j k
def bq{f:Ev->Ev->Sem Ev}{C:Int->Int->Prop}{g:Int->Int->Int}
  (c:∀(i j:Int) (t u:Tok) (s:No) (Q:Ev->No->Prop) (E:Ev->No->Prop),C i j->Q (.int (g i j) s.toks) {s with toks:=s.toks+1}->wpAny (model X.prog X.w) X.A (f (.int i t)^.int j u) Q E s):
  OpR X f (rI C λi j=>.int^g i j):=by
 intro m s Z H x y v u Q I d e h;let#[i,j,rfl,rfl,k,q]:=h;let#[t,rfl]:=d;let#[l,rfl]:=e;exact c i j t l s _ _ k #[.int _,H,I.tok _,#[_,rfl],q]
def aE{f:Ev->Ev->Sem Ev}{g:Int->Int->Int}
  (c:∀(i j:Int) (t u:Tok) (s:No) (Q:Ev->No->Prop) (E:Ev->No->Prop),Q (.int (g i j) s.toks) {s with toks:=s.toks+1}->wpAny (model X.prog X.w) X.A (f (.int i t)^.int j u) Q E s):
  OpR X f (HR λi j=>.int^g i j):=by
 intro l s Z H x y v u Q I d e h;let#[i,j,rfl,rfl,q]:=h;let#[t,rfl]:=d;let#[k,rfl]:=e;exact c i j t k s _ _ #[.int _,H,I.tok _,#[_,rfl],q]
def VL{f:Ev->Ev->Sem Ev}{g:Int->Int->Bool}
  (c:∀(i j:Int) (t u:Tok) (s:No) (Q:Ev->No->Prop) (E:Ev->No->Prop),Q (.bool^g i j) s->wpAny (model X.prog X.w) X.A (f (.int i t)^.int j u) Q E s):
  OpR X f (HR λi j=>.bl^g i j):=by
 intro l s Z H x y v u Q I d e h;let#[i,j,rfl,rfl,q]:=h;let#[t,rfl]:=d;let#[k,rfl]:=e;exact c i j t k s _ _ #[.bl _,H,I,rfl,q]
def WP(i j:Int):Prop:=0<j/\j<1073741824
def RG(i j:Int):Prop:=0<=j/\j<=1000000/\i.natAbs<2 ^ 64
def CMul(i j:Int):Prop:=(-(2 ^ 64)<i/\i<2 ^ 64)\/(-(2 ^ 64)<j/\j<2 ^ 64)
def CMul.ok{i j:Int}(h:CMul i j):IntMulOk i j:=by
 rcases h with⟨c,d⟩|⟨c,d⟩
 .exact .of_left^intBits_le_64 c d
 .exact .of_right^intBits_le_64 c d
def op_add:OpR X (binaryOp .Add) (HR λi j=>.int (i+j)):=aE λ_ _ _ _ _ _ _ q=>add_int q
def op_sub:OpR X (binaryOp .Sub) (HR λi j=>.int (i - j)):=aE λ_ _ _ _ _ _ _ q=>sub_int q
def op_mul:OpR X (binaryOp .Mult) (rI CMul λi j=>.int (i*j)):=bq λ_ _ _ _ _ _ _ c q=>mul_int q c.ok
def GD:OpR X (binaryOp .FloorDiv) (rI WP λi j=>.int (i / j)):=bq λi j _ _ _ _ _ c q=>by
 have d:=c.1;have e:=c.2;exact floordiv_int (by lk) (by grind)^.inl^PyProof.noPylong_small^by lk
def Et:OpR X (binaryOp .Mod) (rI (λ_ j=>0<j) λi j=>.int (i % j)):=bq λi j _ _ _ _ _ c q=>mod_int' (by lk)^by rw[Int.fmod_eq_emod_of_nonneg i^by lk];exact q
def Er:OpR X (binaryOp .Pow) (rI RG λi j=>.int (i ^ j.toNat)):=bq λ_ _ _ _ _ _ _ c q=>pow_int_small c.1 c.2.1 c.2.2 q
def eP{f:Ev->Sem Ev}{g:Int->Int}
  (c:∀(i:Int) (t:Tok) (s:No) (Q:Ev->No->Prop) (E:Ev->No->Prop),Q (.int (g i) s.toks) {s with toks:=s.toks+1}->wpAny (model X.prog X.w) X.A (f^.int i t) Q E s):
  dQ X f (rU λi=>.int^g i):=by
 intro e s Z H x v Q I d h;let#[i,rfl,q]:=h;let#[t,rfl]:=d;exact c i t s _ _ #[.int _,H,I.tok _,#[_,rfl],q]
def Xd:dQ X (unaryOp .USub) (rU λi=>.int (-i)):=eP λ_ _ _ _ _ q=>neg_int q
end
def Zl:V->V->Bool
 |.non,.non=>o_|.non,.int _=>o_|.int _,.non=>o_|.non,.bl _=>o_|.bl _,.non=>o_|.non,.str _=>o_|.str _,.non=>o_
 |.int _,.int _=>o_|.bl _,.bl _=>o_|.str _,.str _=>o_|.byt _,.byt _=>o_
 |.int _,.str _=>o_|.str _,.int _=>o_|.bl _,.str _=>o_|.str _,.bl _=>o_
 |_,_=>p_
def d7:R2:=λx y H Q=>Zl x y=o_/\Q (.bl (decide (x=y))) H
def dk:R2:=λx y H Q=>Zl x y=o_/\Q (.bl (!decide (x=y))) H
def IP{i j:Int}:decide (V.int i=V.int j)=(i==j):=by
 rw[gf];simp
def Lr{i j:Bool}:decide (V.bl i=V.bl j)=(i==j):=by
 rw[gf];simp
def IN{i j:Str}:decide (V.str i=V.str j)=(i==j):=by
 rw[gf];simp
def Po{i j:Array UInt8}:decide (V.byt i=V.byt j)=(i.toList==j.toList):=by
 rw[gf]
 simp_all
section
variable {X:Cx}{a b:Expr}{ta tb:TE}{pos:Pos}
def Az{c:q_ (Db×Obj)}{Z:St}{H:Hp}{s:No}{Q:VK}{k d:Bool}(I:Inv X c Z H s)(q:Q (.bl k) H)(e:k=d):EP X c Z Q (.bool d) s:=by
 subst e;exact#[.bl k,H,I,rfl,q]
def Ci:OpR X (compareOp .Eq) d7:=by
 intro g s Z H x y v u Q I f c h;let#[e,q]:=h;cases x with
 |non=>
  cases f;cases y with
  |non=>cases c;exact PySem.EqNone.eq_none_none^Az I q^by simp
  |bl j=>cases c;exact PySem.EqNone.eq_none_bool^Az I q^by simp
  |int j=>let#[d,rfl]:=c;exact PySem.EqNone.eq_none_int^Az I q^by simp
  |str j=>let#[d,rfl]:=c;exact PySem.EqNone.eq_none_str^Az I q^by simp
  |_=>exact absurd (show p_=o_ from e) fV
 |bl i=>
  cases f;cases y with
  |non=>cases c;exact PySem.EqNone.eq_bool_none^Az I q^by simp
  |bl j=>cases c;exact eq_bool^Az I q Lr
  |str j=>let#[d,rfl]:=c;exact PySem.EqMixed.eq_bool_str^Az I q^by simp
  |_=>exact absurd (show p_=o_ from e) fV
 |int i=>
  let#[t,rfl]:=f;cases y with
  |non=>cases c;exact PySem.EqNone.eq_int_none^Az I q^by simp
  |int j=>let#[d,rfl]:=c;exact eq_int^Az I q IP
  |str j=>let#[d,rfl]:=c;exact PySem.EqMixed.eq_int_str^Az I q^by simp
  |_=>exact absurd (show p_=o_ from e) fV
 |str i=>
  let#[t,rfl]:=f;cases y with
  |non=>cases c;exact PySem.EqNone.eq_str_none^Az I q^by simp
  |bl j=>cases c;exact PySem.EqMixed.eq_str_bool^Az I q^by simp
  |int j=>let#[d,rfl]:=c;exact PySem.EqMixed.eq_str_int^Az I q^by simp
  |str j=>let#[d,rfl]:=c;exact eq_str^Az I q IN
  |_=>exact absurd (show p_=o_ from e) fV
 |byt i=>
  let#[t,rfl]:=f;cases y with
  |byt j=>let#[d,rfl]:=c;exact PySem.W.eq_bytes^Az I q Po
  |_=>exact absurd (show p_=o_ from e) fV
 |_=>cases y <;>exact absurd (show p_=o_ from e) fV
def Sh:OpR X (compareOp .NotEq) dk:=by
 intro g s Z H x y v u Q I f c h;let#[e,q]:=h;cases x with
 |non=>
  cases f;cases y with
  |non=>cases c;exact PySem.EqNone.ne_none_none^Az I q^by simp
  |bl j=>cases c;exact PySem.EqNone.ne_none_bool^Az I q^by simp
  |int j=>let#[d,rfl]:=c;exact PySem.EqNone.ne_none_int^Az I q^by simp
  |str j=>let#[d,rfl]:=c;exact PySem.EqNone.ne_none_str^Az I q^by simp
  |_=>exact absurd (show p_=o_ from e) fV
 |bl i=>
  cases f;cases y with
  |non=>cases c;exact PySem.EqNone.ne_bool_none^Az I q^by simp
  |bl j=>cases c;exact ne_bool^Az I q^congrArg not Lr
  |str j=>let#[d,rfl]:=c;exact PySem.EqMixed.ne_bool_str^Az I q^by simp
  |_=>exact absurd (show p_=o_ from e) fV
 |int i=>
  let#[t,rfl]:=f;cases y with
  |non=>cases c;exact PySem.EqNone.ne_int_none^Az I q^by simp
  |int j=>let#[d,rfl]:=c;exact ne_int^Az I q^congrArg not IP
  |str j=>let#[d,rfl]:=c;exact PySem.EqMixed.ne_int_str^Az I q^by simp
  |_=>exact absurd (show p_=o_ from e) fV
 |str i=>
  let#[t,rfl]:=f;cases y with
  |non=>cases c;exact PySem.EqNone.ne_str_none^Az I q^by simp
  |bl j=>cases c;exact PySem.EqMixed.ne_str_bool^Az I q^by simp
  |int j=>let#[d,rfl]:=c;exact PySem.EqMixed.ne_str_int^Az I q^by simp
  |str j=>let#[d,rfl]:=c;exact ne_str^Az I q^congrArg not IN
  |_=>exact absurd (show p_=o_ from e) fV
 |byt i=>
  let#[t,rfl]:=f;cases y with
  |byt j=>let#[d,rfl]:=c;exact PySem.W.ne_bytes^Az I q^congrArg not Po
  |_=>exact absurd (show p_=o_ from e) fV
 |_=>cases y <;>exact absurd (show p_=o_ from e) fV
def op_lt:OpR X (compareOp .Lt) (HR λi j=>.bl (decide (i<j))):=VL λ_ _ _ _ _ _ _ q=>mL q
def op_le:OpR X (compareOp .LtE) (HR λi j=>.bl (decide (i<=j))):=VL λ_ _ _ _ _ _ _ q=>le_int q
def Wv:OpR X (compareOp .Gt) (HR λi j=>.bl (decide (j<i))):=VL λ_ _ _ _ _ _ _ q=>gt_int q
def Ww:OpR X (compareOp .GtE) (HR λi j=>.bl (decide (j<=i))):=VL λ_ _ _ _ _ _ _ q=>ge_int q
def QP:OpR X (compareOp .Lt) (λx y H Q=>∃i j,x=.str i/\y=.str j/\Q (.bl (decide (i.cps.toList<j.cps.toList))) H):=by
 intro e s Z H x y v u Q I c d h;let#[i,j,rfl,rfl,q]:=h;let#[t,rfl]:=c;let#[f,rfl]:=d;exact lt_str (Az I q rfl)
def DM:OpR X (compareOp .Is) (λx y H Q=>y=.non/\Q (.bl (decide (x=.non))) H):=by
 intro e s Z H x y v u Q I c d h;let#[rfl,q]:=h;cases d;refine is_none_gen^Az I q ?_
 cases x <;>first
  |omega
  |(let#[t,rfl]:=c;rfl)
def FI:OpR X (compareOp .IsNot) (λx y H Q=>y=.non/\Q (.bl (!decide (x=.non))) H):=by
 intro e s Z H x y v u Q I c d h;let#[rfl,q]:=h;cases d;refine isnot_none_gen^Az I q ?_
 cases x <;>first
  |omega
  |(let#[t,rfl]:=c;rfl)
def OpR.or{f:Ev->Ev->Sem Ev}{r c:R2}(h:OpR X f r)(g:OpR X f c):OpR X f (λx y H Q=>r x y H Q\/c x y H Q):=by
 intro i s Z H x y v u Q I d e q
 rcases q with q|q
 .exact h _ s Z H x y v u Q I d e q
 .exact g _ s Z H x y v u Q I d e q
def B0(b:fZ){c:CmpOp}(h:c≠.In:=by decide)(f:c≠.NotIn:=by decide):behindInMarks c b=p_:=by
 have d:(c==CmpOp.In)=p_:=by grind
 have e:(c==CmpOp.NotIn)=p_:=by grind
 cases b <;>simp[behindInMarks,d,e]
def VF{c:CmpOp}{r:R2}(d:OpR X (compareOp c) r)(e:PE X a ta)(f:PE X b tb)(g:behindInMarks c b=p_):PE X (.Compare a [c] [b] pos)^Dy r ta tb:=λm s Z H Q I h=>wpAny_Compare1 (Yt e f I h λv u i x y H2 j k l q=>d _ i Z H2 x y v u Q j k l q) g
def Rk(t:TE):TT:=λZ H Q=>t Z H λx c=>∃k,x=.bl k/\Q k c
def GA{d:CmpOp}{r:R2}(f:OpR X (compareOp d) r)(g:PE X a ta)(i:PE X b tb)(j:behindInMarks d b=p_):PT X (.Compare a [d] [b] pos)^Rk^Dy r ta tb:=by
 intro F s Z H Q I h
 refine wpAny_isTrue_Compare1 (thn (g _ s Z H _ I h) λv l #[x,m,n,o,p]=>thn (i _ l Z m _ n p) λu q #[y,H2,t,w,A]=>
  thn (f _ q Z H2 x y v u _ t o w A) λc G #[z,B,C,D,k,e,E]=>?_) j
 subst e;cases D;exact iG #[B,C,E]
def Y5(K:Frag)(x:V)(H:Hp)(k:Bool):Prop:=
 match x with
 |.non=>k=p_
 |.bl b=>k=b
 |.int i=>k=(i !=0)
 |.str y=>y.length<=sizeLine/\k=((y.length:Int) !=0)
 |.byt y=>y.size<=sizeLine/\k=((y.size:Int) !=0)
 |.ref p=>(∃c,SqL K H p c/\k=!c.isEmpty)\/(∃c,SqT K H p c/\k=!c.isEmpty)\/∃d,H p=P3^.dK d/\k=!d.isEmpty
 |_=>False
def OI{d:Type}{c:q_ (d×V)}{e:q_ (d×Ev)}(r:KV c e):(!e.isEmpty)=!c.isEmpty:=by
 cases r <;>rfl
def JF{d:q_ V}{c:q_ Ev}(r:Vals d c):(!c.toArray.isEmpty)=!d.isEmpty:=by
 cases r <;>simp
def G_:(sizeLine:Nat)<2 ^ 63:=by cbv
def Xg:dR X (λx H Q=>∃k,Y5 X.K x H k/\Q k H):=by
 intro C s Z H x v Q I j h;let#[k,e,q]:=h;have D:=G_;have E:sizeLine=16777216:=fz;cases x with
 |non=>
  cases j;have c:k=p_:=e;subst c;exact truthy_none #[H,I,q]
 |bl b=>
  cases j;have c:k=b:=e;subst c;exact iG #[H,I,q]
 |int i=>
  let#[t,rfl]:=j;have c:k=(i !=0):=e;subst c;exact PySem.P.truthy_int #[H,I,q]
 |str y=>
  let#[t,rfl]:=j;obtain⟨A,c⟩:y.length<=sizeLine/\k=((y.length:Int) !=0):=e;subst c;exact PySem.P.truthy_str (by lk) #[H,I.tok _,q]
 |byt y=>
  let#[t,rfl]:=j;obtain⟨A,c⟩:y.size<=sizeLine/\k=((y.size:Int) !=0):=e;subst c;exact PySem.W.truthy_bytes (by lk) #[H,I.tok _,q]
 | ref p=>
  cases j;have c:(∃g,SqL X.K H p g/\k=!g.isEmpty)\/(∃g,SqT X.K H p g/\k=!g.isEmpty)\/∃d,H p=P3^.dK d/\k=!d.isEmpty:=e
  rcases c with⟨g,l,c⟩|⟨g,l,c⟩|⟨d,l,c⟩
  .subst c
   let#[o,r,u,z]:=I.list l;have f:=r.length;exact wpAny_truthy_list u.isList (by simp only[fM];lk) #[H,I.tok _,by rw[JF r];exact q]
  .subst c
   let#[o,r,u,z]:=I.tuple l;have f:=r.length;exact truthy_tuple u (by simp only[fM];lk) #[H,I.tok _,by rw[JF r];exact q]
  .subst c
   obtain⟨z,B,n,r,m⟩:d.length<=sizeLine/\(p==sysModules)=p_/\∃n,KV d n/\s.heap.DictOf (BC X.prog X.w) p n:=I.hok p _ l;have f:d.length=n.length:=Paired.length r;exact wpAny_truthy_dict B m (by lk) #[H,I.tok _,by rw[OI r];exact q]
 |_=>exact(show False from e).elim
def SK(e:PE X a ta)(f:∀c,isTrue a X.env c=(do let v ←c;standAt a.pos;holding [v]^truthy v)):
  PT X a (λZ H Q=>ta Z H λx d=>∃k,Y5 X.K x d k/\Q k d):=λn s Z H Q I h=>isTrue_plain (thn (e _ s Z H _ I h) λv g #[x,i,j,l,m]=>Xg _ g Z i x v Q j l m)^f _
def N4:OpR X (binaryOp .Add) (λx y H Q=>∃i j,x=.str i/\y=.str j/\i.length+j.length<=sizeLine/\Q (.str (i++j)) H):=by
 intro g s Z H x y v u Q I c d h;let#[i,j,rfl,rfl,e,q]:=h;let#[t,rfl]:=c;let#[f,rfl]:=d;exact add_str (λf k=>#[.str _,H,I.tok _,#[_,rfl],q]) e
def vals1{x:V}{c:q_ Ev}(r:Vals [x] c):∃u,c=[u]/\RelV x u:=by
 cases r with
 |cons e d=>cases d;grind
def vals2{x y:V}{c:q_ Ev}(r:Vals [x,y] c):∃u d,c=[u,d]/\RelV x u/\RelV y d:=by
 cases r with
 |cons e f=>
  cases f with
  |cons g h=>cases h;exact#[_,_,rfl,e,g]
def T6:Co X (.builtin "abs") (λc H Q=>∃i,c=[.int i]/\Q (.int (if i<0 then -i else i)) H):=by
 intro d s Z H c e Q I r h;let#[i,rfl,q]:=h;let#[u,rfl,t,rfl]:=vals1 r;exact call_abs_int λu f=>#[.int _,H,I.tok _,#[_,rfl],q]
def Kv(e:X.calm=o_):Co X (.builtin "min") (λd H Q=>∃i j,d=[.int i,.int j]/\Q (.int (if j<i then j else i)) H):=by
 intro f s Z H d g Q I r h;let#[i,j,rfl,q]:=h;let#[u,l,rfl,#[t,rfl],#[m,rfl]]:=vals2 r;refine min_two_ints (I.ok.hd e) λn o k=>#[_,H,I.kept k,?_,q]
 by_cases c:j<i
 .rw[if_pos c,if_pos c];exact#[_,rfl]
 .rw[if_neg c,if_neg c];exact#[_,rfl]
def ZC(K:Frag)(x:V)(H:Hp)(n:Nat):Prop:=
 match x with
 |.str y=>y.length<=sizeLine/\n=y.length
 |.byt y=>y.size<=sizeLine/\n=y.size
 |.ref p=>(∃c,SqL K H p c/\n=c.length)\/∃c,SqT K H p c/\n=c.length
 |_=>False
def JY:Co X (.builtin "len") (λc H Q=>∃x n,c=[x]/\ZC X.K x H n/\Q (.int n) H):=by
 intro v s Z H c w Q I r h;let#[x,n,rfl,e,q]:=h;let#[u,rfl,g]:=vals1 r;have z:=G_;have A:sizeLine=16777216:=fz;cases x with
 |str y=>
  let#[t,rfl]:=g;obtain⟨m,f⟩:y.length<=sizeLine/\n=y.length:=e;subst f;exact len_str (by lk) #[.int _,H,I.tok _,#[_,rfl],q]
 |byt y=>
  let#[t,rfl]:=g;obtain⟨m,f⟩:y.size<=sizeLine/\n=y.size:=e;subst f;exact PySem.W.len_bytes (by lk) #[.int _,H,I.tok _,#[_,rfl],q]
 | ref p=>
  cases g;have f:(∃c,SqL X.K H p c/\n=c.length)\/∃c,SqT X.K H p c/\n=c.length:=e
  rcases f with⟨c,i,f⟩|⟨c,i,f⟩
  .subst f
   let#[j,k,l,o]:=I.list i;have d:=k.length;exact Calls.call_len_list l.isList (by simp only[fM];lk) #[.int c.length,H,I.tok _,#[_,by simp only[fM];rw[d]],q]
  .subst f
   let#[j,k,l,o]:=I.tuple i;have d:=k.length;exact len_tuple l (by simp only[fM];lk) #[.int c.length,H,I.tok _,#[_,by simp only[fM];rw[d]],q]
 |_=>exact(show False from e).elim
end
structure ObjM (h:fO) (x dx C:Db) (mA:Str->Option Ev):Prop where
 obj:h.get? x=P3 (PySem.W.instObj C dx)
 ns:h.Ns1 dx mA
 ne:dx≠x
def KY{h:fO}{d:Db}{f:Str->r_ Ev}(n:h.Ns1 d f):∃g,h.get? d=P3 g/\∀b,PySem.W.lookIn b g=P3^f b:=by
 let#[o,i,q,j,k,l,_,m]:=n;refine#[o,j,λb=>?_];have e:=m b;unfold nsFind findBy at e;unfold PySem.W.lookIn;rw[k]
 dsimp only
 split
 .simp_all
 .have a:i.toList.any (·.refKey)=p_:=by
   rw[List.any_eq_false];intro y p;let#[z,t,c]:=l y^Array.mem_toList_iff.mp p;simp[DictEntry.refKey,c]
  grind
def ObjM.look{h:fO}{x c C:Db}{d:Str->r_ Ev}(I:ObjM h x c C d):∃b,PySem.W.InstAt h x (PySem.W.instObj C c) C^P3 b/\∀a,PySem.W.lookIn a b=P3^d a:=
 let #[b,e,f]:=KY I.ns
 #[b,#[I.obj,rfl,rfl,e],f]
def EZ(f:Str)(v:V):q_ (Str×V)->q_ (Str×V)
 |[]=>[(f,v)]
 |(g,x)::r=>if g=f then(g,v)::r else(g,x)::EZ f v r
theorem HZ(f g:Str)(v:V):∀c:q_ (Str×V),(EZ f v c).lookup g=if g=f then P3 v else c.lookup g
 |[]=>by
  show ir g [(f,v)]=_
  by_cases h:g=f
  .simp_all
  simp_all
 | (k,x)::r=>by
  have d:=HZ f g v r;rw[show EZ f v ((k,x)::r)=(if k=f then(k,v)::r else(k,x)::EZ f v r)from rfl]
  by_cases a:k=f
  .rw[if_pos a]
   by_cases h:g=k
   .simp_all
   .have b:(g==k)=p_:=beq_eq_false_iff_ne.mpr h
    simp only[ir,b,if_neg λe:g=f=>h^e.trans a.symm]
  .rw[if_neg a]
   by_cases h:g=k
   .simp_all
   .have b:(g==k)=p_:=beq_eq_false_iff_ne.mpr h
    simp only[ir,b];exact d
theorem HB(f:Str)(v:V):∀a:q_ (Str×V),f∈(EZ f v a).map (·.1)/\∀g,g∈a.map (·.1)->g∈(EZ f v a).map (·.1)
 |[]=>#[by simp[EZ],λg h=>by simp at h]
 |(k,x)::r=>by
  let#[b,c]:=HB f v r;rw[show EZ f v _=(if k=f then(k,v)::r else(k,x)::EZ f v r)from rfl]
  grind
theorem Hb(f:Str)(v:V):∀a:q_ (Str×V),(EZ f v a).length<=a.length+1
 |[]=>by simp[EZ]
 |(k,x)::r=>by
  have b:=Hb f v r;rw[show EZ f v _=(if k=f then(k,v)::r else(k,x)::EZ f v r)from rfl]
  grind
def RelO.some_of{v:V}{o:r_ Ev}(r:RelO (P3 v) o):∃u,o=P3 u/\RelV v u:=by
 cases o with
 |none=>exact(r).elim
 |some u=>exact#[u,rfl,r]
def Qs{v:V}{u:Ev}(r:RelV v u):PySem.W.handedIn u=o_:=by
 cases v with
 |non=>cases(r);rfl
 |bl b=>cases(r);rfl
 |int i=>let#[t,e]:=(r);cases e;rfl
 |str x=>let#[t,e]:=(r);cases e;rfl
 |byt b=>let#[t,e]:=(r);cases e;rfl
 |flt b=>let#[t,e]:=(r);cases e;rfl
 |ref a=>cases(r);rfl
 |ty n=>cases(r);rfl
section
variable {P:Program}{w:World}{H:Hp}{h:Heap}{a C dx:Addr}{fs:q_ (Str×V)}
def Ve(c:HOk P w H h)(e:H a=P3^.ins C dx fs):∃b,ObjM h a dx C b/\(∀f,RelO (fs.lookup f)^b f)/\PySem.Within b (fs.map (·.1))/\fs.length<=1000/\H dx=P3^.own a:=by
 let#[d,z,g,i,b,n,r,q]:=(c a _ e);exact#[b,#[i,n,g],r,q,z,d]
end
structure Cls (K:Frag) (C:Db):Prop where
 pg:PySem.W.plainGet K C Str.empty=o_
 hd:PySem.W.hasDictIn K C=o_
 po:PySem.W.plainOver K C=o_
 sa:PySem.W.findIn K (.ref C) "__setattr__"=P3^P3^.builtin "object.__setattr__"
def Cls.get{K:Frag}{C:Db}(c:Cls K C)(f:Str):PySem.W.plainGet K C f=o_:=c.pg
def F3(K:Frag)(C:Db)(f:Str):Prop:=PySem.W.findIn K (.ref C) f=P3 n_
structure fE (K:Frag) (C:Db) (f:Str) (v:V) (u:Ev):Prop where
 at_:PySem.W.findIn K (.ref C) f=P3 (P3 u)
 rel:RelV v u
 get:PySem.W.specialIn K u "__get__"=P3 n_
 cp:PySem.W.copiedNames.contains f=p_
structure fA (K:Frag) (C:Db) (m:Str) (f:Db):Prop where
 at_:PySem.W.findIn K (.ref C) m=P3 (P3^.ref f)
 fn:PySem.W.isFn K^.ref f=o_
 kp:keepIn K^.ref f=o_
section
variable {s:Shared}{f:Str}{A:Around}{E:Value->Shared->Prop}
def V_{a:fT}{w:fY}{b:Env}{e:fZ}{f:Str}{pos:Pos}{s:No}{Q:Ev->No->Prop}(d:attributeBase e f b^eval e b=eval e b)
  (h:wpAny (model a w) A (eval e b) (λo c=>wpAny (model a w) A (getAttr o f o_) Q E c) E s):wpAny (model a w) A (eval (.Attribute e f pos) b) Q E s:=
 Attribute_any_ h (by rw[arm_eval_Attribute,d])
end
section
variable {X:Cx}{zH:q_ (Addr×Obj)}{Z:St}{H:Hp}{s:Shared}{A:Around}{E:Value->Shared->Prop}{Q:Value->Shared->Prop}{c:Value}{b:Bool}
inductive F2 (K:Frag) (H:Hp):V->Ev->Prop where
 |non:F2 K H .non^.type "NoneType"
 |bl (x:Bool):F2 K H (.bl x)^.type "bool"
 |int (i:Int):F2 K H (.int i)^.type "int"
 |str (x:Str):F2 K H (.str x)^.type "str"
 |flt (x:UInt64):F2 K H (.flt x)^.type "float"
 |lst {a:Db}{xs:List V} (e:H a=P3^.lst xs):F2 K H (.ref a)^.type "list"
 |frz {a:Db}{o:Obj}{xs:List V} (e:H a=P3^.frz o^.lst xs):F2 K H (.ref a)^.type "list"
 |tup {a:Db}{xs:List V} (e:H a=P3^.tup xs):F2 K H (.ref a)^.type "tuple"
 |dF {a:Db}{o:Obj}{kvs:List (Key×V)} (e:H a=P3^.frz o^.dK kvs):F2 K H (.ref a)^.type "dict"
 |dK {a:Db}{kvs:List (Key×V)} (e:H a=P3^.dK kvs):F2 K H (.ref a)^.type "dict"
 |dT {a:Db}{kvs:List (List Key×V)} (e:H a=P3^.dT kvs):F2 K H (.ref a)^.type "dict"
 | ins {a C dx:Db}{fs:List (Str×V)} (e:H a=P3^.ins C dx fs) (cl:Cls K C) (ha:PySem.W.findIn K (.ref C) "__class__"=P3^P3^.builtin "object.__class__")
   (hn:PySem.W.specialIn K (.builtin "object.__class__") "__get__"=P3^P3^.builtin "getset_descriptor.__get__") (htk:PySem.W.takesIn K^.builtin "object.__class__"=P3 o_)
   (hm:PySem.W.mroIn K C^.type "object"=P3 o_):F2 K H (.ref a)^.ref C
def Qo{x:V}{u t:Ev}(I:Inv X zH Z H s)(f:RelV x u)(ty:F2 X.K H x t)(e:PySem.W.kitOne X.K t c=P3 b)(h:∀F,Q (.bool b) {s with toks:=F}):
  wpAny (model X.prog X.w) A (call (.builtin "isinstance") [u,c]) Q E s:=by
 cases ty with
 |non=>cases(show u=fm from f);exact PySem.W.kia_one PySem.W.kitx_none I.kIn iW e (λz=>nomatch z) h
 |bl y=>cases(show u=lg y from f);exact PySem.W.kia_one PySem.W.kitx_bool I.kIn iW e (λz=>nomatch z) h
 |int i=>let#[t,q]:=(show ∃t,u=Value.int i t from f);cases q;exact PySem.W.kia_one PySem.W.kitx_int I.kIn iW e (λz=>nomatch z) h
 |str y=>let#[t,q]:=(show ∃t,u=jH y t from f);cases q;exact PySem.W.kia_one PySem.W.kitx_str I.kIn iW e (λz=>nomatch z) h
 |flt y=>let#[t,q]:=(show ∃t,u=Value.float y t from f);cases q;exact PySem.W.kia_one PySem.W.kitx_float I.kIn iW e (λz=>nomatch z) h
 |@lst a l d=>
  cases(show u=fI a from f);let#[_,_,n,_,g]:=(show ObjOk X.prog X.w H s.heap a^.lst l from I.hok a _ d);exact PySem.W.kia_one PySem.W.kitx_list I.kIn #[_,g,rfl] e (λz=>nomatch z) h
 |@frz a m l d=>
  cases(show u=fI a from f);let#[_,_,_,n,_,g]:=(show ObjOk X.prog X.w H s.heap a^.frz m^.lst l from I.hok a _ d);exact PySem.W.kia_one PySem.W.kitx_list I.kIn #[_,g,rfl] e (λz=>nomatch z) h
 |@tup a l d=>
  cases(show u=fI a from f);let#[_,_,_,p]:=(show ObjOk X.prog X.w H s.heap a^.tup l from I.hok a _ d);let#[o,g,k,_]:=p;exact PySem.W.kia_one PySem.W.kitx_tuple I.kIn #[o,g,k] e (λz=>nomatch z) h
 |@dF a m j d=>
  cases(show u=fI a from f);let#[_,_,_,G,_,p]:=(show ObjOk X.prog X.w H s.heap a^.frz m^.dK j from I.hok a _ d);let#[o,v,B,g,k,_]:=p;exact PySem.W.kia_one PySem.W.kitx_dict I.kIn #[o,g,k.1] e (λz=>nomatch z) h
 |@dK a j d=>
  cases(show u=fI a from f);let#[_,_,G,_,p]:=(show ObjOk X.prog X.w H s.heap a^.dK j from I.hok a _ d);let#[o,v,B,g,k,_]:=p;exact PySem.W.kia_one PySem.W.kitx_dict I.kIn #[o,g,k.1] e (λz=>nomatch z) h
 |@dT a j d=>
  cases(show u=fI a from f);let#[_,_,l,_,o,v,B,g,k,_]:=(show ObjOk X.prog X.w H s.heap a^.dT j from I.hok a _ d);exact PySem.W.kia_one PySem.W.kitx_dict I.kIn #[o,g,k.1] e (λz=>nomatch z) h
 |@ins a C P R d D L M r N=>
  cases(show u=fI a from f);let#[S,O,_]:=Ve I.hok d;let#[T,J,_]:=O.look;exact PySem.W.kia_one (PySem.W.kitx_own (D.get _) D.hd L M r N) I.kIn J e (λz=>nomatch z) h
end
structure Room (k:Nat) (A:fb):Prop where
 hd:A.handled=n_
 dp:A.depth+3*k+5<recursionLimit
 un:A.units+16*k+200<cLine
 gd:A.guards=P3 []
def Room.mono{j k:Nat}{A:fb}(r:Room k A)(h:j<=k):Room j A:=#[r.hd,by have:=r.dp;lk,by have:=r.un;lk,by first|exact r.gd|grind|grind]
def Room.deeper{k:Nat}{A:fb}(r:Room (k+1) A)(a:Env):Room k^A.deeper a:=
 #[r.hd,by have:=r.dp;show A.depth+1+3*k+5<_;lk,by have:=r.un;show A.units+3+16*k+200<_;lk,by first|exact r.gd|omega|grind]
def Room.in1{k:Nat}{A:fb}(r:Room (k+1) A):Room k A.in1:=
 #[r.hd,by have:=r.dp;grind,by have:=r.un;grind,by first|exact r.gd|omega|grind]
def OE{A:fb}{C:Db}{a:q_ Ev}{b:q_ (Str×Ev)}:(A.under^.builtin "type.__call__" #[.ref C::a,b]).depth=A.depth+1:=by
 first|rfl|omega
def OD{A:fb}{C:Db}{a:q_ Ev}{b:q_ (Str×Ev)}:(A.under^.builtin "type.__call__" #[.ref C::a,b]).units=A.units+1:=by
 first|rfl|omega
def Room.make{k:Nat}{A:fb}(r:Room (k+1) A)(C:Db)(a:q_ Ev)(b:q_ (Str×Ev)):Room k^A.under^.builtin "type.__call__" #[.ref C::a,b]:=
 #[r.hd,by have:=r.dp;rw[OE];lk,by have:=r.un;rw[OD];lk,by first|exact r.gd|omega|grind]
def Room.depth{k:Nat}{A:fb}(r:Room k A):A.depth<recursionLimit:=by have:=r.dp;lk
def Room.units{k:Nat}{A:fb}(r:Room k A):A.units+64<cLine:=by have:=r.un;lk
def Room.units0{k:Nat}{A:fb}(r:Room k A):A.units<cLine:=by have:=r.un;lk
def Uw:TA:=λ_ H Q=>Q [] H
def Oq(a:TE)(b:TA):TA:=λZ H Q=>a Z H λx c=>b Z c λd H2=>Q (x::d) H2
section
variable {X:Cx}{e:Expr}{es:q_ Expr}{te:TE}{t:TA}{pos:Pos}
def CH:PA X [] Uw:=λ_ _ _ _ H Q I h=>jE #[[],H,I,.nil,h]
def BL(a:PE X e te)(b:PA X es t)(c:starEach (e::es) X.env=(p_,eval e X.env)::starEach es X.env:=by rfl):PA X (e::es)^Oq te t:=by
 intro d o s Z H Q I h;rw[c];refine iN^thn (a _ s Z H _ I h) λu f zz=>?_;let#[x,g,i,j,k]:=zz;refine thn (b _ _ f Z g _ i k) λp q zz=>?_;let#[r,H2,l,m,n]:=zz;exact #[_,H2,l,.cons j m,n]
def cP(t:TA):TE:=λZ H Q=>t Z H λa b=>a.length<=sizeLine/\∀p,b p=n_->Q (.ref p)^Ar b p^.tup a
def cU(t:TA):TE:=λZ H Q=>t Z H λa b=>a.length<=sizeLine/\∀p,b p=n_->Q (.ref p)^Ar b p^.lst a
def X7{x1}(h:PA X es t):PE X (.Tuple es x1 pos)^cP t:=by
 intro f s Z H Q I g;refine wpAny_Tuple_spliced^thn (h pos f s Z H _ I g) λi a zz=>?_;let#[j,c,d,r,z,q]:=zz;refine #[by rw[←r.length];exact z,?_];have k:c a.heap.objs.size=n_:=d.hok.fresh^Rs _;refine#[.ref a.heap.objs.size,Ar c a.heap.objs.size^.tup j,d.laid (t':=a.toks) (λb u e=>Go _ e) (Rs _) ?_,rfl,q _ k];exact#[z,i,r,IsTupN.new _ _]
def Nz(h:PA X es t):PE X (.List es pos)^cU t:=by
 intro f s Z H Q I g;refine wpAny_List_spliced^thn (h pos f s Z H _ I g) λi a zz=>?_;let#[j,c,d,r,z,q]:=zz;refine #[by rw[←r.length];exact z,?_];have k:c a.heap.objs.size=n_:=d.hok.fresh^Rs _;refine#[.ref a.heap.objs.size,Ar c a.heap.objs.size^.lst j,d.laid (t':=a.toks) (λb u e=>Go _ e) (Rs _) ?_,rfl,q _ k];exact#[z,i,0,r,UF _ rfl]
end
abbrev Sp:=q_ V->Hp->VK->XK->Prop
abbrev RK:=q_ Env->Hp->No->XK->Ev->No->Prop
structure Env0 (P:fT) (w:fY) (K:Frag) (mg:Str->Option Ev) (base:fO) (A:fb) (outer:List Env) (s:No) (H:Hp):Prop where
 frames:A.frames=P3 outer
 mod:Mod K mg base
 bs:∀b o,base.get? b=P3 o->s.heap.get? b=P3 o/\H b=n_
 bsz:base.objs.size<=s.heap.objs.size
 funs:s.heap.FunFrames base outer
 frf:∀b∈Kj outer,H b=n_
 hok:HOk P w H s.heap
 bare:jk s.gens
def CE(a:q_ Env)(P:fT)(w:fY)(H:Hp)(s:No)(Q:VK)(u:Ev)(b:No):Prop:=
 ∃v c,b.os=s.os/\jk b.gens/\Un (Kj a) [] H c s.heap b.heap/\HOk P w c b.heap/\RelV v u/\Q v c
def CR(c:RK)(a:q_ Env)(P:fT)(w:fY)(H:Hp)(s:No)(Q:VK)(E:XK)(r:Result)(b:No):Prop:=
 match r with
 |.ok (.ret u)=>CE a P w H s Q u b
 |.ok _=>False
 |.error e=>c a H s E e b
structure B8 (P:fT) (w:fY) (K:Frag) (mg:Str->Option Ev) (base:fO) (CX:RK) (k:Nat) (f:Db) (fd:f_) (ps:List Str) (sp:Sp):Prop where
 len:∀vs H Q E,sp vs H Q E->vs.length=ps.length
 run:∀(A:fb) (outer:List Env) (s:No) (H:Hp) (args:Args) (us:List Ev) (vs:List V) (Q:VK) (E:XK),Room k A->Env0 P w K mg base A outer s H->lG s fd args^ps.zip us->Vals vs us->sp vs H Q E->
  codeAny (model P w) A (.call (.ref f) args) (CR CX outer P w H s Q E) s
def Env0.make{P:fT}{w:fY}{K:Frag}{c:Str->r_ Ev}{b:fO}{A:fb}{a:q_ Env}{s:No}{H:Hp}(e:Env0 P w K c b A a s H)(C:Db)(d:q_ Ev)(f:q_ (Str×Ev)):
  Env0 P w K c b (A.under^.builtin "type.__call__" #[.ref C::d,f]) a s H:=#[by first|exact e.frames|grind,e.mod,e.bs,e.bsz,e.funs,e.frf,e.hok,e.bare]
def Env0.in1{P:fT}{w:fY}{K:Frag}{c:Str->r_ Ev}{b:fO}{A:fb}{a:q_ Env}{s:No}{H:Hp}(e:Env0 P w K c b A a s H):
  Env0 P w K c b A.in1 a s H:=#[e.frames,e.mod,e.bs,e.bsz,e.funs,e.frf,e.hok,e.bare]
section
variable {X:Cx}{zH:q_ (Addr×Obj)}{Z:St}{H:Hp}{s s':Shared}
def Inv.env0(I:Inv X zH Z H s):Env0 X.prog X.w X.K X.mg X.base X.A X.stack s H:=
 #[I.ok.frames,I.ok.mod,I.bs,fJ I.ok.bsz I.sz,I.stack,I.stkFree,I.hok,I.bare]
def Inv.after{Q:VK}{u:Ev}(I:Inv X zH Z H s)(h:CE X.stack X.prog X.w H s Q u s'):EP X zH Z Q u s':=by
 let#[v,f,i,a,j,c,r,q]:=h;let#[k,g,d,t,e]:=s';obtain rfl:e=s.os:=i;exact#[v,f,I.call j c a λb z=>absurd z^by simp,r,q]
end
def Rn(b:Sp)(a:q_ V)(E:XK)(t:TA):TE:=λZ H Q=>t Z H λc d=>b (c++a) d Q E
def Binds(K:Frag)(fd:f_)(b:q_ Str)(c:q_ Ev):Prop:=
 ∀(s:No) (a:q_ Ev),K.In s.heap->(a++c).length=b.length->lG s fd #[a,[]]^b.zip (a++c)
def Binds.all{K:Frag}{fd:f_}{b:q_ Str}(h:∀a:q_ Ev,a.length=b.length->bindArgs fd #[a,[]]=pure^b.zip a):Binds K fd b []:=λs a _ c=>by
 rw[fh]at c ⊢;exact .of_eq^h a c
def HJ(b:RK)(X:Cx)(E:XK):Prop:=∀(c:q_ (Db×Obj)) (Z:St) (H:Hp) (s:No) (e:Ev) (a:No),Inv X c Z H s->b X.stack H s E e a->X.xe e a
section
variable {X:Cx}{CX:RK}{k:Nat}{f C:Addr}{fd:FuncData}{ps:q_ Str}{sp:Sp}{dvs:q_ V}{ds:q_ Value}{E:XK}{x:Str}{p pos:Pos}{e:Expr}{es:q_ Expr}{t:TA}
def Xu{d:q_ (Db×Obj)}{Z:St}{H:Hp}{s:No}{Q:VK}{a:q_ Ev}{c:q_ V}(F:B8 X.prog X.w X.K X.mg X.base CX k f fd ps sp)(i:Room k X.A)(j:Binds X.K fd ps ds)(hd:Vals dvs ds)(hx:HJ CX X E)
  (I:Inv X d Z H s) (r:Vals c a) (h:sp (c++dvs) H Q E):wpAny (model X.prog X.w) X.A (call (.ref f) a) (EP X d Z Q) X.xe s:=by
 have g:Vals (c++dvs) (a++ds):=r.append hd;have l:(a++ds).length=ps.length:=by rw[←g.length];exact F.len _ _ _ _ h
 refine iK^jJ (F.run X.A X.stack s H #[a,[]] (a++ds) (c++dvs) Q E i I.env0 (j s a I.kIn l) g h) λr m b=>?_;cases r with
 |error e=>exact hx d Z H s e m I b
 |ok n=>
  cases n with
  |ret u=>exact I.after b
  |next=>exact gC b
  |brk=>exact gC b
  |cont=>exact gC b
def PD(F:B8 X.prog X.w X.K X.mg X.base CX k f fd ps sp)(d:Room k X.A)(g:Gl X x)(i:X.mg x=P3^.ref f)(j:keepIn X.K^.ref f=o_)(l:Binds X.K fd ps ds)(hd:Vals dvs ds)(hx:HJ CX X E)
  (m:PA X (e::es) t) (a:(x==("__debug__":Str))=p_:=by cbv) (n:starEach (e::es) X.env=(p_,eval e X.env)::starEach es X.env:=by rfl) (b:(backTo pos^starEach es X.env).any (·.1)=p_:=by rfl):
  PE X (.Call (.Name x p) (e::es) [] pos) (Rn sp dvs E t):=λo s Z H Q I h=>gc^Dn I g i (PySem.W.callWith_K I.ok.mod.kin j (thn (m _ _ s Z H _ I h) λu v #[y,z,c,r,q]=>#[c.kIn,Xu F d l hd hx c r q]) n b) a
structure Mk (K:Frag) (C f:Db):Prop where
 makes:PySem.W.makesIn K C=o_
 init:PySem.W.findIn K (.ref C) "__init__"=P3 (P3^.ref f)
 fn:PySem.W.isFn K^.ref f=o_
 kp:keepIn K^.ref C=o_
end
section
variable {fd:FuncData}{ps ks:q_ Str}
structure dY (K:Frag) (fd:f_) (ps ks:List Str) (g:List Ev->List Ev->List Ev) (gV:List V->List V->List V):Prop where
 to:∀(s:No) (us ws:List Ev),K.In s.heap->(g us ws).length=ps.length->lG s fd #[us,ks.zip ws] (ps.zip^g us ws)
 rel:∀{vs:List V}{us:List Ev}{zs:List V}{ws:List Ev},Vals vs us->Vals zs ws->Vals (gV vs zs)^g us ws
end
structure A5 (N P:List Str) (sc:iU):Prop where
 kind:sc.kind=.function
 co:sc.isCoroutine=p_
 gen:sc.isGenerator=p_
 nd:N.Nodup
 pre:N.take P.length=P
 par:∀x∈P,sc.names.lookup x=P3 .local\/sc.names.lookup x=P3 .cell
 nofree:∀y∈sc.names,y.2≠.free
theorem Kx{a:Str->r_ ij}{x:Str}:∀{binds:q_ (Str×Ev)}{m:Str->r_ Ev},(∀v,(x,v)∉binds)->bindL a binds m x=m x
 |[],_,_=>rfl
 |(n,v)::r,m,h=>by
  unfold bindL;rw[Kx λw b=>h w^Sc _ b]
  split
  .grind
  .rfl
theorem Kz{a:Str->r_ ij}{x:Str}:∀{binds:q_ (Str×Ev)}{m:Str->r_ Ev},(∀v,(x,v)∉binds)->bindC a binds m x=m x
 |[],_,_=>rfl
 |(n,v)::r,m,h=>by
  unfold bindC;rw[Kz λw b=>h w^Sc _ b]
  split
  .rfl
  grind
theorem Ky{a:Str->r_ ij}{x:Str}{v:Ev}:∀{P:q_ Str}{b:q_ Ev}{i:Nat}{m:Str->r_ Ev},P.Nodup->P[i]?=P3 x->b[i]?=P3 v->a x=P3 .local->
  bindL a (P.zip b) m x=P3 v
 |[],_,_,_,_,h,_,_=>by simp at h
 |_::_,[],_,_,_,_,h,_=>by simp at h
 |p::P,w::b,0,m,c,d,e,f=>by
  simp at d e;subst d;subst e
  show bindL a ((p,w)::P.zip b) m p=_;unfold bindL;rw[Kx λv g=>(fX.mp c).1 (jy g).1,if_pos f];simp
 |p::P,w::b,i+1,m,c,d,e,f=>by
  unfold bindL;exact Ky (i:=i) (fX.mp c).2 (by simp_all) (by simp_all) f
theorem K0{a:Str->r_ ij}{x:Str}{v:Ev}:∀{P:q_ Str}{b:q_ Ev}{i:Nat}{m:Str->r_ Ev},P.Nodup->P[i]?=P3 x->b[i]?=P3 v->a x≠P3 .local->
  bindC a (P.zip b) m x=P3 v
 |[],_,_,_,_,h,_,_=>by simp at h
 |_::_,[],_,_,_,_,h,_=>by simp at h
 |p::P,w::b,0,m,c,d,e,f=>by
  simp at d e;subst d;subst e
  show bindC a ((p,w)::P.zip b) m p=_;unfold bindC;rw[Kz λv g=>(fX.mp c).1 (jy g).1,if_neg f];simp
 |p::P,w::b,i+1,m,c,d,e,f=>by
  unfold bindC;exact K0 (i:=i) (fX.mp c).2 (by simp_all) (by simp_all) f
def start(N:q_ Str)(a:q_ V):St:=a.map P3++gK (N.length - a.length) n_
def DX(i:RK)(P:fT)(w:fY)(K:Frag)(mg:Str->r_ Ev)(base:fO)(N:q_ Str)(c:Str)(a:iU)(f:Db)(h:Ev)(A:fb)(outer:q_ Env)(s:No)(H:Hp)(E:XK):Cx where
 prog:=P
 w:=w
 K:=K
 mg:=mg
 base:=base
 A:=A.deeper (envOfC c a s.heap.objs.size f h)
 N:=N
 s₀:=s
 H₀:=H
 env:=envOfC c a s.heap.objs.size f h
 outer:=outer
 stack:=envOfC c a s.heap.objs.size f h::outer
 ex:=[]
 calm:=o_
 fn:=λ_=>o_
 pn:=[]
 xe:=λe k=>wpAny (model P w) (A.deeper^envOfC c a s.heap.objs.size f h) (leaving (envOfC c a s.heap.objs.size f h) e) (λ_ g=>i outer H s E e g) (λl g=>i outer H s E l g) k
def NN{a:iU}{n:Nat}{x:Str}(h:a.names.lookup x=P3 .cell):∃c,(cellsFrom n a.names []).lookup x=P3 c:=by
 have q:=PySem.W.cellsFrom_some a.names n []^.inl h;exact Option.isSome_iff_exists.mp q
def Kh{Q:RK}{P:fT}{w:fY}{K:Frag}{M:Str->r_ Ev}{m:fO}{N t:q_ Str}{j:Str}{d:iU}{f:Db}{I:Ev}{A:fb}{g:q_ Env}{s R:No}{H:Hp}{E:XK}{O:q_ Ev}{B:q_ V}
  (S:A5 N t d) (hd:A.handled=n_) (o:Env0 P w K M m A g s H) (Z:B.length=t.length) (r:Vals B O)
  (x:InCallC s s.heap.objs.size (bindL (envOfC j d s.heap.objs.size f I).kindOf (t.zip O) λ_=>n_) (cellsFrom (s.heap.objs.size+1) d.names []) (bindC (envOfC j d s.heap.objs.size f I).kindOf (t.zip O) λ_=>n_) R):
  Inv (DX Q P w K M m N j d f I A g s H E) [] (start N B) H R:=by
 have W:t.length<=N.length:=by have:=congrArg jw S.pre;rw[im]at this;lk
 let#[J,tk,rfl,T]:=x.done;have C:∀b:Db,b∉(DX Q P w K M m N j d f I A g s H E).ex:=λb z=>absurd (show b∈([]:q_ Db)from z)^by simp
 exists#[o.mod,S.kind,rfl,rfl,Rs _,λy z c J l=>?_,λy D=>?_,λy c _ h=>?_,λ_=>hd,mV o.frames,.inr #[rfl,rfl],λb z=>absurd z^C b,o.bs,o.bsz,λb _ _=>C b,λb z=>absurd z^C b,o.funs,o.frf],
  rfl,o.bare,Un.kept T,#[_,x.toInCall.ns,λi y v J l h3=>?_],λy c h=>#[_,x.cell y c h],o.hok.fresh^Rs _,λy c h=>?_,λp F=>absurd (show p∈([]:q_ (Db×Obj))from F)^by simp,o.hok.kept T
 .exact name_of_addr x.apart (PySem.mem_of_lookup J)^PySem.mem_of_lookup l
 .have D:d.names.lookup y=P3 .cell\/d.names.lookup y=P3 .free:=D
  rcases D with D|D
  .exact NN D
  .exact absurd rfl (S.nofree _^PySem.mem_of_lookup D)
 .exact j8^x.above y c^PySem.mem_of_lookup h
 .have L:i<B.length:=by
   unfold start at l
   by_cases L:i<B.length
   .exact L
   .rw[iL^by simpa using L]at l
    rw[kJ]at l
    split at l <;>cases l
  have X:B[i]?=P3 v:=by
   unfold start at l;rw[hX (by simpa using L),fK]at l;cases e:B[i]? with
   |none=>rw[e]at l;cases l
   |some a=>rw[e]at l;cases l;rfl
  let#[u,U,Y]:=r.get X
  have F:t[i]?=P3 y:=by
   rw[←S.pre,List.getElem?_take_of_lt^by lk];exact J
  have G:t.Nodup:=by rw[←S.pre];exact S.nd.sublist^List.take_sublist _ _
  exists u,Y
  rcases S.par y^f8 F with k|k
  .exact .inl #[k,Ky G F U k]
  .let#[c,e]:=NN (n:=s.heap.objs.size+1) k
   refine .inr #[.inl k,c,e,?_];have q:=x.cell y c e;rw[K0 G F U^by show d.names.lookup y≠_;rw[k];decide]at q;exact q
 .exact o.hok.fresh^j8^x.above y c^PySem.mem_of_lookup h
 .unfold start
  show _=N.length;rw[XV,FM,mP];lk
def W1{L:RK}{P:fT}{w:fY}{K:Frag}{M:Str->r_ Ev}{h:fO}{k:Nat}{f:Db}{name d:Str}{i:Arguments}{j:q_ gJ}{a:iU}{dV kV C pm g ct oc:Ev}{an od:r_ Db}
  {T:Array^r_ Ev}{N O:q_ Str}{U:Sp} (lk:K.lookup f=P3 #[oc,od,.func^fnOf name d i j a dV kV C pm an g ct,T]) (X:codeIn K g d=o_) (S:A5 N O a)
  (len:∀l H Q E,U l H Q E->l.length=O.length)
  (p:∀(A:fb) (c:q_ Env) (s:No) (H:Hp) (l:q_ V) (Q:VK) (E:XK),Room k^A.deeper^envOfC d a s.heap.objs.size f g->U l H Q E->
   ∃t,PSs (DX L P w K M h N d a f g A c s H E) j t/\t {nx:=λ_ m=>Q .non m,rt:=Q} (start N l) H):
  B8 P w K M h L (k+1) f (fnOf name d i j a dV kV C pm an g ct) O U:=by
 refine#[len,λA c s H a0 us l Q E Y D hb r F=>?_];have hl:=len _ _ _ _ F;have KX:K.In s.heap:=D.mod.kin.keeps λb o e=>(D.bs b o e).1;have Z:s.heap.NoLimit:=D.mod.nolimit.keeps λb o e=>(D.bs b o e).1
 have z:∀y∈O.zip us,a.names.lookup y.1=P3 .local\/(a.names.lookup y.1=P3 .cell/\((cellsFrom (s.heap.objs.size+1) a.names []).lookup y.1).isSome=o_):=fun#[n,v] hy=>by
  rcases S.par n (jy hy).1 with q|q
  .exact .inl q
  .exact .inr #[q,PySem.W.cellsFrom_some _ _ _^.inl q]
 refine codeAny_call_function Y.depth (KX _ _ lk) rfl S.co S.gen rfl (PySem.W.codeRec_of KX X) (hb _ _ _ _ ?_);refine lT S.kind z λa1 he s1 x=>?_;subst he;refine#[Z.keeps x.toInCall.keep,codeAny_func ?_];let#[t,ht,hq]:=p A c s H l Q E (Y.deeper _) F;have I:Inv (DX L P w K M h N d a f g A c s H E) [] (start N l) H s1:=Kh S Y.hd D hl r x;refine ft (ht [] s1 (start N l) H _ I hq) (λfl s' B=>?_) λe s' B=>B
 have G:∀{R:St}{m:Hp}{v:V}{u:Ev},Inv (DX L P w K M h N d a f g A c s H E) [] R m s'->RelV v u->Q v m->CE c P w H s Q u s':=
  λ{R m v u} J rv q=>#[v,m,J.os,J.bare,J.base,J.hok,rv,q]
 cases fl with
 |ret u=>
  let#[v,R,m,J,rv,q]:=B;exact G J rv q
 |next=>
  let#[R,m,J,q]:=B;exact G (v:=V.non) (u:=fm) J rfl q
 |brk=>
  let#[_,_,_,q]:=B;exact gC q
 |cont=>
  let#[_,_,_,q]:=B;exact gC q
section
variable {X:Cx}{x:Str}{p pos:Pos}{e:Expr}{es:q_ Expr}{t:TA}{id T:String}{r:q_ V->Hp->VK->Prop}
def bo(r:q_ V->Hp->VK->Prop)(t:TA):TE:=λZ H Q=>t Z H λa b=>r a b Q
def Dz(c:Co X (.builtin id) r)(d:Gl X x)(f:X.mg x=n_)(g:bootBuiltins x=P3^.builtin id)(i:PA X (e::es) t)(j:x ≠ "__name__":=by cbv)(a:(x==("__debug__":Str))=p_:=by cbv)
  (k:starEach (e::es) X.env=(p_,eval e X.env)::starEach es X.env:=by rfl) (b:(backTo pos^starEach es X.env).any (·.1)=p_:=by rfl):PE X (.Call (.Name x p) (e::es) [] pos)^bo r t:=λw s Z H Q I h=>gc^EM I d f g (PyProof.Rows.callWith_builtin1 (thn (i _ _ s Z H _ I h) λl m #[n,o,q,u,v]=>c _ m Z o n l Q q u v) k b) j a
def KQ(c:Co X (.type T) r)(d:Gl X x)(f:X.mg x=n_)(g:bootBuiltins x=P3^.type T)(i:PA X (e::es) t)(j:x ≠ "__name__":=by cbv)(a:(x==("__debug__":Str))=p_:=by cbv)
  (k:starEach (e::es) X.env=(p_,eval e X.env)::starEach es X.env:=by rfl) (b:(backTo pos^starEach es X.env).any (·.1)=p_:=by rfl):PE X (.Call (.Name x p) (e::es) [] pos)^bo r t:=λw s Z H Q I h=>gc^EM I d f g (gz (thn (i _ _ s Z H _ I h) λl m #[n,o,q,u,v]=>c _ m Z o n l Q q u v) k b) j a
end
end L2
namespace HT
section
variable {prog:Program}{w:World}{A:Around}{E:Value->Shared->Prop}{s:Shared}
def cat_tup{t b:Db}{d c:q_ Ev}{Q:Ev->No->Prop}(u:kO s.heap t d.toArray)(v:kO s.heap b c.toArray)(z:d≠[])
  (x:c=[]->Q (.ref t) s) (B:c≠[]->Q (.ref s.heap.objs.size) {s with heap:=s.heap.push {cls:=.type "tuple",data:=.seq (d++c).toArray}})
  (y:d.length+c.length<=sizeLine):wpAny (model prog w) A (binaryOp .Add (.ref t)^.ref b) Q E s:=by
 let#[#[cls,k,data,l],i,m,n,o]:=id u;let#[#[p,e,j,f],a,g,q,h]:=id v;simp only at m o g h;subst m o g h
 by_cases r:c=[]
 .exact concat_meets #[_,i,rfl] #[_,a,rfl] lu seq_tuple_add PySem.F.slot_tuple_add PySem.F.entry_tuple_add (PySem.F.args_tuple_add_2 _ _)
   (tuple_addW1 t b d.toArray c.toArray n q k e l f (by simp_all)^by simp[r]) #[i,a,x r]
 .refine concat_meets #[_,i,rfl] #[_,a,rfl] lu seq_tuple_add PySem.F.slot_tuple_add PySem.F.entry_tuple_add (PySem.F.args_tuple_add_2 _ _)
   (tuple_addW2 t b d.toArray c.toArray n q k e l f (by grind) (by grind)^by lk) #[i,a,?_]
  simp_all
def sIx(n d:Nat):r_ Int->Nat
 |none=>d
 |some v=>if v<0 then(v+(n:Int)).toNat else min v.toNat n
def sIx_none(n d:Nat):sIx n d n_=d:=rfl
def sIx_nat(n d k:Nat):sIx n d^P3 (k:Int)=min k n:=by
 show(if k<0 then((k:Int)+n).toNat else min _ n)=min k n;rw[if_neg^by lk,jg]
def Xt(n d:Nat)(hd:d<=n)(o:r_ Int):sIx n d o<=n:=by
 cases o with
 |none=>exact hd
 |some v=>
  show(if v<0 then(v+n).toNat else min _ n)<=n
  grind
def Pt(v:Int)(n d:Nat):(if v<0 then max (v+(n:Int)) 0 else min v (n:Int))=((sIx n d^P3 v:Nat):Int):=by
 show(if v<0 then max _ 0 else min v _)=(if v<0 then(v+n).toNat else min _ n)
 grind
def OY(a b:r_ Int)(n:Nat):lh a b 1 (n:Int)=(((sIx n 0 a:Nat):Int),((sIx n n b:Nat):Int)):=by
 refine Prod.ext ?_ ?_
 .cases a with
  |none=>rfl
  |some v=>exact Pt v n 0
 .cases b with
  |none=>rfl
  |some v=>exact Pt v n n
def Nw(i j:Nat):jz (i:Int) (j:Int) 1=j - i:=by
 unfold jz
 grind
def Ij{v:Ev}{o:r_ Int}{Q:r_ Int->No->Prop}(p:ke v o)(h:Q o s):wpAny (model prog w) A (Builtin.Slice.slicePartIndex v) Q E s:=by
 cases p with
 |none=>exact slicePart_none h
 |int i t=>exact slicePart_int h
def sliceApplied_gen{g:Db}{e f:Ev}{a d:r_ Int}{n:Nat}{Q:Int×Int×Nat->No->Prop}(i:s.heap.IsSliceOf g e f .none)(j:ke e a)(k:ke f d)
  (h:Q (((sIx n 0 a:Nat):Int),1,sIx n n d - sIx n 0 a) s):wpAny (model prog w) A (Builtin.Slice.sliceApplied (.ref g)^pure (n:Int)) Q E s:=by
 let#[m,b,l,c]:=id i;refine Ch^Ch (f6 b c (x:=e) rfl (Ch (f6 b c (x:=f) rfl (Ch (f6 b c (x:=.none) rfl (TW ?_))))));refine Ch^slicePart_none ?_;refine Ch^Ij j^Ch^Ij k^Ch^TW ?_;show wpAny _ _ (match lh a d 1 (n:Int)with|(a,d)=>pure (a,(1:Int),jz a d 1)) _ _ s;rw[OY a d n];show wpAny _ _ (pure _) _ _ s;rw[Nw];exact TW h
def SR(a:Array Ev)(i k:Nat):((fo k).filterMap fun(m:Nat)=>a[((i:Int)+(m:Int)*1).toNat]?).toArray=((a.toList.drop i).take k).toArray:=by
 have e:(fun(m:Nat)=>a[((i:Int)+(m:Int)*1).toNat]?)=λm=>a[i+m]?:=by
  grind
 rw[e]
 have:=pick_run a i k
 rw[List.filterMap_map]at this;have b:((λx=>a[x]?)∘λx=>i+x)=λm=>a[i+m]?:=rfl
 grind
def getItem_tuple_cut{t g:Db}{a:Array Ev}{n o:Ev}{c d:r_ Int}{Q:Ev->No->Prop}(f:kO s.heap t a)(p:s.heap.IsSliceOf g n o .none)(q:ke n c)(r:ke o d)
  (y:¬(sIx a.size 0 c=0/\sIx a.size a.size d=a.size))
  (h:Q (.ref s.heap.objs.size) {s with heap:=s.heap.push {cls:=.type "tuple",data:=.seq ((a.toList.drop^sIx a.size 0 c).take (sIx a.size a.size d - sIx a.size 0 c)).toArray}})
  (u:a.size<=sizeLine):wpAny (model prog w) A (getItem (.ref t)^.ref g) Q E s:=by
 have e:sizeOk^.seq ((a.toList.drop^sIx a.size 0 c).take (sIx a.size a.size d - sIx a.size 0 c)).toArray:=by
  show((a.toList.drop^sIx a.size 0 c).take (sIx a.size a.size d - sIx a.size 0 c)).toArray.size<=sizeLine;rw[fM,im,kU,iI];lk
 have z:sIx a.size a.size d<=a.size:=Xt _ _ (Rs _) d;let#[v,i,j,x]:=id p;have k:s.TypeIs (.ref g) "slice":=#[v,i,j];unfold getItem
 try with_reducible refine gG ?_
 first|refine Ch^TW ?_|skip
 refine Ch^wpAny_sequenceKey f.typeIs (by cbv) ?_
 refine Ch (gl (name:=iJ "__getitem__") f.typeIs gW
  (g8 gW f.typeIs entry_tuple_getitem ?_^args_tuple_getitem _ _))
 show wpAny _ _ (lU^.ref t >>=_) _ _ s;refine Ch^tupleItemsOf_ f ?_;refine Ch^j_ k ?_;rw[if_pos^by cbv];refine Ch^sliceApplied_gen p q r ?_
 have l:¬((((sIx a.size 0 c:Nat):Int)==0&&(1:Int)==1&&(sIx a.size a.size d - sIx a.size 0 c)==a.size)=o_):=by
  grind
 show wpAny _ _ (if(((sIx a.size 0 c:Nat):Int)==0&&(1:Int)==1&&(sIx a.size a.size d - sIx a.size 0 c)==a.size)=o_ then _ else _) _ _ s;rw[if_neg l,SR]
 first
  |exact Ch (m:=kA _)^gi (TW #[_,rfl,TW h]) e
  |grind
  |grind
  |grind
end
end HT
namespace L2
abbrev TO:=St->Hp->(r_ Int->Hp->Prop)->Prop
def PO(X:Cx)(e:r_ fZ)(t:TO):Prop:=
 ∀(a:q_ (Db×Obj)) (s:No) (Z:St) (H:Hp) (Q:r_ Int->Hp->Prop),Inv X a Z H s->t Z H Q->
  wpAny (model X.prog X.w) X.A (evalPart e X.env) (λu c=>∃o b,Inv X a Z b c/\ke u o/\Q o b) X.xe s
def Uv:TO:=λ_ H Q=>Q n_ H
def Zb(t:TE):TO:=λZ H Q=>t Z H λx a=>∃i,x=.int i/\Q (P3 i) a
section
variable {X:Cx}{e:Expr}{te:TE}{lo hi:r_ Expr}{tl th:TO}{pos p2:Pos}
def O_:PO X n_ Uv:=λa s Z H Q I h=>TW #[_,H,I,.none,h]
def O9(h:PE X e te):PO X (P3 e)^Zb te:=by
 intro g s Z H Q I a;refine thn (h _ s Z H _ I a) λu j zz=>?_;let#[x,b,c,d,f]:=zz;let#[i,rfl,q]:=f;let#[t,rfl]:=d;exact#[_,b,c,.int i t,q]
def SlR(X:Cx)(r:V->r_ Int->r_ Int->Hp->VK->Prop):Prop:=
 ∀(a:q_ (Db×Obj)) (s:No) (Z:St) (H:Hp) (x:V) (v b c:Ev) (lo hi:r_ Int) (d:Db) (Q:VK),Inv X a Z H s->RelV x v->s.heap.IsSliceOf d b c .none->ke b lo->ke c hi->r x lo hi H Q->
  ∃T e,typeLookup (.type T) "__getitem__"=pure^P3^.builtin e/\s.TypeIs v T/\wpAny (model X.prog X.w) X.A (getItem v^.ref d) (EP X a Z Q) X.xe s
def SlR.or{r a:V->r_ Int->r_ Int->Hp->VK->Prop}(h:SlR X r)(j:SlR X a):SlR X (λx lo hi H Q=>r x lo hi H Q\/a x lo hi H Q):=by
 intro k s Z H x v b c lo hi d Q I e f g i q
 rcases q with q|q
 .exact h _ s Z H x v b c lo hi d Q I e f g i q
 .exact j _ s Z H x v b c lo hi d Q I e f g i q
def eU(r:V->r_ Int->r_ Int->Hp->VK->Prop)(te:TE)(tl th:TO):TE:=λZ H Q=>te Z H λx a=>tl Z a λl H2=>th Z H2 λu b=>r x l u b Q
def MZ{r:V->r_ Int->r_ Int->Hp->VK->Prop}(i:SlR X r)(j:PE X e te)(k:PO X lo tl)(m:PO X hi th):PE X (.Subscript e (.Slice lo hi n_ p2) pos)^eU r te tl th:=by
 intro c s Z H Q I h;refine Subscript_^thn (j c s Z H _ I h) λv n zz=>?_;let#[x,o,p,t,y]:=zz;refine wpAny_Slice^thn (k c n Z o _ p y) λd z zz=>?_;let#[l,H2,B,C,D]:=zz;refine thn (m c z Z H2 _ B D) λf a zz=>?_;let#[u,g,E,F,G]:=zz;rw[evalPart_none];refine TW ?_;have J:Inv X c Z g {a with heap:=a.heap.push {cls:=.type "slice",data:=.fields #[ d,f,.none]}}:=E.kept (t':=a.toks) λb N q=>Go _ q;let#[T,O,K,L,M]:=i c {a with heap:=a.heap.push {cls:=.type "slice",data:=.fields #[ d,f,.none]}} Z g x v d f l u a.heap.objs.size Q J t (Heap.IsSliceOf.new ..) C F G;show wpAny (model X.prog X.w) X.A (subscriptTail e (.Slice lo hi n_ p2) v^.ref a.heap.objs.size) (EP X c Z Q) X.xe {a with heap:=a.heap.push {cls:=.type "slice",data:=.fields #[ d,f,.none]}};exact tail_any (ops:=[.ref a.heap.objs.size,v]) L K M^by with_unfolding_all rfl
def NI(a:q_ V)(lo hi:r_ Int):q_ V:=(a.drop^HT.sIx a.length 0 lo).take (HT.sIx a.length a.length hi - HT.sIx a.length 0 lo)
def Hk(a:q_ V)(lo hi:r_ Int):(NI a lo hi).length<=a.length:=by
 unfold NI
 grind
def Zp(K:Frag):V->r_ Int->r_ Int->Hp->VK->Prop:=λx lo hi H Q=>∃a b,x=.ref a/\SqT K H a b /\
 ¬(HT.sIx b.length 0 lo=0/\HT.sIx b.length b.length hi=b.length)/\∀p,H p=n_->Q (.ref p)^Ar H p^.tup^NI b lo hi
def sl_tup:SlR X^Zp X.K:=by
 intro n s Z H x v o p lo hi t Q I g i j k h;let#[a,e,rfl,l,u,q]:=h;cases g;let#[d,r,f,m]:=I.tuple l;have c:d.toArray.size=e.length:=by exact r.length.symm
 exists _,_,gW.lookup,f.typeIs;refine HT.getItem_tuple_cut f i j k (by grind) ?_ (by simp_all);rw[c];refine#[.ref _,_,I.laid (λb w q=>Go _ q) (Rs _) ?_,rfl,q _^I.hok.fresh^Rs _];exact#[fJ (Hk e lo hi) m,_,(r.drop _).take _,IsTupN.new _ _]
def SG(K:Frag):R2:=λx y H Q=>∃a b d c,x=.ref a/\y=.ref b/\SqT K H a d/\SqT K H b c/\d≠[]/\d.length+c.length<=sizeLine /\
 (c=[]->Q (.ref a) H)/\(c≠[]->∀p,H p=n_->Q (.ref p)^Ar H p^.tup (d++c))
def Vals.nil_iff{a:q_ V}{b:q_ Ev}(r:Vals a b):b=[]↔a=[]:=by
 cases r with
 |nil=>simp
 |cons _ _=>simp
def op_catT:OpR X (binaryOp .Add)^SG X.K:=by
 intro r s Z H x y v u Q I f g h;let#[a,b,t,A,rfl,rfl,i,j,k,l,m,n]:=h;cases f;cases g;let#[o,d,p,_]:=I.tuple i;let#[e,c,p2,_]:=I.tuple j;refine HT.cat_tup p p2 (λz=>k^d.nil_iff.mp z) (λz=>#[.ref a,H,I,rfl,m^c.nil_iff.mp z]) (λz=>?_) (by rw[←d.length,←c.length];exact l);refine#[.ref _,_,I.laid (λb B q=>Go _ q) (Rs _) ?_,rfl,n (λw=>z^c.nil_iff.mpr w) _^I.hok.fresh^Rs _];exact#[by simp_all,_,d.append c,IsTupN.new _ _]
end
def S7(n:Nat)(i:Int):r_ Nat:=if 0<=i then(if i<n then P3 i.toNat else n_)else if -(n:Int)<=i then P3 (i+n).toNat else n_
def atI{a:Type}(b:q_ a)(i:Int):r_ a:=(S7 b.length i).bind λj=>b[j]?
def Lh{n:Nat}{i:Int}{j:Nat}(h:S7 n i=P3 j):seqIndex? i n=P3 j/\j<n/\-(n:Int)<=i/\i<n:=by
 unfold S7 at h
 by_cases b:0<=i
 .rw[if_pos b]at h
  by_cases a:i<n
  .rw[if_pos a]at h
   have e:i.toNat=j:=fG h;exact#[by rw[seqIndex_of b a,e],by lk,by lk,a]
  grind
 .rw[if_neg b]at h
  by_cases a:-(n:Int)<=i
  .rw[if_pos a]at h
   have e:(i+n).toNat=j:=fG h;exact#[by rw[seqIndex_neg (by lk) a,e],by lk,a,by lk]
  grind
def L0{b:Type}{a:q_ b}{i:Int}{v:b}(h:atI a i=P3 v):∃j,seqIndex? i a.length=P3 j/\a[j]?=P3 v/\j<a.length/\-(a.length:Int)<=i/\i<a.length:=by
 unfold atI at h;cases e:S7 a.length i with
 |none=>simp_all
 |some j=>
  let#[c,d,f,g]:=Lh e
  simp_all
def AF{b:Type}{a:q_ b}{j:Nat}{v:b}(h:a[j]?=P3 v):atI a (j:Int)=P3 v:=by
 have c:=(eq.mp h).1
 have e:S7 a.length j=P3 j:=by
  unfold S7
  simp_all
 unfold atI;grind
def T_{b:Type}(a:q_ b)(v:b):atI (a++[v]) (-1)=P3 v:=by
 have e:S7 (a++[v]).length (-1)=P3 a.length:=by
  unfold S7
  grind
 unfold atI
 grind
def L9(b:fZ):Prop:=∀o i,subscripted b p_ o i=operate [o,i]^getItem o i
def IxR(X:Cx)(r:R2):Prop:=
 ∀(value a:fZ) (b:q_ (Db×Obj)) (s:No) (Z:St) (H:Hp) (x y:V) (v u:Ev) (Q:VK),Inv X b Z H s->RelV x v->RelV y u->r x y H Q->
  subscripted a p_ v u=operate [v,u]^getItem v u->wpAny (model X.prog X.w) X.A (subscriptTail value a v u) (EP X b Z Q) X.xe s
def XH(X:Cx)(d:String)(r:V->q_ V->Hp->VK->Prop):Prop:=
 ∀(a:q_ (Db×Obj)) (s:No) (Z:St) (H:Hp) (x:V) (b:q_ V) (v:Ev) (c:q_ Ev) (Q:VK),Inv X a Z H s->RelV x v->Vals b c->r x b H Q->
  wpAny (model X.prog X.w) X.A (call (.builtin d) (v::c)) (EP X a Z Q) X.xe s
section
variable {X:Cx}{a b:Expr}{ta tb:TE}{pos:Pos}
def IxR.or{r d:R2}(h:IxR X r)(i:IxR X d):IxR X (λx y H Q=>r x y H Q\/d x y H Q):=by
 intro value c j s Z H x y v u Q I e f q g
 rcases q with q|q
 .exact h _ _ _ s Z H x y v u Q I e f q g
 .exact i _ _ _ s Z H x y v u Q I e f q g
def ET{r:R2}(c:IxR X r)(d:PE X a ta)(e:PE X b tb)(f:L9 b):PE X (.Subscript a b pos)^Dy r ta tb:=λl s Z H Q I h=>Subscript_^Yt d e I h λv u g x y H2 i j k q=>c a b _ g Z H2 x y v u Q i j k q^f _ _
def Xy(K:Frag):R2:=λx y H Q=>∃p c i v,x=.ref p/\y=.int i/\SqL K H p c/\atI c i=P3 v/\Q v H
def Zx(K:Frag):R2:=λx y H Q=>∃p c i v,x=.ref p/\y=.int i/\SqT K H p c/\atI c i=P3 v/\Q v H
def Zy:R2:=λx y H Q=>∃z i c,x=.str z/\y=.int i/\z.length<=sizeLine/\atI z.cps.toList i=P3 c/\Q (.str #[#[ c]]) H
def ix_list:IxR X^Xy X.K:=by
 intro value d k s Z H x y v u Q I A B h l;let#[p,M,i,z,rfl,rfl,C,D,q]:=h;cases A;let#[t,rfl]:=B;let#[e,r,f,N]:=I.list C;let#[j,m,E,O,F,G]:=L0 D;let#[w,J,g]:=r.get E;have P:=r.length;have R:=G_;have c:EP X k Z Q w s:=#[z,H,I,g,q]
 by_cases n:0<=i
 .have o:i.toNat=j:=by
   rw[seqIndex_of n G]at m
   grind
  exact item_listR f.isList n (by lk) (by rw[o];simpa using J) c l
 .have o:(i+(e.toArray.size:Int)).toNat=j:=by
   rw[seqIndex_neg (by lk) F]at m
   grind
  exact subscriptTail_builtinR (x:=w) f.isList.typeIs slot_list_getitem.lookup
   (wpAny_getItem_list_neg (Q:=λr L=>r=w/\EP X k Z Q r L) f.isList (by lk) (by grind) (by lk) (by grind) #[rfl,c]) l
def ix_tup:IxR X^Zx X.K:=by
 intro value c A s Z H x y v u Q I f g h k;let#[p,B,i,z,rfl,rfl,l,m,q]:=h;cases f;let#[t,rfl]:=g;let#[n,r,e,C]:=I.tuple l;let#[j,D,o,E,F,G]:=L0 m;let#[w,J,d]:=r.get o;have L:=r.length;have M:=G_
 exact subscriptTail_builtinR e.typeIs gW.lookup
  (getItem_tuple (j:=j) e (by lk) (by lk) (by grind) (by grind) #[rfl,#[z,H,I,d,q]]) k
def YU:IxR X Zy:=by
 intro value d l s Z H x y v u Q I e f h g;let#[z,i,c,rfl,rfl,m,k,q]:=h;let#[t,rfl]:=e;let#[n,rfl]:=f;let#[j,o,p,r,w,A]:=L0 k;have B:z.cps.toList.length=z.length:=by simp[Str.length]
 have C:=G_
 exact tail_any (kI s z t) slot_str_getitem.lookup (getItem_str (by
  grind) (by grind) #[.str _,H,I.tok _,#[_,rfl],q]) g
def dq(K:Frag):R2:=λx y H Q=>Xy K x y H Q\/Zx K x y H Q\/Zy x y H Q
def YV:IxR X^dq X.K:=ix_list.or^ix_tup.or YU
def OC(c:q_ Ev)(n j:Nat)(u:Ev):gH (·.setIfInBounds j u) {cls:=.type "list",data:=.seq c.toArray n}={cls:=.type "list",data:=.seq (c.set j u).toArray n}:=by
 simp[gH]
def Inv.lst{f:q_ (Db×Obj)}{Z:St}{H:Hp}{s:No}{p:Db}{d:q_ V}(I:Inv X f Z H s)(h:H p=P3^.lst d):
  ∃(c:q_ Ev) (n:Nat),Vals d c/\s.heap.get? p=P3 {cls:=.type "list",data:=.seq c.toArray n}/\d.length<=sizeLine:=by
 let#[z,c,n,r,e]:=I.hok p _ h;exact#[_,n,r,e,z]
def Inv.lstUpd{j:q_ (Db×Obj)}{Z:St}{H:Hp}{s:No}{p:Db}{l g:q_ V}{d c:q_ Ev}{n i:Nat}{f:Obj->Obj}(I:Inv X j Z H s)(h:H p=P3^.lst l)
  (m:s.heap.get? p=P3 {cls:=.type "list",data:=.seq d.toArray n}) (k:f {cls:=.type "list",data:=.seq d.toArray n}={cls:=.type "list",data:=.seq c.toArray i}) (r:Vals g c) (o:g.length<=sizeLine) (t:Nat):
  Inv X j Z (Ar H p^.lst g) {s with heap:=s.heap.update p f,toks:=t}:=by
 have e:(s.heap.update p f).get? p=P3 {cls:=.type "list",data:=.seq c.toArray i}:=by
  rw[gA f m (by rw[k] <;>rfl),k]
 exact I.write (by rw[h];trivial) (.inl rfl) (λb u v q=>(fL _ _^gE v).trans q) #[_,e] #[o,_,i,r,e]
def Wi:V->V->V->Hp->(Hp->Prop)->Prop:=λo i v H Q=>∃p c k j,o=.ref p/\i=.int k/\H p=P3^.lst c/\S7 c.length k=P3 j/\Q^Ar H p^.lst^c.set j v
def set_list:bU X Wi:=by
 intro w s Z H o i v E F u Q I x y z h;let#[p,A,k,j,rfl,rfl,f,B,q]:=h;cases x;let#[t,rfl]:=y;let#[c,n,r,d,G]:=I.lst f;let#[g,J,C,D]:=Lh B;have K:=r.length;have L:=G_
 have l:Inv X w Z (Ar H p^.lst^A.set j v) {s with heap:=s.heap.update p (gH (·.setIfInBounds j u))}:=
  I.lstUpd f d (OC c n j u) (r.set z j) (by simp_all) s.toks
 by_cases m:0<=k
 .have e:k.toNat=j:=by
   rw[seqIndex_of m D]at g
   grind
  exact PySem.W.ki_setAt d m (by lk) (by grind)^by rw[e];exact#[_,l,q]
 .have e:(k+(c.toArray.size:Int)).toNat=j:=by
   rw[seqIndex_neg (by lk) C]at g
   grind
  exact PySem.W.ki_setBack d (by lk) (by grind) (by lk)^by rw[e];exact#[_,l,q]
def LK(c d:r_ Int)(n:Nat):(sliceBounds c d n_ n).1=((HT.sIx n 0 c:Nat):Int)/\(sliceBounds c d n_ n).2.1=((HT.sIx n n d:Nat):Int)/\(sliceBounds c d n_ n).2.2=1:=by
 refine#[?_,?_,rfl]
 .cases c with
  |none=>simp[sliceBounds,HT.sIx]
  |some i=>
   simp only[sliceBounds,HT.sIx,Option.getD_none,show(1:Int) > 0 by cbv,if_true]
   by_cases h:i<0
   .grind
   .simp only[h,if_false] <;>lk
 .cases d with
  |none=>simp[sliceBounds,HT.sIx]
  |some i=>
   simp only[sliceBounds,HT.sIx,Option.getD_none,show(1:Int) > 0 by cbv,if_true]
   by_cases h:i<0
   .grind
   .simp only[h,if_false] <;>lk
def Jj(c:q_ Ev)(d e:r_ Int):slicePick c.toArray d e n_=((c.drop^HT.sIx c.length 0 d).take (HT.sIx c.length c.length e - HT.sIx c.length 0 d)).toArray:=by
 let#[f,g,h]:=LK d e _;unfold slicePick;rw[f,g,h];simp only[sliceRange_one,pick_run] <;>rfl
def Zq(K:Frag):V->r_ Int->r_ Int->Hp->VK->Prop:=λx d e H Q=>∃a c,x=.ref a/\SqL K H a c/\∀p,H p=n_->Q (.ref p)^Ar H p^.lst^NI c d e
def sl_list:SlR X^Zq X.K:=by
 intro p s Z H x v t u e f w Q I g i j k h;let#[a,l,rfl,m,q]:=h;cases g;let#[n,r,d,o]:=I.list m;have c:=r.length;exists _,_,slot_list_getitem.lookup,d.isList.typeIs;refine wpAny_getItem_list_slice d.isList i j k .none (by simp) ?_ (by grind);rw[Jj,←c];refine#[.ref _,_,I.laid (λb y q=>Go _ q) (Rs _) ?_,rfl,q _^I.hok.fresh^Rs _];exact#[fJ (Hk l e f) o,_,0,(r.drop _).take _,UF _ rfl]
def W3:V->Bool
 |.non=>o_
 |.bl _=>o_
 |.int _=>o_
 |.str _=>o_
 |_=>p_
def ao:V->V->Bool
 |.non,.non=>o_
 |.bl a,.bl b=>a==b
 |.bl a,.int b=>(if a then 1 else 0)==b
 |.int a,.bl b=>a==(if b then 1 else 0)
 |.int a,.int b=>a==b
 |.str a,.str b=>a==b
 |_,_=>p_
def Lp{A:fb}{s:No}{y x:V}{u v:Ev}(e:RelV y u)(c:RelV x v)(g:W3 y=o_)(f:W3 x=o_):SeqAt.EqAt A s u v^ao y x:=by
 cases y with
 |non=>
  cases e;cases x with
  |non=>cases c;exact SeqAt.EqAt.same _
  |bl b=>cases c;exact SeqAt.EqAt.none_bool b
  |int b=>let#[t,rfl]:=c;exact SeqAt.EqAt.none_int b t
  |str b=>let#[t,rfl]:=c;exact SeqAt.EqAt.none_str b t
  |_=>exact absurd (show p_=o_ from f) fV
 |bl a=>
  cases e;cases x with
  |non=>cases c;exact SeqAt.EqAt.bool_none a
  |bl b=>cases c;exact SeqAt.EqAt.bool_bool a b
  |int b=>let#[t,rfl]:=c;exact SeqAt.EqAt.bool_int a b t
  |str b=>let#[t,rfl]:=c;exact SeqAt.EqAt.bool_str a b t
  |_=>exact absurd (show p_=o_ from f) fV
 |int a=>
  let#[d,rfl]:=e;cases x with
  |non=>cases c;exact SeqAt.EqAt.int_none a d
  |bl b=>cases c;exact SeqAt.EqAt.int_bool a d b
  |int b=>let#[t,rfl]:=c;exact SeqAt.EqAt.int_int a d b t
  |str b=>let#[t,rfl]:=c;exact mh a d b t
  |_=>exact absurd (show p_=o_ from f) fV
 |str a=>
  let#[d,rfl]:=e;cases x with
  |non=>cases c;exact SeqAt.EqAt.str_none a d
  |bl b=>cases c;exact SeqAt.EqAt.str_bool a d b
  |int b=>let#[t,rfl]:=c;exact mi a d b t
  |str b=>let#[t,rfl]:=c;exact SeqAt.EqAt.str_str a d b t
  |_=>exact absurd (show p_=o_ from f) fV
 |_=>exact absurd (show p_=o_ from g) fV
def C8:Co X (.type "list") (λB H Q=>∃p f,B=[.ref p]/\(SqL X.K H p f\/SqT X.K H p f)/\∀l,H l=n_->Q (.ref l)^Ar H l^.lst f):=by
 intro D s Z H B F Q I r h;let#[p,f,rfl,j,q]:=h;let#[u,rfl,E]:=vals1 r;cases E
 have k:∀(c:q_ Ev),Vals f c->f.length<=sizeLine->∀(d:fO) (i:Nat),(∀b C,s.heap.get? b=P3 C->d.get? b=P3 C)->
   d.get? s.heap.objs.size=P3 _->EP X D Z Q (.ref s.heap.objs.size) {s with heap:=d}:=λc g m d i t e=>
  #[.ref s.heap.objs.size,_,I.laid (t':=s.toks) t (Rs _) (show ObjOk X.prog X.w _ d _^.lst f from#[m,c,i,g,e]),rfl,q _^I.hok.fresh^Rs _]
 rcases j with j|j
 .let#[c,g,x,m]:=I.list j
  have v:=g.length;let#[o,y,z,n,A]:=x.isList;exact call_list_seq p (.inl rfl) y z A (λd i t e=>k c g m d i t e)^by grind
 .let#[c,g,x,m]:=I.tuple j
  have v:=g.length;let#[o,y,z,n,A]:=x;exact call_list_seq p (.inr rfl) y z A (λd i t e=>k c g m d i t e)^by grind
def Jy:Co X (.type "tuple") (λj H Q=>∃p c,j=[.ref p]/\((SqL X.K H p c/\∀l,H l=n_->Q (.ref l)^Ar H l^.tup c)\/(SqT X.K H p c/\Q (.ref p) H))):=by
 intro w s Z H j x Q I r h;let#[p,c,rfl,h]:=h;let#[u,rfl,t]:=vals1 r;cases t
 rcases h with⟨d,q⟩|⟨d,q⟩
 .let#[f,g,i,k]:=I.list d
  have m:=g.length;refine call_tuple_list i.isList (λy v=>?_) (by grind);have n:=I.kept (t':=s.toks) v;exact#[.ref _,_,n.laid (t':=s.toks) (λb o e=>Go _ e) (Rs _) (show ObjOk _ _ _ _ _^.tup c from#[k,_,g,IsTupN.new _ _]),rfl,q _^n.hok.fresh^Rs _]
 .let#[f,g,i,k]:=I.tuple d
  exact call_tuple_same i #[.ref p,H,I,rfl,q]
def cL(K:Frag)(T:String)(x:V)(H:Hp):Prop:=match x with
 |.str _=>T="str"
 |.int _=>T="int"
 | .ref p=>(T="list"/\∃d,SqL K H p d)\/(T="tuple"/\∃o,K.lookup p=P3 o/\o.cls=.type "tuple"/\o.dict=n_) \/
   (T="dict"/\((∃c,H p=P3^.dK c)\/∃c,H p=P3^.dT c))\/(T="set"/\∃S n,H p=P3^.set S n)
 |_=>False
def Xe{l:q_ (Db×Obj)}{Z:St}{H:Hp}{s:No}{T:String}{x:V}{v:Ev}(I:Inv X l Z H s)(r:RelV x v)(ty:cL X.K T x H):
  s.TypeIs v T/\∀a,v=.ref a->∃j,s.heap.get? a=P3 j/\j.dict=n_:=by
 cases x with
 |str z=>
  let#[t,rfl]:=r;cases(show T="str" from ty);exact#[kI s z t,λ_ e=>nomatch e]
 |int i=>
  let#[t,rfl]:=r;cases(show T="int" from ty);exact#[typeIs_int s i t,λ_ e=>nomatch e]
 | ref p=>
  cases r
  rcases ty with⟨rfl,w,m⟩|⟨rfl,o,d,q,f⟩|⟨rfl,d⟩|⟨rfl,S,n,d⟩
  .let#[u,_,k,_]:=I.list m
   refine#[k.isList.typeIs,λa e=>?_];cases e;let#[o,n,e,c,f,_]:=k;exact#[o,e,f]
  .refine#[#[o,I.kIn p o d,q],λa e=>?_]
   cases e;exact#[o,I.kIn _ o d,f]
  .have z:∃o,s.heap.get? p=P3 o/\o.ExactDict:=by
    rcases d with⟨g,d⟩|⟨g,d⟩
    .let#[_,_,_,_,o,_,_,e,ex,_]:=I.hok p _ d
     exact#[o,e,ex]
    .let#[_,_,_,_,o,_,_,e,ex,_]:=I.hok p _ d
     exact#[o,e,ex]
   let#[o,e,ex]:=z;refine#[#[o,e,ex.1],λa h=>?_];cases h;exact#[o,e,ex.2.1]
  .let#[o,_,_,_,e,ex,_]:=I.hok p _ d
   refine#[#[o,e,ex.1],λa h=>?_];cases h;exact#[o,e,ex.2.1]
 |_=>exact gC ty
def eX(K:Frag)(T:String)(r:V->q_ V->Hp->VK->Prop)(d:TE)(t:TA):TE:=λZ H Q=>d Z H λx c=>cL K T x c/\t Z c λe H2=>r x e H2 Q
variable {o e:Expr}{es:q_ Expr}{to:TE}{t:TA}{name:Str}{apos cpos:Pos}{T id:String}{r:V->q_ V->Hp->VK->Prop}
def PF(n:PlainAttrs T)(f:Slot T name id)(j:typeOf^.builtin id=pure^.type "method_descriptor")(p:XH X id r)(q:PE X o to)(u:PA X (e::es) t)
  (c:attributeBase o name X.env^eval o X.env=eval o X.env:=by rfl)
  (g:((backTo cpos^starEach (e::es) X.env).all (λx=>!x.1)&&(backToKw cpos^keywordEach [] X.env).all (λx=>x.1.isSome)
   && decide ((e::es).length+([]:q_ iO).length+(if([]:q_ iO).isEmpty then 0 else 1)<30))=o_:=by rfl)
  (d:(apos.endLine==cpos.line)=o_:=by rfl) (w:starEach (e::es) X.env=(p_,eval e X.env)::starEach es X.env:=by rfl) (i:(backTo cpos^starEach es X.env).any (·.1)=p_:=by rfl):
  PE X (.Call (.Attribute o name apos) (e::es) [] cpos) (eX X.K T r to t):=by
 intro M s Z H Q I h;refine wpAny_Call_method_late c g d rfl (thn (q _ s Z H _ I h) λv y zz=>?_);let#[x,z,k,l,ty,A]:=zz;let#[B,C]:=Xe k l ty;exists T,id,n,f,j,B,C;have m:=u cpos _ y Z z _ k A;rw[w]at m ⊢;refine iu (by simp_all)^jq ?_;refine thn m λD E zz=>?_;let#[F,H2,G,J,L]:=zz;exact p _ E Z H2 x F v D Q G l J L
end
def dW(X:Cx)(d:String)(r:V->q_ V->Hp->VK->Prop):Prop:=
 ∀(a:q_ (Db×Obj)) (s:No) (Z:St) (H:Hp) (x:V) (b:q_ V) (v:Ev) (c:q_ Ev) (Q:VK),Inv X a Z H s->RelV x v->Vals b c->r x b H Q->
  wpAny (model X.prog X.w) X.A (call (.builtin d) (v::c)) (EP X a Z Q) X.xe s
theorem Vals.one:∀{x:V}{a:q_ Ev},Vals [x] a->∃u,a=[u]/\RelV x u
 |_,_,.cons r .nil=>#[_,rfl,r]
theorem Vals.eraseIdx:∀{a:q_ V}{b:q_ Ev} (i:Nat),Vals a b->Vals (a.eraseIdx i)^b.eraseIdx i
 |_,_,_,.nil=>.nil
 |_,_,0,.cons _ t=>t
 |_,_,i+1,.cons r t=>.cons r^Vals.eraseIdx i t
def Vals.reverse{a:q_ V}{b:q_ Ev}(h:Vals a b):Vals a.reverse b.reverse:=by
 induction h with
 |nil=>exact .nil
 |cons r t c=>rw[jh,jh];exact Vals.append c^.cons r .nil
theorem HA{a:Type}:∀(l:q_ a) (i:Nat),(l.eraseIdx i).length<=l.length
 |[],_=>Rs _
 |_::_,0=>fu _
 |_::r,i+1=>jK^HA r i
section
variable {X:Cx}{zH:q_ (Addr×Obj)}{Z:St}{H:Hp}{s:Shared}{l:Addr}{xs ys:q_ V}
def Inv.lset{a its':q_ Ev}{n:Nat}{f:Array Ev->Array Ev}{t':Nat}(I:Inv X zH Z H s)(b:H l=P3^.lst xs)
  (e:s.heap.get? l=P3 {cls:=.type "list",data:=.seq a.toArray n}) (c:f a.toArray=its'.toArray) (d:Vals ys its') (g:ys.length<=sizeLine):
  Inv X zH Z (Ar H l^.lst ys) {s with heap:=s.heap.update l^gH f,toks:=t'}:=by
 have q:=PySem.IsL.update e f;rw[c]at q;exact I.write (by rw[b];exact trivial) (.inl rfl) (λk u h i=>(fL _ _^gE h).trans i) #[_,q] #[g,_,_,d,q]
def Inv.lnew{a:q_ Ev}{b:Nat}(I:Inv X zH Z H s)(c:Vals ys a)(d:ys.length<=sizeLine):
  Inv X zH Z (Ar H s.heap.objs.size^.lst ys) {s with heap:=s.heap.push {cls:=.type "list",data:=.seq a.toArray},toks:=b}:=
 I.laid (λ_ _ q=>Go _ q) (Rs _) #[d,_,0,c,UF _ rfl]
def Inv.fresh(I:Inv X zH Z H s):H s.heap.objs.size=n_:=I.hok.fresh^Rs _
def Inv.lstM(I:Inv X zH Z H s)(b:H l=P3^.lst xs):xs.length<=sizeLine/\∃(a:q_ Ev) (n:Nat),Vals xs a/\xs.length=a.length/\s.heap.get? l=P3 {cls:=.type "list",data:=.seq a.toArray n}:=by
 let#[z,a,n,r,e]:=I.hok l _ b;exact#[z,_,n,r,r.length,e]
def Sl{n:Nat}(h:n<=sizeLine):jL n=p_:=by
 unfold jL
 grind
end
section
variable {X:Cx}
def O3:V->q_ V->Hp->VK->Prop:=λx b H Q=>∃l a y,x=.ref l/\b=[y]/\H l=P3^.lst a/\a.length<sizeLine/\Q .non^Ar H l^.lst (a++[y])
def A2:dW X "list.append" O3:=by
 intro g s Z H x i v j Q I b c h;let#[l,k,y,rfl,rfl,a,m,q]:=h;cases b;let#[u,rfl,d]:=c.one;let#[z,f,n,r,o,e]:=I.lstM a;refine call_meets F.slot_list_append #[_,e,rfl] F.entry_list_append (F.args_list_append_2 _ _) (PySem.list_append l _ n u^by grind) #[e,?_];refine#[.non,_,I.lset a e (by simp) (r.append^.cons d .nil) ?_,rfl,q]
 grind
def O2:V->q_ V->Hp->VK->Prop:=λx d H Q=>∃l b a c,x=.ref l/\d=[.ref b]/\H l=P3^.lst a/\H b=P3^.lst c/\a.length+c.length<=sizeLine/\Q .non^Ar H l^.lst (a++c)
def G7:dW X "list.extend" O2:=by
 intro y s Z H x A v B Q I i j h;let#[l,b,C,D,rfl,rfl,g,k,E,q]:=h;cases i;let#[u,rfl,m]:=j.one;cases m;let#[z,a,n,r,G,e]:=I.lstM g;let#[J,c,o,p,t,w]:=I.lstM k;have f:a.toArray.size+c.toArray.size<=sizeLine:=by grind
 have d:¬(!a.toArray.isEmpty&&jL (a.toArray.size+c.toArray.size))=o_:=by
  rw[Sl f]
  grind
 refine call_meets F.slot_list_extend #[_,e,rfl] F.entry_list_extend (F.args_list_extend_2 _ _)
  (AutoSeq1.list_extend_list_list_0 l a.toArray n b _ o d (by grind)^by lk) #[e,w,?_]
 refine#[.non,_,I.lset g e (by simp) (r.append p) ?_,rfl,q]
 grind
def Xw:V->q_ V->Hp->VK->Prop:=λx b H Q=>∃l a i k y,x=.ref l/\b=[.int i]/\H l=P3^.lst a/\-(2 ^ 63)<=i/\i<2 ^ 63/\seqIndex? i a.length=P3 k/\a[k]?=P3 y/\Q y^Ar H l^.lst^a.eraseIdx k
def Sr:dW X "list.pop" Xw:=by
 intro A s Z H x B v C Q I d f h;let#[l,g,i,k,y,rfl,rfl,c,j,m,D,o,q]:=h;cases d;let#[u,rfl,p]:=f.one;let#[t,rfl]:=p;let#[z,a,n,r,E,e]:=I.lstM c;let#[w,G,b]:=r.get o
 refine call_meets F.slot_list_pop #[_,e,rfl] F.entry_list_pop (F.args_list_pop_2 _ _)
  (MeetsSeq.list_pop_at l a.toArray n i t k w (fitsIndex_both j m) (by simp_all) (by simp_all)^by grind) #[e,?_]
 refine#[y,_,I.lset (its':=a.eraseIdx k) c e ?_ (r.eraseIdx k) ?_,b,q]
 .simp_all
 .have:=HA g k
  lk
end
end L2
namespace Att
open PySem.W PySem.Calls
def Hz{P:Params}{h:fO}:∀(c:q_ Int) (d:q_ Ev),WellAll P h d^c.map WData.int->IntsAre d c:=by
 intro c
 induction c with
 |nil=>
  intro d w;cases w;exact .nil
 | cons n c e=>
  intro d w;cases w with
  |cons a b=>
   cases a;exact .cons _ _^e _ b
def QF{l:OpenLaw}{n:Nat}(w:l.most=P3 n){P:Params}{h:fO}{args:q_ WData}{b:q_ Ev}
  (c:l.row.toRowW.claim.pre args=o_) (i:WellAll P h b args):
  ∃a k e,b=[fI a]/\args=[WData.list^e.map WData.int]/\h.get? a=P3 {cls:=.type "list",data:=.seq k.toArray}/\IntsAre k e/\e.length<=n:=by
 have j:WShape.hasAll [] args [.list .int]=o_:=(pre_splitW c).1;have m:l.pre.holds [] {args:=args}=o_:=(pre_splitW c).2;let#[d,r,rfl,p,q]:=hasAllW_cons j;obtain rfl:=hasAllW_nil q;let#[x,rfl,s]:=hasW_list p;let#[e,rfl]:=items_int s
 have f:e.length<=n:=by
  unfold OpenLaw.pre at m
  have o:(WTm.not^.lt (.lit^.int (n:Int))^.len^.arg 0).holds [] {args:=[.list^e.map .int]}=o_:=by
   have o:=(holds_andW m).1
   grind
  have y:=condW_of o^w_not^w_lt w_lit^w_len_list (w_arg rfl)
  grind
 cases i with
 |cons t u=>
  cases u;cases t with
  |list v g=>exact#[_,_,e,rfl,rfl,v,Hz e _ g,f]
def QI(l:OpenLaw)(a:q_ WData):l.row.toRowW.claim.post a (.bool o_) a=o_:=
 postW_of
  (show WShape.has [] _ _=o_ by first|rfl|decide|omega)
  (w_eq_bool (w_res rfl) w_lit) rfl
def attach_call{l:OpenLaw}{n:Nat}{q:fT}{c:q_ Str}{D:(Str->r_ Ev)->fO->Prop}{E:fY->fO->Prop}{d:DefRec}
  (K:l.most=P3 n) (x:d.params.defaults=[])
  (call:∀(w:fY) (e b:No) (s y:Str->r_ Ev) (j:Db) (o:Obj) (z t g:Ev) (a:Db) (i:q_ Ev) (u:q_ Int),
   Ground q c [] D w e s y b.heap->E w b.heap->
   b.heap.get? j=P3 o->o.data=.func^docDef d.name d.params d.body d.scope z t g->b.heap.CodeRec t d.name->s d.name=P3^.ref j->
   b.heap.get? a=P3 {cls:=.type "list",data:=.seq i.toArray}->IntsAre i u->u.length<=n->b.gens=#[]->
   codeAny (model l.prog w) callerA (.call (.ref j) #[[.ref a],[]]) (λr v=>r=.ok^.ret^.bool o_/\OldK b.heap v.heap/\v.os=b.os/\jk v.gens) b):
  WalkO q c D E l.row.toRowW d [] (λf i=>PySem.call f i):=by
 intro w e b s y G Y j o z t g L M N O A F B P H I X k J Q C R;obtain rfl:L=.none:=Dflts.none F x;obtain rfl:M=.none:=Dflts.noKw F;let#[a,i,u,rfl,rfl,m,h,p]:=QF K k C;refine enter_call^jJ (call w e b s y j o z t g a i u G Y N (fd_plain O) A B m h p P) λr v S=>?_;let#[rfl,T,U,V]:=S;exact#[.inl #[.bool o_,.bool o_,[],rfl,λ_=>rfl,.bool o_,QI l _,λ_=>#[mj,λ_ W=>(nomatch W)]],T,U,V]
end Att
namespace L2
theorem J_:∀{a:q_ Ev}{b:q_ Int},IntsAre a b->Vals (b.map V.int) a
 |_,_,.nil=>.nil
 |_,_,.cons n t h=>.cons #[t,rfl]^J_ h
def Y_(H:Hp):Prop:=∀b,H b=n_\/∃o a,H b=P3^.frz o^.lst a
def S1{P:fT}{w:fY}{K:Frag}{A R:Str->r_ Ev}{CX:RK}{k:Nat}{S a:Db}{fd:f_}{x:Str}{sp:Sp}{c:No}{t:q_ Ev}{B:q_ Int}
  (KX:K.In c.heap) (C:c.heap.Ns mainGlobals A) (g:c.heap.Ns builtinsNs R) (T:∀x:Str,x ≠ "__name__"->R x=bootBuiltins x) (D:c.heap.NoLimit) (hg:c.gens=#[])
  (Q:c.heap.get? a=P3 {cls:=.type "list",data:=.seq t.toArray}) (hi:IntsAre t B) (hl:B.length<=sizeLine) (hr:Room k callerA)
  (F:∀i:fO,K.In i->i.Ns mainGlobals A->B8 P w K A i CX k S fd [x] sp) (y:∀(s:No) (u:Ev),lG s fd #[[u],[]] [(x,u)])
  (U:∀H:Hp,Y_ H->SqL K H a^B.map V.int->sp [.ref a] H (λv _=>v=.bl o_) λ_ _ _=>False)
  (W:∀H e j,CX [] H c (λ_ _ _=>False) e j->False):
  codeAny (model P w) callerA (.call (.ref S) #[[.ref a],[]]) (λr j=>r=.ok^.ret^.bool o_/\OldK c.heap j.heap/\j.os=c.os/\jk j.gens) c:=by
 have rv:=J_ hi;have E:=hi.length
 have p:∀H:Hp,Y_ H->SqL K H a^B.map V.int->HOk P w H c.heap->(∀b,H b≠n_->b=a)->(H a≠n_->K.lookup a=n_)->
   codeAny (model P w) callerA (.call (.ref S) #[[.ref a],[]]) (λr j=>r=.ok^.ret^.bool o_/\OldK c.heap j.heap/\j.os=c.os/\jk j.gens) c:=by
  intro H hO hS G hA hK;have f:∀{b:Db}{o:Obj},c.heap.get? b=P3 o->H b=n_->(Lk c.heap H).get? b=P3 o:=λe n=>TL e n
  have X:∀{b:Db}{o:Obj}{I:Array DictEntry}{J:Nat},c.heap.get? b=P3 o->o.data=.dict I J->H b=n_:=λ{b o I J} e d=>by
   cases q:H b with
   |none=>rfl
   |some u=>
    have Y:b=a:=hA b (by rw[q];simp);subst Y;rw[Q]at e;cases e
    have d':Data.seq t.toArray _=Data.dict I J:=d;cases d'
  have l:∀{b:Db}{m:Str->r_ Ev},c.heap.Ns b m->(Lk c.heap H).Ns b m:=λ{b m} #[o,I,J,e,d,r]=>#[o,I,J,f e^X e d,d,r]
  have L:K.In^Lk c.heap H:=λb o e=>f (KX b o e) (by
   cases q:H b with
   |none=>rfl
   |some u=>
    have Y:b=a:=hA b (by rw[q];simp);subst Y;rw[hK^by rw[q];simp]at e;cases e)
  have hM:Mod K A^Lk c.heap H:=#[L,l C,#[R,l g,T],let #[mc,h1,h2]:=D;#[mc,l h1,h2]];have e0:Env0 P w K A (Lk c.heap H) callerA [] c H:=#[rfl,hM,λb o e=>VN e,lw^Qr _ _,trivial,λb g=>absurd (show b∈([]:q_ Db)from g)^by simp,G,.of_eq hg];refine jJ ((F _ L^l C).run callerA [] c H #[[.ref a],[]] [.ref a] [.ref a] _ _ hr e0 (y c^.ref a) (.cons rfl .nil)^U H hO hS) λr j h=>?_;cases r with
  |error e=>exact(W H e j h).elim
  | ok fl=>
   cases fl with
   |next=>exact gC h
   |brk=>exact gC h
   |cont=>exact gC h
   | ret u=>
    let#[v,H',os,M,un,N,r',q]:=h;have q':v=.bl o_:=q;subst q';obtain rfl:u=lg o_:=r';refine#[rfl,OldK.of_keep λb o e=>?_,os,M];cases q:H b with
    |none=>exact un.keep b o e q (by intro z;exact absurd (show b∈([]:q_ Db)from z)^by simp)^by simp
    | some u=>
     rcases hO b with z|⟨ob,xs,z⟩
     .rw[q]at z;cases z
     .have z2:=un.frzs b ob _ z
      let#[e1,_]:=G b _ z;let#[e2,_]:=N b _ z2;rw[e]at e1;cases e1
      exact e2
 cases Z:K.lookup a with
 |some o=>
  have e:=KX a o Z;rw[Q]at e;cases e;refine p (λ_=>n_) (λ_=>.inl rfl) (.inr #[_,t.toArray,_,Z,rfl,rfl,rfl,by rw[fM,E];exact hl,by simpa using rv]) (λb u z=>by have O:(n_:r_ HO)=P3 u:=z;cases O) (λb z=>absurd rfl z) λz=>absurd rfl z
 | none=>
  refine p (λb=>if b=a then P3^.frz {cls:=.type "list",data:=.seq t.toArray}^.lst^B.map V.int else n_) (λb=>?_) (.inl^.inr #[{cls:=.type "list",data:=.seq t.toArray},if_pos rfl]) (λb u z=>?_) (λb z=>?_) λ_=>Z
  .by_cases g:b=a
   .exact .inr #[_,_,if_pos g]
   .exact .inl^if_neg g
  .by_cases g:b=a
   .have O:=(if_pos g).symm.trans z
    cases O;subst g;exact#[Q,by rw[FM];exact hl,t,_,rv,Q]
   .have O:=(if_neg g).symm.trans z
    cases O
  .by_cases g:b=a
   .exact g
   .exact absurd (if_neg g) z
def Og{l:PySem.W.OpenLaw}{n k:Nat}{q:fT}{j:q_ Str}{O:(Str->r_ Ev)->fO->Prop}{I:fY->fO->Prop}{d:DefRec}{K:Params->Frag}{CX:fY->RK}{sp:fY->Sp}{x:Str}
  (P:l.most=P3 n) (z:n<=sizeLine) (A:d.params.defaults=[]) (Q:Room k callerA)
  (R:∀(w:fY) (h:fO),I w h->(K w.params).In h)
  (F:∀(w:fY) (p:Str->r_ Ev) (t:Db) (h:fO),(K w.params).In h->h.Ns mainGlobals p->p d.name=P3^.ref t->
   ∃fd:f_,(∀(s:No) (u:Ev),lG s fd #[[u],[]] [(x,u)]) /\
    ∀c:fO,(K w.params).In c->c.Ns mainGlobals p->B8 l.prog w (K w.params) p c (CX w) k t fd [x]^sp w)
  (B:∀(w:fY) (H:Hp) (a:Db) (y:q_ Int),y.length<=n->Y_ H->SqL (K w.params) H a^y.map V.int->sp w [.ref a] H (λv _=>v=.bl o_) λ_ _ _=>False)
  (C:∀(w:fY) (H:Hp) (s:No) (e:Ev) (D:No),CX w [] H s (λ_ _ _=>False) e D->False):
  PySem.W.WalkO q j O I l.row.toRowW d [] (λf J=>PySem.call f J):=by
 refine Att.attach_call P A λw L M p mb t o pm cd S a J y G Y ho hd U E r m i X=>?_;have N:=R w _ Y;let#[fd,Z,hF]:=F w p t _ N G.T.g E;exact S1 N G.T.g G.T.b G.T.builtins G.T.nolimit X r m (fJ i z) Q hF Z (λH hO hS=>B w H a y i hO hS) λH e D=>C w H _ e D
end L2
/- THE LAST THEOREM (shape;LID,My.* are yours):
   My.Adr:a structure of the addresses that your layer names (classes,functions);My.Txt K t:a structure (Prop) of the equations over K;
   My.txt_mk:{K}{implicit addresses ..} (e1:nsIn K mainGlobals "law"=P3^P3^.ref f) (e2:K.lookup f=P3 #[oc,od,.func^fnOf "law" "law" params body scope dV kV doc pm an cdv ct,sl]) (e3:codeIn K cdv "law"=o_) ..:∃ t,My.Txt K t
set_option maxRecDepth 100000 in
set_option maxHeartbeats 0 in
def PySem.Challenge.cw_LID_holds:PySem.Challenge.rw_LID.Holds:=by
 w_on;o_law;k_head;(case hw=>w_witness2)
 k_fill
 refine L2.Og (l:=PySem.Challenge.rw_LID) (n:=63) (k:=40) (x:="script") (CX:=λw=>..) (sp:=λ_=>My.sp_law) rfl (by cbv) rfl #[rfl,by cbv,by cbv] (λw h Y=>PySem.W.kIn_of Y) ?F ?S ?C
 case F=>
  intro w mg fa h KX G hmg
  have T:∃t,My.Txt (L2.KOf KX) t:=by
   dsimp only[L2.KOf] -- K must stand as «<heap const> w.params» for k_is
   refine' My.txt_mk ?e1 ?e2 ?e3 ..
   (case e1=>PySem.W.k_is) -- in the order:a name->its address->its object->its parts
   (case e2=>PySem.W.k_is)
   ..
  let#[t,T]:=T;have e0:=hmg.symm.trans^mg_of KX G T.law;cases e0 -- fa is the law's own address;exact#[_,λs u=>.of_eq rfl,λbase kb nb=>My.law_fn T kb nb] -- if «.of_eq rfl» comes too early:refine' #[_,?b,λbase kb nb=>My.law_fn T kb nb];exact λs u=>.of_eq rfl
 case S=>exact λw H a ns hl hO hS=>..
 case C=>exact ..
(the tactic k_is has no namespace:write k_is) -/
namespace L2
def Bv(s:gJ):Arguments:=match s with
 |.FunctionDef _ a _ _ _ _ _ _ _ _=>a
 |_=>{posonlyargs:=[],args:=[],vararg:=n_,kwonlyargs:=[],kw_defaults:=[],kwarg:=n_,defaults:=[]}
def A7(s:gJ):q_ gJ:=match s with
 |.FunctionDef _ _ b _ _ _ _ _ _ _=>b
 |_=>[]
def AK(s:gJ):iU:=match s with
 |.FunctionDef _ _ _ _ _ _ a _ _ _=>a
 |_=>{kind:=.function,names:=[],isGenerator:=p_,isCoroutine:=p_}
abbrev EU:RK:=λ_ _ _ _ _ _=>False
abbrev E0:XK:=λ_ _ _=>False
def Wu{X:Cx}:HJ EU X E0:=λ_ _ _ _ _ _ _ h=>h.elim
structure Fun (K:Frag) (x qual:Str) (st:gJ) (f:Db) (fd:f_):Prop where
 ex:∃(oc:Ev) (od:Option Db) (kV doc pm:Ev) (an:Option Db) (cdv ct:Ev) (osl:Array^Option Ev),
  fd=fnOf x qual (Bv st) (A7 st) (AK st) .none kV doc pm an cdv ct/\K.lookup f=P3 #[oc,od,.func fd,osl]/\codeIn K cdv qual=o_
 kp:keepIn K^.ref f=o_
section
variable {P:Program}{w:World}{K:Frag}{mg:Str->r_ Value}{base:Heap}
def Fun.ok{x a:Str}{st:gJ}{f:Db}{fd:f_}{N g:q_ Str}{k:Nat}{i:Sp}(F:Fun K x a st f fd)(S:A5 N g^AK st)(len:∀c H Q E,i c H Q E->c.length=g.length)
  (d:∀(e:Ev) (A:fb) (b:q_ Env) (s:No) (H:Hp) (c:q_ V) (Q:VK) (E:XK),Room k^A.deeper^envOfC a (AK st) s.heap.objs.size f e->i c H Q E->
   ∃t,PSs (DX EU P w K mg base N a (AK st) f e A b s H E).nox (A7 st) t/\t {nx:=λ_ m=>Q .non m,rt:=Q} (start N c) H):B8 P w K mg base EU (k+1) f fd g i:=by
 let#[u,v,y,n,z,B,e,C,o,rfl,p,j]:=F.ex;refine W1 p j S len λA b s H c Q E r l=>?_;let#[t,h,q]:=d _ A _ s H c Q E r l;exact#[t,h.nox,q]
def Fun.binds{x a:Str}{st:gJ}{f:Db}{fd:f_}{ps:q_ Str}(F:Fun K x a st f fd)
  (h:∀(d b e:Ev) (g:r_ Db) (c i:Ev) (j:q_ Ev),j.length=ps.length->bindArgs (fnOf x a (Bv st) (A7 st) (AK st) .none d b e g c i) #[j,[]]=pure^ps.zip j):Binds K fd ps []:=by
 let#[m,n,d,b,e,g,c,i,k,rfl,o,l]:=F.ex;exact .all^h d _ e g _ i
def OL{x a:Str}{st:gJ}{f:Db}{j:Ev}{m e:r_ Db}{g:Array^r_ Ev}{kV d h b i:Ev}(l:K.lookup f=P3 #[j,m,.func^fnOf x a (Bv st) (A7 st) (AK st) .none kV d h e b i,g])
  (c:codeIn K b a=o_) (k:keepIn K^.ref f=o_):Fun K x a st f^fnOf x a (Bv st) (A7 st) (AK st) .none kV d h e b i:=#[#[j,m,kV,_,h,e,_,i,_,rfl,l,c],k]
end
def JH{A:fb}{k:Nat}(a:Room k A):A.units+1<cLine:=jU (Nat.add_le_add_left (by cbv) _) a.units
section
variable {X:Cx}
def pv(i:Nat){x:Str}{pos:Pos}(b:X.N[i]?=P3 x:=by rfl)(c:RB X.env.scope x:=by first|exact f9 rfl|exact g7 (f9 rfl)|exact g7 (g7 rfl))(hd:(x==("__debug__":Str))=p_:=by cbv)
  (a:(x==("__classdict__":Str))=p_:=by cbv):PE X (.Name x pos)^Bp i:=En b c hd a
end
def BJ{A B:Prop}(h:B):if p_=o_ then A else B:=by
 grind
def BS{A B:Prop}(h:A):if o_=o_ then A else B:=by
 grind
def Ba{c A B:Prop}[Decidable c](a:c->A)(b:¬c->B):if c then A else B:=by
 grind
section
variable {κ:Type}[DecidableEq κ]
def EV(a:q_ (κ×V))(k:κ):r_ V:=(a.find? λb=>decide (b.1=k)).map (·.2)
def putK(a:q_ (κ×V))(k:κ)(v:V):q_ (κ×V):=
 if(a.any λb=>decide (b.1=k))=o_ then a.map (λb=>if b.1=k then(b.1,v)else b)else a++[(k,v)]
def Ec{p:κ×V}{r:q_ (κ×V)}{k:κ}(e:p.1=k):EV (p::r) k=P3 p.2:=by simp[EV,e]
def Ee{p:κ×V}{r:q_ (κ×V)}{k:κ}(e:¬p.1=k):EV (p::r) k=EV r k:=by simp[EV,e]
theorem MG(k:κ):∀a:q_ (κ×V),(a.any λb=>decide (b.1=k))=(EV a k).isSome
 |[]=>rfl
 |p::r=>by
  rw[List.any_cons]
  by_cases e:p.1=k
  .simp[Ec e,decide_eq_true e,Bool.true_or]
  .rw[Ee e,decide_eq_false e];exact MG k r
def E4(a:q_ (κ×V))(k:κ)(v:V):(putK a k v).length<=a.length+1:=by
 unfold putK
 grind
def RelO.isSome_eq{o:r_ V}{u:r_ Ev}(r:RelO o u):o.isSome=u.isSome:=by
 cases o with
 |none=>cases u with
  |none=>rfl
  |some _=>exact(r).elim
 |some _=>cases u with
  |none=>exact(r).elim
  |some _=>rfl
def RelO.getD{o:r_ V}{u:r_ Ev}{d:V}{a:Ev}(r:RelO o u)(b:RelV d a):RelV (o.getD d)^u.getD a:=by
 cases o with
 |none=>cases u with
  |none=>exact b
  |some _=>exact(r).elim
 |some _=>cases u with
  |none=>exact(r).elim
  |some _=>exact r
def KV.val{a:q_ (κ×V)}{f:q_ (κ×Ev)}(r:KV a f)(k:κ):RelO (EV a k)^valueAt f k:=by
 induction r with
 |nil=>exact iW
 | @cons p q l c h t i=>
  let#[g,j]:=h
  by_cases e:p.1=k
  .have d:=g.symm.trans e
   have b:valueAt (q::c) k=P3 q.2:=by simp[valueAt,d]
   rw[Ec e,b];exact j
  .have d:¬q.1=k:=λz=>e^g.trans z
   have b:valueAt (q::c) k=valueAt c k:=by simp[valueAt,d]
   rw[Ee e,b];exact i
def KV.any{a:q_ (κ×V)}{c:q_ (κ×Ev)}(r:KV a c)(k:κ):(a.any λb=>decide (b.1=k))=c.any λb=>decide (b.1=k):=by
 induction r with
 |nil=>rfl
 |cons h t d=>simp_all
def KV.repl{b:q_ (κ×V)}{c:q_ (κ×Ev)}(r:KV b c)(k:κ){y:V}{u:Ev}(f:RelV y u):
  KV (b.map λa=>if a.1=k then(a.1,y)else a) (c.map λa=>if a.1=k then(a.1,u)else a):=by
 induction r with
 |nil=>exact .nil
 |@cons p q g i h t d=>
  refine .cons ?_ d
  by_cases e:p.1=k
  .simp_all
  simp_all
def KV.put{kvs:q_ (κ×V)}{a:q_ (κ×Ev)}(r:KV kvs a)(k:κ){y:V}{u:Ev}(b:RelV y u):KV (putK kvs k y)^stored a k u:=by
 unfold putK stored;rw[r.any k]
 by_cases e:(a.any λc=>decide (c.1=k))=o_
 .rw[if_pos e,if_pos e];exact r.repl k b
 .rw[if_neg e,if_neg e];exact Paired.snoc r #[rfl,b]
def KV.length{a:q_ (κ×V)}{b:q_ (κ×Ev)}(r:KV a b):a.length=b.length:=Paired.length r
end
def Hd{P:fT}{w:fY}{k:Key}{u:Ev}(r:RelV (kV k) u):(BC P w).is k u=o_:=by
 cases k with
 |inl i=>let#[t,e]:=(r);subst e;exact Mn P w i t
 |inr x=>let#[t,e]:=(r);subst e;exact Mm P w x t
theorem Kg{P:fT}{w:fY}:∀{a:q_ Key}{b:q_ Ev},Vals (a.map kV) b->ItemsAre (BC P w) a b
 |[],_,r=>by cases r;exact .nil
 |k::a,_,r=>by
  cases r with
  |cons h t=>exact .cons (Hd h)^Kg t
abbrev KT(H:Hp):q_ (q_ Key×V)->q_ (q_ Key×Db×Ev)->Prop:=Paired λp q=>p.1=q.1/\H q.2.1=P3^.tup^p.1.map kV/\RelV p.2 q.2.2
def KT.val{H:Hp}{a:q_ (q_ Key×V)}{f:q_ (q_ Key×Db×Ev)}(r:KT H a f)(k:q_ Key):RelO (EV a k) ((atKey f k).map (·.2)):=by
 induction r with
 |nil=>exact iW
 | @cons p q l c h t i=>
  let#[g,_,j]:=h
  by_cases e:p.1=k
  .have d:=g.symm.trans e
   have b:atKey (q::c) k=P3 q.2:=by simp[atKey,d]
   rw[Ec e,b];exact j
  .have d:¬q.1=k:=λz=>e^g.trans z
   have b:atKey (q::c) k=atKey c k:=by simp[atKey,d]
   rw[Ee e,b];exact i
def KT.repl{H:Hp}{a:q_ (q_ Key×V)}{c:q_ (q_ Key×Db×Ev)}(r:KT H a c)(k:q_ Key){y:V}{u:Ev}(f:RelV y u):
  KT H (a.map λb=>if b.1=k then(b.1,y)else b) (c.map^putAt k u):=by
 induction r with
 |nil=>exact .nil
 |@cons p q g i h t d=>
  refine .cons ?_ d;unfold putAt
  by_cases e:p.1=k
  .simp_all
  simp_all
def KT.put{H:Hp}{kvs:q_ (q_ Key×V)}{a:q_ (q_ Key×Db×Ev)}(r:KT H kvs a)(k:q_ Key){b:Db}{y:V}{u:Ev}(d:H b=P3^.tup^k.map kV)(c:RelV y u):
  KT H (putK kvs k y) (storedH a k b u):=by
 have e:(kvs.any λf=>decide (f.1=k))=(atKey a k).isSome:=by
  rw[MG,(r.val k).isSome_eq,lY]
 unfold putK storedH;rw[e]
 by_cases q:(atKey a k).isSome=o_
 .rw[if_pos q,if_pos q];exact r.repl k c
 .rw[if_neg q,if_neg q];exact Paired.snoc r #[rfl,d,c]
def KT.keeps{H c:Hp}{a:q_ (q_ Key×V)}{d:q_ (q_ Key×Db×Ev)}(r:KT H a d)(f:∀b e,H b=P3^.tup e->c b=P3^.tup e):KT c a d:=
 Paired.mapP r λ_ _ z=>#[z.1,f _ _ z.2.1,z.2.2]
section
variable {P:Program}{w:World}{H:Hp}{h:Heap}{a:Addr}
def We{u:HO}(ok:HOk P w H h)(e:Rd H a u):ObjOk P w H h a u:=e.ok ok
def Fi{b:q_ (Key×V)}(ok:HOk P w H h)(e:Rd H a^.dK b):b.length<=sizeLine/\(a==sysModules)=p_/\∃c,KV b c/\h.DictOf (BC P w) a c:=
 We ok e
def W7{b:q_ (Key×V)}(ok:HOk P w H h)(e:H a=P3^.dK b):b.length<=sizeLine/\(a==sysModules)=p_/\∃c,KV b c/\h.DictOf (BC P w) a c:=Fi ok^.inl e
def Fs{b:q_ Key}(ok:HOk P w H h)(e:H a=P3^.tup^b.map kV):(tupleKind^BC P w).is h b a:=by
 let#[_,c,r,o,d,f,n,g,_]:=(ok a _ e);exact#[o,_,n,d,f,g,by simpa using Kg r]
def Hi{b:q_ (q_ Key×V)}(ok:HOk P w H h)(e:Rd H a^.dT b):b.length<=sizeLine/\(a==sysModules)=p_ /\
  ∃d,KT H b d/\h.DictOfH (tupleKind^BC P w) a d:=by
 let#[z,y,d,r,o,f,g,i,j,k,n,s]:=(We ok e);refine#[z,y,d,r,o,f,g,i,j,k,n,λx c=>?_,s]
 have all:∀{l:q_ _}{m:q_ _},KT H l m->∀x∈m,(tupleKind^BC P w).is h x.1 x.2.1:=by
  intro l m q
  induction q with
  |nil=>grind
  |@cons p q v A B t u=>
   intro x c
   rcases Tk.mp c with e|c
   .exact Fs ok^by grind
   .exact u x c
 exact all r x c
def aw{b:q_ (q_ Key×V)}(ok:HOk P w H h)(e:H a=P3^.dT b):b.length<=sizeLine/\(a==sysModules)=p_ /\
  ∃c,KT H b c/\h.DictOfH (tupleKind^BC P w) a c:=Hi ok^.inl e
end
def DGet(H:Hp)(a:Db)(y:V)(r:r_ V):Prop:=
 (∃c k,Rd H a^.dK c/\y=kV k/\r=EV c k)\/∃c k b,Rd H a^.dT c/\y=.ref b/\H b=P3^.tup^k.map kV/\r=EV c k
def DPut(H:Hp)(a:Db)(y v:V)(d:Hp):Prop:=
 (∃c k,H a=P3^.dK c/\y=kV k/\c.length<sizeLine/\d=Ar H a^.dK^putK c k v) \/
 ∃c k b,H a=P3^.dT c/\y=.ref b/\H b=P3^.tup^k.map kV/\c.length<sizeLine/\d=Ar H a^.dT^putK c k v
theorem DGet.k{H:Hp}{a:Db}{b:q_ (Key×V)}{k:Key}(e:H a=P3^.dK b):DGet H a (kV k)^EV b k:=.inl #[_,k,.inl e,rfl,rfl]
theorem DPut.k{H:Hp}{a:Db}{b:q_ (Key×V)}{k:Key}{v:V}(e:H a=P3^.dK b)(c:b.length<sizeLine):DPut H a (kV k) v^Ar H a^.dK^putK b k v:=.inl #[_,k,e,rfl,c,rfl]
section
variable {X:Cx}{zH:q_ (Addr×Obj)}{Z:St}{H:Hp}{s:Shared}{a:Addr}{y v:V}{u r:Value}{o:r_ V}{A:Around}{E:Value->Shared->Prop}
def Inv.big(I:Inv X zH Z H s):sysModules<s.heap.objs.size:=l7 (by cbv) (I.mod.glob.keeps I.bk).lt
def Q1{Q:Ev->No->Prop}(B:A.units+1<cLine)(I:Inv X zH Z H s)(g:DGet H a y^P3 v)(t:RelV y u)(h:∀f x,Inv X zH Z H x->RelV v f->Q f x):
  wpAny (model X.prog X.w) A (getItem (.ref a) u) Q E s:=by
 rcases g with⟨i,k,e,j,l⟩|⟨i,k,b,e,j,C,l⟩
 .subst j
  let#[z,D,F,c,m]:=Fi I.hok e;let#[f,n,d]:=RelO.some_of (v:=v) (o:=valueAt F k) (by rw[l];exact c.val k);exact wpAny_getItem_of (Hd t) m.mapOf n^h f _ (I.tok _) d
 .subst j
  cases(show u=fI b from t);let#[z,D,G,c,m]:=Hi I.hok e;let#[f,n,d]:=RelO.some_of (v:=v) (o:=(atKey G k).map (·.2)) (by rw[l];exact c.val k);let#[p,J,q]:=fq.mp n;refine wpAny_getItem_heap (i6 B) (Fs I.hok C) m J ?_;rw[q];exact h f _ (I.tok _) d
def dG{Q:Ev->No->Prop}(p:A.units+1<cLine)(I:Inv X zH Z H s)(g:DGet H a y o)(m:RelV y u)(h:∀n,Inv X zH Z H n->Q (.bool o.isSome) n):
  wpAny (model X.prog X.w) A (compareOp .In u^.ref a) Q E s:=by
 rcases g with⟨d,k,e,f,l⟩|⟨d,k,b,e,f,t,l⟩
 .subst f
  let#[z,i,x,c,j]:=Fi I.hok e;refine wpAny_in_of (Hd m) i j.mapOf ?_;rw[←(c.val k).isSome_eq,←l];exact h _^I.tok _
 .subst f
  cases(show u=fI b from m);let#[z,i,B,c,j]:=Hi I.hok e;refine wpAny_in_heap (i6 p) (Fs I.hok t) i j ?_;have q:=(c.val k).isSome_eq;rw[lY]at q;rw[←q,←l];exact h _^I.tok _
def V9{Q:Ev->No->Prop}(p:A.units+1<cLine)(I:Inv X zH Z H s)(g:DGet H a y o)(m:RelV y u)(h:∀n,Inv X zH Z H n->Q (.bool (!o.isSome)) n):
  wpAny (model X.prog X.w) A (compareOp .NotIn u^.ref a) Q E s:=by
 rcases g with⟨d,k,e,f,l⟩|⟨d,k,b,e,f,t,l⟩
 .subst f
  let#[z,i,x,c,j]:=Fi I.hok e;refine wpAny_notIn_of (Hd m) i j.mapOf ?_;rw[←(c.val k).isSome_eq,←l];exact h _^I.tok _
 .subst f
  cases(show u=fI b from m);let#[z,i,B,c,j]:=Hi I.hok e;refine wpAny_notIn_heap (i6 p) (Fs I.hok t) i j ?_;have q:=(c.val k).isSome_eq;rw[lY]at q;rw[←q,←l];exact h _^I.tok _
def Ls{c:fO}{e:Nat}{d:HO}(I:Inv X zH Z H s)(f:bZ^H a)(g:iz a s.heap c)(h:∃q,c.get? a=P3 q)(new:ObjOk X.prog X.w (Ar H a d) c a d):
  Inv X zH Z (Ar H a d) {s with heap:=c,toks:=e}:=
 I.write f (.inl rfl) (λb q i z=>(g.2 b i).trans z) h new
def Tj{P:fT}{w:fY}{f:Hp}{e:fO}{b:q_ (Key×V)}{c:q_ (Key×Ev)}(z:b.length<=sizeLine)(hd:(a==sysModules)=p_)(d:KV b c)(g:e.DictOf (BC P w) a c):
  ObjOk P w f e a (.dK b):=#[z,hd,c,d,g]
def Q0{D:Hp}{Q:Unit->No->Prop}(M:A.units+1<cLine)(I:Inv X zH Z H s)(g:DPut H a y v D)(F:RelV y u)(rv:RelV v r)(h:∀G,Inv X zH Z D G->Q () G):
  wpAny (model X.prog X.w) A (setItem (.ref a) u r) Q E s:=by
 rcases g with⟨d,k,e,m,l,n⟩|⟨d,k,b,e,m,J,l,n⟩
 .subst m n
  let#[z,p,N,f,t]:=W7 I.hok e;have x:N.length<=sizeLine:=by rw[←f.length];exact z
  have B:(putK d k v).length<=sizeLine:=by have:=E4 d k v;lk
  refine wpAny_setItem_pairs (hsz:=x) (Hd F) t λK i C=>h _ ?_;have O:∃q,K.get? a=P3 q:=let #[q,_,_,j,_]:=i;#[q,j]
  exact Ls I (by rw[e];exact iW) C O^Tj B p (f.put k rv) i
 .subst m n
  cases(show u=fI b from F);let#[z,p,P,f,t]:=aw I.hok e;have x:P.length<=sizeLine:=by rw[←Paired.length f];exact z
  have B:(putK d k v).length<=sizeLine:=by have:=E4 d k v;lk
  refine wpAny_setItem_heap (hsz:=x) (i6 M) (Fs I.hok J) t λK i C=>h _ ?_;let#[q,R,S,j,T,U,V,_,W]:=i;refine Ls I (by rw[e];exact iW) C #[q,j] #[B,p,_,(f.put k J rv).keeps λc Y L=>?_,q,R,S,j,T,U,V,W];rw[AM^aF L e λz=>nomatch z];exact L
end
def ZA(i:fZ):Prop:=∀a b,subscripted i p_ a b=operate [a,b]^getItem a b
def Ux{b:fT}{w:fY}{A:fb}{E:Ev->No->Prop}{s:No}{f:Env}{value a:fZ}{pos:Pos}{T l:String}{Q:Ev->No->Prop}
  (m:typeLookup (.type T) "__getitem__"=pure^P3^.builtin l) (n:ZA a)
  (h:wpAny (model b w) A (eval value f) (λo e=>wpAny (model b w) A (eval a f) (λi c=>c.TypeIs o T/\wpAny (model b w) A (getItem o i) Q E c) E e) E s):
  wpAny (model b w) A (eval (.Subscript value a pos) f) Q E s:=by
 refine Subscript_^ft h (λo e g=>ft g (λi c d=>?_) λ_ _ x=>x) λ_ _ x=>x;let#[p,d]:=d;refine Ch ?_;refine Ch^iX p m ?_
 first
  |exact TW (Ch (by
  rw[n o i];exact wpAny_operating^ft d (λr k j=>Ch^wpAny_letTemporaryGo^TW j) λ_ _ x=>x))
  |grind
  |grind
def NG{X:Cx}{f:q_ (Db×Obj)}{Z:St}{H:Hp}{s:No}{a:Db}{y:V}{o:r_ V}(I:Inv X f Z H s)(g:DGet H a y o):s.TypeIs (.ref a) "dict":=by
 rcases g with⟨c,k,e,_,_⟩|⟨c,k,b,e,_,_,_⟩
 .let#[_,_,h,_,d]:=Fi I.hok e
  exact d.typeIs
 .let#[_,_,i,_,d]:=Hi I.hok e
  exact d.typeIs
def Zh(b ty:TE):TE:=λZ H Q=>b Z H λx c=>ty Z c λy H2=>∃a v,x=.ref a/\DGet H2 a y^P3 v/\Q v H2
def Zm(c ty d:TE):TS:=λD Z H=>d Z H λv e=>c Z e λx H2=>ty Z H2 λy f=>∃a b,x=.ref a/\DPut f a y v b/\D.nx Z b
section
variable {X:Cx}{o i value:Expr}{pos pos':Pos}{td ty tv:TE}
def LU(d:X.A.units+1<cLine)(e:PE X o td)(f:PE X i ty)(j:ZA i):PE X (.Subscript o i pos)^Zh td ty:=by
 intro w s Z H Q I h;refine Ux PySem.F.slot_dict_getitem.lookup j^thn (e _ s Z H _ I h) λu k zz=>?_;let#[x,l,m,n,p]:=zz;refine thn (f _ k Z l _ m p) λz B zz=>?_;let#[y,H2,c,q,a,v,ex,g,r]:=zz;subst ex;obtain rfl:u=fI a:=n;exact#[NG c g,Q1 d c g q λC D t b=>#[v,H2,t,b,r]]
def IG(b:X.A.units+1<cLine)(c:PE X o td)(d:PE X i ty)(e:PE X value tv)(f:swapsWith value (P3^.Subscript o i pos') pos.line X.env=pure p_):
  PS X (.Assign [.Subscript o i pos'] value pos) (Zm td ty tv):=by
 intro G s Z H D I h;refine wpAny_Assign_Subscript (thn (e _ s Z H _ I h) λr j zz=>?_) f;let#[v,k,l,m,n]:=zz;refine thn (c _ j Z k _ l n) λu p zz=>?_;let#[x,H2,q,t,w]:=zz;refine thn (d _ p Z H2 _ q w) λJ K zz=>?_;let#[y,L,z,B,a,C,ex,g,E]:=zz;subst ex;obtain rfl:u=fI a:=t;exact Q0 b z g B m λM F=>#[Z,C,F,E]
end
def NF{P:fT}{w:fY}{H:Hp}(h:fO)(a:sysModules<h.objs.size):ObjOk P w H (h.push {cls:=.type "dict",data:=.dict #[]}) h.objs.size^.dK []:=
 #[Uf _,beq_eq_false_iff_ne.mpr^gE^fQ a,[],.nil,Heap.DictOf.new h]
def Xm:TE:=λ_ H Q=>∀p,H p=n_->Q (.ref p)^Ar H p^.dK []
section
variable {X:Cx}{pos:Pos}
def Mb:PE X (.Dict [] [] pos) Xm:=λa s Z H Q I h=>
 wpAny_Dict_empty #[.ref _,_,I.laid (λ_ _ q=>Go _ q) (Rs _)^NF _ I.big,rfl,h _^I.hok.fresh^Rs _]
end
def Ng:q_ (TE×TE)->St->Hp->(q_ (V×V)->Hp->Prop)->Prop
 |[],_,H,Q=>Q [] H
 |(a,b)::r,Z,H,Q=>a Z H λx c=>b Z c λy H2=>Ng r Z H2 λd e=>Q ((x,y)::d) e
abbrev VV:q_ (V×V)->q_ (Ev×Ev)->Prop:=Paired λp q=>RelV p.1 q.1/\RelV p.2 q.2
def b8(X:Cx)(pos:Pos)(b:q_^r_ fZ)(a:q_ fZ)(c:q_ (TE×TE)):Prop:=
 ∀(d:q_ (Db×Obj)) (s:No) (Z:St) (H:Hp) (Q:q_ (V×V)->Hp->Prop),Inv X d Z H s->Ng c Z H Q->
  wpAny (model X.prog X.w) X.A (evalPairs^pairTrees b a X.env pos) (λg h=>∃e f,Inv X d Z f h/\VV e g/\Q e f) X.xe s
def U6{X:Cx}{pos:Pos}:b8 X pos [] [] []:=λa s Z H Q I h=>pairTrees_nil_walk #[[],H,I,.nil,h]
def SQ{X:Cx}{pos:Pos}{k v:fZ}{c:q_^r_ fZ}{d:q_ fZ}{e f:TE}{a:q_ (TE×TE)}(g:PE X k e)(i:PE X v f)(j:b8 X pos c d a):
  b8 X pos (P3 k::c) (v::d) ((e,f)::a):=λC s Z H Q I h=>
 pairTrees_cons_walk (thn (g _ s Z H _ I h) λu l #[x,m,n,o,p]=>thn (i _ l Z m _ n p) λD q #[y,H2,r,t,w]=>
  thn (j _ q Z H2 _ r w) λE F #[G,z,A,b,B]=>#[_,z,A,.cons #[o,t] b,B])
def JB(a more:q_ (Key×V)):q_ (Key×V):=more.foldl (λb c=>putK b c.1 c.2) a
def KV.merge:∀{a:q_ (Key×V)}{d:q_ (Key×Ev)}{b:q_ (Key×V)}{c:q_ (Key×Ev)},KV a d->KV b c->KV (JB b a)^merged c d:=by
 intro a d b c r
 induction r generalizing b c with
 |nil=>intro q;exact q
 | @cons p q g i h t e=>
  intro f
  exact e (by
   have:=f.put p.1 h.2
   simp_all)
theorem Fe:∀(more a:q_ (Key×V)),(JB a more).length<=a.length+more.length
 |[],a=>by show a.length<=a.length+0;lk
 |p::r,a=>by
  have b:=Fe r^putK a p.1 p.2;have c:=E4 a p.1 p.2;show(JB _ r).length<=_
  grind
theorem JW{P:fT}{w:fY}:∀{d:q_ (Key×V)}{f:q_ (Ev×Ev)},VV (d.map λg=>(kV g.1,g.2)) f->∃e,Carries (BC P w) f e/\KV d e
 |[],_,r=>by cases r;exact#[[],iW,.nil]
 | p::d,_,r=>by
  cases r with
  |@cons a b j k h t=>
   let#[e,c,q]:=JW t;let#[l,i]:=b;exact#[(p.1,i)::e,#[Hd h.1,rfl,c],.cons #[rfl,h.2] q]
def Zg(b:q_ (TE×TE)):TE:=λZ H Q=>∀p,H p=n_->Ng b Z (Ar H p^.dK []) λd H2=>H2 p=P3^.dK []/\∃a:q_ (Key×V),d=a.map (λc=>(kV c.1,c.2))/\a.length<=15/\Q (.ref p)^Ar H2 p^.dK^JB [] a
def VD{X:Cx}{pos:Pos}{b:q_^r_ fZ}{d:q_ fZ}{f:q_ (TE×TE)}(h:b8 X pos b d f)(g:b.all (·.isSome)=o_)(n:b.length=d.length)(p:b≠[])
  (k:b.length<=15):PE X (.Dict b d pos)^Zg f:=by
 intro r s Z H Q I q;have t:=I.hok.fresh^Rs s.heap.objs.size;have u:=I.laid (a:=s.heap.objs.size) (o:=.dK []) (h':=s.heap.push {cls:=.type "dict",data:=.dict #[]}) (t':=s.toks) (λ_ _ q=>Go _ q) (Rs _)^NF s.heap I.big;refine wpAny_Dict_walk (knd:=BC X.prog X.w) g n p k^thn (h r _ Z _ _ u^q _ t) λM N zz=>?_;let#[O,H2,m,l,e,i,v,R,x]:=zz;subst v;let#[y,c,A]:=JW (P:=X.prog) (w:=X.w) l;let#[z,B,C,D,E]:=W7 m.hok e;cases D;refine#[y,c,E,λh' j F=>#[.ref s.heap.objs.size,_,?_,rfl,x]]
 have G:(JB [] i).length<=sizeLine:=by
  have J:=Fe i [];rw[gn]at J;rw[fz];lk
 have K:∃q,h'.get? s.heap.objs.size=P3 q:=let #[q,_,_,L,_]:=j;#[q,L]
 exact Ls m (by rw[e];exact iW) F K^Tj G B (A.merge .nil) j
structure M1 (X:Cx) (o:fZ) (m:Str) (apos:Pos) (e:fZ) (cpos:Pos):Prop where
 base:attributeBase o m X.env^eval o X.env=eval o X.env
 few:((backTo cpos^starEach [e] X.env).all (λx=>!x.1)&&(backToKw cpos^keywordEach [] X.env).all (λx=>x.1.isSome)
  && decide (([e]:List fZ).length+([]:List iO).length+(if([]:List iO).isEmpty then 0 else 1)<30))=o_
 line:(apos.endLine==cpos.line)=o_
 trees:backTo cpos^starEach [e] X.env=[(p_,eval e X.env)]
structure M2 (X:Cx) (o:fZ) (m:Str) (apos:Pos) (e f:fZ) (cpos:Pos):Prop where
 base:attributeBase o m X.env^eval o X.env=eval o X.env
 few:((backTo cpos^starEach [e,f] X.env).all (λx=>!x.1)&&(backToKw cpos^keywordEach [] X.env).all (λx=>x.1.isSome)
  && decide (([e,f]:List fZ).length+([]:List iO).length+(if([]:List iO).isEmpty then 0 else 1)<30))=o_
 line:(apos.endLine==cpos.line)=o_
 trees:backTo cpos^starEach [e,f] X.env=[(p_,eval e X.env),(p_,eval f X.env)]
def b_(H:Hp)(a:Db):Prop:=(∃b,Rd H a^.dK b)\/∃b,Rd H a^.dT b
def OJ{X:Cx}{k:q_ (Db×Obj)}{Z:St}{H:Hp}{s:No}{a:Db}(I:Inv X k Z H s)(d:b_ H a):
  s.TypeIs (.ref a) "dict"/\(∀b,fI a=.ref b->∃c,s.heap.get? b=P3 c/\c.dict=n_)/\(a==sysModules)=p_:=by
 rcases d with⟨g,e⟩|⟨g,e⟩
 .let#[_,h,l,_,f]:=Fi I.hok e
  refine#[f.typeIs,λb q=>?_,h];cases q;let#[c,_,_,i,j,_]:=f;exact#[c,i,j.2.1]
 .let#[_,h,m,_,f]:=Hi I.hok e
  refine#[f.typeIs,λb q=>?_,h];cases q;let#[c,_,_,i,j,_]:=f;exact#[c,i,j.2.1]
section
variable {X:Cx}{zH:q_ (Addr×Obj)}{Z:St}{H:Hp}{s:Shared}{a:Addr}{y d:V}{u r:Value}{o:r_ V}{A:Around}{E:Value->Shared->Prop}
def Yo{Q:Ev->No->Prop}(t:A.units+1<cLine)(I:Inv X zH Z H s)(g:DGet H a y o)(n:RelV y u)(h:∀p q,Inv X zH Z H q->RelV (o.getD .non) p->Q p q):
  wpAny (model X.prog X.w) A (call (.builtin "dict.get") [.ref a,u]) Q E s:=by
 rcases g with⟨i,k,e,j,l⟩|⟨i,k,b,e,j,v,l⟩
 .subst j
  let#[z,m,B,c,f]:=Fi I.hok e;refine kg PySem.F.slot_dict_get f.typeIs PySem.F.entry_dict_get (PySem.F.args_dict_get_2 _ _) (meets_dict_get (BC X.prog X.w) a (Hd n) m) #[_,f.mapOf,h _ _ (I.tok _) ?_];rw[l];exact(c.val k).getD rfl
 .subst j
  cases(n);let#[z,m,x,c,f]:=Hi I.hok e;refine kg PySem.F.slot_dict_get f.typeIs PySem.F.entry_dict_get (PySem.F.args_dict_get_2 _ _) (meetsH_dict_get _ a b m) #[i6 t,k,x,Fs I.hok v,f,h _ _ (I.tok _) ?_];rw[l];exact(c.val k).getD rfl
def Yn{Q:Ev->No->Prop}(v:A.units+1<cLine)(I:Inv X zH Z H s)(g:DGet H a y o)(n:RelV y u)(p:RelV d r)(h:∀q t,Inv X zH Z H t->RelV (o.getD d) q->Q q t):
  wpAny (model X.prog X.w) A (call (.builtin "dict.get") [.ref a,u,r]) Q E s:=by
 rcases g with⟨i,k,e,j,l⟩|⟨i,k,b,e,j,x,l⟩
 .subst j
  let#[z,m,C,c,f]:=Fi I.hok e;refine kg PySem.F.slot_dict_get f.typeIs PySem.F.entry_dict_get (PySem.F.args_dict_get_3 _ _ _) (meets_dict_get_default (BC X.prog X.w) a (Hd n) m r) #[_,f.mapOf,h _ _ (I.tok _) ?_];rw[l];exact(c.val k).getD p
 .subst j
  cases(n);let#[z,m,B,c,f]:=Hi I.hok e;refine kg PySem.F.slot_dict_get f.typeIs PySem.F.entry_dict_get (PySem.F.args_dict_get_3 _ _ _) (meetsH_dict_get_default _ a b m r) #[i6 v,k,B,Fs I.hok x,f,h _ _ (I.tok _) ?_];rw[l];exact(c.val k).getD p
end
def Xo(c ty:TE):TE:=λZ H Q=>c Z H λx b=>∃a,x=.ref a/\b_ b a/\ty Z b λy H2=>∃o,DGet H2 a y o/\Q (o.getD .non) H2
def Xn(d ty e:TE):TE:=λZ H Q=>d Z H λx b=>∃a,x=.ref a/\b_ b a/\ty Z b λy H2=>e Z H2 λz c=>∃o,DGet c a y o/\Q (o.getD z) c
section
variable {X:Cx}{o e f:Expr}{apos cpos:Pos}{td ty tx:TE}
def Sd(i:X.A.units+1<cLine)(j:PE X o td)(k:PE X e ty)(m:M1 X o "get" apos e cpos):PE X (.Call (.Attribute o "get" apos) [e] [] cpos)^Xo td ty:=by
 intro C s Z H Q I h;refine wpAny_Call_method m.base m.few m.line PySem.F.plainAttrs_dict PySem.F.slot_dict_get PySem.F.type_dict_get^thn (j _ s Z H _ I h) λu l zz=>?_;let#[x,n,c,p,a,ex,d,q]:=zz;subst ex;obtain rfl:u=fI a:=p;let#[r,t,_]:=OJ c d;exists r,t;rw[m.trees];refine iu rfl (jq^iN^thn (k _ l Z n _ c q) λD E zz=>?_);let#[y,H2,v,w,G,g,z]:=zz;exact jE^Yo i v g w λJ K B b=>#[_,H2,B,b,z]
def Sb(i:X.A.units+1<cLine)(j:PE X o td)(k:PE X e ty)(l:PE X f tx)(m:M2 X o "get" apos e f cpos):PE X (.Call (.Attribute o "get" apos) [e,f] [] cpos)^Xn td ty tx:=by
 intro M s Z H Q I h;refine wpAny_Call_method m.base m.few m.line PySem.F.plainAttrs_dict PySem.F.slot_dict_get PySem.F.type_dict_get^thn (j _ s Z H _ I h) λu n zz=>?_;let#[x,p,c,q,a,ex,d,r]:=zz;subst ex;obtain rfl:u=fI a:=q;let#[t,v,_]:=OJ c d;exists t,v;rw[m.trees]
 exact iu rfl (jq (iN (thn (k _ n Z p _ c r) λN w #[y,H2,B,C,D]=>
  iN (thn (l _ w Z H2 _ B D) λO P #[z,E,G,J,R,g,K]=>jE^Yn i G g C J λS T L b=>#[_,E,L,b,K]))))
end
end L2
set_option maxHeartbeats 4000000
namespace L2
section
def OS{g:Env}:∀(f:q_ (Str×ij)) (h:q_ (Str×Db)),(∀x,(x,gN)∈f->∃c,g.cells.lookup x=P3 c)->(∀x c,h.lookup x=P3 c->g.cells.lookup x=P3 c)->
  ∃i,(forIn f h fun(x:Str×ij) (r:q_ (Str×Db))=>(if(x.2==gN)=o_ then do let a ←cellOf g x.1;pure^iY ((x.1,a)::r) else pure^iY r:Sem^ForInStep^q_ (Str×Db)))=(pure i:Sem _) /\
   (∀x c,i.lookup x=P3 c->g.cells.lookup x=P3 c)/\(∀x,((x,gN)∈f\/∃c,h.lookup x=P3 c)->∃c,i.lookup x=P3 c):=by
 intro f
 induction f with
 |nil=>
  intro h _ m;exact#[h,rfl,m,λx d=>d.elim (λz=>absurd z^by simp) λz=>z]
 | cons p r w=>
  intro h q m;let#[n,k]:=p
  by_cases s:k=gN
  .subst s
   let#[c,y]:=q n Re;have j:cellOf g n=pure c:=by simp only[cellOf,y]
   let#[i,e,a,b]:=w ((n,c)::h) (λx d=>q x^Sc _ d) (λx o d=>by
    rw[io]at d;cases t:x==n with
    |true=>
     rw[t]at d;have u:P3 c=P3 o:=d;cases u
     have:x=n:=by simpa using t
     rw[this];exact y
    |false=>rw[t]at d;exact m x o d)
   refine#[i,?_,a,λx d=>b x ?_]
   .rw[j1]
    simp only[beq_self_eq_true,if_true,j,pure_bind];exact e
   .by_cases l:x=n
    .subst l
     exact .inr #[c,by simp[io]]
    .rcases d with d|⟨o,d⟩
     .rcases Tk.mp d with d|d
      .cases d;exact absurd rfl l
      .exact .inl d
     .refine .inr #[o,?_]
      have:(x==n)=p_:=by simpa using l
      rw[io,this];exact d
  .have v:(k==gN)=p_:=by simpa using s
   let#[i,e,a,b]:=w h (λx d=>q x^Sc _ d) m;refine#[i,?_,a,λx d=>b x ?_]
   .rw[j1]
    simp only[v,gQ,if_false,pure_bind];exact e
   .rcases d with d|d
    .rcases Tk.mp d with d|d
     .cases d;exact absurd rfl s
     .exact .inl d
    .exact .inr d
def JV{scope:iU}{env:Env}(h:∀x,(x,gN)∈scope.names->∃c,env.cells.lookup x=P3 c):
  ∃d,closureFor scope env=pure d/\(∀x c,d.lookup x=P3 c->env.cells.lookup x=P3 c)/\(∀x,(x,gN)∈scope.names->∃c,d.lookup x=P3 c):=by
 let#[d,e,a,b]:=OS _ [] h (λx c f=>by simp at f);refine#[d,?_,a,λx f=>b x^.inl f];simp[closureFor]
 simp_all
variable {prog:Program}{w:World}{A:Around}{R:Result->Shared->Prop}{s:Shared}
def Lv{t a u:fZ}{y:q_ fZ}{p:iU}{pos:Pos}{it z:Ev}{b:Env}(I:Nat->No->Prop)
  (B:∀n s,I n s->wpAny (model prog w) A (pyNext it) (λr d=>match r with
   |none=>R (.ok .next) d
   | some v=>wpAny (model prog w) A (letOwnedTupleGo a it v) (λ_ e=>wpAny (model prog w) A (assign a b v) (λ_ i=>
     wpAny (model prog w) A (forIn y o_ λc r=>if r=o_ then do let ok ←isTrue c b^eval c b;pure^iY ok else pure^iY r) (λok f=>
      if ok=o_ then wpAny (model prog w) A (eval t b) (λx j=>
       wpAny (model prog w) A (call (.builtin "list.append") [z,x]) (λ_ k=>∃m,m<n/\I m k) (λ_ _=>False) j) (λ_ _=>False) f
      else ∃m,m<n/\I m f) (λ_ _=>False) i) (λ_ _=>False) e) (λ_ _=>False) d) (λ_ _=>False) s)
  (n:Nat) (h:I n s):
  codeAny (model prog w) A (.compLoop (.ListComp t [#[a,u,y,0]] p pos) 0 it z b) R s:=by
 refine codeAny_loop rfl I (λn s F=>?_) n h;refine wpAny_noted ?_;refine Ch^kP^Ch^ft (B n s F) (λr d l=>?_) λ_ _ g=>g.elim;cases r with
 |none=>exact TW l
 | some v=>
  refine Ch^ft l (λ_ e q=>?_) λ_ _ g=>g.elim;refine Ch^ft q (λ_ i C=>Ch^ft C (λok f o=>?_) λ_ _ g=>g.elim) λ_ _ g=>g.elim;cases ok with
  |false=>exact TW #[rfl,o]
  |true=>
   exact Ch^Ch^ft o (λx j D=>Ch^ft D (λ_ k E=>TW^TW #[rfl,E]) λ_ _ g=>g.elim) λ_ _ g=>g.elim
end
def Aw(X:Cx)(a:iU)(b:q_ Str)(c:q_ (Str×Db))(C:Db)(s:No)(H:Hp)(ex:q_ Db):Cx where
 prog:=X.prog
 w:=X.w
 K:=X.K
 mg:=X.mg
 base:=X.base
 A:=X.A
 N:=b
 s₀:=s
 H₀:=H
 env:=compEnvC a c C X.env
 outer:=X.stack
 stack:=X.stack
 ex:=ex
 fn:=λ_=>p_
 calm:=o_
 pn:=[]
 xe:=λ_ _=>False
def CW(a:q_^r_ Nat)(Z:St):St:=a.map λo=>match o with
 |some i=>(Z[i]?).getD n_
 |none=>n_
def Vc(o:r_ ij):Bool:=match o with
 |some .cell=>o_
 |some .free=>o_
 |_=>p_
def Pa{o:r_ ij}(h:Vc o=o_):o=P3 .cell\/o=P3 .free:=by
 unfold Vc at h
 split at h
 .grind
 .grind
 .cases h
def isFree(o:r_ ij):Bool:=match o with
 |some .free=>o_
 |_=>p_
def Qq{o:r_ ij}(h:isFree o=o_):o=P3 .free:=by
 unfold isFree at h
 split at h
 .rfl
 .cases h
def TB(o:r_ ij):Bool:=match o with
 |some .local=>o_
 |_=>p_
def S_{o:r_ ij}(h:TB o=o_):o=P3 .local:=by
 unfold TB at h
 split at h
 .rfl
 .cases h
def TD(k:ScopeKind):Bool:=match k with
 |.function=>o_
 |_=>p_
def TC{k:ScopeKind}(h:TD k=o_):k=.function:=by
 unfold TD at h
 split at h
 .rfl
 .cases h
def ci(b a:iU)(p:Str×ij):Bool:=match p.2 with
 |.cell=>p_
 |.free=>Vc^a.names.lookup p.1
 |.local=>TB^b.names.lookup p.1
 |_=>o_
def dE(x:r_ Str)(y:Str):Bool:=match x with
 |some z=>z==y
 |none=>p_
def Yf{x:r_ Str}{y:Str}(h:dE x y=o_):x=P3 y:=by
 unfold dE at h
 split at h
 .grind
 .cases h
def JX(b a:iU)(N:q_ Str):q_ Str->q_^r_ Nat->Bool
 |[],[]=>o_
 |x::c,P3 j::d=>isFree^b.names.lookup x&&dE (N[j]?) x&&Vc^a.names.lookup x&&JX b a N c d
 |_::c,n_::d=>JX b a N c d
 |_,_=>p_
def Gi(b a:iU)(N c:q_ Str)(d:q_^r_ Nat):Bool:=TD b.kind&&b.names.all^ci b a&&JX b a N c d
theorem E8{d b:iU}{N:q_ Str}:∀{c:q_ Str}{a:q_^r_ Nat},JX d b N c a=o_->a.length=c.length
 |[],[],_=>rfl
 |x::e,P3 j::a,h=>by
  unfold JX at h;rw[fN]at h;rw[fF,fF,E8 h.2]
 |x::e,n_::a,h=>by
  unfold JX at h;rw[fF,fF,E8 h]
 |[],P3 _::_,h=>by cases h
 |[],n_::_,h=>by cases h
 |_::_,[],h=>by cases h
theorem Lx{e a:iU}{N:q_ Str}:∀{f:q_ Str}{d:q_^r_ Nat},JX e a N f d=o_->∀{k:Nat}{x:Str}{j:Nat},f[k]?=P3 x->d[k]?=P3^P3 j->
  e.names.lookup x=P3 .free/\N[j]?=P3 x/\(a.names.lookup x=P3 .cell\/a.names.lookup x=P3 .free)
 |[],_,_,k,x,j,b,_=>by simp at b
 |_::_,[],h,_,_,_,_,_=>by unfold JX at h;cases h
 | y::g,P3 i::d,h,k,x,j,b,c=>by
  unfold JX at h;rw[fN,fN,fN]at h;cases k with
  |zero=>
   simp at b c;subst b c;exact#[Qq h.1.1.1,Yf h.1.1.2,Pa h.1.2]
  |succ k=>exact Lx h.2 (k:=k) (by simpa using b)^by simpa using c
 |y::g,n_::d,h,k,x,j,b,c=>by
  unfold JX at h;cases k with
  |zero=>simp at c
  |succ k=>exact Lx h (k:=k) (by simpa using b)^by simpa using c
def Qj{a:q_^r_ Nat}{Z:St}{k:Nat}{v:V}(h:(CW a Z)[k]?=P3^P3 v):∃j,a[k]?=P3^P3 j/\Z[j]?=P3^P3 v:=by
 unfold CW at h;rw[fK]at h;cases e:a[k]? with
 |none=>simp_all
 | some o=>
  rw[e]at h;cases o with
  |none=>cases h
  |some j=>
   cases q:Z[j]? with
   |none=>simp_all
   |some w=>simp_all
theorem Cw{a:Env}:∀{b:q_ (Str×ij)}{x:Str},b.lookup x=P3 .free->
  (b.map fun(n,k)=>if(k==gN&&a.scope.kind==.function&&a.kindOf n==P3 .cell)then(n,kQ)else(n,k)).lookup x=P3 .cell \/
  (b.map fun(n,k)=>if(k==gN&&a.scope.kind==.function&&a.kindOf n==P3 .cell)then(n,kQ)else(n,k)).lookup x=P3 .free
 |[],_,h=>by simp at h
 | (n,k)::r,x,h=>by
  have d:=@Cw a r x;show ir x ((if(k==gN&&a.scope.kind==.function&&a.kindOf n==P3 .cell)=o_ then(n,kQ)else(n,k))::_)=_\/ir x ((if(k==gN&&a.scope.kind==.function&&a.kindOf n==P3 .cell)=o_ then(n,kQ)else(n,k))::_)=_
  by_cases e:(k==gN&&a.scope.kind==.function&&a.kindOf n==P3 .cell)=o_
  .rw[if_pos e]
   cases c:x==n with
   |true=>exact .inl^by simp only[io,c]
   |false=>
    simp only[io,c]at h ⊢;exact d h
  .rw[if_neg e]
   cases c:x==n with
   |true=>
    simp_all
   |false=>
    simp only[io,c]at h ⊢;exact d h
def Nn{env:Env}{a:iU}(c:∀y∈a.names,y.2≠.cell){x:Str}(h:(relabel a env).names.lookup x=P3 .cell\/(relabel a env).names.lookup x=P3 .free):(x,gN)∈a.names:=by
 have e:(x,kQ)∈(relabel a _).names\/(x,gN)∈(relabel a _).names:=h.elim (λz=>.inl^PySem.mem_of_lookup z) λz=>.inr^PySem.mem_of_lookup z
 have d:∀k,(k=.cell\/k=.free)->(x,k)∈(relabel a env).names->(x,gN)∈a.names:=by
  intro k f b;unfold relabel at b
  grind
 exact e.elim (d _ (.inl rfl))^d _ (.inr rfl)
section
variable {X:Cx}{zH:q_ (Addr×Obj)}{Z:St}{H:Hp}{s:Shared}
structure CompOk (X:Cx) (sc:iU) (N':List Str) (js:List^Option Nat):Prop where
 kind:sc.kind=.function
 cell:∀y∈sc.names,y.2≠.cell
 free:∀x,(x,gN)∈sc.names->X.env.scope.names.lookup x=P3 .cell\/X.env.scope.names.lookup x=P3 .free
 names:∀y∈sc.names,y.2=.local->sc.names.lookup y.1=P3 .local
 cap:JX sc X.env.scope X.N N' js=o_
def CompOk.of{c:iU}{d:q_ Str}{f:q_^r_ Nat}(h:Gi c X.env.scope X.N d f=o_):CompOk X c d f:=by
 unfold Gi at h;rw[fN,fN,iM]at h;let#[#[g,a],i]:=h;refine#[TC g,λy b e=>?_,λx j=>?_,λy b e=>?_,i]
 .have q:=a y b
  unfold ci at q
  simp_all
 .have q:=a _ j
  exact Pa q
 .have q:=a y b
  unfold ci at q;rw[e]at q;exact S_ q
def Mz{D:iU}{E:q_ Str}{K:q_^r_ Nat}{B:q_ (Str×Db)}{F:q_ Db}{f:fO}{V:Nat}(I:Inv X zH Z H s)(W:X.calm=o_)(O:CompOk X D E K)
  (d:∀x c,B.lookup x=P3 c->X.env.cells.lookup x=P3 c) (k:∀x,(x,gN)∈D.names->∃c,B.lookup x=P3 c)
  (G:∀b∈F,FW X zH H b) (Y:∀b∈F,∃o,s.heap.get? b=P3 o)
  (L:f.Ns (s.heap.objs.size+1) λ_=>n_) (J:∀b o,s.heap.get? b=P3 o->f.get? b=P3 o) (hD:∃n,f.get? s.heap.objs.size=P3 {cls:=.type "list",data:=.seq #[] n}):
  Inv (Aw X D E B (s.heap.objs.size+1) s H F) [] (CW K Z) (Ar H s.heap.objs.size^.lst []) {s with heap:=f,toks:=V}:=by
 have fr:∀a,s.heap.objs.size<=a->H a=n_:=λa ha=>I.hok.fresh ha
 have h:∀x c,B.lookup x=P3 c->c<s.heap.objs.size:=λx c e=>by
  let#[v,q]:=I.cell x c^d x c e;exact q.lt
 have ok:(Aw X D E B (s.heap.objs.size+1) s H F).Ok:=by
  refine#[I.ok.mod,O.kind,I.ok.glob,I.ok.blt,fu _,λx y c C M=>I.ok.inj x y c (d x c C)^d y c M,λx N=>?_,λx c N=>?_,λ_=>I.ok.hd W,I.ok.frames,.inl rfl,λb t=>#[?_,λx c e=>?_],I.bs,fJ I.ok.bsz I.sz,λb o e t=>?_,λb t P=>?_,I.stack,I.stkFree]
  .exact k x^Nn (env:=X.env) O.cell N
  .exact absurd (show p_=o_ from N) fV
  .let#[o,e]:=Y b t
   exact fQ^gj^T0 e
  .exact(G b t).2.2.2.2.1 x c^d x c e
  .rcases(G b t).2.2.2.1 with z|z
   .exact I.ok.noex b o e z
   .have C:b<X.base.objs.size:=T0 e
    exact absurd (fc C^fJ I.ok.bsz z)^gM _
  .rcases Tk.mp^I.stkSub b P with z|z
   .exact(G b t).2.1 z
   .exact(G b t).2.2.1 z
 exists ok,rfl,I.bare,?_,#[_,L,λi x v C M h3=>?_],λx c e=>?_,?_,λx c e=>?_,λp hp=>absurd (show p∈([]:q_ (Db×Obj))from hp)^by simp,?_
 .exact Un.laid J (Rs _)^fr _^Rs _
 .let#[j,e1,e2]:=Qj M
  let#[T,c2,A]:=Lx O.cap C e1;let#[m,_,hl]:=I.loc;let#[u,r,l]:=hl j x v c2 e2^.inr A;refine#[u,r,.inr #[Cw T,?_]]
  rcases l with⟨l1,_⟩|⟨_,c,l2,l3⟩
  .have Q:X.env.scope.names.lookup x=P3 .local:=l1
   rcases A with A|A <;>(rw[Q]at A;cases A)
  .let#[R,U]:=k x^PySem.mem_of_lookup T
   have:R=c:=fG^(d x R U).symm.trans l2
   subst this;let#[S,w,g]:=id l3;exact#[R,U,S,J _ _ w,g]
 .let#[v,S,w,g]:=I.cell x c^d x c e
  exact#[v,S,J _ _ w,g]
 .show Ar H s.heap.objs.size (.lst []) (s.heap.objs.size+1)=n_
  rw[AM^Nat.succ_ne_self _];exact fr _^fu _
 .show Ar H s.heap.objs.size (.lst []) c=n_
  rw[AM^fQ^h x c e];exact I.freeC x c^d x c e
 .refine I.hok.laid J (Rs _) ?_
  let#[n,e]:=hD;exact#[Uf _,[],n,.nil,e]
 .unfold CW
  show(K.map _).length=E.length;rw[FM];exact E8 O.cap
def Un.but{fs ex:q_ Db}{H d:Hp}{h a f:fO}{C:Db}(u:Un fs ex H d h a)(k:h.get? C=n_)(g:∀b,b≠C->f.get? b=a.get? b):Un fs ex H d h f:=by
 have i:∀{b:Db}{o:Obj},h.get? b=P3 o->b≠C:=λ{b o} e z=>by grind
 refine#[λb o e n a c=>(g b^i e).trans^u.keep b o e n a c,λb o e n a c=>?_,u.free,λb o e a=>?_,u.tups,u.frzs,u.tbls]
 .let#[j,q]:=u.slot b o e n a c
  exact#[j,(g b^i e).trans q]
 .let#[l,q]:=u.there b o e a
  simp_all
def JG{j:iU}{k:q_ Str}{l:q_ (Str×Db)}{C:Db}{g:q_ Db}{c:q_ (Db×Obj)}{m:St}{d:Hp}{f:No}{h':fO}(I:Inv X zH Z H s)(n:∀b∈g,FW X zH H b)(p:s.heap.objs.size<=C)
  (J:Inv (Aw X j k l C s H g) c m d f) (h:∀b,b≠C->h'.get? b=f.heap.get? b):Inv X zH Z d {f with heap:=h'}:=by
 have r:d C=n_:=J.free
 refine I.call' J.os (Un.but J.base (by
  cases e:s.heap.get? C with
  |none=>rfl
  |some o=>exact absurd (T0 e)^jV.mpr p) h) (λa o e=>(J.hok a o e).stay (λb u i q=>(h b (λz=>by
   grind)).trans q) (λ_ q=>q) λ_ _ q=>q) J.bare λb i=>?_
 .let#[y,t,A,v,w,x]:=n b i
  exact#[v,t,w,x]
end
def bV(X:Cx)(a:q_ fZ)(t:TT):Prop:=
 ∀(b:q_ (Db×Obj)) (s:No) (Z:St) (H:Hp) (Q:Bool->Hp->Prop),Inv X b Z H s->t Z H Q->
  wpAny (model X.prog X.w) X.A (forIn a o_ λc r=>if r=o_ then do let ok ←isTrue c X.env^eval c X.env;pure^iY ok else pure^iY r) (TP X b Z Q) X.xe s
def cO:TT:=λ_ H Q=>Q o_ H
def U8{X:Cx}:bV X [] cO:=λa s Z H Q I h=>wpAny_tests_nil #[H,I,h]
def U7{X:Cx}{c:fZ}{t:TT}(h:PT X c t):bV X [c] t:=λa s Z H Q I q=>wpAny_tests_one^h _ s Z H Q I q
def Rm(X:Cx)(e:iU)(f:q_ Str)(z:q_^r_ Nat)(A h:fZ)(j:q_ fZ)(B:TI):TE:=λZ H Q=>B Z H λJ q=>∀l,q l=n_->X.K.lookup l=n_->∀k C s n o,∃(g:TG) (r:TT) (t:TE) (W:Nat->Nat->St->Hp->Prop),
 PG (Aw X e f k C s n o) A g/\bV (Aw X e f k C s n o) j r/\PE (Aw X e f k C s n o) h t/\(∃m,W 0 m (CW z Z)^Ar q l^.lst [])/\∀i m u a,W i m u a->
 (J.stop i a/\Q (.ref l) a)\/(J.go i a/\∀x H2,J.yld i a x H2->g x u H2 λd D=>r d D λb v=>if b=o_ then t d v λy w=>∃p,w l=P3^.lst p/\p.length<sizeLine/\∃c,c<m/\W (i+1) c d^Ar w l^.lst (p++[y]) else ∃c,c<m/\W (i+1) c d v)
section
variable {X:Cx}{tg elt iter:Expr}{ifs:q_ Expr}{sc:Scope}{pos:Pos}{N':q_ Str}{js:q_^r_ Nat}{wi:TI}{g:TG}{tt:TT}{te:TE}
def Kt{zH:q_ (Db×Obj)}{Z:St}{H:Hp}{s:No}{h:q_ (Str×Db)}{C l it:Db}{a:q_ Db}{U:Nat->fO->Prop}{J:It}{s3:No}{Q:VK}{R:Result->No->Prop}{W:Nat->Nat->St->Hp->Prop}{m0:Nat}{zI:St}{V:Hp}
  (I:Inv X zH Z H s) (hf:∀b∈a,FW X zH H b) (a3:∀b∈a,b<s.heap.objs.size) (hC:s.heap.objs.size<=C)
  (T:Turn X.prog X.w X.K tg J a it U)
  (hg:PG (Aw X sc N' h C s H a) tg g) (ht:bV (Aw X sc N' h C s H a) ifs tt) (he:PE (Aw X sc N' h C s H a) elt te)
  (hW:∀i m k c,W i m k c->
   (J.stop i c/\Q (.ref l) c)\/(J.go i c/\∀x H2,J.yld i c x H2->g x k H2 λY H3=>tt Y H3 λb z=>if b=o_ then te Y z λy H5=>∃E,H5 l=P3^.lst E/\E.length<sizeLine/\∃f,f<m/\W (i+1) f Y^Ar H5 l^.lst (E++[y]) else ∃f,f<m/\W (i+1) f Y z))
  (hR:∀k c G,Inv (Aw X sc N' h C s H a) [] k c G->Q (.ref l) c->R (.ok .next) G)
  (I3:Inv (Aw X sc N' h C s H a) [] zI V s3) (t3:U 0 s3.heap) (f3:∀b∈a,V b=n_) (w0:W 0 m0 zI V):
  codeAny (model X.prog X.w) X.A (.compLoop (.ListComp elt [#[tg,iter,ifs,0]] sc pos) 0 (.ref it) (.ref l)^compEnvC sc h C X.env) R s3:=by
 have j:∀{c:Hp},(∀b∈a,c b=n_)->∀b∈a,FW (Aw X sc N' h C s H a) [] c b:=λhn b t=>by
  have q:=I3.ok.exf b t;refine#[hn b t,q.1,I3.ok.exfs b t,.inl t,q.2,λp hp=>absurd (show p∈([]:q_ (Db×Obj))from hp)^by simp]
 refine Lv (λn G=>∃i k c,Inv (Aw X sc N' h C s H a) [] k c G/\U i G.heap/\(∀b∈a,c b=n_)/\W i n k c) ?_ m0 #[0,zI,V,I3,t3,f3,w0];rintro n s4 ⟨i,L,z,I4,M,N,w4⟩
 rcases hW i n L z w4 with⟨O,qn⟩|⟨go,step⟩
 .refine thn (T.done (Aw X sc N' h C s H a) rfl rfl rfl rfl i [] s4 L z (λ_ _=>False) I4 (j N) M O) λr s5 zz=>?_;let#[hr,I5]:=zz
  subst hr;exact hR L z s5 I5 qn
 .refine thn (T.item (Aw X sc N' h C s H a) rfl rfl rfl rfl i [] s4 L z (λ_ _=>False) I4 (j N) M go) λr s5 zz=>?_;let#[u,hr,h5]:=zz
  subst hr;refine thn h5 λ_ s6 zz=>?_;let#[x,H6,I6,r6,y6,B,a0]:=zz;have a1:=I6.pinned (j a0)^T.obj _ _ B;refine thn (hg _ s6 L H6 x u _ a1 r6^step x H6 y6) λ_ s7 zz=>?_;let#[zL,H7,I7,q7]:=zz
  have again:∀{zJ:St}{D:Hp}{F:No}{f:Nat},Inv (Aw X sc N' h C s H a) ([]++Iq a s6.heap) zJ D F->f<n->W (i+1) f zJ D->∃m,m<n/\∃i k c,Inv (Aw X sc N' h C s H a) [] k c F/\U i F.heap/\(∀b∈a,c b=n_)/\W i m k c:=λ{zJ D F f} P S w9=>by
   refine#[f,S,i+1,zJ,D,P.unpinned,T.keep _ _ _ B λb t o e=>(P.pin (b,o)^fR _^fR _^EK t e).1,λb t=>?_,w9];let#[o,e,d]:=T.obj _ _ B b t;exact(P.pin (b,o)^fR _^fR _^EK t e).2.1
  refine thn (ht _ s7 zL H7 _ I7 q7) λok s8 zz=>?_;let#[H8,I8,q8]:=zz;cases ok with
  |false=>
   have a2:∃f,f<n/\W (i+1) f zL H8:=q8;let#[f,S,w8]:=a2;show ∃m,m<n/\_;exact again I8 S w8
  |true=>
   refine thn (he _ s8 zL H8 _ I8 q8) λy F zz=>?_;let#[yv,D,P,ry,q9]:=zz;let#[E,hl,hz,f,S,w9]:=q9;refine thn (A2 (X:=Aw X sc N' h C s H a) _ F zL D (.ref l) [yv] (.ref l) [y] (λv c=>v=.non/\c=Ar D l^.lst (E++[yv])) P rfl (.cons ry .nil) #[l,E,yv,rfl,rfl,hl,hz,rfl,rfl]) λ_ sa zz=>?_;let#[v,Ha,Ia,_,_,eH]:=zz;subst eH;exact again Ia S w9
def VE(Y:X.calm=o_)(N':q_ Str)(js:q_^r_ Nat)(hi:PI X tg iter wi)
  (hB:Gi sc X.env.scope X.N N' js=o_)
  (hs:∀x,foldedSetIterable iter X.env x=pure x:=by intro _;rfl):
  PE X (.ListComp elt [#[tg,iter,ifs,0]] sc pos) (Rm X sc N' js tg elt ifs wi):=by
 intro S s Z H Q I h;have O:CompOk X sc N' js:=CompOk.of hB;let#[z,l,M,B]:=JV (scope:=sc) (env:=X.env) λx hx=>I.ok.has x^O.free x hx;rw[eval_ListComp];refine wpAny_comprehension_free (use:=n_) rfl hs l O.kind O.names (thn (hi S s Z H _ I h) λv s1 h1=>thn h1 λa0 c h2=>?_);let#[U,G,tn,J,H2,e,C,T,p,L,hq]:=h2;subst e
 have r:X.K.lookup c.heap.objs.size=n_:=by
  cases q:X.K.lookup c.heap.objs.size with
  |none=>rfl
  |some o=>exact absurd (T0^C.kIn _ _ q)^gM _
 let#[g,tt,te,W,hg,ht,he,#[m0,w0],hW]:=hq c.heap.objs.size (C.hok.fresh^Rs _) r z (c.heap.objs.size+1) c H2 G;refine gi^wpAny_newFunctionEnv O.cell (by intro y hy;simp at hy) (λf d a=>?_) O.kind
 dsimp only at d a ⊢
 generalize t:c.heap.push {cls:=.type "list",dict:=n_,data:=.seq ([]:q_ Ev).toArray}=Hh at d a ⊢;have i:Hh.objs.size=c.heap.objs.size+1:=by rw[←t,gU]
 have D:∀b∈G,b<c.heap.objs.size:=λb j=>by
  let#[o,e,_]:=T.obj _ _ p b j;exact T0 e
 have E:∀b o,c.heap.get? b=P3 o->f.get? b=P3 o:=λb o e=>a.extBut b o (by rw[i];exact fQ^gj^T0 e)^Go _ (t▸Go _ e);have hD:∃n,f.get? c.heap.objs.size=P3 {cls:=.type "list",data:=.seq #[] n}:=#[_,a.extBut _ _ (by rw[i];exact fQ^jM _)^Go _ (t▸UF _ rfl)]
 have I3:∀u,Inv (Aw X sc N' z (c.heap.objs.size+1) c H2 G) [] (CW js Z) (Ar H2 c.heap.objs.size^.lst []) {c with heap:=f,toks:=u}:=λu=>
  Mz C Y O M B L (λb j=>let #[o,e,_]:=T.obj _ _ p b j;#[o,e]) (by rw[←i];exact d) E hD
 have F:tn 0 f:=T.keep _ _ _ p λb j o e=>E b o e
 have P:∀b∈G,Ar H2 c.heap.objs.size (.lst []) b=n_:=λb j=>by
  rw[AM^fQ^D b j];exact(L b j).1
 have k:∀u,codeAny (model X.prog X.w) X.A (.compLoop (.ListComp elt [#[tg,iter,ifs,0]] sc pos) 0 (.ref U) (.ref c.heap.objs.size)^compEnvC sc z (c.heap.objs.size+1) X.env)
   (compPost (model X.prog X.w) X.A X.xe n_ (EP X S Z Q) (.ref c.heap.objs.size) (c.heap.objs.size+1)) {c with heap:=f,toks:=u}:=λu=>by
  refine Kt (W:=W) (m0:=m0) (Q:=Q) C L D (fu _) T hg ht he hW (λzZ H' s' V q'=>?_) (I3 u) F P w0;let#[m,hn,_]:=V.loc;exact#[m,hn,λh' R=>#[.ref _,H',JG C L (fu _) V λb j=>R.2 b j,rfl,q']]
 rw[show(newEnv sc Hh.objs.size X.env.globals z X.env.qual n_ .none (P3 X.env) builtinsNs).locals=c.heap.objs.size+1 from i];show codeAny (model X.prog X.w) X.A (.compStart (.ListComp elt [#[tg,iter,ifs,0]] sc pos) 0 (.ref U) (.ref c.heap.objs.size)^compEnvC sc z (c.heap.objs.size+1) X.env) _ _;exact codeAny_compStart_list (k _)^T.self _ 0 _ _ _ F^k _
end
structure Fly (B:fO) (l:List Env) (a C:Db) (dx:Option Db) (h:fO):Prop where
 stays:B.StaysIn h
 new:B.get? a=n_
 frames:h.FunFrames B l
 obj:∃vs sl tb,h.get? a=P3 #[.ref C,dx,.fields vs,sl]/\vs[2]?=P3 .none/\vs[1]?=P3 tb/\(tb=.none\/∃T oT ts,tb=.ref T/\B.get? T=n_/\T≠a/\h.get? T=P3 oT/\oT.data=.fields ts/\3<ts.size)
section
variable {M:Model}{A:Around}{E:Value->Shared->Prop}{s:Shared}{B:Heap}{env:Env}{outer l:q_ Env}{L a C:Addr}{dx:r_ Addr}{Q:Unit->Shared->Prop}
def size_of{b:Array Ev}{i:Nat}{x:Ev}(h:b[i]?=P3 x):i<b.size:=(ju.mp h).1
def Km{d:Array Ev}{r:Array^r_ Ev}{g O:Ev}{P:Bool}(t:A.frames=P3 (env::outer))(R:env.frame=P3 L)(m:s.heap.FunFrames B (env::outer))(S:B.StaysIn s.heap)(y:B.get? a=n_)
  (u:s.heap.get? a=P3 #[.ref C,dx,.fields d,r]) (T:d[1]?=P3 O) (D:d[2]?=P3 .none)
  (h:∀v,Fly B (env::outer) a C dx v->s.heap.UpToSlots v->Q () {s with heap:=v}):
  wpAny M A (do let f ←frameOf env;let n ←entryPlaceOf L P;let b ←mZ g f .none (rawInt L) .none n;setField (.ref a) 1 b) Q E s:=by
 have F:=size_of T;have Y:=size_of D
 have U:a∉(env::outer).filterMap (·.frame):=λq=>by
  let#[_,o,G,c]:=m.mem q;rw[u]at G;cases G;exact c d rfl
 refine Ch^wpAny_frameOf_fun t m R λk p=>?_;refine Ch^wpAny_entryPlaceOf λn w=>?_;unfold mZ newFields;refine Ch^gi ?_^w.sizeOk5 _ _ _ _ _;have H:k.get? a=P3 #[.ref C,dx,.fields d,r]:=(p.2.1 a U).trans u;have I:B.StaysIn k:=λb o q=>(p.2.1 b λz=>by rw[(m.mem z).1]at q;cases q).trans^S b o q;generalize i:({cls:=.type "traceback",dict:=n_,data:=.fields ([g,.ref L,.none,rawInt L,.none]++(if n.isEmpty then gK 6 fm else n)).toArray}:Obj)=ob;have J:(k.push ob).get? a=P3 #[.ref C,dx,.fields d,r]:=Go _ H;refine ip J rfl F ?_;have K:k.objs.size≠a:=iV^T0 H;have V:=gA (ie (·.setIfInBounds 1^fI k.objs.size)) J rfl
 have W:((k.push ob).update a (ie (·.setIfInBounds 1^fI k.objs.size))).get? k.objs.size=P3 ob:=by
  rw[fL _ _^gE K];exact UF k^by subst i;rfl
 have x:∀b o,b≠a->k.get? b=P3 o->((k.push ob).update a (ie (·.setIfInBounds 1^fI k.objs.size))).get? b=P3 o:=λb o X q=>by
  rw[fL _ _^gE X];exact Go _ q
 have N:∀b o,s.heap.get? b=P3 o->(∀d,o.data≠.fields d)->b≠a:=λb o q c z=>by
  rw[z,u]at q;cases q;exact c d rfl
 refine h _ #[λb o q=>x b o (λz=>by rw[z,y]at q;cases q)^I b o q,y,m.of_keeps λb o q c=>?_,_,_,_,V,?_,?_,.inr #[k.objs.size,ob,_,rfl,I.fresh,K,W,by subst i;rfl,?_]] λb o q c=>?_
 .let#[j,e]:=p.2.2 b o q
  exact#[_,x b _ (N b o q c) e,rfl]
 .rw[Array.getElem?_setIfInBounds_ne^by cbv];exact D
 .simp[F]
 .simp only[fM,XV,fF,gn];lk
 .let#[j,e]:=p.2.2 b o q
  exact#[j,x b _ (N b o q c) e]
def Fly.mark{T:Db}{g:Obj}{h d:Array Ev}{x:Ev}{f:Array^r_ Ev}(F:Fly B l a C dx s.heap)(m:s.heap.get? a=P3 #[.ref C,dx,.fields d,f])(n:d[1]?=P3^.ref T)(p:d[2]?=P3 .none)(r:B.get? T=n_)(i:T≠a)(t:s.heap.get? T=P3 g)
  (hd:g.data=.fields h) (v:3<h.size):Fly B l a C dx (s.heap.update T (ie (·.setIfInBounds 3 x)))/\s.heap.UpToSlots (s.heap.update T (ie (·.setIfInBounds 3 x)))/\(s.heap.update T (ie (·.setIfInBounds 3 x))).get? a=P3 #[.ref C,dx,.fields d,f]:=by
 have e:∀b,b≠T->(s.heap.update T (ie (·.setIfInBounds 3 x))).get? b=s.heap.get? b:=λb u=>fL _ _^gE u
 have j:∀b o,s.heap.get? b=P3 o->(∀d,o.data≠.fields d)->b≠T:=λb o q c z=>by
  simp_all
 have k:=(e a^gE i).trans m;refine#[#[λb o q=>(e b λz=>by grind).trans^F.stays b o q,F.new,F.frames.of_keeps λb o q c=>#[o,(e b^j b o q c).trans q,rfl],d,f,_,k,p,n,.inr #[T,_,_,rfl,r,i,gA _ t^jm^h_ hd _,h_ hd _,by simp_all]],λb o q c=>#[o.slots,(e b^j b o q c).trans q],k]
def Fw(F:Fly B l a C dx s.heap)(h:∀c,Fly B l a C dx c->s.heap.UpToSlots c->Q () {s with heap:=c}):wpAny M A (setFlight (.ref a) n_) Q E s:=by
 let#[q,r,t,d,j,e,k]:=F.obj;refine Ch (f6 d rfl e ?_)
 rcases k with rfl|⟨T,u,v,rfl,m,n,f,g,i⟩
 .exact TW^h _ F^md _
 .let#[o,p,_]:=F.mark d e j m n f g i
  exact ip f g i^h _ o p
def M9(c:A.frames=P3 (env::outer))(g:env.frame=P3 L)(F:Fly B (env::outer) a C dx s.heap)
  (h:∀d,Fly B (env::outer) a C dx d->s.heap.UpToSlots d->Q () {s with heap:=d}):wpAny M A (noteFrame (.ref a) env) Q E s:=by
 let#[D,G,H,i,j,f,p]:=F.obj;unfold noteFrame;simp only[g];refine Ch (f6 i rfl f ?_)
 rcases p with rfl|⟨T,I,q,rfl,r,t,k,m,n⟩
 .rw[if_neg^by cbv]
  exact Km c g F.frames F.stays F.new i f j h
 .rw[if_pos (show(fI T !=fm)=o_ by simp)]
  obtain⟨x,u⟩:∃x,q[3]?=P3 x:=#[_,iR n];refine Ch^f6 k m u ?_
  by_cases e:(x==rawInt L)=o_
  .rw[if_pos e]
   exact TW^h _ F^md _
  .rw[if_neg e]
   let#[o,v,w]:=F.mark (x:=fm) i f j r t k m n;refine Ch^ip k m n ?_;exact Km c g o.frames o.stays o.new w f j λd y z=>h d y^v.trans z
def Qt(d:A.frames=P3 (env::outer))(e:env.frame=P3 L)(F:Fly B (env::outer) a C dx s.heap)
  (h:∀c,Fly B (env::outer) a C dx c->s.heap.UpToSlots c->Q () {s with heap:=c}):wpAny M A (leaving env^.ref a) Q E s:=Ch^M9 d e F λc f g=>Fw f λi j k=>h i j^g.trans k
def Fly.tail(F:Fly B (env::outer) a C dx s.heap):Fly B outer a C dx s.heap:=#[F.stays,F.new,F.frames.2.2,F.obj]
end
section
variable {A:Around}{E:Value->Shared->Prop}{R:Result->Shared->Prop}{h:Heap}{g:Array GenState}{d:Drawn}{t:Nat}{os:OsState}
variable {nm q:Str}{C N f:Addr}{bs bm:q_ Value}{hdct:Bool}{sn:q_ Str}{sub:q_ Value}{ab:Bool}{col:r_ Bool}{dd:r_ Addr}{k0 k1 k2 k3 k5:r_ Value}{newId:String}
def Bl(C t:Db):Obj:={cls:=.ref C,data:=.fields #[ .ref t,.none,.none,.none,.bool p_,.none]}
def ba(x:Db)(R:Result->No->Prop)(r:Result)(a:No):Prop:=match r with
 |.ok (.ret v)=>v=.none/\R (.ok^.ret^.ref x) a
 |.ok _=>False
 |.error e=>R (.error e) a
def Np{s:No}{env:Env}{x:Sem Ev}{Q:Flow->No->Prop}{M:Model}(hbase:bm.contains^.type "BaseException"=o_)(hh:A.handled=n_)
  (hx:wpAny M A x (λv s₁=>∃e dx vs sl,v=.ref e/\s₁.heap.get? C=P3^excClassObj nm q C N bs bm hdct sn sub ab col dd k0 k1 k2 k3 k5 newId /\
   s₁.heap.get? e=P3 #[.ref C,dx,.fields vs,sl]/\vs[1]?=P3 .none/\E (.ref e) s₁) E s):
  wpAny M A (raiseStmt env (P3 x) n_) Q E s:=by
 have hcB:(fI C::bm).contains^.type "BaseException"=o_:=by grind
 unfold raiseStmt;refine Ch^ft hx (λv s₁ h₁=>?_) λ_ _ x=>x;let#[e,dx,vs,sl,rfl,hC,he,h1,hE]:=h₁
 repeat (first|omega|omega|(with_reducible refine gh hC ?_;rw[hcB])|wp_step)
 rw[h1];refine TW ?_;exact TW^wpAny_raiseNew_none hh hE
def Qu{M:Model}{e D N':Db}{oe:Obj}{nm' q':Str}{bs' bmD:q_ Ev}{hdct':Bool}{sn':q_ Str}{sub':q_ Ev}{ab':Bool}{col':r_ Bool}{dd':r_ Db}{l0 l1 l2 l3 l5:r_ Ev}{newId':String}{Q:Bool->No->Prop}
  (hC:h.get? C=P3^excClassObj nm q C N bs bm hdct sn sub ab col dd k0 k1 k2 k3 k5 newId) (hD:h.get? D=P3^excClassObj nm' q' D N' bs' bmD hdct' sn' sub' ab' col' dd' l0 l1 l2 l3 l5 newId') (hbase:bmD.contains^.type "BaseException"=o_)
  (he:h.get? e=P3 oe) (hcls:oe.cls=.ref C) (hq:Q ((fI C::bm).contains^.ref D) #[h,g,d,t,os]):wpAny M A (excMatches (.ref e)^.ref D) Q E #[h,g,d,t,os]:=by
 have hcB:(fI D::bmD).contains^.type "BaseException"=o_:=by grind
 have f:=tc_notTuple;generalize hb:(fI C::bm).contains^.ref D=b at hq;unfold excMatches
 repeat (first|(with_reducible refine gO he ?_;rw[hcls])|omega|(with_reducible refine gh hD ?_;rw[hcB])|wp_step)
 refine gh hC ?_;rw[hb];cases b <;>(wp_walk;exact hq)
end
def Cd:q_ Ev:=[.type "ValueError",.type "Exception",.type "BaseException",.type "object"]
structure XC (K:Frag) (nm:Str) (C U:Db):Prop where
 obj:∃q N bs sn sub ab col dd k0 k1 k2 k3 k5,K.lookup C=P3 (excClassObj nm q C N bs (.ref U::Cd) o_ sn sub ab col dd k0 k1 k2 k3 k5 "ValueError.__new__")
 up:∃q N bs sn sub ab col dd k0 k1 k2 k3 k5 hd,K.lookup U=P3 (excClassObj "ThinError" q U N bs Cd hd sn sub ab col dd k0 k1 k2 k3 k5 "ValueError.__new__")
 kp:keepIn K^.ref C=o_
 ga:PySem.W.findIn K (.ref C) "__getattribute__"=P3 (P3^.builtin "BaseException.__getattribute__")
 gt:PySem.W.findIn K (.ref C) "__getattr__"=P3 n_
 sa:PySem.W.findIn K (.ref C) "__setattr__"=P3 (P3^.builtin "object.__setattr__")
 at_:nsIn K mainGlobals nm=P3 (P3^.ref C)
 atU:nsIn K mainGlobals "ThinError"=P3 (P3^.ref U)
 ca:PySem.W.findIn K (.ref C) "__class__"=P3 (P3^.builtin "object.__class__")
 nw:PySem.W.findIn K (.ref C) "word"=P3 n_
 nn:PySem.W.findIn K (.ref C) "number"=P3 n_
 nr:PySem.W.findIn K (.ref C) "row"=P3 n_
section
variable {prog:Program}{w:World}{A:Around}{E:Value->Shared->Prop}{s:Shared}{K:Frag}{nm name:Str}{x C U:Addr}{v:Value}{R:Result->Shared->Prop}
def XC.cls(c:XC K nm C U):∃a,PySem.W.clsIn K C=P3 a/\a.mro=.ref C::.ref U::Cd/\a.hasDict=o_/\a.name=nm:=by
 let#[q,N,f,g,b,h,d,i,j,k,l,m,n,e]:=c.obj;refine#[_,by unfold PySem.W.clsIn;rw[e],rfl,rfl,rfl]
def PK{n:Obj}{o:r_ Obj}{d:Tok}(X:K.In s.heap)(c:XC K nm C U)(I:PySem.W.InstAt s.heap x n C o)(p:PySem.W.findIn K (.ref C) name=P3 n_)
  (h:∀b,wpAny (model prog w) A.in1 (Builtin.ObjectAttr.storeInOwnDict (.ref x) (.ref C) (.str name d) name v b)
   (λi g=>match i with|.done f=>R (.ok f) g|.again c'=>c'.quiet=o_/\codeAny (model prog w) A c' R g) (λe g=>R (.error e) g) s):
  codeAny (model prog w) A (.call (.builtin "object.__setattr__") #[[.ref x,.str name d,v],[]]) R s:=by
 have a:=PySem.F.store_ValueError;let#[q,l,m,_]:=c.cls;have j:PySem.W.Looks (model prog w) s.heap (isInstance (.ref x)^.type "object") o_:=I.type.andThen (PySem.W.looks_mroIn X^by unfold PySem.W.mroIn;rw[l,Option.bind_some,m];rfl);refine iZ a.slot.plain a.entry^@PySem.W.check_slot (model prog w) _ _ s "object.__setattr__" "object" "__setattr__" (.ref x) [.str name d,v] [] _ a.kind a.split j (a.args (.ref x) (.str name d) v) ?_;have k:PySem.W.Looks (model prog w) s.heap (mroOf^.ref C) q.mro:=(PySem.W.looks_clsIn X l).andThen .now;rw[PySem.W.osa_eq,refuse_eq];refine Ch^Ch^I.type.here^Ch^k.here ?_;rw[m,refuseLoop_ref,refuseLoop_ref,show refuseLoop (.ref x) "__setattr__" Cd=pure ()from a.passes _];exact TW^Ch^I.type.here^Ch^(PySem.W.looks_findIn X p).here^Ch^TW^h _
def R0{f:Array Ev}{g:Array^r_ Ev}{Q:Unit->No->Prop}(X:K.In s.heap)(c:XC K nm C U)(hx:s.heap.get? x=P3 #[.ref C,n_,.fields f,g])(r:PySem.W.findIn K (.ref C) name=P3 n_)
  (h:∀d t,d.get? x=P3 #[.ref C,P3 s.heap.objs.size,.fields f,g]->d.Ns1 s.heap.objs.size (λy=>if y=name then P3 v else n_)->(∀b o,b≠x->s.heap.get? b=P3 o->d.get? b=P3 o)->Q () {s with heap:=d,toks:=t}):
  wpAny (model prog w) A (setAttr (.ref x) name v) Q E s:=by
 let#[M,u,N,z,_]:=c.cls;have J:PySem.W.InstAt s.heap x #[.ref C,n_,.fields f,g] C n_:=#[hx,rfl,rfl,trivial];refine PySem.W.set_plain X J c.sa^PK (s:={s with toks:=s.toks+1}) X c J r λb=>?_;refine Ch^TW^Ch^Ch^wpAny_loadPart hx^Ch^PySem.W.Looks.here (s:={s with toks:=s.toks+1}) (PySem.W.looks_clsIn X u) ?_;rw[z];have i:(s.heap.push {cls:=.type "dict",data:=.dict #[]}).get? x=P3 #[.ref C,n_,.fields f,g]:=Go _ hx;have n:x≠s.heap.objs.size:=fQ^T0 hx;show wpAny _ _ (alloc _ >>=_) _ _ _;refine Ch^wpAny_alloc^Ch^wpAny_update i^TW ?_;generalize a:((s.heap.push {cls:=.type "dict",data:=.dict #[]}).update x λo=>{cls:=o.cls,dict:=P3 s.heap.objs.size,data:=o.data,slots:=o.slots})=hh
 have B:hh.get? s.heap.objs.size=P3 {cls:=.type "dict",data:=.dict #[]}:=by
  rw[←a,jx _ _ _ _ n.symm];exact UF _ rfl
 have D:hh.get? x=P3 #[.ref C,P3 s.heap.objs.size,.fields f,g]:=by
  rw[←a];exact gA _ i rfl
 have F:∀b o,b≠x->s.heap.get? b=P3 o->hh.get? b=P3 o:=λb o j e=>by
  rw[←a,jx _ _ _ _ j];exact Go _ e
 have G:hh.Ns s.heap.objs.size (λ_=>n_):=#[_,#[],_,B,rfl,λe H=>absurd H^by simp,λ_=>rfl];show wpAny _ _ (kh s.heap.objs.size _ name v) _ _ _;unfold kh Builtin.ObjectAttr.newKeyGuard;refine Ch^TW^Ch^wpAny_nsSet1 (Heap.Ns1.of_empty G) λd p q=>?_;let#[O,I,L,k,l,m]:=p.count^PySem.Within.cons name v PySem.Within.nil;refine Ch^wpAny_lookBehind k (by rw[l];exact pastItsLine_dict^fJ m^by rw[fF,gn,fz];lk) ?_;refine TW^h d _ ((q.2 x n).trans D) p λb o j e=>(q.2 b^fQ^T0 e).trans^F b o j e
def Rz{k:Array Ev}{l:Array^r_ Ev}{d:Db}{f:Str->r_ Ev}{m:q_ Str}{Q:Unit->No->Prop}(X:K.In s.heap)(c:XC K nm C U)(hx:s.heap.get? x=P3 #[.ref C,P3 d,.fields k,l])(n:s.heap.Ns1 d f)(q:PySem.Within f m)(r:m.length<=sizeLine)(t:PySem.W.findIn K (.ref C) name=P3 n_)
  (h:∀e u,e.Ns1 d (λy=>if y=name then P3 v else f y)->iz d s.heap e->Q () {s with heap:=e,toks:=u}):
  wpAny (model prog w) A (setAttr (.ref x) name v) Q E s:=by
 let#[I,z,L,B,_]:=c.cls;let#[o,_,_,D,_]:=id n;have J:PySem.W.InstAt s.heap x #[.ref C,P3 d,.fields k,l] C^P3 o:=#[hx,rfl,rfl,D];refine PySem.W.set_plain X J c.sa^PK (s:={s with toks:=s.toks+1}) X c J t λb=>?_;refine Ch^TW^Ch^Ch^wpAny_loadPart hx^Ch^PySem.W.Looks.here (s:={s with toks:=s.toks+1}) (PySem.W.looks_clsIn X z) ?_;rw[B];refine TW (a:=P3 d)^Ch^TW^Ch ?_;refine wpAny_nsSet1 (s:={s with toks:=s.toks+1}) n λe p F=>?_;let#[M,G,H,g,i,j]:=p.count^PySem.Within.cons name v q;refine Ch^wpAny_lookBehind g (by rw[i];exact pastItsLine_dict^fJ j^by rw[fF];lk) ?_;exact TW^h _ _ p F
end
section
variable {M:Model}{prog:Program}{w:World}{A:Around}{E:Value->Shared->Prop}{R:Result->Shared->Prop}{h:Heap}{g:Array GenState}{d:Drawn}{t:Nat}{os:OsState}
variable {K:Frag}{nm q:Str}{C U N f:Addr}{bs:q_ Value}{sn:q_ Str}{sub:q_ Value}{ab:Bool}{col:r_ Bool}{dd:r_ Addr}{k0 k1 k2 k3 k5:r_ Value}{rest:q_ Value}
def Pu{Q:Unit->No->Prop}(hC:h.get? C=P3^excClassObj nm q C N bs (.ref U::Cd) o_ sn sub ab col dd k0 k1 k2 k3 k5 "ValueError.__new__")
  (hq:Q () #[h,g,d,t,os]):wpAny M A (checkBuiltinCall "ValueError.__new__" #[.ref C::rest,[]]) Q E #[h,g,d,t,os]:=by
 have F:=PySem.F.excBase_ValueError;have hcont:(fI C::.ref U::Cd).contains^.type "ValueError"=o_:=by simp[Cd]
 have hstar:=F.noStar;simp only[checkBuiltinCall,F.newKind,F.newSplit,F.newRow]
 repeat (first|refine gO hC ?_|(refine gh hC ?_;rw[hcont])|refine wpAny_staticBase_exc hC ?_|refine l8 hC ?_|simp only[bne_self_eq_false,gQ,if_false]|wp_step)
 exact hq
def Pj(hC:h.get? C=P3^excClassObj nm q C N bs (.ref U::Cd) o_ sn sub ab col dd k0 k1 k2 k3 k5 "ValueError.__new__")
  (hq:R (.ok^.ret^.ref (h.objs.size+1)) #[(h.push {cls:=.type "tuple",data:=.seq rest.toArray}).push^Bl C h.objs.size,g,d,t,os]) (hrest:rest.length<=sizeLine):
  codeAny (model prog w) A (.builtin "ValueError.__new__" #[.ref C::rest,[]]) R #[h,g,d,t,os]:=by
 have F:=PySem.F.excBase_ValueError;have hends:=F.ends;have hcB:(fI C::.ref U::Cd).contains^.type "ValueError"=o_:=by simp[Cd]
 have hcA:(fI C::.ref U::Cd).contains^.type "AttributeError"=p_:=by simp[Cd]
 have hcN:(fI C::.ref U::Cd).contains^.type "NameError"=p_:=by simp[Cd]
 refine codeAny_builtinAt F.entry ?_;unfold h8.«BaseException.__new__»;refine PySem.wpAt_bind ?_;show PySem.wpAt _ _ _ (stack >>=_) _ _ _;refine PySem.wpAt_bind^PySem.wpAt_stack λp below=>wpAt_of_wpAny ?_
 wp_walk
 refine wpAt_of_wpAny ?_;rw[F.owner]
 repeat (first|with_reducible refine wpAny_madeHere_exc F.canon hC ?_|with_reducible refine gO hC ?_|(with_reducible refine gh hC ?_;first|rw[hcB]|rw[hcA]|rw[hcN])|wp_step)
 show R _ _;rw[gU];exact hq
def T4{e:Db}{oe:Obj}{Q:Unit->No->Prop}(hC:h.get? C=P3^excClassObj nm q C N bs (.ref U::Cd) o_ sn sub ab col dd k0 k1 k2 k3 k5 "ValueError.__new__")(he:h.get? e=P3 oe)(hcls:oe.cls=.ref C)(hq:Q () #[h,g,d,t,os]):
  wpAny M A (checkBuiltinCall "ValueError.__init__" #[.ref e::rest,[]]) Q E #[h,g,d,t,os]:=by
 have F:=PySem.F.excBase_ValueError;have hcB:(fI C::.ref U::Cd).contains^.type "ValueError"=o_:=by simp[Cd]
 have hshort:=F.noStar;simp only[checkBuiltinCall,F.initKind,F.initSplit,F.initRow]
 repeat (first|(with_reducible refine gO he ?_;rw[hcls])|with_reducible refine gO hC ?_|(with_reducible refine gh hC ?_;rw[hcB])|wp_step)
 refine kR ?_
 rw[show ∀(a b:String) (n:Nat),Bind.check #[.positional,"*","ValueError",.self,[#["args",.varPos,p_]]] a b n^List.map (λx=>x.fst) ({pos:=fI e::rest}:Args).kw=pure ()from
  λa b n=>check_star_args _ _ _ _ _ _]
 exact TW hq
def TX(X:K.In h)(c:XC K nm C U)(hi:PySem.W.findIn K (.ref C) "__init__"=P3^P3^.ref f)(hf:PySem.W.typeIn K^.ref f=P3^.type "function")(hrest:rest.length<=sizeLine)
  (hq:codeAny (model prog w) (A.under^.builtin "type.__call__" #[.ref C::rest,[]]) (.call (.ref f) #[.ref (h.objs.size+1)::rest,[]]) (ba (h.objs.size+1) R) #[(h.push {cls:=.type "tuple",data:=.seq rest.toArray}).push^Bl C h.objs.size,g,d,t,os]):
  codeAny (model prog w) A (.call (.ref C) #[rest,[]]) R #[h,g,d,t,os]:=by
 have F:=PySem.F.excBase_ValueError;let#[q,N,bs,sn,sub,ab,col,dd,k0,k1,k2,k3,k5,eC]:=c.obj;have hC:=X _ _ eC;have f1:=tc_lookup;have f2:=tc_bind^.ref C;have hT:(#[h,g,d,t,os]:No).TypeIs (.ref C) "type":=#[_,hC,rfl];refine ki ?_;show wpAny _ _ (callAny (.ref C) _) _ _ _
 repeat (any_goals (first|assumption|with_reducible refine gO hC ?_|wp_step))
 refine#[rfl,?_];refine codeAny_call_builtin_at (jW _^by decide +kernel) entry_typeCall^wpAny_check_type_call_sub hC ?_
 repeat (first|with_reducible refine gO hC ?_|with_reducible refine l8 hC ?_|wp_step)
 refine codeAny_call_builtin_code (jW _ F.quiet)^Pu hC ?_;refine Pj hC ?_ hrest;show wpAny _ _ _ _ _ _;have kk:∀b o,h.get? b=P3 o->((h.push {cls:=.type "tuple",data:=.seq rest.toArray}).push^Bl C h.objs.size).get? b=P3 o:=λb o e=>Go _^Go _ e;have hC₁:=kk _ _ hC;have hget:((h.push {cls:=.type "tuple",data:=.seq rest.toArray}).push^Bl C h.objs.size).get? (h.objs.size+1)=P3^Bl C h.objs.size:=by unfold Bl;heap_get
 have hcC:(fI C::fI U::Cd).contains^.ref C=o_:=by simp
 unfold isInstance;unfold Bl at *
 repeat (first|with_reducible refine gO hget ?_|(with_reducible refine gh hC₁ ?_;rw[hcC])|wp_step)
 show wpAny _ _ (isSubtype (.ref C)^.ref C) _ _ _;refine gh hC₁ ?_;rw[hcC,if_neg^by cbv];refine Ch^gG ?_;unfold callSpecial? specialOf
 repeat (first|with_reducible refine gO hget ?_|wp_step)
 show wpAny _ _ (typeLookup (.ref C) _) _ _ _;refine(PySem.W.looks_findIn (X.keeps kk) hi).here ?_;refine gG^Ch^(PySem.W.bind_fn (X.keeps kk) _ hf).here ?_;refine Ch^iK^jJ hq λr s' z=>?_
 rcases r with e|(v|_|_|_) <;>first|exact z|exact z.elim|skip
 let#[rfl,z]:=z;exact TW^TW z
def Qv(X:K.In h)(c:XC K nm C U)(hi:PySem.W.findIn K (.ref C) "__init__"=P3^P3^.builtin "ValueError.__init__")(hrest:rest.length<=sizeLine)
  (hq:∀h',(∀b o,h.get? b=P3 o->h'.get? b=P3 o)->h'.get? (h.objs.size+1)=P3^Bl C (h.objs.size+2)->R (.ok^.ret^.ref (h.objs.size+1)) #[h',g,d,t,os]):
  codeAny (model prog w) A (.call (.ref C) #[rest,[]]) R #[h,g,d,t,os]:=by
 have F:=PySem.F.excBase_ValueError;let#[q,N,bs,sn,sub,ab,col,dd,k0,k1,k2,k3,k5,eC]:=c.obj;have hC:=X _ _ eC;have f1:=tc_lookup;have f2:=tc_bind^.ref C;have hT:(#[h,g,d,t,os]:No).TypeIs (.ref C) "type":=#[_,hC,rfl];refine ki ?_;show wpAny _ _ (callAny (.ref C) _) _ _ _
 repeat (any_goals (first|assumption|with_reducible refine gO hC ?_|wp_step))
 refine#[rfl,?_];refine codeAny_call_builtin_at (jW _^by decide +kernel) entry_typeCall^wpAny_check_type_call_sub hC ?_
 repeat (first|with_reducible refine gO hC ?_|with_reducible refine l8 hC ?_|wp_step)
 refine codeAny_call_builtin_code (jW _ F.quiet)^Pu hC ?_;refine Pj hC ?_ hrest;show wpAny _ _ _ _ _ _;have kk:∀b o,h.get? b=P3 o->((h.push {cls:=.type "tuple",data:=.seq rest.toArray}).push^Bl C h.objs.size).get? b=P3 o:=λb o e=>Go _^Go _ e;have hC₁:=kk _ _ hC;have hget:((h.push {cls:=.type "tuple",data:=.seq rest.toArray}).push^Bl C h.objs.size).get? (h.objs.size+1)=P3^Bl C h.objs.size:=by unfold Bl;heap_get
 have hcC:(fI C::fI U::Cd).contains^.ref C=o_:=by simp
 unfold isInstance;unfold Bl at *
 repeat (first|with_reducible refine gO hget ?_|(with_reducible refine gh hC₁ ?_;rw[hcC])|wp_step)
 show wpAny _ _ (isSubtype (.ref C)^.ref C) _ _ _;refine gh hC₁ ?_;rw[hcC,if_neg^by cbv];refine Ch^gG ?_;unfold callSpecial? specialOf
 repeat (first|with_reducible refine gO hget ?_|wp_step)
 show wpAny _ _ (typeLookup (.ref C) _) _ _ _;refine(PySem.W.looks_findIn (X.keeps kk) hi).here ?_;refine gG^Ch^iB (F.init.bind _) ?_;refine Ch^iK^iZ F.init.plain F.initEntry (T4 hC₁ hget rfl ?_)
 wp_walk
 refine hq _ (λb o e=>?_) ?_
 .rw[fL _ _^iV^gj^T0 e]
  exact Go _^kk b o e
 .refine(gA (ie (·.setIfInBounds 0^fI _)) (Go _ hget) rfl).trans ?_
  simp only[gU];rfl
end
structure CXD (P:fT) (w:fY) (outer:List Env) (H:Hp) (s:No) (a C:Db) (dx:Option Db) (B:fO) (H':Hp) (s':No):Prop where
 os:s'.os=s.os
 bare:jk s'.gens
 un:Un (Kj outer) [] H H' s.heap s'.heap
 hok:HOk P w H' B
 all:∀b o o',s.heap.get? b=P3 o->b∉Kj outer->s'.heap.get? b=P3 o'->B.get? b=P3 o'
 fly:Fly B outer a C dx s'.heap
 new:s.heap.objs.size<=a
 free:H' a=n_
def RF(P:fT)(w:fY):RK:=λb H s E e f=>∃a C c B d,e=.ref a/\CXD P w b H s a C c B d f/\E (.ref C) c d
section
variable {P:Program}{w:World}{outer:q_ Env}{H H':Hp}{s s':Shared}{a C:Addr}{dx:r_ Addr}{B h':Heap}
def CXD.step(x:CXD P w outer H s a C dx B H' s')(F:Fly B outer a C dx h')(u:s'.heap.UpToSlots h'):CXD P w outer H s a C dx B H' {s' with heap:=h'}:=by
 have fr:∀b∈Kj outer,∃o,s'.heap.get? b=P3 o/\∀k,o.data≠.fields k:=λb c=>(x.fly.frames.mem c).2;refine#[x.os,x.bare,#[λb o e n c d=>F.stays _ _^x.all b o o e c^x.un.keep b o e n c d,λb o e n c d=>?_,x.un.free,λb o e d=>?_,x.un.tups,x.un.frzs,x.un.tbls],x.hok,λb o j e c q=>?_,F,x.new,x.free]
 .let#[p,q]:=x.un.slot b o e n c d
  let#[j,f,h]:=fr b c;rw[q]at f;cases f;let#[i,l]:=u b _ q h
  grind
 .let#[g,q]:=x.un.there b o e d
  by_cases c:b∈Kj outer
  .let#[j,f,h]:=fr b c
   let#[i,l]:=u b _ f h
   grind
  .exact#[g,F.stays _ _^x.all b o g e c q]
 .let#[g,m]:=x.un.there b o e^by simp
  have z:=x.all b o g e c m;rw[F.stays _ _ z]at q
  grind
end
section
variable {X:Cx}{zH:q_ (Addr×Obj)}{Z:St}{H H':Hp}{s s':Shared}{a C:Addr}{dx:r_ Addr}{B:Heap}
def CXD.inv(x:CXD X.prog X.w X.stack H s a C dx B H' s')(I:Inv X zH Z H s):Inv X zH Z H' s':=
 I.call' x.os x.un (x.hok.kept x.fly.stays) x.bare λb z=>absurd z^by simp
def CXD.leave(x:CXD X.prog X.w X.stack H s a C dx B H' s')(I:Inv X zH Z H s)(c:X.stack=X.env::X.outer)(f:X.ex=[]):CXD X.prog X.w X.outer X.H₀ X.s₀ a C dx B H' s':=by
 have J:=x.inv I;have d:=x.fly;rw[c]at d;refine#[J.os,J.bare,by have z:=J.base;grind,x.hok,λb o g e h q=>?_,d.tail,fJ I.sz x.new,x.free];let#[i,j]:=I.base.there b o e (by grind);refine x.all b i g j (λz=>?_) q
 rcases Tk.mp^I.stkSub b z with z|z
 .exact absurd (T0 e)^by rw[z];exact jV.mpr I.ok.above
 .exact h z
def Mc{P:fT}{w:fY}{K:Frag}{j:Str->r_ Ev}{d:fO}{N:q_ Str}{g:Str}{b:iU}{f:Db}{k:Ev}{A:fb}{c:q_ Env}{h:No}{i:Hp}{E:XK}:
  HJ (RF P w) (DX (RF P w) P w K j d N g b f k A c h i E) E:=by
 intro zH Z H s e s' I #[a,C,dx,B,H',l,x,q];subst l;exact Qt I.ok.frames rfl x.fly λn m u=>#[a,C,dx,B,H',rfl,(x.step m u).leave I rfl rfl,q]
def VG{P:fT}{w:fY}{K:Frag}{i:Str->r_ Ev}{d:fO}{N:q_ Str}{e:Str}{b:iU}{f:Db}{j:Ev}{A:fb}{c:q_ Env}{g:No}{h:Hp}{E:XK}:
  j9 (model P w) (DX (RF P w) P w K i d N e b f j A c g h E).A (DX (RF P w) P w K i d N e b f j A c g h E).env (DX (RF P w) P w K i d N e b f j A c g h E).xe:=by
 passes_own
end
def XO(a C:Db)(c:r_ Db)(h:fO):Prop:=∃b d,h.get? a=P3 #[.ref C,c,.fields b,d]/\b[2]?=P3 .none/\b[1]?=P3 .none
def XF(d:Db)(fs:q_ (Str×V))(h:fO):Prop:=∃a,h.Ns1 d a/\(∀f,RelO (fs.lookup f)^a f)/\PySem.Within a (fs.map (·.1))/\fs.length<=1000
def XO.ok{P:fT}{w:fY}{H:Hp}{a C:Db}{b:r_ Db}{h:fO}(x:XO a C b h):ObjOk P w H h a^.ext^XO a C b:=by
 refine#[x,?_,λf g #[c,d,e,r] k=>#[c,d,k _ e,r]];let#[c,d,e,_]:=x
 simp_all
def XF.ok{P:fT}{w:fY}{H:Hp}{d:Db}{a:q_ (Str×V)}{h:fO}(x:XF d a h):ObjOk P w H h d^.ext^XF d a:=by
 refine#[x,?_,λc f #[b,e,r] k=>#[b,e.at k,r]];let#[b,#[o,_,_,e,_],_]:=x
 grind
section
variable {X:Cx}{zH:q_ (Addr×Obj)}{Z:St}{H:Hp}{s:Shared}{a C U:Addr}{nm f:Str}{A:Around}{E:Value->Shared->Prop}
def Ry{y:V}{u:Ev}{Q:Unit->No->Prop}(I:Inv X zH Z H s)(e:H a=P3^.ext^XO a C n_)(c:XC X.K nm C U)(n:F3 X.K C f)(M:RelV y u)
  (h:∀d B,H d=n_->d≠a->Inv X zH Z (Ar (Ar H d^.ext^XF d [(f,y)]) a^.ext^XO a C^P3 d) B->Q () B):wpAny (model X.prog X.w) A (setAttr (.ref a) f u) Q E s:=by
 let#[#[N,O,D,P,R],_]:=(show ObjOk X.prog X.w H s.heap a _ from I.hok a _ e);refine R0 I.kIn c D n λh' t' F S l=>?_;have G:H s.heap.objs.size=n_:=I.hok.fresh^Rs _;have T:s.heap.objs.size≠a:=iV^T0 D;have lt:∀{b:Db}{o:Obj},s.heap.get? b=P3 o->b≠s.heap.objs.size:=λ{b o} q=>fQ^T0 q;have p:∀{b:Db},H b=n_->b≠a:=λ{b} q z=>by rw[z,e]at q;cases q
 have of:∀{b:Db}{u:HO},H b=P3 u->(∀j,u≠.ext j)->Ar (Ar H s.heap.objs.size^.ext^XF s.heap.objs.size [(f,y)]) a (.ext^XO a C^P3 s.heap.objs.size) b=P3 u:=λ{b u} q W=>by
  rw[AM (λz=>by rw[z,e]at q;exact W _ (fG q).symm),AM λz=>by rw[z,G]at q;cases q];exact q
 refine h s.heap.objs.size _ G T^I.un (h':=h') (t':=t') #[λb o q n _ _=>l b o (p n) q,λb o q n _ _=>#[o.slots,l b o (p n) q],λb o q n _=>?_,λb o q _=>?_,λb J q=>of q (by intro j z;cases z),λb o J q=>of q (by intro j z;cases z),λb ps q=>#[#[],by rw[of q^by intro j z;cases z];simp]] ?_
 .rw[AM^p n,AM^lt q];exact n
 .by_cases z:b=a
  .rw[z];exact#[_,F]
  .exact#[o,l b o z q]
 .intro b o q
  by_cases z:b=a
  .subst z
   rw[AR]at q;cases q;exact XO.ok #[N,O,F,P,R]
  .rw [AM z]at q
   by_cases L:b=s.heap.objs.size
   .subst L
    rw[AR]at q;cases q;refine XF.ok #[_,S,λg=>?_,λg Y=>?_,by simp]
    .by_cases i:g=f
     .rw[if_pos i]
      have t:(g==f)=o_:=beq_iff_eq.mpr i;simp only[ir,t];exact M
     .rw[if_neg i]
      have t:(g==f)=p_:=beq_eq_false_iff_ne.mpr i;simp only[ir,t];trivial
    .by_cases i:g=f
     .simp[i]
     .exact absurd (if_neg i) Y
   .rw[AM L]at q
    refine(I.hok b o q).stay (λx v m r=>l x v ?_ r) (λx r=>of r^by intro j z;cases z) λx J r=>of r^by intro j z;cases z
    rcases m with rfl|m
    .exact z
    .intro zz;rw[zz,e]at m;cases m
def Rx{d:Db}{i:q_ (Str×V)}{y:V}{u:Ev}{Q:Unit->No->Prop}(I:Inv X zH Z H s)(e:H a=P3^.ext^XO a C^P3 d)(k:H d=P3^.ext^XF d i)(c:XC X.K nm C U)(n:F3 X.K C f)(v:RelV y u)(O:i.length<1000)
  (h:∀l,Inv X zH Z (Ar H d^.ext^XF d^EZ f y i) l->Q () l):wpAny (model X.prog X.w) A (setAttr (.ref a) f u) Q E s:=by
 let#[#[P,R,B,S,T],_]:=(show ObjOk X.prog X.w H s.heap a _ from I.hok a _ e);let#[#[m,D,r,p,_],_]:=(show ObjOk X.prog X.w H s.heap d _ from I.hok d _ k);refine Rz I.kIn c B D p (by rw[FM,fz];lk) n λF W t G=>h _ ?_;have J:∃o,F.get? d=P3 o:=let #[o,_,_,L,_]:=t;#[o,L]
 refine I.write (x:=d) (e:=d) (by rw[k];exact iW) (.inl rfl) (λb q M z=>(G.2 b M).trans z) J^XF.ok #[_,t,λg=>?_,λg N=>?_,?_]
 .show RelO ((EZ f y i).lookup g) (if g=f then P3 u else m g)
  rw[HZ]
  by_cases q:g=f
  .rw[if_pos q,if_pos q];exact v
  .rw[if_neg q,if_neg q];exact r g
 .by_cases q:g=f
  .rw[q];exact(HB f y i).1
  .refine(HB f y i).2 g^p g λz=>N ?_
   show(if g=f then P3 u else m g)=n_;rw[if_neg q];exact z
 .have:=Hb f y i;lk
end
def eZ(C:Db)(b c:TE)(f:Str):TS:=λD Z H=>c Z H λy e=>b Z e λx H2=>∃a,x=.ref a/\H2 a=P3^.ext^XO a C n_/\∀d,H2 d=n_->d≠a->D.nx Z^Ar (Ar H2 d^.ext^XF d [(f,y)]) a^.ext^XO a C^P3 d
def eY(C:Db)(c e:TE)(f:Str):TS:=λD Z H=>e Z H λy g=>c Z g λx H2=>∃a d b,x=.ref a/\H2 a=P3^.ext^XO a C^P3 d/\H2 d=P3^.ext^XF d b/\b.length<1000/\D.nx Z^Ar H2 d^.ext^XF d^EZ f y b
section
variable {X:Cx}{o value:Expr}{nm f:Str}{C U:Addr}{pos pos':Pos}{ta tv:TE}
def Z9(c:XC X.K nm C U)(n:F3 X.K C f)(e:PE X o ta)(g:PE X value tv)(i:swapsWith value (P3^.Attribute o f pos') pos.line X.env=pure p_):PS X (.Assign [.Attribute o f pos'] value pos)^eZ C ta tv f:=by
 intro B s Z H D I h;refine kd (thn (g _ s Z H _ I h) λu j zz=>?_) i;let#[y,k,l,m,q]:=zz;refine thn (e _ j Z k _ l q) λp E zz=>?_;let#[x,H2,r,t,a,ex,v,w]:=zz;subst ex;obtain rfl:p=fI a:=t;exact Ry r v c n m λd F z b A=>#[Z,_,A,w d z b]
def Z8(c:XC X.K nm C U)(n:F3 X.K C f)(b:PE X o ta)(e:PE X value tv)(g:swapsWith value (P3^.Attribute o f pos') pos.line X.env=pure p_):PS X (.Assign [.Attribute o f pos'] value pos)^eY C ta tv f:=by
 intro B s Z H D I h;refine kd (thn (e _ s Z H _ I h) λu i zz=>?_) g;let#[y,j,k,m,q]:=zz;refine thn (b _ i Z j _ k q) λp E zz=>?_;let#[x,H2,r,t,a,d,F,ex,v,w,l,z]:=zz;subst ex;obtain rfl:p=fI a:=t;exact Rx r v w c n m l λG A=>#[Z,_,A,z]
end
def del(H:Hp)(a:Db):Hp:=λb=>if b=a then n_ else H b
def JT{H:Hp}{a b:Db}(h:b≠a):del H a b=H b:=if_neg h
def E6{H:Hp}{a:Db}:del H a a=n_:=if_pos rfl
section
variable {X:Cx}{zH:q_ (Addr×Obj)}{Z:St}{H H1:Hp}{s s1:Shared}{a C:Addr}{dx:r_ Addr}
def aa(I:Inv X zH Z H s)(A:s1.os=s.os)(f:jk s1.gens)(u:Un (Kj X.stack) [] H H1 s.heap s1.heap)(h:HOk X.prog X.w H1 s1.heap)(k:H1 a=P3^.ext^XO a C dx)(i:s.heap.objs.size<=a):
  CXD X.prog X.w X.stack H s a C dx (PySem.W.hideAll s1.heap (a::Kj X.stack)) (del H1 a) s1:=by
 have J:Inv X zH Z H1 s1:=I.call' A u h f λb z=>absurd z (by simp);have E:∀{b:Db}{u:HO},H1 b=P3 u->(∀g,u≠.ext g)->b≠a:=λ{b u} q p z=>by rw[z,k]at q;exact p _ (fG q).symm
 have of:∀{b:Db}{u:HO},H1 b=P3 u->(∀g,u≠.ext g)->del H1 a b=P3 u:=λq p=>(JT^E q p).trans q;have B:∀{b:Db}{u:HO},H1 b=P3 u->b∉Kj X.stack:=λ{b u} q z=>by rw[J.stkFree b z]at q;cases q
 let#[#[F,G,t,K,L],_]:=(show ObjOk X.prog X.w H1 s1.heap a _ from h a _ k);refine#[A,f,#[u.keep,u.slot,λb o q n t=>?_,u.there,λb j q=>of (u.tups b j q) (by intro g z;cases z),λb o j q=>of (u.frzs b o j q) (by intro g z;cases z),λb M q=>?_],λb o q=>?_,λb o P q x N=>?_,#[λb o q=>PySem.W.of_hideAll _ q,PySem.W.hideAll_none _^by simp,PySem.W.funFrames_hide J.stack λy O b x=>?_,F,G,.none,t,K,L,.inl rfl],i,E6]
 .by_cases z:b=a
  .rw[z];exact E6
  .rw[JT z];exact u.free b o q n t
 .let#[m,e]:=u.tbls b M q
  exact#[m,of e^by intro g z;cases z]
 .have D:b≠a:=λz=>by rw[z,E6]at q;cases q
  rw[JT D]at q;refine(h b o q).stay (λc v d r=>PySem.W.hideAll_get _ r λz=>?_) (λc r=>of r^by intro g z;cases z) λc j r=>of r^by intro g z;cases z
  rcases Tk.mp z with z|z
  .rcases d with d|d
   .exact D^d.symm.trans z
   .rw[z,k]at d;cases d
  .rcases d with d|d
   .exact B q (d▸z)
   .exact B d z
 .refine PySem.W.hideAll_get _ N λz=>?_
  rcases Tk.mp z with z|z
  .exact absurd (T0 q)^by rw[z];exact jV.mpr i
  .exact x z
 .exact Sc _^lN.mpr #[y,O,x]
end
def XS(X:Cx)(a:q_ (Db×Obj))(Z:St)(R:XK)(e:Ev)(b:No):Prop:=∃H s,Inv X a Z H s/\RF X.prog X.w X.stack H s R e b
def Made(X:Cx)(e:q_ (Db×Obj))(Z:St)(C:Db)(R:XK)(v:Ev)(b:No):Prop:=∃a d H s c,v=.ref a/\Inv X e Z H s/\b.os=s.os/\jk b.gens/\Un (Kj X.stack) [] H c s.heap b.heap/\HOk X.prog X.w c b.heap/\c a=P3^.ext^XO a C d/\s.heap.objs.size<=a/\R (.ref C) d^del c a
section
variable {X:Cx}{zH:q_ (Addr×Obj)}{Z:St}{s:Shared}{C U:Addr}{nm:Str}{R:XK}
def KP{e:fZ}{pos:Pos}{Q:Flow->No->Prop}{i:Ev->No->Prop}(c:XC X.K nm C U)(D:X.A.handled=n_)(h:wpAny (model X.prog X.w) X.A (eval e X.env) (Made X zH Z C R) i s)(E:∀e t,XS X zH Z R e t->i e t):
  wpAny (model X.prog X.w) X.A (exec (.Raise (P3 e) n_ pos) X.env) Q i s:=by
 let#[q,N,F,G,m,H,n,L,M,O,P,S,T,V]:=c.obj
 have W:wpAny (model X.prog X.w) X.A (eval e X.env) (λv d=>∃e k l o,v=.ref e/\d.heap.get? C=P3^excClassObj nm q C N F (.ref U::Cd) o_ G m H n L M O P S T "ValueError.__new__" /\
   d.heap.get? e=P3 #[.ref C,k,.fields l,o]/\l[1]?=P3 .none/\i (.ref e) d) i s:=by
  refine thn h λv s1 zz=>?_;let#[a,k,Y,s0,H1,ev,I,y,f,u,g,B,p,r]:=zz;let#[#[l,o,hx,h2,h1],_]:=(g a _ B);have J:=I.call' y u g f λb z=>absurd z (by simp);exact#[a,k,l,o,ev,J.kIn _ _ V,hx,h1,E _ _ #[Y,s0,I,a,C,k,_,_,rfl,aa I y f u g B p,r]]
 first
  |exact Ch^kP (Np rfl D (Ch^ft W (λv d j=>Ch^kP^TW j) λ_ _ x=>x))
  |omega
end
def Ig(C:Db)(c f:Str):Sp:=λg H Q _=>∃a b e,g=[.ref a,b,e]/\H a=P3^.ext^XO a C n_ /\
 ∀d,H d=n_->d≠a->Q .non^Ar (Ar (Ar H d^.ext^XF d [(c,b)]) a^.ext^XO a C^P3 d) d^.ext^XF d [(c,b),(f,e)]
section
variable {X:Cx}{zH:q_ (Addr×Obj)}{Z:St}{H:Hp}{s:Shared}{C U f:Addr}{nm k1 k2 p0 p1 p2:Str}{R:XK}{E:Value->Shared->Prop}{k:Nat}{fd:FuncData}{us:q_ Value}{v1 v2:V}
def VU(c:XC X.K nm C U)(N:PySem.W.findIn X.K (.ref C) "__init__"=P3^P3^.ref f)(O:PySem.W.typeIn X.K^.ref f=P3^.type "function")(F:B8 X.prog X.w X.K X.mg X.base EU k f fd [p0,p1,p2]^Ig C k1 k2)(P:Binds X.K fd [p0,p1,p2] [])
  (Q:Room (k+1) X.A) (I:Inv X zH Z H s) (r:Vals [j,v2] us) (h:∀d,H d=n_->R (.ref C) (P3 d)^Ar H d^.ext^XF d [(k1,j),(k2,v2)]):wpAny (model X.prog X.w) X.A (call (.ref C) us) (Made X zH Z C R) E s:=by
 let#[a,g,S,t,T]:=s;have B:us.length=2:=r.length.symm;have Y:((a.push {cls:=.type "tuple",data:=.seq us.toArray}).push^Bl C a.objs.size).get? (a.objs.size+1)=P3^Bl C a.objs.size:=by unfold Bl;heap_get
 have D:∀b o,a.get? b=P3 o->((a.push {cls:=.type "tuple",data:=.seq us.toArray}).push^Bl C a.objs.size).get? b=P3 o:=λb o e=>Go _^Go _ e;have G:H (a.objs.size+1)=n_:=I.hok.fresh^fu _;have J:Inv X zH Z (Ar H (a.objs.size+1)^.ext^XO (a.objs.size+1) C n_) #[(a.push {cls:=.type "tuple",data:=.seq us.toArray}).push^Bl C a.objs.size,g,S,t,T]:=I.laid (t':=t) D (fu _)^XO.ok #[_,_,Y,rfl,rfl]
 have q:Ig C k1 k2 [.ref (a.objs.size+1),j,v2] (Ar H (a.objs.size+1)^.ext^XO (a.objs.size+1) C n_) (λv L=>v=.non/\∃d,H d=n_/\d≠a.objs.size+1 /\
   L=Ar (Ar (Ar (Ar H (a.objs.size+1)^.ext^XO (a.objs.size+1) C n_) d^.ext^XF d [(k1,j)]) (a.objs.size+1)^.ext^XO (a.objs.size+1) C^P3 d) d^.ext^XF d [(k1,j),(k2,v2)]) E0:=
  #[_,j,v2,rfl,AR,λd m i=>#[rfl,d,by rw[AM i]at m;exact m,i,rfl]]
 have r2:Vals [V.ref (a.objs.size+1),j,v2] (fI (a.objs.size+1)::(us++[])):=by rw[fh];exact .cons rfl r
 refine iK^TX (K:=X.K) (U:=U) (nm:=nm) I.kIn c N O (by rw[B];decide)^jJ (F.run _ X.stack _ _ #[fI (a.objs.size+1)::us,[]] _ _ _ E0 (Q.make C us []) (J.env0.make C us []) (P _ (fI (a.objs.size+1)::us) J.kIn^by simp[B]) r2 q) λrr s' M=>?_
 rcases rr with e|(u|_|_|_) <;>first|exact gC M|skip
 let#[v,L,x,l,un,y,rv,ev,d,m,i,eH]:=M;subst ev;subst eH;exists rv,a.objs.size+1,P3 d,H,_,_,rfl,I,x,l,(Un.laid D (fu _) G).trans un,y,by rw[AM i.symm,AR],fu _
 have e:del (Ar (Ar (Ar (Ar H (a.objs.size+1)^.ext^XO (a.objs.size+1) C n_) d^.ext^XF d [(k1,j)]) (a.objs.size+1)^.ext^XO (a.objs.size+1) C^P3 d) d^.ext^XF d [(k1,j),(k2,v2)]) (a.objs.size+1)=Ar H d^.ext^XF d [(k1,j),(k2,v2)]:=by
  funext b
  by_cases z:b=a.objs.size+1
  .rw[z,E6,AM i.symm,G]
  .rw[JT z]
   by_cases n:b=d
   .rw[n,AR,AR]
   .rw[AM n,AM z,AM n,AM z,AM n]
 rw[e];exact h d m
def VW(c:XC X.K nm C U)(j:PySem.W.findIn X.K (.ref C) "__init__"=P3^P3^.builtin "ValueError.__init__")(I:Inv X zH Z H s)(k:us.length<=sizeLine)(h:R (.ref C) n_ H):wpAny (model X.prog X.w) X.A (call (.ref C) us) (Made X zH Z C R) E s:=by
 let#[a,g,n,t,o]:=s;have d:=I.hok.fresh^fu _;refine iK^Qv (K:=X.K) (U:=U) (nm:=nm) I.kIn c j k λp i l=>?_;have m:Inv X zH Z (Ar H (a.objs.size+1) _) _:=I.laid (t':=t) i (fu _)^XO.ok #[_,_,l,rfl,rfl];exists a.objs.size+1,n_,H,_,_,rfl,I,rfl,I.bare,Un.laid i (fu _) d,m.hok,AR,fu _
 have e:del (Ar H (a.objs.size+1)^.ext^XO (a.objs.size+1) C n_) (a.objs.size+1)=H:=by
  funext b
  by_cases z:b=a.objs.size+1
  .rw[z,E6,d]
  .rw[JT z,AM z]
 grind
end
abbrev WL:=Ends->XK->St->Hp->Prop
abbrev RI:=XK->St->Hp->VK->Prop
def XE(X:Cx)(b:q_ (Db×Obj))(Z:St)(R:XK)(e:Ev)(a:No):Prop:=X.xe e a\/XS X b Z R e a
def ZM(X:Cx)(st:gJ)(t:WL):Prop:=
 ∀(a:q_ (Db×Obj)) (s:No) (Z:St) (H:Hp) (D:Ends) (R:XK),Inv X a Z H s->t D R Z H->wpAny (model X.prog X.w) X.A (exec st X.env) (SP X a D) (XE X a Z R) s
def Y9(X:Cx)(st:q_ gJ)(t:WL):Prop:=
 ∀(a:q_ (Db×Obj)) (s:No) (Z:St) (H:Hp) (D:Ends) (R:XK),Inv X a Z H s->t D R Z H->wpAny (model X.prog X.w) X.A (execs st X.env) (SP X a D) (XE X a Z R) s
def bX(X:Cx)(e:fZ)(t:RI):Prop:=
 ∀(a:q_ (Db×Obj)) (s:No) (Z:St) (H:Hp) (Q:VK) (R:XK),Inv X a Z H s->t R Z H Q->wpAny (model X.prog X.w) X.A (eval e X.env) (EP X a Z Q) (XE X a Z R) s
section
variable {X:Cx}{st:Stmt}{t u:WL}{te:RI}{e:Expr}{es:q_ Expr}{ta:TA}{x nm k1 k2 p0 p1 p2:Str}{p pos cpos:Pos}{C U f:Addr}{k:Nat}{fd:FuncData}{ps:q_ Str}{sp:Sp}
def Xi{a:Type}{t:Sem a}{Q:a->No->Prop}{b:q_ (Db×Obj)}{Z:St}{R:XK}{s:No}(h:wpAny (model X.prog X.w) X.A t Q X.xe s):wpAny (model X.prog X.w) X.A t Q (XE X b Z R) s:=ft h (λ_ _ z=>z) λ_ _ z=>.inl z
def QH{R:XK}(hx:HJ (RF X.prog X.w) X R)(h:ZM X st t):PS X st (λD=>t D R):=λb s Z H D I q=>
 ft (h _ s Z H D R I q) (λ_ _ z=>z) λe a z=>z.elim id fun#[H,s,J,c]=>hx _ Z H s e a J c
def SM(a:ZM X st t):Y9 X [st] t:=by
 intro c s Z H D R I h;refine lr^ft (a _ s Z H D R I h) (λf d q=>?_) λ_ _ z=>z;cases f with
 |next=>
  let#[e,b,J,q]:=q;exact jT #[_,b,J,q]
 |brk=>exact q
 |cont=>exact q
 |ret v=>exact q
def Ut(C:Db)(k1 k2:Str)(ta:TA):WL:=λ_ R Z H=>ta Z H λe a=>∃b c,e=[b,c]/\∀d,a d=n_->R (.ref C) (P3 d)^Ar a d^.ext^XF d [(k1,b),(k2,c)]
def Uu(C:Db)(ta:TA):WL:=λ_ R Z H=>ta Z H λa b=>a.length<=sizeLine/\R (.ref C) n_ b
def Nu(c:XC X.K nm C U)(i:PySem.W.findIn X.K (.ref C) "__init__"=P3^P3^.ref f)(j:PySem.W.typeIn X.K^.ref f=P3^.type "function")(F:B8 X.prog X.w X.K X.mg X.base EU k f fd [p0,p1,p2]^Ig C k1 k2)(l:Binds X.K fd [p0,p1,p2] [])
  (d:Room (k+1) X.A) (m:Gl X x) (n:X.mg x=P3^.ref C) (o:PA X (e::es) ta) (a:(x==("__debug__":Str))=p_:=by cbv) (u:starEach (e::es) X.env=(p_,eval e X.env)::starEach es X.env:=by rfl) (b:(backTo cpos^starEach es X.env).any (·.1)=p_:=by rfl):
  ZM X (.Raise (P3^.Call (.Name x p) (e::es) [] cpos) n_ pos) (Ut C k1 k2 ta):=by
 intro y s Z H D R I h;refine KP c d.hd ?_ λ_ _ z=>.inr z;refine gc^Dn I m n ?_ a;refine PySem.W.callWith_K I.ok.mod.kin c.kp (thn (Xi^o _ _ s Z H _ I h) λB E zz=>?_) u b;let#[G,J,g,r,L,M,v,q]:=zz;refine #[g.kIn,?_];subst v;exact VU c i j F l d g r q
def Nv(c:XC X.K nm C U)(g:PySem.W.findIn X.K (.ref C) "__init__"=P3^P3^.builtin "ValueError.__init__")(i:X.A.handled=n_)(j:Gl X x)(k:X.mg x=P3^.ref C)(l:PA X (e::es) ta)(a:(x==("__debug__":Str))=p_:=by cbv)(m:starEach (e::es) X.env=(p_,eval e X.env)::starEach es X.env:=by rfl)(b:(backTo cpos^starEach es X.env).any (·.1)=p_:=by rfl):
  ZM X (.Raise (P3^.Call (.Name x p) (e::es) [] cpos) n_ pos) (Uu C ta):=by
 intro o s Z H D R I h;exact KP c i (gc^Dn I j k (PySem.W.callWith_K I.ok.mod.kin c.kp (thn (Xi^l _ _ s Z H _ I h) λu v #[w,y,d,r,n,q]=>#[d.kIn,VW c g d (by rw[fW,←r.length];exact n) q]) m b) a) λ_ _ z=>.inr z
def Xp(sp:Sp)(ta:TA):RI:=λR Z H Q=>ta Z H λa b=>sp a b Q R
def SX(F:B8 X.prog X.w X.K X.mg X.base (RF X.prog X.w) k f fd ps sp)(m:Room k X.A)(n:Gl X x)(o:X.mg x=P3^.ref f)(v:keepIn X.K^.ref f=o_)(y:Binds X.K fd ps [])
  (z:PA X (e::es) ta) (d:(x==("__debug__":Str))=p_:=by cbv) (B:starEach (e::es) X.env=(p_,eval e X.env)::starEach es X.env:=by rfl) (g:(backTo pos^starEach es X.env).any (·.1)=p_:=by rfl):
  bX X (.Call (.Name x p) (e::es) [] pos) (Xp sp ta):=by
 intro D s Z H Q R I h;refine gc^Dn I n o ?_ d;refine PySem.W.callWith_K (h₀:=X.base) I.ok.mod.kin v (thn (Xi^z pos D s Z H _ I h) λa i zz=>?_) B g;let#[j,l,b,r,q]:=zz;refine #[b.kIn,?_];have E:(a++[]).length=ps.length:=by rw[fh,←r.length];exact F.len _ _ _ _ q
 have G:Vals j (a++[]):=by grind
 refine iK^jJ (F.run X.A X.stack i l #[a,[]] (a++[]) j Q R m b.env0 (y i a b.kIn E) G q) λr L c=>?_;cases r with
 |error e=>exact .inr #[l,i,b,c]
 |ok J=>
  cases J with
  |ret u=>exact b.after c
  |next=>exact gC c
  |brk=>exact gC c
  |cont=>exact gC c
def Za(i:Nat)(te:RI):WL:=λD R Z H=>te R Z H λv a=>D.nx (Z.set i^P3 v) a
def U4{i:Nat}{y:Str}{a:Pos}(b:X.N.Nodup)(c:X.N[i]?=P3 y)(d:Loc X.env.scope y)(g:bX X e te)(j:swapsWith e (P3^.Name y a) pos.line X.env=pure p_:=by rfl)(k:X.fn y=o_\/X.env.scope.names.lookup y=P3 .local:=by first|exact .inl rfl|exact .inr rfl|assumption):
  ZM X (.Assign [.Name y a] e pos) (Za i te):=λr s Z H D R I h=>wpAny_Assign_Name (thn (g _ s Z H _ R I h) λv u #[y,l,m,n,o]=>Eg m b c d n (λw q=>#[_,l,q,o]) k) j
end
def Cx.hush(X:Cx)(A:fb):Cx:={X with A:=A,calm:=p_,xe:=λ_ _=>False}
section
variable {X:Cx}{A:Around}{zH:q_ (Addr×Obj)}{Z:St}{H:Hp}{s:Shared}
def Inv.hush(I:Inv X zH Z H s)(a:A.frames=P3 X.stack):Inv (X.hush A) zH Z H s:=
 #[#[I.ok.mod,I.ok.kind,I.ok.glob,I.ok.blt,I.ok.above,I.ok.inj,I.ok.has,I.ok.cab,λz=>absurd (z) fV,a,I.ok.stk,I.ok.exf,I.ok.bs,I.ok.bsz,I.ok.noex,I.ok.exfs,I.ok.funs,I.ok.frf],I.os,I.bare,I.base,I.loc,I.cell,I.free,I.freeC,I.pin,I.hok,I.len]
def Inv.unhush(I:Inv (X.hush A) zH Z H s)(ok:X.Ok):Inv X zH Z H s:=#[ok,I.os,I.bare,I.base,I.loc,I.cell,I.free,I.freeC,I.pin,I.hok,I.len]
def Inv.track{a:Db}{o:HO}(I:Inv X zH Z H s)(n:H a=n_)(d:X.s₀.heap.objs.size<=a)(f:a≠X.env.locals)(g:∀x c,X.env.cells.lookup x=P3 c->c≠a)(h:∀p∈X.pn++zH,p.1≠a)(new:ObjOk X.prog X.w (Ar H a o) s.heap a o):
  Inv X zH Z (Ar H a o) s:=by
 have of:∀{b:Db}{u:HO},H b=P3 u->Ar H a o b=P3 u:=λ{b u} q=>by rw[AM λz=>by grind];exact q
 refine I.step (g':=s.gens) (d':=s.drawn) (t':=s.toks) (h':=s.heap) (ch:=[a]) (λb l=>?_) (λb o _ _ _ e _=>e) (λb o _ _ _ e _=>#[o.slots,e]) (λb o i _ m=>?_) (λb o _ e=>#[o,e]) (λb j e=>of e) (λb o j e=>of e) (λb r e=>#[#[],by grind]) (λm k=>k) (λb u e=>?_) I.bare
 .have e:b=a:=by grind
  subst e;exact#[.inr d,f,g,h]
 .rw[AM λz=>i^by simp[z]];exact m
 .by_cases z:b=a
  .subst z
   rw[AR]at e
   grind
  .rw[AM z]at e
   exact(I.hok b u e).stay (λ_ _ _ q=>q) (λ_ q=>of q) λ_ _ q=>of q
def Inv.gone{i:Nat}{x:Str}{v:r_ Ev}{m:Str->r_ Ev}{t:fO}{D:Nat}(I:Inv X zH Z H s)(E:X.N.Nodup)(F:X.N[i]?=P3 x)
  (G:∀(i:Nat) (x:Str) (v:V),X.N[i]?=P3 x->Z[i]?=P3^P3 v->RB X.env.scope x->∃u,RelV v u/\Look X.env s.heap m x u)
  (J:t.Ns X.env.locals λy=>if y=x then v else m y) (a:iz X.env.locals s.heap t):Inv X zH (Z.set i n_) H {s with heap:=t,toks:=D}:=by
 have f:∀{b:Db}{o:Obj},X.s₀.heap.get? b=P3 o->b≠X.env.locals:=λ{b o} e=>fQ^fc (T0 e) I.ok.above;refine#[I.ok,I.os,I.bare,#[λb o e n w l=>(a.2 b^f e).trans^I.base.keep b o e n w l,λb o e n w l=>?_,I.base.free,λb o e l=>?_,I.base.tups,I.base.frzs,I.base.tbls],#[_,J,λj y K g h L=>?_],λy c e=>?_,I.free,I.freeC,λp M=>?_,λb o e=>?_,by simpa using I.len]
 .let#[O,g]:=I.base.slot b o e n w l
  exact#[O,(a.2 b^f e).trans g]
 .let#[P,g]:=I.base.there b o e l
  exact#[P,(a.2 b^f e).trans g]
 .by_cases B:j=i
  .subst B
   rw[lZ]at h
   split at h
   .split at h <;>cases h
   .rename_i z;exact absurd rfl z
  .rw[jp^gE B]at h
   let#[Q,R,q]:=G j y K g h L;exists Q,R
   rcases q with⟨k,e⟩|⟨k,c,e,z⟩
   .refine .inl #[k,?_]
    have:y≠x:=λe=>B^I_ E g (e▸F)
    simp[this,e]
   .exact .inr #[k,c,e,z.sameBut a^I.cne y c e]
 .let#[C,z]:=I.cell y c e
  exact#[C,z.sameBut a^I.cne y c e]
 .let#[e,n,f,S,d]:=I.pin p M
  exact#[(a.2 p.1 f).trans e,n,f,S,d]
 .refine(I.hok b o e).stay (λc C r q=>(a.2 c ?_).trans q) (λ_ q=>q) λ_ _ q=>q
  rintro rfl
  rcases r with rfl|r
  .rw[I.free]at e;cases e
  .rw[I.free]at r;cases r
end
def XT(C:Db)(c:r_ Db)(a:Db)(u:HO):Prop:=∃b d,u=.frz #[.ref C,c,.fields b,d]^.own a/\b[2]?=P3 .none
abbrev TH:=Ends->Db->r_ Db->St->Hp->Prop
def PH(X:Cx)(f:q_ jv)(t:TH):Prop:=
 ∀(b:q_ (Db×Obj)) (Z:St) (D:Ends) (a C:Db) (c:r_ Db) (B:fO) (d:Hp) (e:No) (H:Hp) (s:No),Inv X b Z d e->CXD X.prog X.w X.stack d e a C c B H s->t D C c Z H->
  wpAny (model X.prog X.w) X.A (handleBy (.ref a) X.env f) (SP X b D) X.xe s
section
variable {X:Cx}{i:Nat}{n x:Str}{np pos:Pos}{b₀:Stmt}{suite body:q_ Stmt}{rest:q_ ExceptHandler}{Dc U:Addr}{nm:Str}{th:TH}{ts:Addr->TS}{tb:WL}
def Ze(K:Frag)(Dc:Db)(i:Nat)(ts:Db->TS)(th:TH):TH:=λD C d Z H=>∃nm U,XC K nm C U/\((C=Dc\/U=Dc)/\(∀a u,H a=n_->XT C d a u->ts a {nx:=λb c=>D.nx (b.set i n_) c,rt:=D.rt,bk:=λb c=>D.bk (b.set i n_) c,ct:=λb c=>D.ct (b.set i n_) c} (Z.set i^P3^.ref a)^Ar H a u)\/C≠Dc/\U≠Dc/\th D C d Z H)
def ZP(K:Frag)(D:Db):Prop:=∃nm q N d c e f a g b h j k l m o,K.lookup D=P3^excClassObj nm q D N d c e f a g b h j k l m o "ValueError.__new__"/\c.contains^.type "BaseException"=o_
def XC.isX{K:Frag}{C:Db}(c:XC K nm C U):ZP K C:=by
 let#[q,N,a,b,d,f,g,h,j,k,l,m,o,e]:=c.obj;exact#[nm,q,N,a,_,_,b,_,f,_,h,j,k,l,m,o,e,by simp[Cd]]
def XC.isU{K:Frag}{C:Db}(c:XC K nm C U):ZP K U:=by
 let#[q,N,a,b,d,f,g,h,j,k,l,m,o,p,e]:=c.up;exact#[_,q,N,a,_,_,b,_,f,_,h,j,k,l,m,o,e,by simp[Cd]]
def Hl{C U D:Db}:(fI C::fI U::Cd).contains^.ref D=(decide (C=D)||decide (U=D)):=by
 simp only[List.contains_cons,Cd,List.contains_nil]
 have d:∀(a b:Db),(fI a==fI b)=decide (b=a):=λa b=>by
  grind
 have c:∀T,(fI D==gB T)=p_:=λT=>rfl;rw[d,d,c,c,c,c];simp
def VA(hN:X.N.Nodup)(hi:X.N[i]?=P3 n)(R:X.env.scope.names.lookup n=P3 .local)(hg:Gl X x)(hm:X.mg x=P3^.ref Dc)(hD:ZP X.K Dc)(a4:X.stack=X.env::X.outer)(a5:X.env.frame=P3 X.env.locals)
  (hs:∀a,PSs (X.hush^X.A.mark^P3^.ref a) (b₀::suite)^ts a) (o:PH X rest th) (hd:(x==("__debug__":Str))=p_:=by cbv):
  PH X (.ExceptHandler (P3^.Name x np) (P3 n) (b₀::suite) pos::rest) (Ze X.K Dc i ts th):=by
 intro t Z D a C dx B H0 s0 H s I c h;let#[nm,U,xc,h]:=h;have J:=c.inv I;have E:(X.A.mark^P3^.ref a).frames=P3 X.stack:=I.ok.frames;have J':=J.hush E;refine wpAny_handleBy_cons (codeAny_handlers_test ?_) (by intro q;cases q);refine Dn (X:=X.hush^X.A.mark^P3^.ref a) J' hg hm ?_ hd;let#[a6,q',N',a7,a8,a9,b0,a2,b1,a3,b2,l0,l1,l2,l3,l5,eD,hB]:=hD;let#[q,N,bs,sn,b3,ab,b4,dd,k0,k1,k2,k3,k5,eC]:=xc.obj;let#[vs,sl,tb,hx,h2,h1,hT]:=c.fly.obj;let#[hh,g,dr,tk,os]:=s;refine Qu (J.kIn _ _ eC) (J.kIn _ _ eD) hB hx rfl ?_;rw[Hl]
 rcases h with⟨S,h⟩|⟨n1,n2,h⟩
 .have e:(decide (C=Dc)||decide (U=Dc))=o_:=by rcases S with z|z <;>simp[z]
  rw[e];refine codeAny_handlers_suite_as ?_;refine Fw (s:=#[hh,g,dr,tk,os]) c.fly λh' f' u'=>?_;have c2:=c.step f' u';have J2:=c2.inv I;let#[F,G,b5,L,T,_]:=f'.obj
  have J3:Inv X t Z (Ar H a^.frz #[.ref C,dx,.fields F,G]^.own a) #[h',g,dr,tk,os]:=by
   refine J2.track c.free (fJ I.sz c.new) (iV^fc I.lt c.new) (λy c' e z=>?_) (λp hp z=>?_) #[L,_,L]
   .let#[v,q]:=I.cell y c' e
    exact absurd (fc q.lt c.new)^by rw[z];exact gM _
   .exact absurd (fc (T0 (I.pin p hp).1) c.new)^by rw[z];exact gM _
  refine Eg J3 hN hi (.inl R) (v:=.ref a) (u:=.ref a) rfl (λs4 J4=>?_) (.inr R);have V:=hs a t s4 _ _ _ (J4.hush E)^h a _ c.free #[F,G,rfl,T];refine ft V (λf W O=>?_) λe W z=>z.elim
  have j:∀{k:St}{b:Hp}{P:St->Hp->Prop}{Q:No->Prop},Inv (X.hush^X.A.mark^P3^.ref a) t k b W->P (k.set i n_) b->(∀l,Inv X t (k.set i n_) b l->Q l)->
    wpAny (model X.prog X.w) X.A (do bindName X.env n .none;unbindBehindTheSuite X.env n pos) (λ_ l=>Q l) X.xe W:=λ{k b P Q} d _ kq=>by
   let#[m,hn,Y]:=d.loc;refine wpAny_nameGoes_keeps (M:=model X.prog X.w) R hn (by show(X.env.scope.kind==.class||(X.env.scope.kind==.module&&X.env.locals !=X.env.globals))=p_;rw[I.ok.kind];rfl) λh6 v a0 a1=>?_;exact kq _^(d.unhush I.ok).gone hN hi Y a0 a1
  cases f with
  |next=>
   let#[k,b,d,q]:=O;exact j (P:=D.nx) d q λl r=>#[_,b,r,q]
  |brk=>
   let#[k,b,d,q]:=O;exact j (P:=D.bk) d q λl r=>#[_,b,r,q]
  |cont=>
   let#[k,b,d,q]:=O;exact j (P:=D.ct) d q λl r=>#[_,b,r,q]
  |ret u=>
   let#[v,k,b,d,rv,q]:=O;exact j (P:=λ_ b=>D.rt v b) d q λl r=>#[v,_,b,r,rv,q]
 .have e:(decide (C=Dc)||decide (U=Dc))=p_:=by simp[n1,n2]
  rw[e];exact o t Z D a C dx B H0 s0 H _ I c h
def Xl:TH:=λ_ _ _ _ _=>False
def X5:PH X [] Xl:=λ_ _ _ _ _ _ _ _ _ _ _ _ _ h=>h.elim
def cQ(tb:WL)(th:TH):TS:=λD Z H=>tb D (λC b c=>∃a,C=.ref a/\th D a b Z c) Z H
def X3{b:jv}(d:X.stack=X.env::X.outer)(g:X.env.frame=P3 X.env.locals)(hx:∀e s,X.xe e s->False)(o:Y9 X body tb)(p:PH X (b::rest) th):PS X (.Try body (b::rest) [] [] pos)^cQ tb th:=by
 intro k s Z H D I h;refine wpAny_Try_except^ft (o k s Z H D _ I h) (λf l q=>?_) λe l q=>?_
 .cases f with
  |next=>exact jT q
  |_=>exact q
 .rcases q with q|⟨r,t,u,a,C,v,B,w,rfl,c,L,y,j⟩
  .grind
  .cases y
   have m:=c.fly;rw[d]at m;have fr:=I.ok.frames;rw[d]at fr;refine M9 fr g m λz A E=>?_;have F:=c.step (by grind) E;refine Fw (s:={l with heap:=z}) A λM G J=>?_;have K:=F.step (by rw[d];exact G) J;exact p k Z D a C v B r t w _ u K j
end
end L2
namespace Dp
open L2
inductive D where
 |non|bl (b:Bool)|int (i:Int)|str (x:Str)|tup (xs:List D)|lst (xs:List D)|dic (ks:List Key) (xs:List D)|fdi (ks:List Key) (xs:List D)|dit (ks:List^List Key) (xs:List D)
 deriving Inhabited
def NdT(M:Db->Prop)(H:Hp)(a:Db)(b:q_ V):Prop:=H a=P3^.tup b
def NdL(M:Db->Prop)(H:Hp)(a:Db)(b:q_ V):Prop:=¬M a/\H a=P3^.lst b
def NdD(M:Db->Prop)(H:Hp)(a:Db)(b:q_ Key)(c:q_ V):Prop:=¬M a/\H a=P3^.dK^b.zip c
def NdF(M:Db->Prop)(H:Hp)(a:Db)(b:q_ Key)(c:q_ V):Prop:=∃o,¬M a/\H a=P3^.frz o^.dK^b.zip c
def NdU(M:Db->Prop)(H:Hp)(a:Db)(b:q_^q_ Key)(c:q_ V):Prop:=¬M a/\H a=P3^.dT^b.zip c
mutual
def At(K:Frag)(M:Db->Prop)(H:Hp):D->V->Prop
 |.non,v=>v=.non
 |.bl b,v=>v=.bl b
 |.int i,v=>v=.int i
 |.str x,v=>v=.str x/\x.length<=sizeLine
 |.tup ds,v=>∃a vs,v=.ref a/\NdT M H a vs/\Ats K M H ds vs
 |.lst ds,v=>∃a vs,v=.ref a/\NdL M H a vs/\Ats K M H ds vs
 |.dic ks ds,v=>∃a vs,v=.ref a/\NdD M H a ks vs/\ks.length=ds.length/\Ats K M H ds vs
 |.fdi ks ds,v=>∃a vs,v=.ref a/\NdF M H a ks vs/\ks.length=ds.length/\Ats K M H ds vs
 |.dit ks ds,v=>∃a vs,v=.ref a/\NdU M H a ks vs/\ks.length=ds.length/\Ats K M H ds vs
def Ats(K:Frag)(M:Db->Prop)(H:Hp):q_ D->q_ V->Prop
 |[],vs=>vs=[]
 |d::ds,vs=>∃v r,vs=v::r/\At K M H d v/\Ats K M H ds r
end
section
variable {K:Frag}{M M':Addr->Prop}{H H':Hp}{a:Addr}{vs:q_ V}{ks:q_ Key}
def NdT.sq(h:NdT M H a vs):SqT K H a vs:=.inl^.inl h
def NdL.sq(h:NdL M H a vs):SqL K H a vs:=.inl^.inl h.2
def Pres(M:Db->Prop)(H:Hp)(M':Db->Prop)(H':Hp):Prop:=(∀b o,H b=P3 o->¬M b->H' b=P3 o)/\(∀b,M' b->M b\/H b=n_)/\∀b vs,H b=P3^.tup vs->H' b=P3^.tup vs
def Pres.nd{u:HO}(p:Pres M H M' H')(n:¬M a)(h:H a=P3 u):¬M' a/\H' a=P3 u:=by
 refine#[λz=>?_,p.1 _ _ h n]
 rcases p.2.1 a z with z|z
 .exact n z
 grind
def NdT.pres(p:Pres M H M' H')(h:NdT M H a vs):NdT M' H' a vs:=p.2.2 _ _ h
def NdL.pres(p:Pres M H M' H')(h:NdL M H a vs):NdL M' H' a vs:=p.nd h.1 h.2
def NdD.pres(p:Pres M H M' H')(h:NdD M H a ks vs):NdD M' H' a ks vs:=p.nd h.1 h.2
def NdU.pres{ks:q_^q_ Key}(p:Pres M H M' H')(h:NdU M H a ks vs):NdU M' H' a ks vs:=p.nd h.1 h.2
def NdF.pres(p:Pres M H M' H')(h:NdF M H a ks vs):NdF M' H' a ks vs:=let #[o,b,c]:=h;#[o,p.nd b c]
mutual
theorem At.pres(p:Pres M H M' H'):∀{d:D}{v:V},At K M H d v->At K M' H' d v
 |.non,v,h=>h
 |.bl b,v,h=>h
 |.int i,v,h=>h
 |.str x,v,h=>h
 |.tup ds,v,h=>by
  let#[a,vs,e,hn,hs]:=h;exact#[a,vs,e,hn.pres p,Ats.pres p hs]
 |.lst ds,v,h=>by
  let#[a,vs,e,hn,hs]:=h;exact#[a,vs,e,hn.pres p,Ats.pres p hs]
 |.dic ks ds,v,h=>by
  let#[a,vs,e,hn,hl,hs]:=h;exact#[a,vs,e,hn.pres p,hl,Ats.pres p hs]
 |.fdi ks ds,v,h=>by
  let#[a,vs,e,hn,hl,hs]:=h;exact#[a,vs,e,hn.pres p,hl,Ats.pres p hs]
 |.dit ks ds,v,h=>by
  let#[a,vs,e,hn,hl,hs]:=h;exact#[a,vs,e,hn.pres p,hl,Ats.pres p hs]
theorem Ats.pres(p:Pres M H M' H'):∀{ds:q_ D}{vs:q_ V},Ats K M H ds vs->Ats K M' H' ds vs
 |[],vs,h=>h
 |d::ds,vs,h=>by
  let#[v,r,e,h1,h2]:=h;exact#[v,r,e,At.pres p h1,Ats.pres p h2]
end
def Pres.trans{M1 M2 d:Db->Prop}{c H2 f:Hp}(p:Pres M1 c M2 H2)(q:Pres M2 H2 d f):Pres M1 c d f:=by
 refine#[λb o e n=>?_,λb z=>?_,λb vs e=>q.2.2 b vs^p.2.2 b vs e]
 .refine q.1 b o (p.1 b o e n) λz=>?_
  rcases p.2.1 b z with z|z
  .exact n z
  grind
 .rcases q.2.1 b z with z|z
  .exact p.2.1 b z
  .cases e:c b with
   |none=>grind
   |some o=>
    by_cases n:M1 b
    .exact .inl n
    .rw[p.1 b o e n]at z;cases z
def Pres.refl(M:Db->Prop)(H:Hp):Pres M H M H:=#[λ_ _ e _=>e,λ_ z=>.inl z,λ_ _ e=>e]
def Pres.less(h:∀b,M' b->M b):Pres M H M' H:=#[λ_ _ e _=>e,λb z=>.inl^h b z,λ_ _ e=>e]
theorem Ats.length:∀{b:q_ D}{vs:q_ V},Ats K M H b vs->vs.length=b.length
 |[],vs,h=>by cases h;rfl
 |d::b,vs,h=>by
  let#[v,r,e,f,c]:=h;subst e;rw[fF,fF,Ats.length c]
theorem Ats.get:∀{b:q_ D}{vs:q_ V}{i:Nat}{d:D},Ats K M H b vs->b[i]?=P3 d->∃v,vs[i]?=P3 v/\At K M H d v
 |[],vs,i,d,h,e=>by simp at e
 |f::b,vs,0,d,h,e=>by
  let#[v,r,g,j,c]:=h
  simp_all
 |f::b,vs,i+1,d,h,e=>by
  let#[v,r,g,j,c]:=h;let#[u,k,l]:=Ats.get c^by simpa using e
  simp_all
theorem Ats.append:∀{f b:q_ D}{vs c:q_ V},Ats K M H f vs->Ats K M H b c->Ats K M H (f++b) (vs++c)
 |[],b,vs,c,h,g=>by cases h;exact g
 |d::f,b,vs,c,h,g=>by
  let#[v,r,e,i,j]:=h;subst e;exact#[v,_,rfl,i,Ats.append j g]
theorem Ats.drop:∀{b:q_ D}{vs:q_ V} (n:Nat),Ats K M H b vs->Ats K M H (b.drop n)^vs.drop n
 |b,vs,0,h=>h
 |[],vs,n+1,h=>by cases h;exact rfl
 |d::b,vs,n+1,h=>by
  let#[v,r,e,f,c]:=h;subst e;exact Ats.drop n c
theorem Ats.take:∀{b:q_ D}{vs:q_ V} (n:Nat),Ats K M H b vs->Ats K M H (b.take n)^vs.take n
 |b,vs,0,h=>rfl
 |[],vs,n+1,h=>by cases h;exact rfl
 |d::b,vs,n+1,h=>by
  let#[v,r,e,c,f]:=h;subst e;exact#[v,_,rfl,c,Ats.take n f]
def Ats.one{d:D}{v:V}(h:At K M H d v):Ats K M H [d] [v]:=#[v,[],rfl,h,rfl]
theorem Ats.eraseIdx:∀{b:q_ D}{vs:q_ V} (i:Nat),Ats K M H b vs->Ats K M H (b.eraseIdx i)^vs.eraseIdx i
 |[],vs,i,h=>by cases h;exact rfl
 |f::b,vs,0,h=>by
  let#[u,r,c,d,e]:=h
  grind
 |f::b,vs,i+1,h=>by
  let#[u,r,c,d,e]:=h;subst c;exact#[u,_,rfl,d,Ats.eraseIdx i e]
theorem Ats.reverse:∀{b:q_ D}{vs:q_ V},Ats K M H b vs->Ats K M H b.reverse vs.reverse
 |[],vs,h=>by cases h;exact rfl
 |d::b,vs,h=>by
  let#[v,r,e,c,f]:=h;subst e;rw[jh,jh];exact Ats.append (Ats.reverse f)^Ats.one c
end
inductive Kd where
 |sh|tp|fr
def Tops(K:Frag)(M:Db->Prop)(H:Hp)(a:Db):D->Prop
 |.lst c=>∃b,H a=P3^.lst b/\Ats K M H c b
 |.dic d c=>∃b,H a=P3^.dK^d.zip b/\d.length=c.length/\Ats K M H c b
 |.dit d c=>∃b,H a=P3^.dT^d.zip b/\d.length=c.length/\Ats K M H c b
 |_=>False
def Tops.notT{K:Frag}{M:Db->Prop}{H:Hp}{a:Db}{d:D}(h:Tops K M H a d){f:q_ V}:H a≠P3^.tup f:=λq=>by
 cases d with
 |lst b=>let#[c,e,_]:=h;grind
 |dic g b=>let#[c,e,_]:=h;grind
 |dit g b=>let#[c,e,_]:=h;grind
 |_=>exact h.elim
def Tops.pres{K:Frag}{M j:Db->Prop}{H g:Hp}{a:Db}{d:D}(h:Tops K M H a d)(p:Pres M H j g)(e:∀o,H a=P3 o->g a=P3 o):Tops K j g a d:=by
 cases d with
 |lst k=>let#[b,c,f]:=h;exact#[b,e _ c,f.pres p]
 |dic l k=>let#[b,c,f,i]:=h;exact#[b,e _ c,f,i.pres p]
 |dit l k=>let#[b,c,f,i]:=h;exact#[b,e _ c,f,i.pres p]
 |_=>assumption
def Tops.at{K:Frag}{M:Db->Prop}{H:Hp}{a:Db}{d:D}(h:Tops K M H a d)(n:¬M a):At K M H d^.ref a:=by
 cases d with
 |lst g=>let#[b,c,e]:=h;exact#[a,b,rfl,#[n,c],e]
 |dic i g=>let#[b,c,e,f]:=h;exact#[a,b,rfl,#[n,c],e,f]
 |dit i g=>let#[b,c,e,f]:=h;exact#[a,b,rfl,#[n,c],e,f]
 |_=>exact(h).elim
def AtT(K:Frag)(U:Db->Prop)(M:Db->Prop)(H:Hp):D->V->Prop
 |.lst c,v=>∃a b,v=.ref a/\¬U a/\Rd H a^.lst b/\Ats K M H c b
 |.dic e c,v=>∃a b,v=.ref a/\¬U a/\H a=P3^.dK^e.zip b/\e.length=c.length/\Ats K M H c b
 |.dit e c,v=>∃a b,v=.ref a/\¬U a/\H a=P3^.dT^e.zip b/\e.length=c.length/\Ats K M H c b
 |d,v=>At K M H d v
def Tops.att{K:Frag}{U M:Db->Prop}{H:Hp}{a:Db}{d:D}(h:Tops K M H a d)(n:¬U a):AtT K U M H d^.ref a:=by
 cases d with
 |lst g=>let#[b,c,e]:=h;exact#[a,b,rfl,n,.inl c,e]
 |dic i g=>let#[b,c,e,f]:=h;exact#[a,b,rfl,n,c,e,f]
 |dit i g=>let#[b,c,e,f]:=h;exact#[a,b,rfl,n,c,e,f]
 |_=>exact(h).elim
def VR(K:Frag)(U:Db->Prop)(M:Db->Prop)(H c:Hp):Kd->V->D->Prop
 |.sh,v,d=>At K M c d v
 |.tp,v,d=>AtT K U M c d v
 |.fr,v,d=>∃a,v=.ref a/\H a=n_/\Tops K (λb=>M b\/b=a) c a d
def FeedOk(K:Frag)(M:Db->Prop)(H:Hp)(f:Db×Db)(n:Nat):Prop:=
 ∃(at_ b:Int) (a:q_ Int),H f.1=P3^.lst [.ref f.2,.int at_,.int b]/\f.2≠f.1/\NdL M H f.2^a.map V.int/\a.length<=63/\0<=at_/\at_+n<=2 ^ 60
def FeedC(K:Frag)(F:r_ (Db×Db))(M:Db->Prop)(H:Hp)(n:Nat):Prop:=∀f,F=P3 f->FeedOk K M H f n
def Ext(U:Db->Prop)(H c:Hp):Prop:=∀b o,H b=P3 o->∃a,c b=P3 a/\(¬U b->a=o)/\∀d,o=.tup d->a=o
def Ext.keep{U:Db->Prop}{H a:Hp}(p:Ext U H a){b:Db}{o:HO}(e:H b=P3 o)(n:¬U b):a b=P3 o:=by
 let#[c,q,r,_]:=p b o e;rw[q,r n]
def Ext.tup{U:Db->Prop}{H a:Hp}(p:Ext U H a){b:Db}{c:q_ V}(e:H b=P3^.tup c):a b=P3^.tup c:=by
 let#[d,q,_,r]:=p b _ e
 grind
def Ext.free{U:Db->Prop}{H a:Hp}(p:Ext U H a){b:Db}(e:a b=n_):H b=n_:=by
 cases q:H b with
 |none=>rfl
 |some o=>
  let#[c,z,_]:=p b o q
  grind
def Ext.refl(U:Db->Prop)(H:Hp):Ext U H H:=λ_ o e=>#[o,e,λ_=>rfl,λ_ _=>rfl]
def Ext.trans{U:Db->Prop}{c H2 d:Hp}(p:Ext U c H2)(q:Ext U H2 d):Ext U c d:=λb o e=>by
 let#[g,h,i,f]:=p b o e;let#[j,k,l,m]:=q b g h;exact#[j,k,λn=>(l n).trans^i n,λa z=>(m a^(f a z).trans z).trans^f a z]
def Grow(H a:Hp):Prop:=a=H\/∃p o,H p=n_/\a=Ar H p o
def Grow.all{H a:Hp}(g:Grow H a):∀b o,H b=P3 o->a b=P3 o:=by
 intro b o e
 rcases g with rfl|⟨p,u,n,rfl⟩
 .exact e
 .rw[AM^An e n];exact e
def Grow.refl{H:Hp}:Grow H H:=.inl rfl
def Grow.ext{U:Db->Prop}{H a:Hp}(g:Grow H a):Ext U H a:=λb o e=>#[o,g.all b o e,λ_=>rfl,λ_ _=>rfl]
def Grow.pres{M:Db->Prop}{H a:Hp}(g:Grow H a):Pres M H M a:=#[λb o e _=>g.all b o e,λ_ z=>.inl z,λb c e=>g.all b _ e]
def FeedOk.pres{K:Frag}{M c:Db->Prop}{H b:Hp}{f:Db×Db}{n:Nat}(h:FeedOk K M H f n)(p:Pres M H c b)(e:∀o,H f.1=P3 o->b f.1=P3 o):FeedOk K c b f n:=by
 let#[a,r,d,g,i,j,k]:=h;exact#[a,r,d,e _ g,i,j.pres p,k]
def FeedC.pres{K:Frag}{F:r_ (Db×Db)}{M b:Db->Prop}{H a:Hp}{n:Nat}(h:FeedC K F M H n)(p:Pres M H b a)(e:∀f o,F=P3 f->H f.1=P3 o->a f.1=P3 o):FeedC K F b a n:=λf c=>(h f c).pres p λo q=>e f o c q
def FeedC.grow{K:Frag}{F:r_ (Db×Db)}{M:Db->Prop}{H a:Hp}{n:Nat}(h:FeedC K F M H n)(g:Grow H a):FeedC K F M a n:=h.pres g.pres λf o _ e=>g.all _ o e
def FeedC.more{K:Frag}{F:r_ (Db×Db)}{M:Db->Prop}{H:Hp}{n:Nat}(h:FeedC K F M H n)(a:Db)(e:∀f,F=P3 f->f.2≠a):FeedC K F (λb=>M b\/b=a) H n:=λf c=>by
 let#[x,r,g,i,j,d,k]:=h f c;exact#[x,r,g,i,j,#[λz=>z.elim d.1^e f c,d.2],k]
def AtX(K:Frag)(M:Db->Prop)(H:Hp)(a:Db)(g:Str)(b:q_ Str)(f:q_ D):Prop:=∃C U c u e,XC K g C U/\(¬M a/\H a=P3 u)/\XT C c a u/\(c=n_/\b=[]/\e=[]\/∃d,c=P3 d/\¬M d/\H d=P3^.ext^XF d^b.zip e)/\b.length=f.length/\Ats K M H f e
def AtX.pres{K:Frag}{M b:Db->Prop}{H e:Hp}{a:Db}{f:Str}{g:q_ Str}{i:q_ D}(h:AtX K M H a f g i)(p:Pres M H b e):AtX K b e a f g i:=by
 let#[C,U,j,u,k,c,#[n,l],x,m,o,q]:=h;refine#[C,U,j,u,k,c,p.nd n l,x,?_,o,q.pres p]
 rcases m with z|⟨d,r,s,t⟩
 .exact .inl z
 .exact .inr #[d,r,p.nd s t]
inductive Slot where
 |no|sh (d:D)|br (d:D)|fd|ow (d:D)|lt (a:Db) (d:D)|ex (a:Db) (nm:Str) (ks:List Str) (ds:List D)
def Slot.owns:Slot->Bool
 |.ow _=>o_
 |.lt _ _=>o_
 |_=>p_
def SlotOk(K:Frag)(F:r_ (Db×Db))(U:Db->Prop)(M:Db->Prop)(H:Hp):Slot->r_ V->Prop
 |.no,_=>True
 |.sh d,o=>∃v,o=P3 v/\At K M H d v
 |.br d,o=>∃v,o=P3 v/\AtT K U M H d v
 |.fd,o=>∃f,o=P3^.ref f.1/\F=P3 f
 |.ow d,o=>∃a,o=P3^.ref a/\M a/\¬U a/\Tops K M H a d
 |.lt a d,o=>o=P3^.ref a/\M a/\¬U a/\Tops K M H a d
 |.ex a b c e,o=>o=P3^.ref a/\AtX K M H a b c e
structure Fm where
 M0:Db->Prop
 F:Option (Db×Db)
 U:Db->Prop
 V:Db->Prop
 H0:Hp
 zH:List ((Db->Prop)×Hp)
 kp:List (Db×HO)
def Apart(b:q_ Slot)(Z:L2.St):Prop:=∀(i j:Nat) (s t:Slot) (a:Db),b[i]?=P3 s->s.owns=o_->b[j]?=P3 t->t.owns=o_->(Z[i]?).getD n_=P3^.ref a->(Z[j]?).getD n_=P3^.ref a->i=j
structure Rel (K:Frag) (C:Fm) (M:Db->Prop) (H:Hp) (n:Nat) (ρ:List Slot) (Z:L2.St):Prop where
 len:ρ.length=Z.length
 sub:∀a,C.M0 a->M a
 dom:∀a,M a->∃o,H a=P3 o
 ext:Ext C.U C.H0 H
 fU:∀f,C.F=P3 f->C.U f.1
 uV:∀a,C.U a->C.V a
 vM:∀a,C.V a->M a
 feed:FeedC K C.F M H n
 sl:∀(i:Nat) (s:Slot),ρ[i]?=P3 s->SlotOk K C.F C.V M H s ((Z[i]?).getD n_)
 pin:∀p∈C.zH,Pres p.1 p.2 M H
 br0:∀(i:Nat) (d:D) (a:Db),ρ[i]?=P3^.br d->(Z[i]?).getD n_=P3^.ref a->∃o,C.H0 a=P3 o
 new:∀(i:Nat) (s:Slot) (a:Db),ρ[i]?=P3 s->s.owns=o_->(Z[i]?).getD n_=P3^.ref a->¬C.M0 a/\C.H0 a=n_
 two:Apart ρ Z
 kept:∀p∈C.kp,H p.1=P3 p.2/\M p.1/\¬C.V p.1/\∀(i:Nat) (d:D),ρ[i]?=P3^.ow d->(Z[i]?).getD n_≠P3^.ref p.1
section
variable {K:Frag}{C:Fm}{M:Addr->Prop}{H H':Hp}{n n':Nat}{ρ:q_ Slot}{Z:L2.St}{d:D}{v:V}{κ:Kd}
def Rel.pres(R:Rel K C M H n ρ Z)(e:Ext C.U H H'):Pres M H M H':=#[λb o q a=>e.keep q λz=>a^R.vM b^R.uV b z,λ_ z=>.inl z,λb c q=>e.tup q]
def AtT.pres{U q:Db->Prop}{s:Db->Prop}(h:AtT K q M H d v)(p:Pres M H s H')(e:Ext U H H')(l:∀a,U a->q a):AtT K q s H' d v:=by
 cases d with
 |lst m=>
  let#[a,g,j,c,f,k]:=h;refine#[a,g,j,c,?_,k.pres p]
  rcases f with f|⟨o,f⟩
  .exact .inl^e.keep f λz=>c^l a z
  .exact .inr #[o,e.keep f λz=>c^l a z]
 |dic t m=>
  let#[a,g,j,c,f,r,k]:=h;exact#[a,g,j,c,e.keep f λz=>c^l a z,r,k.pres p]
 |dit t m=>
  let#[a,g,j,c,f,r,k]:=h;exact#[a,g,j,c,e.keep f λz=>c^l a z,r,k.pres p]
 |non=>assumption
 |bl b=>assumption
 |int i=>assumption
 |str x=>assumption
 |tup m=>exact At.pres p h
 |fdi t m=>exact At.pres p h
def AtT.same{U r:Db->Prop}{s:Db->Prop}(h:AtT K U M H d v)(p:Pres M H s H')(e:∀a o,v=.ref a->H a=P3 o->H' a=P3 o)(m:∀a,v=.ref a->¬U a->¬r a):AtT K r s H' d v:=by
 cases d with
 |lst l=>
  let#[a,g,c,j,f,k]:=h;refine#[a,g,c,m a c j,?_,k.pres p]
  rcases f with f|⟨o,f⟩
  .exact .inl^e a _ c f
  .exact .inr #[o,e a _ c f]
 |dic t l=>
  let#[a,g,c,j,f,q,k]:=h;exact#[a,g,c,m a c j,e a _ c f,q,k.pres p]
 |dit t l=>
  let#[a,g,c,j,f,q,k]:=h;exact#[a,g,c,m a c j,e a _ c f,q,k.pres p]
 |non=>assumption
 |bl b=>assumption
 |int i=>assumption
 |str x=>assumption
 |tup l=>exact At.pres p h
 |fdi t l=>exact At.pres p h
def AtT.lies{U:Db->Prop}{a:Db}(h:AtT K U M H d^.ref a):∃o,H a=P3 o:=by
 cases d with
 |lst f=>
  let#[b,g,e,_,c,_]:=h;cases e
  rcases c with c|⟨o,c⟩
  .exact#[_,c]
  grind
 |dic j f=>
  let#[b,g,e,_,c,_]:=h
  grind
 |dit j f=>
  let#[b,g,e,_,c,_]:=h
  grind
 |non=>cases(h)
 |bl b=>cases(h)
 |int i=>cases(h)
 |str x=>cases(h).1
 |tup f=>
  let#[b,g,e,c,_]:=h;cases e;exact#[_,c]
 |fdi j f=>
  let#[b,g,e,#[o,_,c],_]:=h
  simp_all
def SlotOk.pres{F:r_ (Db×Db)}{U g i:Db->Prop}{s:Slot}{o:r_ V}(h:SlotOk K F g M H s o)(p:Pres M H i H')(m:∀a,M a->i a)(e:Ext U H H')(j:∀a,U a->g a):SlotOk K F g i H' s o:=by
 cases s with
 |no=>trivial
 |sh d=>let#[v,b,c]:=h;exact#[v,b,c.pres p]
 |ex a l r t=>let#[b,c]:=h;exact#[b,c.pres p]
 |br d=>let#[v,b,c]:=h;exact#[v,b,c.pres p e j]
 |fd=>exact h
 |ow d=>let#[a,b,c,f,k]:=h;exact#[a,b,m a c,f,k.pres p λo q=>e.keep q λz=>f^j a z]
 |lt a d=>let#[b,c,f,k]:=h;exact#[b,m a c,f,k.pres p λo q=>e.keep q λz=>f^j a z]
def Rel.step(R:Rel K C M H n ρ Z)(e:Ext C.U H H')(f:FeedC K C.F M H' n'):Rel K C M H' n' ρ Z:=by
 have p:=R.pres e;refine#[R.len,R.sub,λa z=>?_,R.ext.trans e,R.fU,R.uV,R.vM,f,λi s q=>(R.sl i s q).pres p (λ_ z=>z) e R.uV,λq b=>(R.pin q b).trans p,R.br0,R.new,R.two,λq b=>?_]
 .let#[o,c]:=R.dom a z
  let#[k,g,_]:=e a o c
  grind
 .let#[c,g,h,j]:=R.kept q b
  exact#[e.keep c λz=>h^R.uV _ z,g,h,j]
def Rel.udom(R:Rel K C M H n ρ Z):∀a,C.U a->∃o,H a=P3 o:=λa z=>R.dom a^R.vM a^R.uV a z
def At.tp{U:Db->Prop}(k:∀a,U a->M a)(h:At K M H d v):AtT K U M H d v:=by
 cases d with
 |lst j=>
  let#[a,f,e,c,g]:=h;exact#[a,f,e,λz=>c.1^k a z,.inl c.2,g]
 |dic m j=>
  let#[a,f,e,c,l,g]:=h;exact#[a,f,e,λz=>c.1^k a z,c.2,l,g]
 |dit m j=>
  let#[a,f,e,c,l,g]:=h;exact#[a,f,e,λz=>c.1^k a z,c.2,l,g]
 |non=>exact h
 |bl b=>exact h
 |int i=>exact h
 |str x=>exact h
 |tup j=>exact h
 |fdi m j=>exact h
def VR.back{U b:Db->Prop}{c:Hp}(e:Ext U H c)(h:VR K b M c H' κ v d):VR K b M H H' κ v d:=by
 cases κ with
 |sh=>exact h
 |tp=>exact h
 |fr=>
  let#[a,f,g,i]:=h;exact#[a,f,e.free g,i]
def VR.shOf{U:Db->Prop}(b:∀a,M a->∃o,H a=P3 o)(h:VR K U M H H' κ v d)(e:κ≠.tp):At K M H' d v:=by
 cases κ with
 |sh=>exact h
 |tp=>grind
 |fr=>
  let#[a,rfl,f,c]:=h;refine(c.pres (Pres.less λ_ z=>.inl z) λ_ z=>z).at λz=>?_
  grind
def VR.tpOf{U:Db->Prop}(b:∀a,M a->∃o,H a=P3 o)(c:∀a,U a->M a)(h:VR K U M H H' κ v d):AtT K U M H' d v:=by
 cases κ with
 |sh=>exact At.tp c h
 |tp=>exact h
 |fr=>exact At.tp c^VR.shOf b h^by grind
def Cs{a:Type}{l:q_ a}{i j:Nat}{x y:a}(h:(l.set i x)[j]?=P3 y):(j=i/\i<l.length/\y=x)\/(j≠i/\l[j]?=P3 y):=by
 rw[lZ]at h
 by_cases e:i=j
 .simp_all
 .rw[if_neg e]at h
  exact .inr #[λz=>e z.symm,h]
def Eh{l:L2.St}{i j:Nat}{x:r_ V}(h:j≠i):((l.set i x)[j]?).getD n_=(l[j]?).getD n_:=by
 rw[lZ,if_neg λz=>h z.symm]
def Nk{l:L2.St}{i:Nat}{x:r_ V}(h:i<l.length):((l.set i x)[i]?).getD n_=x:=by
 simp_all
def Rel.set(R:Rel K C M H n ρ Z){i:Nat}(h:At K M H d v):Rel K C M H n (ρ.set i^.sh d)^Z.set i^P3 v:=by
 have b:∀(j:Nat) (s:Slot),(ρ.set i^.sh d)[j]?=P3 s->s.owns=o_->ρ[j]?=P3 s/\((Z.set i^P3 v)[j]?).getD n_=(Z[j]?).getD n_:=λj s q o=>by
  rcases Cs q with⟨_,_,rfl⟩|⟨f,q⟩
  .cases o
  .exact#[q,Eh f]
 refine#[by rw[gp,gp];exact R.len,R.sub,R.dom,R.ext,R.fU,R.uV,R.vM,R.feed,λj s q=>?_,R.pin,λj e a q c=>?_,λj s a q o c=>?_,λj k s t a g m c r u w=>?_,λp x=>?_]
 .rcases Cs q with⟨rfl,y,rfl⟩|⟨f,q⟩
  .rw[Nk^by rw[←R.len];exact y]
   exact#[v,rfl,h]
  .rw[Eh f]
   exact R.sl j s q
 .rcases Cs q with⟨_,_,e⟩|⟨f,q⟩
  .cases e
  .rw[Eh f]at c
   exact R.br0 j e a q c
 .let#[g,e]:=b j s q o
  rw[e]at c;exact R.new j s a g o c
 .let#[z,A]:=b j s g m
  let#[B,l]:=b k t c r;rw[A]at u;rw[l]at w;exact R.two j k s t a z m B r u w
 .let#[D,E,F,G]:=R.kept p x
  refine#[D,E,F,λj e q=>?_];let#[g,l]:=b j _ q rfl;rw[l];exact G j e g
def Rel.owner(R:Rel K C M H n ρ Z){i:Nat}{s:Slot}(h:ρ[i]?=P3 s)(o:s.owns=o_):∃a e,(Z[i]?).getD n_=P3^.ref a/\M a/\¬C.V a/\Tops K M H a e/\¬C.M0 a/\C.H0 a=n_:=by
 have q:=R.sl i s h;cases s with
 |ow d=>let#[a,b,c,f,g]:=q;exact#[a,d,b,c,f,g,R.new i _ a h o b]
 |lt a d=>let#[b,c,f,g]:=q;exact#[a,d,b,c,f,g,R.new i _ a h o b]
 |_=>cases o
def Rel.setOw(R:Rel K C M H n ρ Z){i:Nat}{a:Db}(e:Ext C.U H H')(f:FeedC K C.F M H' n')(G:H a=n_)(h:Tops K (λb=>M b\/b=a) H' a d):
  Rel K C (λb=>M b\/b=a) H' n' (ρ.set i^.ow d) (Z.set i^P3^.ref a):=by
 have J:=R.step e f
 have I:∀b,M b->b≠a:=λb z q=>by
  let#[o,w]:=R.dom b z;rw[q,G]at w;cases w
 have X:¬C.M0 a/\C.H0 a=n_:=#[λz=>I a (R.sub a z) rfl,R.ext.free G];have P:Pres M H (λb=>M b\/b=a) H':=#[λb o q Y=>e.keep q λz=>Y^R.vM b^R.uV b z,λb z=>z.elim .inl λz=>.inr (by rw[z];exact G),λb L q=>e.tup q]
 have r:∀(j:Nat) (s:Slot),(ρ.set i^.ow d)[j]?=P3 s->(j=i/\s=.ow d/\((Z.set i^P3^.ref a)[j]?).getD n_=P3^.ref a)\/(j≠i/\ρ[j]?=P3 s/\((Z.set i^P3^.ref a)[j]?).getD n_=(Z[j]?).getD n_):=λj s q=>by
  rcases Cs q with⟨rfl,hl,rfl⟩|⟨A,q⟩
  .exact .inl #[rfl,rfl,Nk^by rw[←R.len];exact hl]
  .exact .inr #[A,q,Eh A]
 have D:∀(j:Nat) (s:Slot) (b:Db),ρ[j]?=P3 s->s.owns=o_->(Z[j]?).getD n_=P3^.ref b->b≠a:=λj s b q o z=>by
  let#[c,_,l,m,_]:=R.owner q o;rw[l]at z;cases z;exact I _ m
 have hd:∃o,H' a=P3 o:=by
  cases d with
  |lst Q=>let#[L,q,_]:=h;exact#[_,q]
  |dic ks Q=>let#[L,q,_]:=h;exact#[_,q]
  |dit ks Q=>let#[L,q,_]:=h;exact#[_,q]
  |_=>exact(show False from h).elim
 refine#[by rw[gp,gp];exact R.len,λb z=>.inl^R.sub b z,λb z=>?_,J.ext,R.fU,R.uV,λb z=>.inl^R.vM b z,f.more a λg hg q=>?_,λj s q=>?_,λq hq=>(R.pin q hq).trans P,λj x b q u=>?_,λj s b q o u=>?_,λj k s t b y S u T E B=>?_,λp hp=>?_]
 .rcases z with z|z
  .exact J.dom b z
  .rw[z];exact hd
 .let#[_,_,_,_,_,N,_]:=R.feed g hg
  have:=N.2
  rw[q,G]at this;cases this
 .rcases r j s q with⟨rfl,rfl,l⟩|⟨A,y,l⟩
  .rw[l]
   exact#[a,rfl,.inr rfl,λz=>I a (R.vM a z) rfl,h]
  .rw[l]
   exact(R.sl j s y).pres P (λ_ z=>.inl z) e R.uV
 .rcases r j _ q with⟨_,l,_⟩|⟨A,y,l⟩
  .cases l
  .rw[l]at u
   exact R.br0 j x b y u
 .rcases r j s q with⟨_,_,l⟩|⟨A,y,l⟩
  .rw[l]at u
   cases u;exact X
  .rw[l]at u
   exact R.new j s b y o u
 .rcases r j s y with⟨rfl,_,l⟩|⟨A,V,l⟩
  .rw[l]at E
   cases E
   rcases r k t u with⟨rfl,_,_⟩|⟨hk,O,x⟩
   .rfl
   .rw[x]at B
    exact absurd rfl (D k t a O T B)
  .rw[l]at E
   rcases r k t u with⟨rfl,_,x⟩|⟨hk,O,x⟩
   .rw[x]at B
    cases B;exact absurd rfl (D j s a V S E)
   .rw[x]at B
    exact R.two j k s t b V S O T E B
 .let#[h1,W,N,h4]:=J.kept p hp
  refine#[h1,.inl W,N,λj x q=>?_]
  rcases r j _ q with⟨_,_,l⟩|⟨A,y,l⟩
  .rw[l]
   intro z;cases z;exact I _ W rfl
  .rw[l]
   exact h4 j x y
def Rel.mut(R:Rel K C M H n ρ Z){i:Nat}{a:Db}{e:D}{o:HO}(E:ρ[i]?=P3^.ow d)(N:(Z[i]?).getD n_=P3^.ref a)(h:Tops K M (Ar H a o) a e):
  Rel K C M (Ar H a o) n (ρ.set i^.ow e) Z:=by
 let#[b,_,c,m,U,t,n0,V]:=R.owner E rfl;rw[N]at c;cases c;have F:Pres M H M^Ar H a o:=#[λb A q Y=>by rw[AM λz=>Y^by rw[z];exact m];exact q,λ_ z=>.inl z,λb vs q=>by rw[AM λz=>t.notT^by rw[←z];exact q];exact q]
 have l:∀(j:Nat) (s:Slot),(ρ.set i^.ow e)[j]?=P3 s->(j=i/\s=.ow e)\/(j≠i/\ρ[j]?=P3 s):=λj s q=>by
  rcases Cs q with⟨rfl,hl,rfl⟩|⟨y,q⟩
  .exact .inl #[rfl,rfl]
  .exact .inr #[y,q]
 have I:∀(j:Nat) (s:Slot) (b:Db),j≠i->ρ[j]?=P3 s->s.owns=o_->(Z[j]?).getD n_=P3^.ref b->b≠a:=λj s b y q o z w=>by
  subst w;exact y (R.two j i s _ b q o E rfl z N)
 refine#[by rw[gp];exact R.len,R.sub,λb z=>?_,λb A q=>?_,R.fU,R.uV,R.vM,R.feed.pres F λf A hf q=>?_,λj s q=>?_,λq hq=>(R.pin q hq).trans F,λj O b q g=>?_,λj s b q G g=>?_,λj k s t b u W g G P Q=>?_,λp hp=>?_]
 .by_cases B:b=a
  .exact#[o,by rw[B,AR]]
  .let#[A,q]:=R.dom b z
   exact#[A,by rw[AM B];exact q]
 .let#[G,g,r]:=R.ext b A q
  have B:b≠a:=λz=>by rw[z,V]at q;cases q
  exact#[G,by rw[AM B];exact g,r]
 .have B:f.1≠a:=λz=>U^by rw[←z];exact R.uV _^R.fU f hf
  rw[AM B];exact q
 .rcases l j s q with⟨rfl,rfl⟩|⟨y,u⟩
  .rw[N]
   exact#[a,rfl,m,U,h]
  .have g:=R.sl j s u
   cases s with
   |no=>trivial
   |sh d=>let#[v,c,x]:=g;exact#[v,c,x.pres F]
   |ex a nm ks ds=>let#[c,x]:=g;exact#[c,x.pres F]
   |br d=>
    let#[v,c,x]:=g;refine#[v,c,x.same F (λb A z q=>?_) λ_ _ z=>z];subst z;let#[o3,w]:=R.br0 j d b u c;rw[AM λz=>by rw[z,V]at w;cases w];exact q
   |fd=>exact g
   |ow d=>
    let#[b,c,x,J,L]:=g;exact#[b,c,x,J,L.pres F λA w=>by rw[AM (I j _ b y u rfl c)];exact w]
   |lt b d=>
    let#[c,x,J,L]:=g;exact#[c,x,J,L.pres F λA w=>by rw[AM (I j _ b y u rfl c)];exact w]
 .rcases l j _ q with⟨_,c⟩|⟨y,u⟩
  .cases c
  .exact R.br0 j O b u g
 .rcases l j s q with⟨rfl,_⟩|⟨y,u⟩
  .exact R.new j _ b E rfl g
  .exact R.new j s b u G g
 .rcases l j s u with⟨rfl,rfl⟩|⟨y,X⟩
  .rcases l k t g with⟨rfl,_⟩|⟨hk,S⟩
   .rfl
   .exact R.two j k _ t b E rfl S G P Q
  .rcases l k t g with⟨rfl,rfl⟩|⟨hk,S⟩
   .exact R.two j k s _ b X W E rfl P Q
   .exact R.two j k s t b X W S G P Q
 .let#[x,J,L,T]:=R.kept p hp
  have B:p.1≠a:=λz=>T i d E (by rw[N,z]);refine#[by rw[AM B];exact x,J,L,λj O q=>?_]
  rcases l j _ q with⟨rfl,_⟩|⟨y,u⟩
  .exact T j d E
  .exact T j O u
def Rel.freeze(R:Rel K C M H n ρ Z){i:Nat}{a:Db}(E:ρ[i]?=P3^.ow d)(x:(Z[i]?).getD n_=P3^.ref a):Rel K C (λb=>M b/\b≠a) H n (ρ.set i^.sh d) Z:=by
 let#[b,_,c,m,J,_,L,V]:=R.owner E rfl;rw[x]at c;cases c;have y:∀b,M b/\b≠a->M b:=λ_ z=>z.1;have r:Pres M H (λb=>M b/\b≠a) H:=Pres.less y
 have e:∀(j:Nat) (s:Slot),(ρ.set i^.sh d)[j]?=P3 s->(j=i/\s=.sh d)\/(j≠i/\ρ[j]?=P3 s):=λj s q=>by
  rcases Cs q with⟨rfl,W,rfl⟩|⟨l,q⟩
  .exact .inl #[rfl,rfl]
  .exact .inr #[l,q]
 have A:∀(j:Nat) (s:Slot) (b:Db),j≠i->ρ[j]?=P3 s->s.owns=o_->(Z[j]?).getD n_=P3^.ref b->b≠a:=λj s b l q o z w=>by
  subst w;exact l (R.two j i s _ b q o E rfl z x)
 have t:Tops K M H a d:=by
  let#[b,c,_,_,u]:=R.sl i _ E;rw[x]at c;cases c;exact u
 refine#[by rw[gp];exact R.len,λb z=>#[R.sub b z,λw=>L^by rw[←w];exact z],λb z=>R.dom b z.1,R.ext,R.fU,R.uV,λb z=>#[R.vM b z,λw=>J^by rw[←w];exact z],R.feed.pres r λ_ _ _ q=>q,λj s q=>?_,λq N=>(R.pin q N).trans r,λj F b q f=>?_,λj s b q B f=>?_,λj k s t b g G f B O P=>?_,λp Q=>?_]
 .rcases e j s q with⟨rfl,rfl⟩|⟨l,g⟩
  .rw[x]
   exact#[_,rfl,(t.pres r λ_ z=>z).at λz=>z.2 rfl]
  .have f:=R.sl j s g
   cases s with
   |no=>trivial
   |sh d=>let#[v,c,h]:=f;exact#[v,c,h.pres r]
   |ex a X Y ds=>let#[c,h]:=f;exact#[c,h.pres r]
   |br d=>let#[v,c,h]:=f;exact#[v,c,h.same r (λ_ _ _ z=>z) λ_ _ z=>z]
   |fd=>exact f
   |ow d=>
    let#[b,c,h,D,u]:=f;exact#[b,c,#[h,A j _ b l g rfl c],D,u.pres r λ_ z=>z]
   |lt b d=>
    let#[c,h,D,u]:=f;exact#[c,#[h,A j _ b l g rfl c],D,u.pres r λ_ z=>z]
 .rcases e j _ q with⟨_,c⟩|⟨l,g⟩
  .cases c
  .exact R.br0 j F b g f
 .rcases e j s q with⟨_,rfl⟩|⟨l,g⟩
  .cases B
  .exact R.new j s b g B f
 .rcases e j s g with⟨_,rfl⟩|⟨l,S⟩
  .cases G
  .rcases e k t f with⟨_,rfl⟩|⟨hk,T⟩
   .cases B
   .exact R.two j k s t b S G T B O P
 .let#[h,D,u,I]:=R.kept p Q
  have U:p.1≠a:=λz=>I i d E (by rw[x,z]);refine#[h,#[D,U],u,λj F q=>?_]
  rcases e j _ q with⟨_,c⟩|⟨l,g⟩
  .cases c
  .exact I j F g
def Rel.lend(R:Rel K C M H n ρ Z){i:Nat}{a:Db}{o:HO}(l:ρ[i]?=P3^.ow d)(w:(Z[i]?).getD n_=P3^.ref a)(G:H a=P3 o):Rel K {C with kp:=(a,o)::C.kp} M H n (ρ.set i^.lt a d) Z:=by
 let#[b,f,m,D,t]:=R.sl i _ l;rw[w]at f;cases f
 have c:∀(j:Nat) (s:Slot),(ρ.set i^.lt a d)[j]?=P3 s->(j=i/\s=.lt a d)\/(j≠i/\ρ[j]?=P3 s):=λj s q=>by
  rcases Cs q with⟨rfl,P,rfl⟩|⟨g,q⟩
  .exact .inl #[rfl,rfl]
  .exact .inr #[g,q]
 refine#[by rw[gp];exact R.len,R.sub,R.dom,R.ext,R.fU,R.uV,R.vM,R.feed,λj s q=>?_,R.pin,λj r b q h=>?_,λj s b q u h=>?_,λj k s t b e E h u x y=>?_,λp A=>?_]
 .rcases c j s q with⟨rfl,rfl⟩|⟨g,e⟩
  .exact#[w,m,D,t]
  .exact R.sl j s e
 .rcases c j _ q with⟨_,f⟩|⟨g,e⟩
  .cases f
  .exact R.br0 j r b e h
 .rcases c j s q with⟨rfl,_⟩|⟨g,e⟩
  .exact R.new j _ b l rfl h
  .exact R.new j s b e u h
 .rcases c j s e with⟨rfl,rfl⟩|⟨g,F⟩
  .rcases c k t h with⟨rfl,_⟩|⟨I,B⟩
   .rfl
   .exact R.two j k _ t b l rfl B u x y
  .rcases c k t h with⟨rfl,rfl⟩|⟨I,B⟩
   .exact R.two j k s _ b F E l rfl x y
   .exact R.two j k s t b F E B u x y
 .rcases Tk.mp A with rfl|A
  .refine#[G,m,D,λj r q z=>?_]
   rcases c j _ q with⟨_,f⟩|⟨g,e⟩
   .cases f
   .exact g (R.two j i _ _ a e rfl l rfl z w)
  .let#[J,L,N,O]:=R.kept p A
   refine#[J,L,N,λj r q=>?_]
   rcases c j _ q with⟨_,f⟩|⟨g,e⟩
   .cases f
   .exact O j r e
def Rel.unlend{a:Db}{o:HO}(R:Rel K {C with kp:=(a,o)::C.kp} M H n ρ Z){i:Nat}(h:ρ[i]?=P3^.lt a d)(r:∀p∈C.kp,p.1≠a):Rel K C M H n (ρ.set i^.ow d) Z:=by
 let#[A,m,F,t]:=R.sl i _ h
 have c:∀(j:Nat) (s:Slot),(ρ.set i^.ow d)[j]?=P3 s->(j=i/\s=.ow d)\/(j≠i/\ρ[j]?=P3 s):=λj s q=>by
  rcases Cs q with⟨rfl,O,rfl⟩|⟨g,q⟩
  .exact .inl #[rfl,rfl]
  .exact .inr #[g,q]
 refine#[by rw[gp];exact R.len,R.sub,R.dom,R.ext,R.fU,R.uV,R.vM,R.feed,λj s q=>?_,R.pin,λj u b q f=>?_,λj s b q l f=>?_,λj k s t b e B f l w x=>?_,λp D=>?_]
 .rcases c j s q with⟨rfl,rfl⟩|⟨g,e⟩
  .exact#[a,A,m,F,t]
  .exact R.sl j s e
 .rcases c j _ q with⟨_,G⟩|⟨g,e⟩
  .cases G
  .exact R.br0 j u b e f
 .rcases c j s q with⟨rfl,_⟩|⟨g,e⟩
  .exact R.new j _ b h rfl f
  .exact R.new j s b e l f
 .rcases c j s e with⟨rfl,rfl⟩|⟨g,E⟩
  .rcases c k t f with⟨rfl,_⟩|⟨r,y⟩
   .rfl
   .exact R.two j k _ t b h rfl y l w x
  .rcases c k t f with⟨rfl,rfl⟩|⟨r,y⟩
   .exact R.two j k s _ b E B h rfl w x
   .exact R.two j k s t b E B y l w x
 .let#[I,J,L,N]:=R.kept p^Sc _ D
  refine#[I,J,L,λj u q=>?_]
  rcases c j _ q with⟨rfl,_⟩|⟨g,e⟩
  .rw[A]
   intro z;cases z;exact r p D rfl
  .exact N j u e
end
abbrev DW:=Nat->q_ Slot->(D->Nat->Prop)->Prop
abbrev F4:=Nat->q_ Slot->(Bool->Nat->Prop)->Prop
abbrev De:=Nat->q_ Slot->(q_ D->Nat->Prop)->Prop
abbrev RE:=Nat->q_ Slot->(q_ Slot->Nat->Prop)->Prop
section
variable (X:Cx)
def DE(e:fZ)(f:Kd)(w:DW):Prop:=∃t,PE X e t/\∀(C:Fm) (M:Db->Prop) (H:Hp) (n:Nat) (b:q_ Slot) (Z:L2.St) (P:D->Nat->Prop) (Q:VK),Rel X.K C M H n b Z->w n b P->
 (∀v a d c,Ext C.U H a->FeedC X.K C.F M a c->VR X.K C.V M H a f v d->P d c->Q v a)->t Z H Q
def DT(e:fZ)(w:F4):Prop:=∃t,PT X e t/\∀(C:Fm) (M:Db->Prop) (H:Hp) (n:Nat) (c:q_ Slot) (Z:L2.St) (P:Bool->Nat->Prop) (Q:Bool->Hp->Prop),Rel X.K C M H n c Z->w n c P->
 (∀b a d,Ext C.U H a->FeedC X.K C.F M a d->P b d->Q b a)->t Z H Q
def DTW(e:fZ)(w:F4):Prop:=∃t,PW X e t/\∀(C:Fm) (M:Db->Prop) (H:Hp) (n:Nat) (c:q_ Slot) (Z:L2.St) (P:Bool->Nat->Prop) (Q:Bool->Hp->Prop),Rel X.K C M H n c Z->w n c P->
 (∀b a d,Ext C.U H a->FeedC X.K C.F M a d->P b d->Q b a)->t Z H Q
def WO(g:q_ fZ)(w:De):Prop:=∃t,PA X g t/\∀(C:Fm) (M:Db->Prop) (H:Hp) (n:Nat) (b:q_ Slot) (Z:L2.St) (P:q_ D->Nat->Prop) (Q:q_ V->Hp->Prop),Rel X.K C M H n b Z->w n b P->
 (∀c a e f,Ext C.U H a->FeedC X.K C.F M a f->Paired (λv d=>AtT X.K C.V M a d v) c e->P e f->Q c a)->t Z H Q
def WN(f:q_ fZ)(w:De):Prop:=∃t,PA X f t/\∀(C:Fm) (M:Db->Prop) (H:Hp) (n:Nat) (b:q_ Slot) (Z:L2.St) (P:q_ D->Nat->Prop) (Q:q_ V->Hp->Prop),Rel X.K C M H n b Z->w n b P->
 (∀c a d e,Ext C.U H a->FeedC X.K C.F M a e->Ats X.K M a d c->P d e->Q c a)->t Z H Q
def LA(K:Frag)(F:r_ (Db×Db))(a M:Db->Prop)(H:Hp)(v:V)(s:Slot):Prop:=SlotOk K F a M H s^P3 v/\s.owns=p_
def bh(e:fZ)(w:Nat->q_ Slot->(Slot->Nat->Prop)->Prop):Prop:=∃t,PE X e t/\∀(C:Fm) (M:Db->Prop) (H:Hp) (n:Nat) (b:q_ Slot) (Z:L2.St) (P:Slot->Nat->Prop) (Q:VK),Rel X.K C M H n b Z->w n b P->
 (∀v a s c,Ext C.U H a->FeedC X.K C.F M a c->LA X.K C.F C.V M a v s->P s c->Q v a)->t Z H Q
def RJ(f:q_ fZ)(w:RE):Prop:=∃t,PA X f t/\∀(C:Fm) (M:Db->Prop) (H:Hp) (n:Nat) (b:q_ Slot) (Z:L2.St) (P:q_ Slot->Nat->Prop) (Q:q_ V->Hp->Prop),Rel X.K C M H n b Z->w n b P->
 (∀c a d e,Ext C.U H a->FeedC X.K C.F M a e->Paired (LA X.K C.F C.V M a) c d->P d e->Q c a)->t Z H Q
end
def AH(i:Nat):DW:=λn a P=>match a[i]? with
 |some (.sh d)=>P d n
 |_=>False
def As(i:Nat):DW:=λn a P=>match a[i]? with
 |some (.sh d)=>P d n
 |some (.br d)=>P d n
 |some (.ow d)=>P d n
 |some (.lt _ d)=>P d n
 |_=>False
def wC(d:D):DW:=λn _ P=>P d n
section
variable {X:Cx}{a b c e:Expr}{κ zT zM:Kd}{wa wb:DW}{pos:Pos}
def getD_some{Z:L2.St}{i:Nat}{v:V}(h:(Z[i]?).getD n_=P3 v):Z[i]?=P3^P3 v:=by
 cases q:Z[i]? with
 |none=>simp_all
 |some o=>simp_all
def V5{i:Nat}(h:PE X e^Bp i):DE X e .sh^AH i:=by
 refine#[_,h,λC M H n j Z P Q R w q=>?_];unfold AH at w
 split at w
 .rename_i d c
  let#[v,f,g]:=R.sl i _ c;exact#[v,getD_some f,q v H d n (Ext.refl _ _) R.feed g w]
 grind
def Tu{i:Nat}(h:PE X e^Bp i):DE X e .tp^As i:=by
 refine#[_,h,λC M H n l Z P Q R w q=>?_];unfold As at w
 split at w
 .rename_i d c
  let#[v,f,g]:=R.sl i _ c;exact#[v,getD_some f,q v H d n (Ext.refl _ _) R.feed (At.tp R.vM g) w]
 .rename_i d c
  let#[v,f,g]:=R.sl i _ c;exact#[v,getD_some f,q v H d n (Ext.refl _ _) R.feed g w]
 .rename_i d c
  let#[a,f,_,j,k]:=R.sl i _ c;exact#[.ref a,getD_some f,q _ H d n (Ext.refl _ _) R.feed (k.att j) w]
 .rename_i a d c
  let#[f,_,j,k]:=R.sl i _ c;exact#[.ref a,getD_some f,q _ H d n (Ext.refl _ _) R.feed (k.att j) w]
 .exact w.elim
def dv(i:Nat){x:Str}{pos:Pos}(d:X.N[i]?=P3 x:=by rfl)(e:RB X.env.scope x:=by first|exact f9 rfl|exact g7 (f9 rfl)|exact g7 (g7 rfl))(hd:(x==("__debug__":Str))=p_:=by cbv)
  (c:(x==("__classdict__":Str))=p_:=by cbv):DE X (.Name x pos) .sh^AH i:=V5^En d e hd c
def Cp(i:Nat){x:Str}{pos:Pos}(d:X.N[i]?=P3 x:=by rfl)(e:RB X.env.scope x:=by first|exact f9 rfl|exact g7 (f9 rfl)|exact g7 (g7 rfl))(hd:(x==("__debug__":Str))=p_:=by cbv)
  (c:(x==("__classdict__":Str))=p_:=by cbv):DE X (.Name x pos) .tp^As i:=Tu^En d e hd c
def Gh{d:D}{v:V}(h:PE X e^tC v)(hd:∀M H,At X.K M H d v):DE X e .sh^wC d:=
 #[_,h,λC M H n c Z P Q R w q=>q v H d n (Ext.refl _ _) R.feed (hd M H) w]
def AB{i:Int}{j pos}:DE X (.Constant (.int i) j pos) .sh^wC^.int i:=Gh A0 λ_ _=>rfl
def CC{b:Bool}{j pos}:DE X (.Constant (.bool b) j pos) .sh^wC^.bl b:=Gh aB λ_ _=>rfl
def Ap{j pos}:DE X (.Constant .none j pos) .sh^wC .non:=Gh YA λ_ _=>rfl
def AY{x:Str}{j pos}(hx:decide (x.length<=1000)=o_:=by rfl):DE X (.Constant (.str x) j pos) .sh^wC^.str x:=
 Gh X9 λ_ _=>#[rfl,fJ (of_decide_eq_true hx)^by cbv]
def DE.sh(h:DE X e κ wa)(c:κ≠.tp:=by intro z;cases z):DE X e .sh wa:=by
 let#[t,g,i]:=h;exact#[t,g,λC M H n j Z P Q R w q=>i C M H n j Z P Q R w λv k d l e f r p=>q v k d l e f (r.shOf R.dom c) p]
def FE(K:Frag)(κ:Kd)(r:R2)(f:D->D->(D->Prop)->Prop):Prop:=∀(U:Db->Prop) (M:Db->Prop) (H:Hp) (d e:D) (x y:V) (P:D->Prop) (Q:VK),(∀a,M a->∃o,H a=P3 o)->(∀a,U a->M a)->
 AtT K U M H d x->AtT K U M H e y->f d e P->(∀v c z,Grow H c->VR K U M H c κ v z->P z->Q v c)->r x y H Q
def Ao(f:D->D->(D->Prop)->Prop)(wa wb:DW):DW:=λn c P=>wa n c λx d=>wb d c λy e=>f x y λz=>P z e
def E9{r:R2}{f:D->D->(D->Prop)->Prop}(u:FE X.K κ r f){o s:TE}(A:∀(C:Fm) (M:Db->Prop) (H:Hp) (n:Nat) (h:q_ Slot) (Z:L2.St) (P:D->Nat->Prop) (Q:VK),Rel X.K C M H n h Z->wa n h P->
   (∀v c d i,Ext C.U H c->FeedC X.K C.F M c i->VR X.K C.V M H c zT v d->P d i->Q v c)->o Z H Q)
  (B:∀(C:Fm) (M:Db->Prop) (H:Hp) (n:Nat) (h:q_ Slot) (Z:L2.St) (P:D->Nat->Prop) (Q:VK),Rel X.K C M H n h Z->wb n h P->
   (∀v c d i,Ext C.U H c->FeedC X.K C.F M c i->VR X.K C.V M H c zM v d->P d i->Q v c)->s Z H Q)
  (C:Fm) (M:Db->Prop) (H:Hp) (n:Nat) (h:q_ Slot) (Z:L2.St) (P:D->Nat->Prop) (Q:VK) (R:Rel X.K C M H n h Z) (w:Ao f wa wb n h P)
  (q:∀v c d i,Ext C.U H c->FeedC X.K C.F M c i->VR X.K C.V M H c κ v d->P d i->Q v c):Dy r o s Z H Q:=by
 refine A C M H n h Z _ _ R w λx E d G m I J L=>?_;have j:=R.step m I;refine B C M E G h Z _ _ j L λy H2 e N k t O S=>?_;have l:=j.step k t;exact u _ M H2 d e x y _ _ l.dom l.vM ((J.tpOf R.dom R.vM).pres (j.pres k) k R.uV) (O.tpOf j.dom j.vM) S λv T z g W p=>q v T z N ((m.trans k).trans g.ext) (t.grow g) (VR.back (m.trans k) W) p
def AZ{h:Operator}{r:R2}{f:D->D->(D->Prop)->Prop}(i:OpR X (binaryOp h) r)(j:FE X.K κ r f)(k:DE X a zT wa)(l:DE X b zM wb):DE X (.BinOp a h b pos) κ^Ao f wa wb:=by
 let#[o,c,d]:=k;let#[p,e,g]:=l;exact#[_,Bq i c e,λC M H n m Z P Q R w q=>E9 j d g C M H n m Z P Q R w q]
def ax{r:R2}{f:D->D->(D->Prop)->Prop}(h:IxR X r)(i:FE X.K κ r f)(j:DE X a zT wa)(k:DE X b zM wb)(l:L9 b:=by intro _ _;rfl):DE X (.Subscript a b pos) κ^Ao f wa wb:=by
 let#[o,c,d]:=j;let#[p,e,g]:=k;exact#[_,ET h c e l,λC M H n m Z P Q R w q=>E9 i d g C M H n m Z P Q R w q]
def Du{c:CmpOp}{r:R2}{f:D->D->(D->Prop)->Prop}(i:OpR X (compareOp c) r)(j:FE X.K .sh r f)(k:DE X a zT wa)(l:DE X b zM wb)(m:behindInMarks c b=p_):DE X (.Compare a [c] [b] pos) .sh^Ao f wa wb:=by
 let#[p,d,e]:=k;let#[s,g,h]:=l;exact#[_,VF i d g m,λC M H n o Z P Q R w q=>E9 j e h C M H n o Z P Q R w q]
def Ah(w:DW):F4:=λn c P=>w n c λd e=>match d with
 |.bl b=>P b e
 |_=>False
def F9{U:Db->Prop}{K:Frag}{M:Db->Prop}{H c:Hp}{v:V}{b:Bool}(h:VR K U M H c κ v^.bl b):v=.bl b:=by
 cases κ with
 |sh=>exact h
 |tp=>exact h
 |fr=>let#[a,_,_,t]:=h;exact(t).elim
def Yh{c:CmpOp}{r:R2}{f:D->D->(D->Prop)->Prop}(k:OpR X (compareOp c) r)(l:FE X.K .sh r f)(m:DE X a zT wa)(o:DE X b zM wb)(s:behindInMarks c b=p_):DT X (.Compare a [c] [b] pos)^Ah^Ao f wa wb:=by
 let#[y,g,h]:=m;let#[z,i,j]:=o;refine#[_,GA k g i s,λC M H n t Z P Q R w q=>?_];refine E9 l h j C M H n t Z _ _ R w λv u d x e f r p=>?_;cases d with
 |bl b=>exact#[b,F9 r,q b u x e f p]
 |_=>exact p.elim
def A_(h:DE X e κ wa)(g:∀c,isTrue e X.env c=(do let v ←c;standAt e.pos;holding [v]^truthy v):=by intro _;rfl):DT X e^Ah wa:=by
 let#[t,i,j]:=h;refine#[_,X1 i g,λC M H n k Z P Q R w q=>?_];refine j C M H n k Z _ _ R w λv l d m e f r p=>?_;cases d with
 |bl b=>exact#[b,F9 r,q b l m e f p]
 |_=>exact p.elim
def Eb(u v:F4):F4:=λn d P=>u n d λc e=>if c=o_ then v e d P else P p_ e
def LD(u v:F4):F4:=λn d P=>u n d λc e=>if c=o_ then P o_ e else v e d P
def HL(u:F4):F4:=λn d P=>u n d λc e=>P (!c) e
variable {wA wB:F4}{rest:q_ Expr}
def C6(h:DT X a wA):DTW X (.BoolOp .And [a] pos) wA:=by
 let#[t,c,d]:=h;exact#[t,O4 c,d]
def B4(h:DT X a wA):DTW X (.BoolOp .Or [a] pos) wA:=by
 let#[t,c,d]:=h;exact#[t,Xz c,d]
def DV(i:DT X a wA)(j:DTW X (.BoolOp .And (b::rest) pos) wB):DTW X (.BoolOp .And (a::b::rest) pos)^Eb wA wB:=by
 let#[t,k,l]:=i;let#[u,m,o]:=j;refine#[_,SI k m,λC M H n e Z P Q R w q=>?_];refine l C M H n e Z _ _ R w λc f g d h p=>?_;cases c with
 |false=>exact q _ f g d h p
 |true=>exact o C M f g e Z P Q (R.step d h) p λb H2 r s v x=>q b H2 r (d.trans s) v x
def Cy(i:DT X a wA)(j:DTW X (.BoolOp .Or (b::rest) pos) wB):DTW X (.BoolOp .Or (a::b::rest) pos)^LD wA wB:=by
 let#[t,k,l]:=i;let#[u,m,o]:=j;refine#[_,Z7 k m,λC M H n e Z P Q R w q=>?_];refine l C M H n e Z _ _ R w λc f g d h p=>?_;cases c with
 |true=>exact q _ f g d h p
 |false=>exact o C M f g e Z P Q (R.step d h) p λb H2 r s v x=>q b H2 r (d.trans s) v x
def DTW.dt(h:DTW X e wA):DT X e wA:=by
 let#[t,c,d]:=h;exact#[t,c.pt,d]
def Bg(d:DT X a wA):DT X (.UnaryOp .Not a pos)^HL wA:=by
 let#[t,e,f]:=d;exact#[_,X2 e,λC M H n g Z P Q R w q=>f C M H n g Z _ _ R w λc h i j k p=>q _ h i j k p]
def cJ(u v:DW):DW:=λn d P=>u n d λc e=>match c with
 |.bl o_=>v e d P
 |.bl p_=>P (.bl p_) e
 |_=>False
def cF(u:DW):DW:=λn d P=>u n d λc e=>match c with
 |.bl b=>P (.bl (!b)) e
 |_=>False
def E7{op}(h:DE X a κ wa):DE X (.BoolOp op [a] pos) κ wa:=by
 assumption
def EQ(j:DE X a zT wa)(l:DE X (.BoolOp .And (b::rest) pos) .sh wb):DE X (.BoolOp .And (a::b::rest) pos) .sh^cJ wa wb:=by
 let#[t,m,o]:=j;let#[u,r,s]:=l;refine#[_,YB m r,λC M H n g Z P Q R w q=>?_];refine o C M H n g Z _ _ R w λc e d h f i x p=>?_;cases d with
 | bl k=>
  exists k,F9 x;cases k with
  |false=>exact q _ e _ h f i (show VR _ _ M H e _ _^.bl _ from rfl) p
  |true=>
   exact s C M e h g Z P Q (R.step f i) p λv H2 d y z A B D=>q v H2 d y (f.trans z) A B D
 |_=>exact p.elim
def Ts(f:DE X a zT wa):DE X (.UnaryOp .Not a pos) .sh^cF wa:=by
 let#[t,g,h]:=f;refine#[_,X_ g,λC M H n i Z P Q R w q=>?_];refine h C M H n i Z _ _ R w λc e d j l m o p=>?_;cases d with
 |bl k=>exact#[k,F9 o,q _ e _ j l m (show VR _ _ M H e _ _^.bl _ from rfl) p]
 |_=>exact p.elim
def bi(t:F4)(u v:DW):DW:=λn d P=>t n d λc e=>if c=o_ then u e d P else v e d P
def Gg(r:DT X c wA)(s:DE X a κ wa)(x:DE X b κ wb):DE X (.IfExp c a b pos) κ^bi wA wa wb:=by
 let#[t,y,z]:=r;let#[u,A,B]:=s;let#[F,D,E]:=x;refine#[_,Ma y A D,λC M H n f Z P Q R w q=>?_];refine z C M H n f Z _ _ R w λc l m e o p=>?_;cases c with
 |true=>exact B C M l m f Z P Q (R.step e o) p λv H2 d g h i j k=>q v H2 d g (e.trans h) i (VR.back e j) k
 |false=>exact E C M l m f Z P Q (R.step e o) p λv H2 d g h i j k=>q v H2 d g (e.trans h) i (VR.back e j) k
def Ab:De:=λn _ P=>P [] n
def AL(w:DW)(e:De):De:=λn c P=>w n c λd f=>e f c λg h=>P (d::g) h
variable {es:q_ Expr}{ws:De}
def Ac:WO X [] Ab:=#[_,CH,λC M H n c Z P Q R w q=>q [] H [] n (Ext.refl _ _) R.feed .nil w]
def AG:WN X [] Ab:=#[_,CH,λC M H n c Z P Q R w q=>q [] H [] n (Ext.refl _ _) R.feed rfl w]
def AT(i:DE X e κ wa)(j:WO X es ws)(k:starEach (e::es) X.env=(p_,eval e X.env)::starEach es X.env:=by rfl):WO X (e::es)^AL wa ws:=by
 let#[t,l,m]:=i;let#[u,o,r]:=j;refine#[_,BL l o k,λC M H n f Z P Q R w q=>?_];refine m C M H n f Z _ _ R w λv s d x g y z p=>?_;have h:=R.step g y;exact r C M s x f Z _ _ h p λF H2 G A c B D E=>q _ H2 _ A (g.trans c) B (.cons ((z.tpOf R.dom R.vM).pres (h.pres c) c R.uV) D) E
def AA(i:DE X e κ wa)(j:WN X es ws)(k:κ≠.tp:=by intro z;cases z)(l:starEach (e::es) X.env=(p_,eval e X.env)::starEach es X.env:=by rfl):WN X (e::es)^AL wa ws:=by
 let#[t,m,o]:=i;let#[u,r,s]:=j;refine#[_,BL m r l,λC M H n c Z P Q R w q=>?_];refine o C M H n c Z _ _ R w λv x d y f A B p=>?_;have g:=R.step f A;exact s C M x y c Z _ _ g p λD H2 E F h G I J=>q _ H2 (d::E) F (f.trans h) G #[v,D,rfl,(B.shOf R.dom k).pres^g.pres h,I] J
def Dv(ws:De):DW:=λn d P=>ws n d λc e=>c.length<=sizeLine/\P (.tup c) e
def FS(ws:De):DW:=λn d P=>ws n d λc e=>c.length<=sizeLine/\P (.lst c) e
def Fv{M:Db->Prop}{H:Hp}{p:Db}{o:HO}(h:H p=n_):Pres M H (λb=>M b\/b=p)^Ar H p o:=#[λb u e _=>by rw[AM^An e h];exact e,λb z=>z.elim .inl λz=>.inr^by grind,λb c e=>by rw[AM^An e h];exact e]
def Aq{H:Hp}{p:Db}{o:HO}(h:H p=n_):Grow H^Ar H p o:=.inr #[p,o,h,rfl]
def Aa{x1}(h:WN X es ws):DE X (.Tuple es x1 pos) .sh^Dv ws:=by
 let#[t,f,i]:=h;refine#[_,X7 f,λC M H n j Z P Q R w q=>?_];refine i C M H n j Z _ _ R w λc d k l m o e p=>?_;refine#[by rw[e.length];exact p.1,λa r=>?_];have g:Grow d^Ar d a^.tup c:=Aq r;refine q _ _ (.tup k) l (m.trans g.ext) (o.grow g) #[a,c,rfl,AR,e.pres g.pres] p.2
def Al(h:WN X es ws):DE X (.List es pos) .fr^FS ws:=by
 let#[t,j,k]:=h;refine#[_,Nz j,λC M H n l Z P Q R w q=>?_];refine k C M H n l Z _ _ R w λd e m o f r i p=>?_;refine#[by rw[i.length];exact p.1,λa c=>?_];have g:Grow e^Ar e a^.lst d:=Aq c;exact q _ _ (.lst m) o (f.trans g.ext) (r.grow g) (VR.back f #[a,rfl,c,d,AR,i.pres^Fv c]) p.2
def Do(K:Frag)(κ:Kd)(r:q_ V->Hp->VK->Prop)(f:q_ D->(D->Prop)->Prop):Prop:=∀(U:Db->Prop) (M:Db->Prop) (H:Hp) (e:q_ D) (g:q_ V) (P:D->Prop) (Q:VK),(∀a,M a->∃o,H a=P3 o)->(∀a,U a->M a)->
 Paired (λv d=>AtT K U M H d v) g e->f e P->(∀v c z,Grow H c->VR K U M H c κ v z->P z->Q v c)->r g H Q
def Ea(f:q_ D->(D->Prop)->Prop)(ws:De):DW:=λn c P=>ws n c λd e=>f d λz=>P z e
def W_{r:q_ V->Hp->VK->Prop}{f:q_ D->(D->Prop)->Prop}{t:TA}(o:Do X.K κ r f)(s:∀(C:Fm) (M:Db->Prop) (H:Hp) (n:Nat) (e:q_ Slot) (Z:L2.St) (P:q_ D->Nat->Prop) (Q:q_ V->Hp->Prop),Rel X.K C M H n e Z->ws n e P->
   (∀i c j h,Ext C.U H c->FeedC X.K C.F M c h->Paired (λv d=>AtT X.K C.V M c d v) i j->P j h->Q i c)->t Z H Q)
  (C:Fm) (M:Db->Prop) (H:Hp) (n:Nat) (e:q_ Slot) (Z:L2.St) (P:D->Nat->Prop) (Q:VK) (R:Rel X.K C M H n e Z) (w:Ea f ws n e P)
  (q:∀v c d h,Ext C.U H c->FeedC X.K C.F M c h->VR X.K C.V M H c κ v d->P d h->Q v c):bo r t Z H Q:=by
 refine s C M H n e Z _ _ R w λi u j x k l y p=>?_;have m:=R.step k l;exact o _ M u j i _ _ m.dom m.vM y p λv H2 z g A B=>q v H2 z x (k.trans g.ext) (l.grow g) (VR.back k A) B
def Av{x:Str}{g:String}{p:Pos}{r:q_ V->Hp->VK->Prop}{f:q_ D->(D->Prop)->Prop}(h:Co X (.builtin g) r)(i:Do X.K κ r f)(j:Gl X x)(k:X.mg x=n_)(l:bootBuiltins x=P3^.builtin g)(m:WO X (e::es) ws)
  (o:x ≠ "__name__":=by cbv) (c:(x==("__debug__":Str))=p_:=by cbv)
  (he:starEach (e::es) X.env=(p_,eval e X.env)::starEach es X.env:=by rfl) (d:(backTo pos^starEach es X.env).any (·.1)=p_:=by rfl):DE X (.Call (.Name x p) (e::es) [] pos) κ^Ea f ws:=by
 let#[t,s,u]:=m;exact#[_,Dz h j k l s o c he d,λC M H n v Z P Q R w q=>W_ i u C M H n v Z P Q R w q]
def FR{x:Str}{T:String}{p:Pos}{r:q_ V->Hp->VK->Prop}{f:q_ D->(D->Prop)->Prop}(g:Co X (.type T) r)(h:Do X.K κ r f)(i:Gl X x)(j:X.mg x=n_)(k:bootBuiltins x=P3^.type T)(l:WO X (e::es) ws)
  (m:x ≠ "__name__":=by cbv) (c:(x==("__debug__":Str))=p_:=by cbv)
  (he:starEach (e::es) X.env=(p_,eval e X.env)::starEach es X.env:=by rfl) (d:(backTo pos^starEach es X.env).any (·.1)=p_:=by rfl):DE X (.Call (.Name x p) (e::es) [] pos) κ^Ea f ws:=by
 let#[t,o,s]:=l;exact#[_,KQ g i j k o m c he d,λC M H n u Z P Q R w q=>W_ h s C M H n u Z P Q R w q]
end
end Dp
namespace L2
def dZ(z:Str):It:=#[λi _=>i<z.cps.size,λi H x a=>a=H/\∃c,z.cps[i]?=P3 c/\x=.str #[#[ c]],λi _=>z.cps.size<=i]
def MJ{P:fT}{w:fY}{K:Frag}{S:fZ}(it:Db)(z:Str)(t:Tok)(ty:String)(g:ty="str_ascii_iterator"\/ty="str_iterator")
  (W:∀M:fb,M.handled=n_->Walks P w M it [it] [it] z.cps.size (SignAt z) λi h=>h.IsStrIter it ty z t i):Turn P w K S (dZ z) [it] it (λi h=>h.IsStrIter it ty z t i) where
 mem:=by simp
 obj:=λi h a b f=>by
  have e:b=it:=by simpa using f
  subst e;let#[o,e,c,d]:=a;exact#[o,e,λv z=>by rw[d]at z;cases z]
 keep:=λi h j a k=>let #[o,T,r]:=a;#[o,k it (by simp) o T,r]
 item:=by
  intro X C D F m i N s Z H E I n a G;subst C D F;let#[p,q,U,x,y,B]:=n it (by simp);refine(W X.A^I.ok.hd m).item i s _ _ G a λv j O V l Y=>?_;let#[c,u,J,rfl]:=V;have I1:Inv X N Z H {s with heap:=j,toks:=O}:=I.turned (λb o f e=>Y b o (by simpa using f) e) p q x y B;let#[o,e,cc,d]:=id l;exact#[_,rfl,M8 (s:={s with heap:=j,toks:=O}) e cc d (by rcases g with rfl|rfl <;>decide) #[.str #[#[ c]],H,I1,#[_,rfl],#[rfl,c,J,rfl],l,λb f=>(n b f).1]]
 done:=by
  intro X C D F m i N s Z H E I n a G;subst C D F;let#[p,q,U,x,y,B]:=n it^by simp
  have R:z.cps[i]?=n_:=by
   have:z.cps.size<=i:=G
   simp[this]
  rcases g with rfl|rfl
  .exact wpAny_pyNext_ascii_end (I.ok.hd m) a R λj L=>#[rfl,I.turned (t':=s.toks) (λb o f e=>L b o f e) p q x y B]
  .exact wpAny_pyNext_wide_end (I.ok.hd m) a R λj L=>#[rfl,I.turned (t':=s.toks) (λb o f e=>L b o f e) p q x y B]
 self:=λA i s Q E a h=>by
  rcases g with rfl|rfl
  .exact wpAny_pyIter_striter_ascii a h
  .exact wpAny_pyIter_striter_wide a h
section
variable {X:Cx}{tg:Expr}
def c5(K:Frag)(d:TE):TI:=λZ H R=>d Z H λx b=>
 (∃a,x=.ref a/\(∃c,SqL K b a c)/\R (da K a) b)\/(∃a,x=.ref a/\(∃c,SqT K b a c)/\R (ZD K a) b)\/∃z,x=.str z/\R (dZ z) b
def LR{l:fZ}{n:TE}(w:PE X l n):PI X tg l^c5 X.K n:=by
 intro r s Z H R I h;refine thn (w r s Z H _ I h) λv c zz=>?_;let#[x,g,f,j,y]:=zz
 have d:∀b,b∈[c.heap.objs.size]->FW X r g b:=λb A=>by
  have e:b=c.heap.objs.size:=by simpa using A
  subst e;exact f.fpOk (Rs _)^f.hok.fresh^Rs _
 rcases y with⟨a,e,⟨B,k⟩,q⟩|⟨a,e,⟨B,k⟩,q⟩|⟨z,e,q⟩
 .subst e
  cases j;let#[i,C,p,D]:=f.list k;refine hU p.isList ?_;exact#[c.heap.objs.size,[c.heap.objs.size],_,_,g,rfl,f.kept (t':=c.toks) λb o e=>Go _ e,P8 a _,#[_,UF _ rfl,rfl,rfl],d,q]
 .subst e
  cases j;let#[i,C,p,D]:=f.tuple k;refine gm (show c.heap.IsTuple a i.toArray from p) ?_;exact#[c.heap.objs.size,[c.heap.objs.size],_,_,g,rfl,f.kept (t':=c.toks) λb o e=>Go _ e,IY a _,#[_,UF _ rfl,rfl,rfl],d,q]
 .subst e
  let#[t,rfl]:=j;cases u:z.cps.all (·<128)
  .refine wpAny_pyIter_wide u ?_
   exact#[c.heap.objs.size,[c.heap.objs.size],_,_,g,rfl,f.kept (t':=c.toks) λb o e=>Go _ e,MJ _ z t "str_iterator" (.inr rfl) λE m=>Walks.strWide m _ z t,#[_,UF _ rfl,rfl,rfl],d,q]
  .refine wpAny_pyIter_ascii u ?_
   exact#[c.heap.objs.size,[c.heap.objs.size],_,_,g,rfl,f.kept (t':=c.toks) λb o e=>Go _ e,MJ _ z t "str_ascii_iterator" (.inl rfl) λE m=>Walks.strAscii m _ z t,#[_,UF _ rfl,rfl,rfl],d,q]
end
section
variable {X:Cx}
def Jk(bs:q_ Bool):((fo bs.length).all λi=>(bs[i]?).getD o_)=bs.all id:=by
 induction bs with
 |nil=>rfl
 |cons b r a=>
  rw[fF,List.range_succ_eq_map,mY,List.all_map]
  congr 1
def D7(t:X.calm=o_):Co X (.builtin "all") (λj H Q=>∃(p:Db) (c:q_ Bool),j=[.ref p]/\SqL X.K H p^c.map V.bl/\Q (.bl^c.all id) H):=by
 intro J s Z H j L Q I r h;let#[p,c,rfl,w,q]:=h;let#[u,rfl,y]:=vals1 r;cases y;let#[a,k,z,M]:=I.list w;have d:=k.length;have f:s.heap.IsList p a.toArray:=z.isList;have g:p<s.heap.objs.size:=by let#[_,e,_]:=id f;exact T0 e
 refine call_all_walk^hU f ?_
 refine#[s.heap.objs.size,[s.heap.objs.size,p],[s.heap.objs.size],a.toArray.size,_,_,λi=>(c[i]?).getD o_,rfl,Walks.list (A:=X.A.in1) (I.ok.hd t) _ p (fQ g) a.toArray,
  #[#[_,UF _ rfl,rfl,rfl],f.push _],λi v N O P B l=>?_,λR C D=>?_]
 .have m:a[i]?=P3 v:=by simpa using B
  have E:∃b,c[i]?=P3 b:=by
   have S:i<a.length:=(eq.mp m).1;rw[FM]at d;exact#[c[i]'(by lk),On^by lk]
  let#[b,n]:=E;let#[u,o,F]:=k.get (i:=i) (x:=.bl b) (by rw[fK,n];rfl);rw[m]at o;cases o;cases F;simp only[n,Option.getD_some]at l;exact iG l
 .have e:((fo a.toArray.size).all λi=>(c[i]?).getD o_)=c.all id:=by
   rw[fM,←d,FM];exact Jk c
  rw[e];exact#[.bl _,H,I.kept (t':=C) λb x e=>D b x (λG=>by rw[Op.mp G]at e;exact gM _^T0 e)^Go _ e,rfl,q]
def NP:Co X (.builtin "isinstance") (λa H Q=>∃x T t b,a=[x,.ty T]/\F2 X.K H x t/\PySem.W.kitOne X.K t^.type T=P3 b/\Q (.bl b) H):=by
 intro f s Z H a g Q I r h;let#[x,T,t,b,rfl,ty,e,q]:=h;let#[u,i,rfl,c,d]:=vals2 r;cases d;exact Qo I c ty e λj=>#[.bl b,H,I.tok _,rfl,q]
def QQ:OpR X (compareOp .LtE) (λx y H Q=>∃i j,x=.str i/\y=.str j/\Q (.bl (!(j.cps.toList<i.cps.toList))) H):=by
 intro c s Z H x y v u Q I a b h;let#[i,j,rfl,rfl,q]:=h;let#[t,rfl]:=a;let#[d,rfl]:=b;exact PySem.P.le_str #[.bl _,H,I,rfl,q]
def Ni{b:q_ Str}:∀{a:q_ Ev},Vals (b.map V.str) a->StrsAre a b:=by
 induction b with
 |nil=>intro a r;cases r;exact .nil
 | cons n g c=>
  intro a r;cases r with
  |cons d f=>
   let#[t,e]:=d;subst e;exact .cons n t^c f
def Xs:SlR X (λx f g H Q=>∃z,x=.str z/\z.length<=sizeLine/\Q (.str^Txt.slice z f g) H):=by
 intro o s Z H x v w y f g A Q I p c r m h;let#[z,rfl,d,q]:=h;let#[t,rfl]:=p;exists "str",_,F.slot_str_getitem.lookup,kI _ _ _;have b:∀a k,EP X o Z Q (.str _ a) {s with toks:=k}:=λa k=>#[.str _,H,I.tok _,#[_,rfl],q];cases r with
 |none=>
  cases m with
  |none=>exact jP (l:=n_) (u:=n_) (st:=n_) c rfl (kj #[fJ (Txt.slice_le z _ _) d,λa k=>b a k])
  |int j e=>exact jP (l:=n_) (u:=P3 (j,e)) (st:=n_) c rfl (kj #[fJ (Txt.slice_le z _ _) d,λa k=>b a k])
 |int i n=>
  cases m with
  |none=>exact jP (l:=P3 (i,n)) (u:=n_) (st:=n_) c rfl (kj #[fJ (Txt.slice_le z _ _) d,λa k=>b a k])
  |int j e=>exact jP (l:=P3 (i,n)) (u:=P3 (j,e)) (st:=n_) c rfl (kj #[fJ (Txt.slice_le z _ _) d,λa k=>b a k])
def QO(d:X.A.units<cLine):OpR X (compareOp .NotEq) (λx y H Q=>∃a b c,x=.ref a/\y=.ref b/\SqL X.K H a c/\SqL X.K H b []/\Q (.bl (!c.isEmpty)) H):=by
 intro w s Z H x y v u Q I m n h;let#[a,b,c,rfl,rfl,o,p,q]:=h;cases m;cases n;let#[r,f,g,_]:=I.list o;let#[i,k,l,_]:=I.list p;cases k;cases f with
 |nil=>exact SeqAt.RcNeAt.lists (e:=λ_=>o_) g.isList l.isList rfl d (λj t z=>absurd t^by simp) _ _ _ _ #[.bl _,H,I,rfl,q]
 |cons f k=>exact SeqAt.RcNeAt.lists_lengths g.isList l.isList (by simp) d _ _ _ _ #[.bl _,H,I,rfl,q]
end
end L2
namespace Dp
open L2
def Y8(K:Frag)(F:r_ (Db×Db))(U b M:Db->Prop)(H:Hp)(n:Nat)(c:q_ Slot)(d:q_ V):Prop:=
 (∀a,M a->∃o,H a=P3 o)/\(∀f,F=P3 f->U f.1)/\(∀a,U a->b a)/\(∀a,b a->M a)/\FeedC K F M H n/\Paired (LA K F b M H) d c
abbrev W2:=q_ Slot->Nat->(D->Nat->Prop)->Prop
def QC(K:Frag)(g:Kd)(W:W2)(h:Nat):Sp:=λb H Q _=>b.length=h/\∃(F:r_ (Db×Db)) (U c M:Db->Prop) (n:Nat) (e:q_ Slot) (P:D->Nat->Prop),Y8 K F U c M H n e b/\W e n P /\
 ∀v a d f,Ext U H a->FeedC K F M a f->VR K c M H a g v d->P d f->Q v a
def AQ(w:DW):Nat->q_ Slot->(Slot->Nat->Prop)->Prop:=λn a P=>w n a λd b=>P (.sh d) b
def D_(w:DW):Nat->q_ Slot->(Slot->Nat->Prop)->Prop:=λn a P=>w n a λd b=>P (.br d) b
def Dw(i:Nat):Nat->q_ Slot->(Slot->Nat->Prop)->Prop:=λn a P=>match a[i]? with
 |some .fd=>P .fd n
 |_=>False
def Ay:RE:=λn _ P=>P [] n
def AI(w:Nat->q_ Slot->(Slot->Nat->Prop)->Prop)(b:RE):RE:=λn a P=>w n a λs c=>b c a λd e=>P (s::d) e
def Au(W:W2)(a:RE):DW:=λn b P=>a n b λc d=>W c d P
section
variable {X:Cx}{a e:Expr}{es:q_ Expr}{κ zT:Kd}{wa:DW}{pos:Pos}{w1:Nat->q_ Slot->(Slot->Nat->Prop)->Prop}{was:RE}{ws:De}
def az(h:DE X e κ wa)(b:κ≠.tp:=by intro z;cases z):bh X e^AQ wa:=by
 let#[t,c,g]:=h;exact#[t,c,λC M H n i Z P Q R w q=>g C M H n i Z _ _ R w λv j d k e f r p=>q v j (.sh d) k e f #[#[v,rfl,r.shOf R.dom b],rfl] p]
def Cz(h:DE X e κ wa):bh X e^D_ wa:=by
 let#[t,b,c]:=h;exact#[t,b,λC M H n g Z P Q R w q=>c C M H n g Z _ _ R w λv i d j e f r p=>q v i (.br d) j e f #[#[v,rfl,r.tpOf R.dom R.vM],rfl] p]
def A3(i:Nat){x:Str}{pos:Pos}(d:X.N[i]?=P3 x:=by rfl)(e:RB X.env.scope x:=by first|exact f9 rfl|exact g7 (f9 rfl)|exact g7 (g7 rfl))(b:(x==("__debug__":Str))=p_:=by cbv)
  (c:(x==("__classdict__":Str))=p_:=by cbv):bh X (.Name x pos)^Dw i:=by
 refine#[_,En d e b c,λC M H n j Z P Q R w q=>?_];unfold Dw at w
 split at w
 .rename_i b
  let#[f,g,h]:=R.sl i _ b;exact#[_,getD_some g,q _ H .fd n (Ext.refl _ _) R.feed #[#[f,rfl,h],rfl] w]
 grind
def AE:RJ X [] Ay:=#[_,CH,λC M H n b Z P Q R w q=>q [] H [] n (Ext.refl _ _) R.feed .nil w]
def AO(i:bh X e w1)(j:RJ X es was)(k:starEach (e::es) X.env=(p_,eval e X.env)::starEach es X.env:=by rfl):RJ X (e::es)^AI w1 was:=by
 let#[t,l,m]:=i;let#[u,o,r]:=j;refine#[_,BL l o k,λC M H n c Z P Q R w q=>?_];refine m C M H n c Z _ _ R w λv s d x f y g p=>?_;have h:=R.step f y;exact r C M s x c Z _ _ h p λF H2 G A b B D E=>q _ H2 _ A (f.trans b) B (.cons #[g.1.pres (h.pres b) (λ_ z=>z) b R.uV,g.2] D) E
def V8{k:Nat}{f:Db}{fd:f_}{b:q_ Str}{W:W2}{x:Str}{p:Pos}(G:B8 X.prog X.w X.K X.mg X.base EU k f fd b^QC X.K κ W b.length)(o:∀c n P,W c n P->c.length=b.length)
  (r:Room k X.A) (s:Gl X x) (u:X.mg x=P3^.ref f) (y:keepIn X.K^.ref f=o_) (z:Binds X.K fd b []) (B:RJ X (e::es) was)
  (h:(x==("__debug__":Str))=p_:=by cbv) (D:starEach (e::es) X.env=(p_,eval e X.env)::starEach es X.env:=by rfl) (i:(backTo pos^starEach es X.env).any (·.1)=p_:=by rfl):
  DE X (.Call (.Name x p) (e::es) [] pos) κ (Au W was):=by
 let#[t,E,F]:=B;refine#[_,PD G r s u y z .nil Wu E h D i,λC M H n I Z P Q R w q=>?_];refine F C M H n I Z _ _ R w λU V c J j l m p=>?_;have g:=R.step j l;rw[fh];exact#[(Paired.length m).trans^o _ _ _ p,_,_,_,M,J,c,P,#[g.dom,g.fU,g.uV,g.vM,l,m],p,λv H2 d L N O S T=>q v H2 d L (j.trans N) O (VR.back j S) T]
def dX(K:Frag)(κ:Kd)(T:String)(r:V->q_ V->Hp->VK->Prop)(f:D->q_ D->(D->Prop)->Prop):Prop:=∀(U:Db->Prop) (M:Db->Prop) (H:Hp) (d:D) (c:q_ D) (x:V) (e:q_ V) (P:D->Prop) (Q:VK),(∀a,M a->∃o,H a=P3 o)->(∀a,U a->M a)->
 AtT K U M H d x->Paired (λv d=>AtT K U M H d v) e c->f d c P->(∀v b z,Grow H b->VR K U M H b κ v z->P z->Q v b)->r x e H Q
def bv(T:String)(d:D):Prop:=match d with
 |.str _=>T="str"
 |.int _=>T="int"
 |.lst _=>T="list"
 |_=>False
def dh(T:String)(f:D->q_ D->(D->Prop)->Prop)(c:DW)(ws:De):DW:=λn b P=>c n b λd e=>bv T d/\ws e b λg h=>f d g λz=>P z h
def Li{T:String}{K:Frag}{U:Db->Prop}{M:Db->Prop}{H:Hp}{d:D}{x:V}(h:bv T d)(hx:AtT K U M H d x):cL K T x H:=by
 cases d with
 |str z=>let#[e,_]:=hx;subst e;exact h
 |int i=>cases(hx);exact h
 |lst f=>let#[a,b,e,_,c,_]:=hx;subst e;exact .inl #[h,b,.inl c]
 |_=>exact(h).elim
def ay{name:Str}{h b:Pos}{T s:String}{r:V->q_ V->Hp->VK->Prop}{f:D->q_ D->(D->Prop)->Prop}(I:PlainAttrs T)(k:PySem.Slot T name s)(y:typeOf^.builtin s=pure^.type "method_descriptor")(J:XH X s r)
  (L:dX X.K κ T r f) (N:DE X a zT wa) (O:WO X (e::es) ws)
  (i:attributeBase a name X.env^eval a X.env=eval a X.env:=by rfl)
  (l:((backTo b^starEach (e::es) X.env).all (λx=>!x.1)&&(backToKw b^keywordEach [] X.env).all (λx=>x.1.isSome)
   && decide ((e::es).length+([]:q_ iO).length+(if([]:q_ iO).isEmpty then 0 else 1)<30))=o_:=by rfl)
  (j:(h.endLine==b.line)=o_:=by rfl) (S:starEach (e::es) X.env=(p_,eval e X.env)::starEach es X.env:=by rfl) (c:(backTo b^starEach es X.env).any (·.1)=p_:=by rfl):
  DE X (.Call (.Attribute a name h) (e::es) [] b) κ (dh T f wa ws):=by
 let#[t,U,W]:=N;let#[u,Y,g2]:=O;refine#[_,PF I k y J U Y i l j S c,λC M H n E Z P Q R w q=>?_];refine W C M H n E Z _ _ R w λx H1 d n1 A f1 r1 p=>?_;have B:=R.step A f1;have F:=r1.tpOf R.dom R.vM;exists Li p.1 F;refine g2 C M H1 n1 E Z _ _ B p.2 λvs H2 ds n2 m G r2 p2=>?_;have o:=B.step m G;refine L C.V M H2 d ds x vs _ _ o.dom o.vM (F.pres (B.pres m) m R.uV) r2 p2 λv H3 z g vr pz=>?_;exact q v H3 z n2 ((A.trans m).trans g.ext) (G.grow g) (VR.back (A.trans m) vr) pz
def DO(X:Cx)(e:r_ fZ)(w:Nat->q_ Slot->(r_ Int->Nat->Prop)->Prop):Prop:=∃t,PO X e t/\∀(C:Fm) (M:Db->Prop) (H:Hp) (n:Nat) (c:q_ Slot) (Z:L2.St) (P:r_ Int->Nat->Prop) (Q:r_ Int->Hp->Prop),Rel X.K C M H n c Z->w n c P->
 (∀o b d,Ext C.U H b->FeedC X.K C.F M b d->P o d->Q o b)->t Z H Q
def Bs:Nat->q_ Slot->(r_ Int->Nat->Prop)->Prop:=λn _ P=>P n_ n
def DD(w:DW):Nat->q_ Slot->(r_ Int->Nat->Prop)->Prop:=λn b P=>w n b λd c=>match d with
 |.int i=>P (P3 i) c
 |_=>False
def BO:DO X n_ Bs:=#[_,O_,λC M H n b Z P Q R w q=>q _ H n (Ext.refl _ _) R.feed w]
def Lj{U:Db->Prop}{K:Frag}{M:Db->Prop}{H b:Hp}{v:V}{i:Int}(h:VR K U M H b κ v^.int i):v=.int i:=by
 cases κ with
 |sh=>exact h
 |tp=>exact h
 |fr=>let#[a,_,_,t]:=h;exact(t).elim
def BH(h:DE X e κ wa):DO X (P3 e)^DD wa:=by
 let#[t,b,c]:=h;refine#[_,O9 b,λC M H n f Z P Q R w q=>?_];refine c C M H n f Z _ _ R w λv g d j k l m p=>?_;cases d with
 |int i=>exact#[i,Lj m,q _ g j k l p]
 |_=>exact p.elim
def eI(K:Frag)(κ:Kd)(r:V->r_ Int->r_ Int->Hp->VK->Prop)(f:D->r_ Int->r_ Int->(D->Prop)->Prop):Prop:=∀(U:Db->Prop) (M:Db->Prop) (H:Hp) (d:D) (x:V) (c e:r_ Int) (P:D->Prop) (Q:VK),(∀a,M a->∃o,H a=P3 o)->(∀a,U a->M a)->
 AtT K U M H d x->f d c e P->(∀v b z,Grow H b->VR K U M H b κ v z->P z->Q v b)->r x c e H Q
def Oi(f:D->r_ Int->r_ Int->(D->Prop)->Prop)(w:DW)(c e:Nat->q_ Slot->(r_ Int->Nat->Prop)->Prop):DW:=λn b P=>w n b λd g=>c g b λh i=>e i b λj k=>f d h j λz=>P z k
def CS{i j:r_ fZ}{k:Pos}{r:V->r_ Int->r_ Int->Hp->VK->Prop}{f:D->r_ Int->r_ Int->(D->Prop)->Prop}{s x:Nat->q_ Slot->(r_ Int->Nat->Prop)->Prop}(B:SlR X r)(E:eI X.K κ r f)(F:DE X e zT wa)(G:DO X i s)(I:DO X j x):
  DE X (.Subscript e (.Slice i j n_ k) pos) κ (Oi f wa s x):=by
 let#[t,J,L]:=F;let#[u,N,O]:=G;let#[u',S,T]:=I;refine#[_,MZ B J N S,λC M H n l Z P Q R w q=>?_];refine L C M H n l Z _ _ R w λv U d W m Y r1 p=>?_;have o:=R.step m Y;have tv:=r1.tpOf R.dom R.vM;refine O C M U W l Z _ _ o p λi H2 n2 c f2 k=>?_;have b:=o.step c f2;refine T C M H2 n2 l Z _ _ b k λj H3 n3 h y p3=>?_;have A:=b.step h y;refine E C.V M H3 d v i j _ _ A.dom A.vM ((tv.pres (o.pres c) c R.uV).pres (b.pres h) h R.uV) p3 λv H4 z g vr pz=>?_;exact q v H4 z n3 (((m.trans c).trans h).trans g.ext) (y.grow g) (VR.back ((m.trans c).trans h) vr) pz
end
structure E2 where
 nx:Nat->List Slot->Prop
 rt:D->Nat->Prop
 bk:Nat->List Slot->Prop:=λ_ _=>False
 ct:Nat->List Slot->Prop:=λ_ _=>False
abbrev AW:=E2->Nat->q_ Slot->Prop
structure Gs (K:Frag) (C:Fm) (κ:Kd) (D2:E2) (E:Ends):Prop where
 nx:∀M H n ρ Z,Rel K C M H n ρ Z->D2.nx n ρ->E.nx Z H
 rt:∀v H d n,Ext C.U C.H0 H->FeedC K C.F C.M0 H n->VR K C.V C.M0 C.H0 H κ v d->D2.rt d n->E.rt v H
 bk:∀M H n ρ Z,Rel K C M H n ρ Z->D2.bk n ρ->E.bk Z H
 ct:∀M H n ρ Z,Rel K C M H n ρ Z->D2.ct n ρ->E.ct Z H
def DS(X:Cx)(c:Kd)(st:gJ)(w:AW):Prop:=∃t,PS X st t/\∀(C:Fm) (M:Db->Prop) (H:Hp) (n:Nat) (a:q_ Slot) (Z:L2.St) (b:E2) (E:Ends),Rel X.K C M H n a Z->Gs X.K C c b E->w b n a->t E Z H
def J7(X:Cx)(c:Kd)(st:q_ gJ)(w:AW):Prop:=∃t,PSs X st t/\∀(C:Fm) (M:Db->Prop) (H:Hp) (n:Nat) (a:q_ Slot) (Z:L2.St) (b:E2) (E:Ends),Rel X.K C M H n a Z->Gs X.K C c b E->w b n a->t E Z H
def Bm:AW:=λa n b=>a.nx n b
def BE(u v:AW):AW:=λa n b=>u {a with nx:=v a} n b
def Bo(w:DW):AW:=λa n b=>w n b λd c=>a.rt d c
def CU(t:F4)(u v:AW):AW:=λb n a=>t n a λc d=>if c=o_ then u b d a else v b d a
def Cq(i:Nat)(w:DW):AW:=λb n a=>w n a λd c=>b.nx c^a.set i^.sh d
section
variable {X:Cx}{κ zR:Kd}{st:Stmt}{rest:q_ Stmt}{u v:AW}{wa:DW}{wA:F4}{e c:Expr}{pos:Pos}
def AS:J7 X κ [] Bm:=#[_,LP,λC M H n a Z b E R L w=>L.nx M H n a Z R w]
def AC(c:DS X κ st u)(d:J7 X κ rest v):J7 X κ (st::rest)^BE u v:=by
 let#[t,e,f]:=c;let#[i,g,h]:=d;exact#[_,A6 e g,λC M H n a Z b E R L w=>f C M H n a Z {b with nx:=v b} _ R #[λM H n a Z R w=>h C M H n a Z b E R L w,L.rt,L.bk,L.ct] w]
def AD(a:DS X κ st u):J7 X κ [st] u:=by
 let#[t,b,c]:=a;exact#[t,Cf b,c]
def Xv{K:Frag}{C:Fm}{M:Db->Prop}{H g:Hp}{n h:Nat}{j:q_ Slot}{Z:L2.St}{i:E2}{E:Ends}{d:D}{v:V}(R:Rel K C M H n j Z)(L:Gs K C κ i E)(e:Ext C.U H g)(f:FeedC K C.F M g h)(r:VR K C.V M H g κ v d)(o:κ≠.tp)(p:i.rt d h):E.rt v g:=by
 have c:Pres M g _ g:=Pres.less R.sub;refine L.rt v g d h (R.ext.trans e) (f.pres c λ_ _ _ z=>z) ?_ p;cases κ with
 |sh=>exact At.pres c r
 |tp=>grind
 |fr=>
  let#[a,k,l,m]:=VR.back R.ext r;exact#[a,k,l,m.pres (Pres.less λb z=>z.imp (R.sub b) id) λ_ z=>z]
def AN(h:DE X e κ wa)(a:κ≠.tp:=by intro z;cases z):DS X κ (.Return (P3 e) pos)^Bo wa:=by
 let#[t,b,c]:=h;exact#[_,Fp b,λC M H n f Z k E R L w=>c C M H n f Z _ _ R w λv l d m g i j p=>Xv R L g i j a p]
def Am{a b:q_ gJ}(j:DT X c wA)(k:J7 X κ a u)(l:J7 X κ b v):DS X κ (.If c a b pos)^CU wA u v:=by
 let#[t,m,o]:=j;let#[z,q,r]:=k;let#[s,x,y]:=l;refine#[_,O7 m q x,λC M H n d Z e E R L w=>?_];refine o C M H n d Z _ _ R w λb f g h i p=>?_;cases b with
 |true=>exact r C M f g d Z e E (R.step h i) L p
 |false=>exact y C M f g d Z e E (R.step h i) L p
def Yk{i:Nat}{x:Str}{a:Pos}(b:X.N.Nodup)(c:X.N[i]?=P3 x)(hx:Loc X.env.scope x)(f:DE X e zR wa)(g:zR≠.tp:=by intro z;cases z)(h:swapsWith e (P3^.Name x a) pos.line X.env=pure p_:=by rfl)
  (j:X.fn x=o_\/X.env.scope.names.lookup x=P3 .local:=by first|exact .inl rfl|exact .inr rfl|assumption):DS X κ (.Assign [.Name x a] e pos)^Cq i wa:=by
 let#[t,k,l]:=f;exact#[_,ED b c hx k h j,λC M H n m Z y E R L w=>l C M H n m Z _ _ R w λv o d q r s u p=>L.nx M o q _ _ ((R.step r s).set^u.shOf R.dom g) p]
end
section
variable {X:Cx}{κ:Kd}{e:Expr}{wa:DW}{pos:Pos}
def MD(i:Nat)(w:DW):AW:=λb n a=>w n a λd c=>b.nx c^a.set i^.ow d
def Vx{i:Nat}{x:Str}{b:Pos}(c:X.N.Nodup)(f:X.N[i]?=P3 x)(hx:Loc X.env.scope x)(g:DE X e .fr wa)(h:swapsWith e (P3^.Name x b) pos.line X.env=pure p_:=by rfl)
  (j:X.fn x=o_\/X.env.scope.names.lookup x=P3 .local:=by first|exact .inl rfl|exact .inr rfl|assumption):DS X κ (.Assign [.Name x b] e pos)^MD i wa:=by
 let#[t,k,l]:=g;refine#[_,ED c f hx k h j,λC M H n m Z A E R L w=>?_];refine l C M H n m Z _ _ R w λv o d q r s u p=>?_;let#[a,rfl,y,z]:=u;exact L.nx _ o q _ _ (R.setOw r s y z) p
def ME(i:Nat):AW:=λa n b=>∃d,b[i]?=P3^.ow d/\a.rt d n
def Gc{x:Str}{p:Pos}(i:Nat)(h:PE X (.Name x p)^Bp i):DS X .fr (.Return (P3^.Name x p) pos)^ME i:=by
 refine#[_,Fp h,λC M H n g Z j E R L zz=>?_];let#[d,c,f]:=zz;let#[a,e,m,k,t]:=R.sl i _ c;exact#[_,getD_some e,L.rt _ H d n R.ext (R.feed.pres (Pres.less R.sub) λ_ _ _ z=>z) #[a,rfl,(R.new i _ a c rfl e).2,t.pres (Pres.less λb z=>z.elim (R.sub b) λz=>by grind) λ_ z=>z] f]
def UU(K:Frag)(r:V->q_ V->Hp->VK->Prop)(f:D->q_ D->(D->D->Prop)->Prop):Prop:=∀(M:Db->Prop) (H:Hp) (a:Db) (d:D) (b:q_ D) (c:q_ V) (P:D->D->Prop) (Q:VK),M a->Tops K M H a d->Ats K M H b c->f d b P->
 (∀o e z v,Tops K M (Ar H a o) a e->At K M (Ar H a o) z v->P e z->Q v^Ar H a o)->r (.ref a) c H Q
def LF(i:Nat)(T:String)(f:D->q_ D->(D->D->Prop)->Prop)(b:De):AW:=λc n a=>∃d,a[i]?=P3^.ow d/\bv T d/\b n a λg h=>f d g λe _=>c.nx h^a.set i^.ow e
def Cg{M:Db->Prop}{H:Hp}{a:Db}{o u:HO}(m:M a)(e:H a=P3 u)(t:∀c,u≠.tup c:=by intro _ z;cases z):Pres M H M^Ar H a o:=#[λb f q d=>by rw[AM λz=>d^by simp_all];exact q,λ_ z=>.inl z,λb c q=>by rw[AM λz=>by grind];exact q]
def CB{x name:Str}{p c b:Pos}{T w:String}{r:V->q_ V->Hp->VK->Prop}{f:D->q_ D->(D->D->Prop)->Prop}{j:q_ fZ}{I:De}(i:Nat)(N:PlainAttrs T)(q:PySem.Slot T name w)(y:typeOf^.builtin w=pure^.type "method_descriptor")
  (O:XH X w r) (P:UU X.K r f) (h:PE X (.Name x p)^Bp i) (Q:WN X (e::j) I)
  (k:attributeBase (.Name x p) name X.env^eval (.Name x p) X.env=eval (.Name x p) X.env:=by rfl)
  (s:((backTo b^starEach (e::j) X.env).all (λx=>!x.1)&&(backToKw b^keywordEach [] X.env).all (λx=>x.1.isSome)
   && decide ((e::j).length+([]:q_ iO).length+(if([]:q_ iO).isEmpty then 0 else 1)<30))=o_:=by rfl)
  (l:(c.endLine==b.line)=o_:=by rfl) (S:starEach (e::j) X.env=(p_,eval e X.env)::starEach j X.env:=by rfl) (g:(backTo b^starEach j X.env).any (·.1)=p_:=by rfl)
  (A:swapsWith (.Call (.Attribute (.Name x p) name c) (e::j) [] b) n_ pos.line X.env=pure p_:=by rfl):
  DS X κ (.Expr (.Call (.Attribute (.Name x p) name c) (e::j) [] b) pos) (LF i T f I):=by
 let#[t,U,W]:=Q;refine#[_,O8 (PF N q y O h U k s l S g) A,λC M H n Y Z D2 E R L zz=>?_];let#[d,B,hT,hw]:=zz;let#[a,F,m,nv,tt]:=R.sl i _ B;exists .ref a,getD_some F,Li hT^tt.att nv;refine W C M H n Y Z _ _ R hw λvs H1 ds n1 ee f1 r1 p=>?_;have J:=R.step ee f1;let#[a',u,m',a0,G]:=J.sl i _ B;rw[F]at u;cases u;exact P M H1 a d ds vs _ _ m' G r1 p λo d' z v t2 hz pp=>L.nx M _ n1 _ Z (J.mut B F t2) pp
def FV(d:D)(b:q_ D)(P:D->D->Prop):Prop:=∃a y,d=.lst a/\b=[y]/\a.length<sizeLine/\P (.lst (a++[y])) .non
def C1{K:Frag}:UU K O3 FV:=by
 intro M H a d j k P Q m t e w q;let#[l,y,rfl,rfl,f,w]:=w;let#[g,b,c]:=t;let#[u,r,rfl,h,i]:=e;cases(i);exact#[a,g,u,rfl,rfl,b,by rw[c.length];exact f,q _ (.lst _) .non _ #[_,AR,(c.append^Ats.one h).pres^Cg m b] rfl w]
def al(d:D)(c:q_ D)(P:D->D->Prop):Prop:=∃a b,d=.lst a/\c=[.lst b]/\a.length+b.length<=sizeLine/\P (.lst (a++b)) .non
def UL{K:Frag}:UU K O2 al:=by
 intro M H a d o p P Q m t g w q;let#[s,v,rfl,rfl,h,w]:=w;let#[i,c,e]:=t;let#[u,r,rfl,j,k]:=g;cases(k);let#[b,l,rfl,n,f]:=j;exact#[a,b,i,l,rfl,rfl,c,n.2,by rw[e.length,f.length];exact h,q _ (.lst _) .non _ #[_,AR,(e.append f).pres^Cg m c] rfl w]
end
def Yields(K:Frag)(M:Db->Prop)(H:Hp)(J:It)(e:q_ D):Prop:=∀(i:Nat) (c:Db->Prop) (b:Hp),Pres M H c b->(∀a,c a->∃o,b a=P3 o)->
 (∀d,e[i]?=P3 d->J.go i b/\∀x H2,J.yld i b x H2->Grow b H2/\At K c H2 d x)/\(e.length<=i->J.stop i b)
def P2(K:Frag)(U M:Db->Prop)(H:Hp)(J:It)(e:q_ D):Prop:=∀(i:Nat) (c:Db->Prop) (b:Hp),Pres M H c b->Ext U H b->(∀a,c a->∃o,b a=P3 o)->
 (∀d,e[i]?=P3 d->J.go i b/\∀x H2,J.yld i b x H2->Grow b H2/\At K c H2 d x)/\(e.length<=i->J.stop i b)
def Yields.e{K:Frag}{U M:Db->Prop}{H:Hp}{J:It}{a:q_ D}(h:Yields K M H J a):P2 K U M H J a:=λi b c p _ d=>h i b c p d
def XJ(X:Cx)(g a:fZ)(w:De):Prop:=∃c,PI X g a c/\∀(C:Fm) (M:Db->Prop) (H:Hp) (n:Nat) (d:q_ Slot) (Z:L2.St) (P:q_ D->Nat->Prop) (R:It->Hp->Prop),Rel X.K C M H n d Z->w n d P->
 (∀J b e f,Ext C.U H b->FeedC X.K C.F M b f->P2 X.K C.U M b J e->P e f->R J b)->c Z H R
def DI(X:Cx)(g a:fZ)(w:De):Prop:=∃c,PI X g a c/\∀(C:Fm) (M:Db->Prop) (H:Hp) (n:Nat) (d:q_ Slot) (Z:L2.St) (P:q_ D->Nat->Prop) (R:It->Hp->Prop),Rel X.K C M H n d Z->w n d P->
 (∀J b e f,Ext C.U H b->FeedC X.K C.F M b f->Yields X.K M b J e->P e f->R J b)->c Z H R
def signs(x:Str):q_ D:=x.cps.toList.map λc=>.str #[#[ c]]
def Bb(w:DW):De:=λn c P=>w n c λd a=>match d with
 |.lst b=>P b a
 |.tup b=>P b a
 |.str x=>P (signs x) a
 |_=>False
def MA{K:Frag}{M:Db->Prop}{H:Hp}{a:Db}{b:q_ V}{f:q_ D}(h:NdL M H a b)(g:Ats K M H f b):Yields K M H (da K a) f:=by
 intro i o j p _;have c:SqL K j a b:=(h.pres p).sq;refine#[λd k=>?_,λl=>#[b,c,by rw[g.length];exact l]];let#[v,e,m]:=(g.pres p).get k;refine#[#[b,v,c,e],λx H2 y=>?_];let#[n,y]:=y;subst n
 have:=e.symm.trans^y b c
 cases this;exact#[.refl,m]
def IU{K:Frag}{M:Db->Prop}{H:Hp}{a:Db}{b:q_ V}{f:q_ D}(h:NdT M H a b)(g:Ats K M H f b):Yields K M H (ZD K a) f:=by
 intro i o j p _;have c:SqT K j a b:=(h.pres p).sq;refine#[λd k=>?_,λl=>#[b,c,by rw[g.length];exact l]];let#[v,e,m]:=(g.pres p).get k;refine#[#[b,v,c,e],λx H2 y=>?_];let#[n,y]:=y;subst n
 have:=e.symm.trans^y b c
 cases this;exact#[.refl,m]
def yields_str{K:Frag}{M:Db->Prop}{H:Hp}{z:Str}:Yields K M H (dZ z)^signs z:=by
 intro i h j p _;refine#[λd a=>?_,λe=>?_]
 .unfold signs at a
  rw[fK]at a
  have f:i<z.cps.size:=by
   cases q:z.cps.toList[i]? with
   |none=>simp_all
   |some c=>simpa using (eq.mp q).1
  refine#[f,λx H2 y=>?_];let#[g,c,k,rfl]:=y;subst g
  have:z.cps.toList[i]?=P3 c:=by grind
  rw[this]at a;have b:D.str #[#[ c]]=d:=fG a;subst b;exact#[.refl,rfl,by rw[fz];show 1<=16777216;decide]
 .show z.cps.size<=i
  unfold signs at e
  simp_all
def Em(a:Int)(n:Nat):q_ D:=(fo n).map fun(i:Nat)=>.int (a+(i:Int))
def LB{K:Frag}{M:Db->Prop}{H:Hp}{e:Int}{m:Nat}:Yields K M H (b9 e m)^Em e m:=by
 intro i k l p _;refine#[λd a=>?_,λg=>?_]
 .unfold Em at a
  rw[fK]at a
  have f:=by
   cases q:(fo m)[i]? with
   |none=>simp_all
   |some c=>simpa using (eq.mp q).1
  rw[List.getElem?_range f]at a;have b:=fG a;subst b;refine#[f,λx H2 y=>?_];let#[h,j]:=y;subst h;exact#[.refl,j]
 .show m<=i
  unfold Em at g
  simp_all
section
variable {X:Cx}{tg e e2:Expr}{κ:Kd}{wa:DW}{ws:De}{p pos:Pos}
def Cb(h:DE X e κ wa)(o:κ≠.tp:=by intro z;cases z):DI X tg e^Bb wa:=by
 let#[t,r,s]:=h;refine#[_,LR r,λC M H n u Z P y R w q=>?_];refine s C M H n u Z _ _ R w λv c d f g i x p=>?_;have j:=x.shOf R.dom o;cases d with
 |lst k=>
  let#[a,l,e,b,m]:=j;exact .inl #[a,e,#[l,b.sq],q _ c k f g i (MA b m) p]
 |tup k=>
  let#[a,l,e,b,m]:=j;exact .inr^.inl #[a,e,#[l,b.sq],q _ c k f g i (IU b m) p]
 |str z=>exact .inr^.inr #[z,j.1,q _ c _ f g i yields_str p]
 |_=>exact p.elim
def RU(ws:De):De:=λn a P=>ws n a λb c=>∃j:Int,b=[.int j]/\(-(2 ^ 62)<=j/\j<2 ^ 62)/\P (Em 0 j.toNat) c
def D6(b:Gl X "range")(c:X.mg "range"=n_)(d:WO X [e] ws)(f:starEach [e] X.env=[(p_,eval e X.env)]:=by rfl):DI X tg (.Call (.Name "range" p) [e] [] pos)^RU ws:=by
 let#[t,g,h]:=d;refine#[_,QJ b c g f,λC M H n i Z P v R w q=>?_];refine h C M H n i Z _ _ R w λx k y l m o s p=>?_;let#[j,rfl,a,p]:=p;cases s with
 |cons r u=>
  cases u;exact#[j,by rw[r],a.1,a.2,q _ k _ l m o LB p]
def DI.c(h:DI X tg e ws):XJ X tg e ws:=by
 let#[a,b,d]:=h;exact#[a,b,λC M H n f Z P g R w q=>d C M H n f Z P g R w λJ i j k l m y p=>q J i j k l m y.e p]
def A4(h:DE X e κ wa):XJ X tg e^Bb wa:=by
 let#[t,B,D]:=h;refine#[_,LR B,λC M H n E Z P N R w q=>?_];refine D C M H n E Z _ _ R w λv g d k l m F p=>?_;have f:AtT X.K C.V M g d v:=F.tpOf R.dom R.vM;cases d with
 | lst r=>
  let#[a,b,e,u,c,j]:=f;refine .inl #[a,e,#[b,.inl c],q _ g r k l m (λi O G I ex _=>?_) p]
  have s:SqL X.K G a b:=by
   rcases c with c|⟨o,c⟩
   .exact .inl^.inl^ex.keep c λz=>u^R.uV a z
   .exact .inl^.inr #[o,ex.keep c λz=>u^R.uV a z]
  refine#[λd J=>?_,λL=>#[b,s,by rw[j.length];exact L]];let#[v,e,f]:=(j.pres I).get J;refine#[#[b,v,s,e],λx H2 y=>?_];let#[e2,y]:=y;subst e2
  have:P3 v=P3 x:=e.symm.trans^y b s
  cases this;exact#[.refl,f]
 |tup r=>
  let#[a,b,e,A,j]:=f;exact .inr^.inl #[a,e,#[b,A.sq],q _ g r k l m (IU A j).e p]
 |str z=>exact .inr^.inr #[z,f.1,q _ g _ k l m yields_str.e p]
 |_=>exact p.elim
end
abbrev BW:=D->q_ Slot->(q_ Slot->Prop)->Prop
def DG(X:Cx)(f:fZ)(b:BW):Prop:=∃g,PG X f g/\∀(C:Fm) (M:Db->Prop) (H:Hp) (n:Nat) (a:q_ Slot) (Z:L2.St) (d:D) (v:V) (P:q_ Slot->Prop) (Q:L2.St->Hp->Prop),Rel X.K C M H n a Z->At X.K M H d v->b d a P->
 (∀c e,Rel X.K C M H n c e->P c->Q e H)->g v Z H Q
def AU(i:Nat):BW:=λd a P=>P^a.set i^.sh d
def EO{X:Cx}{i:Nat}{x:Str}{pos:Pos}(a:X.N.Nodup)(b:X.N[i]?=P3 x)(hx:Loc X.env.scope x)(c:X.fn x=o_\/X.env.scope.names.lookup x=P3 .local:=by first|exact .inl rfl|exact .inr rfl|assumption):DG X (.Name x pos)^AU i:=
 #[_,GC a b hx c,λC M H n e Z d v P Q R h w q=>q _ _ (R.set h) w]
def Ae(b:BW)(a:AW)(c:E2):q_ D->Nat->q_ Slot->Prop
 |[],n,e=>c.nx n e
 |d::f,n,e=>b d e λg=>a {c with nx:=Ae b a c f,ct:=Ae b a c f,bk:=c.nx} n g
def F5(c:De)(b:BW)(a:AW):AW:=λe n d=>c n d λf g=>Ae b a e f g d
def Rel.unpin{K:Frag}{C:Fm}{p:(Db->Prop)×Hp}{M:Db->Prop}{H:Hp}{n:Nat}{a:q_ Slot}{Z:L2.St}(R:Rel K {C with zH:=p::C.zH} M H n a Z):Rel K C M H n a Z:=
 #[R.len,R.sub,R.dom,R.ext,R.fU,R.uV,R.vM,R.feed,R.sl,λq b=>R.pin q^Sc _ b,R.br0,R.new,R.two,R.kept]
def Rel.pinned{K:Frag}{C:Fm}{M:Db->Prop}{H:Hp}{n:Nat}{a:q_ Slot}{Z:L2.St}(R:Rel K C M H n a Z):Rel K {C with zH:=(M,H)::C.zH} M H n a Z:=
 #[R.len,R.sub,R.dom,R.ext,R.fU,R.uV,R.vM,R.feed,R.sl,λq b=>(Tk.mp b).elim (λe=>e▸Pres.refl M H)^R.pin q,R.br0,R.new,R.two,R.kept]
section
variable {X:Cx}{κ:Kd}{tg iter:Expr}{body:q_ Stmt}{src:De}{b:BW}{wb:AW}{pos:Pos}
def BR(S:j9 (model X.prog X.w) X.A X.env X.xe)(T:X.calm=o_)(I:DI X tg iter src)(U:DG X tg b)(V:J7 X κ body wb)
  (W:∀x,foldedSetIterable iter X.env x=pure x:=by intro _;rfl):DS X κ (.For tg iter body [] pos)^F5 src b wb:=by
 let#[wi,Y,a2]:=I;let#[g,g1,g2]:=U;let#[tb,b1,b2]:=V;refine#[_,G3 S T Y g1 b1 W,λC M H n N Z h E R L w=>?_];refine a2 C M H n N Z _ _ R w λJ u a n1 e1 f1 y w1=>?_;have R1:=R.step e1 f1;exists λi m v j=>m=a.length - i/\i<=a.length/\∃c k o,Rel X.K {C with zH:=(M,u)::C.zH} c j k o v/\Ae b wb h (a.drop i) k o,#[a.length,by simp,Uf _,M,n1,N,R1.pinned,w1];rintro i m v j ⟨rfl,I,c,k,o,l,z⟩;have O:Pres M u c j:=l.pin (M,u) Re
 by_cases d:i<a.length
 .have ed:a.drop i=a[i]::a.drop (i+1):=gZ d
  rw[ed]at z;let#[go,yl]:=(y i c j O l.dom).1 a[i] (On d);refine .inr #[go,λP H2=>∃M2 B D,Rel X.K {C with zH:=(M,u)::C.zH} M2 H2 B D P/\Ae b wb h (a.drop (i+1)) B D,λP H2 #[M2,B,D,f,w2]=>#[a.length - (i+1),by lk,rfl,d,M2,B,D,f,w2],λx H2 hy=>?_];let#[Q,hx]:=yl x H2 hy;have f:=l.step Q.ext^l.feed.grow Q;refine g2 _ c H2 k o v a[i] x _ _ f hx z λzO zV R3 w3=>?_;refine b2 _ c H2 k zO zV {h with nx:=Ae b wb h^a.drop (i+1),ct:=Ae b wb h^a.drop (i+1),bk:=h.nx} _ R3 #[λp F q r G s t=>#[p,q,r,s,t],L.rt,λp F q r G s t=>L.nx p F q r G s.unpin t,λp F q r G s t=>#[p,q,r,s,t]] w3
 .have e:i=a.length:=by lk
  subst e;rw[iq]at z;exact .inl #[(y _ c j O l.dom).2 (Rs _),L.nx c j k o v l.unpin z]
end
def D4(b:BW)(f:F4)(g:DW)(P:q_ D->Nat->Prop):q_ D->q_ D->Nat->q_ Slot->Prop
 |[],a,n,_=>P a n
 |d::h,a,n,j=>b d j λe=>f n e λc i=>if c=o_ then g i e λy k=>D4 b f g P h (a++[y]) k e else D4 b f g P h a i e
def Sx:Slot->Slot
 |.ow d=>.br d
 |.lt _ d=>.br d
 |s=>s
def Qi(s:Slot):(Sx s).owns=p_:=by cases s <;>rfl
def EL{a:q_^r_ Nat}{b:q_ Slot}{i:Nat}{s:Slot}(h:(a.map λo=>match o with|some i=>Sx^(b[i]?).getD .no|none=>Slot.no)[i]?=P3 s):s.owns=p_:=by
 rw[fK]at h;cases q:a[i]? with
 |none=>grind
 | some o=>
  rw[q]at h;cases o with
  |none=>
   rw[←fG h];rfl
  |some j=>
   rw[←fG h];exact Qi _
def GS(a:q_^r_ Nat)(b:q_ Slot):q_ Slot:=a.map λo=>match o with
 |some i=>Sx^(b[i]?).getD .no
 |none=>.no
def DF(f:q_^r_ Nat)(a:De)(b:BW)(g:F4)(h:DW):DW:=λn d P=>a n d λe i=>e.length<=10000000/\D4 b g h (λc j=>P (.lst c) j) e [] i^GS f d
def ZI(X:Cx)(a:q_ fZ)(w:F4):Prop:=∃t,bV X a t/\∀(C:Fm) (M:Db->Prop) (H:Hp) (n:Nat) (d:q_ Slot) (Z:L2.St) (P:Bool->Nat->Prop) (Q:Bool->Hp->Prop),Rel X.K C M H n d Z->w n d P->
 (∀b c e,Ext C.U H c->FeedC X.K C.F M c e->P b e->Q b c)->t Z H Q
def LC:F4:=λn _ P=>P o_ n
def BP{X:Cx}:ZI X [] LC:=#[_,U8,λC M H n a Z P Q R w q=>q _ H n (Ext.refl _ _) R.feed w]
def CL{X:Cx}{c:fZ}{w:F4}(h:DT X c w):ZI X [c] w:=by
 let#[t,a,b]:=h;exact#[t,U7 a,b]
def KZ{c:q_^r_ Nat}{d:q_ Slot}{Z:L2.St}{i:Nat}{s:Slot}(a:(GS c d)[i]?=P3 s):s=.no\/∃(j:Nat) (b:Slot),d[j]?=P3 b/\s=Sx b/\((CW c Z)[i]?).getD n_=(Z[j]?).getD n_:=by
 unfold GS at a;unfold CW;rw[fK]at a ⊢;cases q:c[i]? with
 |none=>simp_all
 | some o=>
  rw[q]at a;cases o with
  |none=>simp_all
  | some j=>
   have e:Sx _=s:=fG a;cases f:d[j]? with
   |none=>rw[f]at e;exact .inl e.symm
   |some b=>
    rw[f]at e;exact .inr #[j,b,f,e.symm,rfl]
def Mr{K:Frag}{F:r_ (Db×Db)}{U m M g:Db->Prop}{H h:Hp}{n:q_^r_ Nat}{o:q_ Slot}{Z:L2.St}(k:∀(i:Nat) (s:Slot),o[i]?=P3 s->SlotOk K F U M H s^(Z[i]?).getD n_)
  (p:Pres M H g h) (br:∀d v,AtT K U M H d v->AtT K m g h d v):∀(i:Nat) (s:Slot),(GS n o)[i]?=P3 s->SlotOk K F m g h s^((CW n Z)[i]?).getD n_:=by
 intro i s u
 rcases KZ u with rfl|⟨j,r,q,rfl,e⟩
 .trivial
 .rw[e]
  have c:=k j r q;cases r with
  |no=>trivial
  |sh d=>let#[v,b,f]:=c;exact#[v,b,f.pres p]
  |ex a w x y=>let#[b,f]:=c;exact#[b,f.pres p]
  |br d=>let#[v,b,f]:=c;exact#[v,b,br d v f]
  |fd=>exact c
  |ow d=>let#[a,b,_,l,t]:=c;exact#[_,b,br d _^t.att l]
  |lt a d=>let#[b,_,l,t]:=c;exact#[_,b,br d _^t.att l]
def PR{K:Frag}{F:r_ (Db×Db)}{U M:Db->Prop}{H:Hp}{k:q_^r_ Nat}{l:q_ Slot}{Z:L2.St}(g:∀(i:Nat) (s:Slot),l[i]?=P3 s->SlotOk K F U M H s^(Z[i]?).getD n_){i:Nat}{d:D}{a:Db}
  (p:(GS k l)[i]?=P3^.br d) (m:((CW k Z)[i]?).getD n_=P3^.ref a):∃o,H a=P3 o:=by
 rcases KZ p with z|⟨j,n,q,z,e⟩
 .cases z
 .rw[e]at m
  have f:=g j n q;rw[m]at f;cases n with
  |br d=>let#[v,c,r]:=f;cases c;exact r.lies
  |ow d=>let#[b,c,_,h,t]:=f;cases c;exact(t.att h).lies
  |lt b d=>let#[c,_,h,t]:=f;cases c;exact(t.att h).lies
  |no=>cases z
  |sh d=>cases z
  |ex a u w x=>cases z
  |fd=>cases z
section
variable {X:Cx}{zR:Kd}{tg elt iter:Expr}{ifs:q_ Expr}{sc:Scope}{pos:Pos}{src:De}{b:BW}{tt:F4}{te:DW}
def Pq(hc:X.calm=o_)(N':q_ Str)(js:q_^r_ Nat)(hi:XJ X tg iter src)(hg:∀I C s H L,DG (Aw X sc N' I C s H L) tg b)(ht:∀I C s H L,ZI (Aw X sc N' I C s H L) ifs tt)(he:∀I C s H L,DE (Aw X sc N' I C s H L) elt zR te)
  (hB:Gi sc X.env.scope X.N N' js=o_) (hk:zR≠.tp:=by intro z;cases z)
  (hs:∀x,foldedSetIterable iter X.env x=pure x:=by intro _;rfl):DE X (.ListComp elt [#[tg,iter,ifs,0]] sc pos) .fr^DF js src b tt te:=by
 let#[wi,a1,a2]:=hi;refine#[_,VE hc N' js a1 hB hs,λC M H n ρ Z P Q R w q=>?_];refine a2 C M H n ρ Z _ _ R w λJ O r n1 u f1 y w1=>?_;let#[b2,w1]:=w1;have R1:=R.step u f1;intro l hl b4 I Ca s0 H0 L;let#[g,g1,g2]:=hg I Ca s0 H0 L;let#[tc,c1,c2]:=ht I Ca s0 H0 L;let#[tx,x1,x2]:=he I Ca s0 H0 L
 have a3:¬C.U l:=λz=>by
  let#[o,z]:=R1.udom l z;rw[hl]at z;cases z
 generalize S:(λb=>M b\/b=l)=M';have a4:M' l:=by rw[←S];exact .inr rfl
 have M'of:∀b,M b->M' b:=λb z=>by rw[←S];exact .inl z
 have a0:∀b,M' b->M b\/b=l:=λb z=>by rw[←S]at z;exact z
 have a9:∀b,C.V b\/b=l->M' b:=λb z=>z.elim (λz=>M'of b^R1.vM b z) λz=>by rw[z];exact a4
 have b3:js.length=N'.length:=E8 (CompOk.of hB).cap
 exists g,tc,tx,λi m zZ D=>m=r.length - i/\i<=r.length/\∃n' zY k E,Rel X.K #[M',C.F,C.U,λb=>C.V b\/b=l,O,[],[]] M' D n' zY zZ/\D l=P3^.lst E/\Ats X.K M' D k E/\k.length<=i/\Pres M O M' D /\
   D4 b tt te (λk n2=>P (.lst k) n2) (r.drop i) k n' zY,g1,c1,x1,#[r.length,by simp,Uf _,n1,GS js ρ,[],[],?_]
 .have G:Grow O^Ar O l^.lst []:=Aq hl
  have T:Pres M O M'^Ar O l^.lst []:=#[λb o e _=>G.all b o e,λb z=>(a0 b z).elim .inl λz=>.inr (by rw[z];exact hl),λb E e=>G.all b _ e];refine#[#[?_,λa z=>z,λa z=>?_,G.ext,R1.fU,λa z=>.inl^R1.uV a z,a9,f1.pres T λf o _ e=>G.all f.1 o e,?_,λp hp=>absurd hp^by simp,λi d a q z=>PR R1.sl q z,λi s a q o _=>absurd o (by rw[EL q];decide),λi j s t a q o _ _ _ _=>absurd o (by rw[EL q];decide),λp hp=>absurd hp^by simp],AR,rfl,Uf _,T,w1]
  .unfold GS CW
   rw[FM,FM]
  .rcases a0 a z with z|z
   .let#[o,z]:=R1.dom a z
    exact#[o,G.all a o z]
   .subst z
    exact#[_,AR]
  .refine Mr R1.sl T λd v h=>h.same T (λa o _ e=>G.all a o e) λa e n1 z=>z.elim n1 λz=>?_
   subst e;let#[o,w]:=h.lies;rw[z,hl]at w;cases w
 .rintro i m zZ D ⟨rfl,hi,n',zY,k,E,R',a6,W,a7,T,w'⟩
  by_cases Y:i<r.length
  .have ed:r.drop i=r[i]::r.drop (i+1):=gZ Y
   rw[ed]at w';let#[go,yl]:=(y i M' D T R'.ext R'.dom).1 r[i] (On Y);refine .inr #[go,λx H2 hy=>?_];let#[G,hx]:=yl x H2 hy;have b0:=R'.step G.ext^R'.feed.grow G;refine g2 _ M' H2 n' zY zZ r[i] x _ _ b0 hx w' λzO zV R3 w3=>?_;refine c2 _ M' H2 n' zO zV _ _ R3 w3 λc H4 n4 e4 f4 w4=>?_;have R4:=R3.step e4 f4;have p4:Pres M' D M' H4:=G.pres.trans^R3.pres e4;have l4:H4 l=P3^.lst E:=e4.keep (G.all _ _ a6) a3;cases c with
   |false=>exact#[r.length - (i+1),by lk,rfl,Y,n4,zO,k,E,R4,l4,W.pres p4,by lk,T.trans p4,w4]
   | true=>
    refine x2 _ M' H4 n4 zO zV _ _ R4 w4 λyv H5 d5 n5 e5 f5 r5 w5=>?_;have A:=R4.step e5 f5;have p5:Pres M' H4 M' H5:=R4.pres e5;have l5:H5 l=P3^.lst E:=e5.keep l4 a3;have b1:=r5.shOf R4.dom hk;have a5:=(W.pres p4).pres p5;have pu:Pres M' H5 M'^Ar H5 l^.lst (E++[yv]):=Cg a4 l5;have b5:E.length=k.length:=W.length;refine#[E,l5,by rw[fz];lk,r.length - (i+1),by lk,rfl,Y,n5,zO,k++[d5],E++[yv],?_,AR,(a5.append^Ats.one b1).pres pu,by rw[XV,fS];lk,(T.trans p4).trans^p5.trans pu,w5];refine#[A.len,A.sub,λa z=>?_,λb o e=>?_,A.fU,A.uV,A.vM,?_,λj s hs=>?_,λp hp=>absurd hp^by simp,A.br0,A.new,A.two,λp hp=>absurd hp^by simp]
    .by_cases ha:a=l
     .subst ha;exact#[_,AR]
     .rw[AM ha];exact A.dom a z
    .let#[o',q1,q2]:=A.ext b o e
     by_cases hb:b=l
     .subst hb
      have e':O b=P3 o:=e;rw[hl]at e';cases e'
     .exact#[o',by rw[AM hb];exact q1,q2]
    .refine f5.pres pu λf o hf e=>?_
     rw[AM λz=>a3^by rw[←z];exact R1.fU f hf];exact e
    .have B:=A.sl j s hs
     cases s with
     |no=>trivial
     |sh d=>let#[v,u,h2]:=B;exact#[v,u,h2.pres pu]
     |ex a nm ks r=>let#[u,h2]:=B;exact#[u,h2.pres pu]
     | br d=>
      let#[v,u,h2]:=B;refine#[v,u,h2.same pu (λa o z e=>?_) λ_ _ z=>z];subst z;let#[o3,w]:=A.br0 j d a hs u
      have a7:a≠l:=λz=>by
       have w':O a=P3 o3:=w;rw[z,hl]at w';cases w'
      rw[AM a7];exact e
     |ow d=>
      let#[a,u,h2,_]:=B;exact absurd h2 (A.new j _ a hs rfl u).1
     |lt a d=>
      let#[u,h2,_]:=B;exact absurd h2 (A.new j _ a hs rfl u).1
     |fd=>exact B
  .have e:i=r.length:=by lk
   subst e;rw[iq]at w';refine .inl #[(y _ M' D T R'.ext R'.dom).2 (Rs _),?_];have eb:Ext C.U O D:=R'.ext;have a8:Pres M' D M D:=Pres.less M'of;refine q _ D (.lst k) n' (u.trans eb) (R'.feed.pres a8 λ_ _ _ z=>z) (VR.back u ?_) w';exact#[l,rfl,hl,E,a6,by rw[S];exact W]
end
def G2{K:Frag}{F:r_ (Db×Db)}{U k M:Db->Prop}{H:Hp}{n:Nat}{c:q_ Slot}{f:q_ V}{N:q_ Str}(h:Y8 K F U k M H n c f)(I:f.length<=N.length):
  Rel K #[M,F,U,k,H,[],[]] M H n (c++gK (N.length - c.length) .no) (L2.start N f):=by
 let#[u,A,B,C,fd,q]:=h;have D:f.length=c.length:=Paired.length q
 have E:∀{f:q_ V}{c:q_ Slot}{i:Nat}{s:Slot},Paired (LA K F k M H) f c->c[i]?=P3 s->∃v,f[i]?=P3 v/\LA K F k M H v s:=by
  intro f c i s q
  induction q generalizing i with
  |nil=>intro e;simp at e
  | cons r t G=>
   intro e;cases i with
   |zero=>simp at e;subst e;exact#[_,rfl,r]
   |succ i=>
    let#[v,l,m]:=G (i:=i) (by simpa using e);exact#[v,by simpa using l,m]
 have g:∀(i:Nat) (s:Slot),(c++gK (N.length - c.length) Slot.no)[i]?=P3 s->s=.no\/∃v,((L2.start N f)[i]?).getD n_=P3 v/\LA K F k M H v s:=by
  intro i s b
  by_cases x:i<c.length
  .rw[hX x]at b
   let#[v,l,m]:=E q b;refine .inr #[v,?_,m];unfold L2.start;rw[hX (by rw[FM,D];exact x),fK,l];rfl
  .rw[iL^by lk,kJ]at b
   split at b
   .exact .inl (fG b).symm
   .cases b
 refine#[?_,λa z=>z,u,Ext.refl _ _,A,B,C,fd,λi s b=>?_,λp w=>absurd w^by simp,λi d a b y=>?_,λi s a b o _=>?_,λi j s t a b o _ _ _ _=>?_,λp w=>absurd w^by simp]
 .unfold L2.start
  simp only[XV,FM,mP];lk
 .rcases g i s b with rfl|⟨v,e,h⟩
  .trivial
  .rw[e];exact h.1
 .rcases g i _ b with z|⟨v,e,h⟩
  .cases z
  .rw[e]at y
   cases y;let#[v,l,m]:=h.1;cases l;exact m.lies
 .rcases g i s b with rfl|⟨v,e,h⟩
  .cases o
  .rw[h.2]at o;cases o
 .rcases g i s b with rfl|⟨v,e,h⟩
  .cases o
  .rw[h.2]at o;cases o
def c_{P:fT}{w:fY}{K:Frag}{u:Str->r_ Ev}{e:fO}{x b:Str}{st:gJ}{f:Db}{fd:f_}{N g:q_ Str}{k:Nat}{l:Kd}{W:W2}{y:AW}(F:Fun K x b st f fd)(S:A5 N g^AK st)(D:g.length<=N.length)
  (G:∀(c:Ev) (A:fb) (a:q_ Env) (s:No) (H:Hp) (E:XK),Room k^A.deeper^envOfC b (AK st) s.heap.objs.size f c->J7 (DX EU P w K u e N b (AK st) f c A a s H E).nox l (A7 st) y)
  (hW:∀j n i,j.length=g.length->W j n i->y {nx:=λn _=>l=.sh/\i .non n,rt:=i} n (j++gK (N.length - g.length) .no)):
  B8 P w K u e EU (k+1) f fd g (QC K l W g.length):=by
 refine F.ok S (λB H Q E h=>h.1) λc A a s H B Q E I h=>?_;let#[hl,J,U,L,M,n,j,i,C,hw,q]:=h;let#[t,O,T]:=G c A a s H E I;exists t,O;have el:B.length=j.length:=Paired.length C.2.2.2.2.2;have R:=G2 (N:=N) C (by lk);refine T #[M,J,U,L,H,[],[]] M H n _ _ {nx:=λn _=>l=.sh/\i .non n,rt:=i} _ R #[λM1 m o zQ zK r p=>?_,λv m d o V X Y p=>q v m d o V X Y p,λ_ _ _ _ _ _ z=>z.elim,λ_ _ _ _ _ _ z=>z.elim] ?_
 .let#[Z,p]:=p
  subst Z;exact q .non m .non o r.ext (r.feed.pres (Pres.less r.sub) λ_ _ _ z=>z) rfl p
 grind
end Dp
namespace L2
section
variable {X:Cx}
def Inv.rdl{c:q_ (Db×Obj)}{Z:L2.St}{H:Hp}{s:No}{l:Db}{b:q_ V}(I:Inv X c Z H s)(h:Rd H l^.lst b):b.length<=sizeLine/\∃(a:q_ Ev) (n:Nat),Vals b a/\b.length=a.length/\s.heap.get? l=P3 {cls:=.type "list",data:=.seq a.toArray n}:=by
 let#[z,a,n,r,e]:=h.ok I.hok;exact#[z,_,n,r,r.length,e]
def PN:OpR X (binaryOp .Add) (λx y H Q=>∃l b d f,x=.ref l/\y=.ref b/\Rd H l^.lst d/\Rd H b^.lst f/\d.length+f.length<=sizeLine/\∀p,H p=n_->Q (.ref p)^Ar H p^.lst (d++f)):=by
 intro A s Z H x y v u Q I g i h;let#[l,b,d,f,rfl,rfl,j,k,B,q]:=h;cases g;cases i;let#[z,c,n,r,C,e]:=I.rdl j;let#[D,a,E,m,o,t]:=I.rdl k;refine PySem.P.add_list e t ?_ (by grind);have w:c.toArray++a.toArray=(c++a).toArray:=by simp
 rw[w];exact#[.ref _,_,I.lnew (r.append m)^by grind,rfl,q _ I.fresh]
end
end L2
namespace Dp
open L2
section
variable {K:Frag}
def AtT.int{U M:Db->Prop}{H:Hp}{i:Int}{v:V}(h:AtT K U M H (.int i) v):v=.int i:=h
def AtT.bl{U M:Db->Prop}{H:Hp}{i:Bool}{v:V}(h:AtT K U M H (.bl i) v):v=.bl i:=h
def AtT.str{U M:Db->Prop}{H:Hp}{x:Str}{v:V}(h:AtT K U M H (.str x) v):v=.str x/\x.length<=sizeLine:=h
def AtT.tup{U M:Db->Prop}{H:Hp}{b:q_ D}{v:V}(h:AtT K U M H (.tup b) v):∃a c,v=.ref a/\NdT M H a c/\Ats K M H b c:=h
def bx(g:Int->Int->(D->Prop)->Prop)(d e:D)(P:D->Prop):Prop:=match d,e with
 |.int i,.int j=>g i j P
 |_,_=>False
def Lo{g:Int->Int->(D->Prop)->Prop}{d e:D}{P:D->Prop}(w:bx g d e P):∃i j,d=.int i/\e=.int j/\g i j P:=by
 unfold bx at w
 split at w
 .grind
 grind
def f2(g:Int->Int->D):D->D->(D->Prop)->Prop:=bx λi j P=>P^g i j
def bz(C:Int->Int->Prop)(g:Int->Int->D):D->D->(D->Prop)->Prop:=bx λi j P=>C i j/\P^g i j
def UK{g:Int->Int->Int}:FE K .sh (HR λi j=>.int^g i j) (f2 λi j=>.int^g i j):=by
 intro U M H d e x y P Q a f b c w q;let#[i,j,rfl,rfl,w]:=Lo w;exact#[i,j,b,c,q _ H (.int _) .refl rfl w]
def L6{g:Int->Int->Bool}:FE K .sh (HR λi j=>.bl^g i j) (f2 λi j=>.bl^g i j):=by
 intro U M H d e x y P Q a f b c w q;let#[i,j,rfl,rfl,w]:=Lo w;exact#[i,j,b,c,q _ H (.bl _) .refl rfl w]
def DZ{C:Int->Int->Prop}{g:Int->Int->Int}:FE K .sh (rI C λi j=>.int^g i j) (bz C λi j=>.int^g i j):=by
 intro U M H d e x y P Q a f b c w q;let#[i,j,rfl,rfl,w]:=Lo w;exact#[i,j,b,c,w.1,q _ H (.int _) .refl rfl w.2]
def bw(g:Str->Str->(D->Prop)->Prop)(d e:D)(P:D->Prop):Prop:=match d,e with
 |.str i,.str j=>g i j P
 |_,_=>False
def Pf{g:Str->Str->(D->Prop)->Prop}{d e:D}{P:D->Prop}(w:bw g d e P):∃i j,d=.str i/\e=.str j/\g i j P:=by
 unfold bw at w
 split at w
 .grind
 grind
def UE{g:Str->Str->Bool}:FE K .sh (λx y H Q=>∃i j,x=.str i/\y=.str j/\Q (.bl^g i j) H) (bw λi j P=>P^.bl^g i j):=by
 intro U M H d e x y P Q a f b c w q;let#[i,j,rfl,rfl,w]:=Pf w;exact#[i,j,b.1,c.1,q _ H (.bl _) .refl rfl w]
def Q8:FE K .sh (λx y H Q=>∃i j,x=.str i/\y=.str j/\i.length+j.length<=sizeLine/\Q (.str (i++j)) H) (bw λi j P=>i.length+j.length<=sizeLine/\P^.str (i++j)):=by
 intro U M H d e x y P Q a f b c w q;let#[i,j,rfl,rfl,w]:=Pf w;exact#[i,j,b.1,c.1,w.1,q _ H (.str _) .refl #[rfl,by rw[Str.length_append i j];exact w.1] w.2]
def dB(g:q_ D->q_ D->(D->Prop)->Prop)(d e:D)(P:D->Prop):Prop:=match d,e with
 |.tup i,.tup j=>g i j P
 |_,_=>False
def dD(g:q_ D->q_ D->(D->Prop)->Prop)(d e:D)(P:D->Prop):Prop:=match d,e with
 |.lst i,.lst j=>g i j P
 |_,_=>False
def Vn{g:q_ D->q_ D->(D->Prop)->Prop}{d e:D}{P:D->Prop}(w:dB g d e P):∃i j,d=.tup i/\e=.tup j/\g i j P:=by
 unfold dB at w
 split at w
 .grind
 grind
def Vp{g:q_ D->q_ D->(D->Prop)->Prop}{d e:D}{P:D->Prop}(w:dD g d e P):∃i j,d=.lst i/\e=.lst j/\g i j P:=by
 unfold dD at w
 split at w
 .grind
 grind
def Cj{M:Db->Prop}{H:Hp}{p:Db}{b:q_ V}{c:q_ D}(d:∀a,M a->∃o,H a=P3 o)(e:H p=n_)(h:Ats K M H c b):At K M (Ar H p^.tup b) (.tup c)^.ref p:=#[p,b,rfl,AR,h.pres (Aq e).pres]
def DU{U M:Db->Prop}{H:Hp}{p:Db}{a:q_ V}{b:q_ D}(c:H p=n_)(h:Ats K M H b a):VR K U M H (Ar H p^.lst a) .fr (.ref p)^.lst b:=
 #[p,rfl,c,a,AR,h.pres^Fv c]
def Q7:FE K .sh (SG K) (dB λi j P=>i≠[]/\i.length+j.length<=sizeLine/\P^.tup (i++j)):=by
 intro U M H d e x y P Q c u o r w q;let#[i,j,rfl,rfl,w]:=Vn w;let#[a,g,rfl,h,f]:=o.tup;let#[b,s,rfl,t,k]:=r.tup;have l:=f.length;have m:=k.length;refine#[a,b,g,s,rfl,rfl,h.sq,t.sq,λz=>w.1 ?_,by simp_all,λz=>?_,λz p n=>?_]
 .rw[z]at l;exact jQ.mp l.symm
 .rw[z]at m
  have:j=[]:=jQ.mp m.symm
  subst this;exact q _ H (.tup i) .refl #[a,g,rfl,h,f]^by grind
 .exact q _ _ (.tup (i++j)) (Aq n) (Cj c n^f.append k) w.2.2
def K4:FE K .fr (λx y H Q=>∃l b c f,x=.ref l/\y=.ref b/\Rd H l^.lst c/\Rd H b^.lst f/\c.length+f.length<=sizeLine/\∀p,H p=n_->Q (.ref p)^Ar H p^.lst (c++f)) (dD λi j P=>i.length+j.length<=sizeLine/\P^.lst (i++j)):=by
 intro U M H d e x y P Q m v n o w q;let#[i,j,rfl,rfl,w]:=Vp w;let#[a,r,rfl,_,s,g]:=n;let#[b,t,rfl,_,u,h]:=o;exact#[a,b,r,t,rfl,rfl,s,u,by rw[g.length,h.length];exact w.1,λp k=>q _ _ _ (Aq k) (DU k^g.append h) w.2]
def Ph(a:Bool)(d e:D)(P:D->Prop):Prop:=match d,e with
 |.bl i,.bl j=>P^.bl (if a then !(i==j)else i==j)
 |.int i,.int j=>P^.bl (if a then !(i==j)else i==j)
 |.str i,.str j=>P^.bl (if a then !(i==j)else i==j)
 |_,_=>False
def Pg{a:Bool}{d e:D}{P:D->Prop}(w:Ph a d e P):(∃i j,d=.bl i/\e=.bl j/\P^.bl (if a then !(i==j)else i==j))\/(∃i j,d=.int i/\e=.int j/\P^.bl (if a then !(i==j)else i==j))\/∃i j,d=.str i/\e=.str j/\P^.bl (if a then !(i==j)else i==j):=by
 unfold Ph at w
 split at w
 .simp_all
 .simp_all
 .simp_all
 grind
def FD:FE K .sh d7^Ph p_:=by
 intro U M H d e x y P Q c f a b w q
 rcases Pg w with⟨i,j,rfl,rfl,w⟩|⟨i,j,rfl,rfl,w⟩|⟨i,j,rfl,rfl,w⟩
 .rw[a.bl,b.bl];exact#[rfl,q _ H _ .refl (by rw[Lr];rfl) w]
 .rw[a.int,b.int];exact#[rfl,q _ H _ .refl (by rw[IP];rfl) w]
 .rw[a.str.1,b.str.1];exact#[rfl,q _ H _ .refl (by rw[IN];rfl) w]
def Yu:FE K .sh dk^Ph o_:=by
 intro U M H d e x y P Q c f a b w q
 rcases Pg w with⟨i,j,rfl,rfl,w⟩|⟨i,j,rfl,rfl,w⟩|⟨i,j,rfl,rfl,w⟩
 .rw[a.bl,b.bl];exact#[rfl,q _ H _ .refl (by rw[Lr];rfl) w]
 .rw[a.int,b.int];exact#[rfl,q _ H _ .refl (by rw[IP];rfl) w]
 .rw[a.str.1,b.str.1];exact#[rfl,q _ H _ .refl (by rw[IN];rfl) w]
def S9:D->Bool
 |.non=>o_
 |_=>p_
def Mx{U M:Db->Prop}{H:Hp}{d:D}{x:V}(h:AtT K U M H d x):decide (x=.non)=S9 d:=by
 cases d with
 |non=>rw[h];rfl
 |bl b=>rw[h.bl];rfl
 |int i=>rw[h.int];rfl
 |str z=>rw[h.str.1];rfl
 |tup c=>let#[a,e,rfl,_]:=h.tup;rfl
 |lst c=>let#[a,e,rfl,_]:=h;rfl
 |dic f c=>let#[a,e,rfl,_]:=h;rfl
 |fdi f c=>let#[a,e,rfl,_]:=h;rfl
 |dit f c=>let#[a,e,rfl,_]:=h;rfl
def CA(d e:D)(P:D->Prop):Prop:=match d,e with
 |.lst a,.int i=>∃z,atI a i=P3 z/\P z
 |.tup a,.int i=>∃z,atI a i=P3 z/\P z
 |.str x,.int i=>∃c,atI x.cps.toList i=P3 c/\P^.str #[#[ c]]
 |_,_=>False
def Vq{d e:D}{P:D->Prop}(w:CA d e P):(∃a i z,d=.lst a/\e=.int i/\atI a i=P3 z/\P z)\/(∃a i z,d=.tup a/\e=.int i/\atI a i=P3 z/\P z)\/∃x i c,d=.str x/\e=.int i/\atI x.cps.toList i=P3 c/\P^.str #[#[ c]]:=by
 unfold CA at w
 split at w
 .simp_all
 .simp_all
 .simp_all
 grind
theorem Ats.atI{M:Db->Prop}{H:Hp}{a:q_ D}{b:q_ V}{i:Int}{z:D}(h:Ats K M H a b)(e:atI a i=P3 z):∃v,L2.atI b i=P3 v/\At K M H z v:=by
 unfold L2.atI at e ⊢;rw[h.length];cases q:S7 _ i with
 |none=>grind
 |some j=>
  rw[q]at e;exact h.get e
def dL:FE K .sh (dq K) CA:=by
 intro U M H d e x y P Q n r f g w q
 rcases Vq w with⟨o,i,z,rfl,rfl,h,w⟩|⟨o,i,z,rfl,rfl,h,w⟩|⟨x,i,c,rfl,rfl,p,w⟩
 .let#[a,j,rfl,_,k,l]:=f
  let#[v,m,b]:=l.atI h;exact .inl #[a,j,i,v,rfl,g,.inl k,m,q v H z .refl b w]
 .let#[a,j,rfl,k,l]:=f.tup
  let#[v,m,b]:=l.atI h;exact .inr^.inl #[a,j,i,v,rfl,g,k.sq,m,q v H z .refl b w]
 .exact .inr^.inr #[x,i,c,f.str.1,g,f.str.2,p,q _ H (.str _) .refl #[rfl,by show 1<=16777216;decide] w]
def cutD{b:Type}(a:q_ b)(c d:r_ Int):q_ b:=(a.drop^HT.sIx a.length 0 c).take (HT.sIx a.length a.length d - HT.sIx a.length 0 c)
def Ep{R:V->D->Prop}{a:q_ V}{d:D}(h:Paired R a [d]):∃v,a=[v]/\R v d:=by
 cases h with
 |cons r t=>cases t;grind
def cr:D->r_ Nat
 |.str x=>P3 x.length
 |.tup a=>P3 a.length
 |.lst a=>P3 a.length
 |_=>n_
def Ln(a:q_ D)(P:D->Prop):Prop:=∃d n,a=[d]/\cr d=P3 n/\P^.int (n:Int)
def bF:Do K .sh (λe H Q=>∃x n,e=[x]/\ZC K x H n/\Q (.int n) H) Ln:=by
 intro U M H k l P Q i m j w q;let#[d,n,rfl,b,w]:=w;let#[v,rfl,c]:=Ep j;refine#[v,n,rfl,?_,q _ H (.int _) .refl rfl w];cases d with
 |str z=>cases b;rw[c.str.1];exact#[c.str.2,rfl]
 |tup e=>
  cases b;let#[a,f,rfl,g,h]:=c.tup;exact .inr #[f,g.sq,h.length.symm]
 |lst e=>
  cases b;let#[a,f,rfl,_,g,h]:=c;exact .inl #[f,.inl g,h.length.symm]
 |_=>cases b
def allB:q_ D->r_^q_ Bool
 |[]=>P3 []
 |.bl b::r=>(allB r).map (b::·)
 |_::_=>n_
theorem Pz{M:Db->Prop}{H:Hp}:∀{d:q_ D}{a:q_ V}{c:q_ Bool},allB d=P3 c->Ats K M H d a->a=c.map V.bl
 |[],a,c,e,h=>by cases e;exact h
 |.bl b::r,a,c,e,h=>by
  let#[v,l,f,g,i]:=h;let#[j,k,rfl]:=fq.mp e;rw[f,Pz k i,g];rfl
 |.non::r,a,c,e,h=>by cases e
 |.int _::r,a,c,e,h=>by cases e
 |.str _::r,a,c,e,h=>by cases e
 |.tup _::r,a,c,e,h=>by cases e
 |.lst _::r,a,c,e,h=>by cases e
 |.dic _ _::r,a,c,e,h=>by cases e
 |.fdi _ _::r,a,c,e,h=>by cases e
 |.dit _ _::r,a,c,e,h=>by cases e
def Vs(c:q_ D)(P:D->Prop):Prop:=∃a b,c=[.lst a]/\allB a=P3 b/\P^.bl^b.all id
def K6:Do K .sh (λc H Q=>∃(p:Db) (b:q_ Bool),c=[.ref p]/\SqL K H p^b.map V.bl/\Q (.bl^b.all id) H) Vs:=by
 intro U M H j k P Q d l f w q;let#[c,b,rfl,e,w]:=w;let#[v,rfl,g]:=Ep f;let#[a,m,rfl,_,h,i]:=g
 have:=Pz e i
 subst this;exact#[a,b,rfl,.inl h,q _ H (.bl _) .refl rfl w]
def OX:q_ D->r_^q_ Str
 |[]=>P3 []
 |.str b::r=>(OX r).map (b::·)
 |_::_=>n_
theorem Px{M:Db->Prop}{H:Hp}:∀{d:q_ D}{a:q_ V}{c:q_ Str},OX d=P3 c->Ats K M H d a->a=c.map V.str
 |[],a,c,e,h=>by cases e;exact h
 |.str b::r,a,c,e,h=>by
  let#[v,l,f,g,i]:=h;let#[j,k,rfl]:=fq.mp e;rw[f,Px k i,g.1];rfl
 |.non::r,a,c,e,h=>by cases e
 |.int _::r,a,c,e,h=>by cases e
 |.bl _::r,a,c,e,h=>by cases e
 |.tup _::r,a,c,e,h=>by cases e
 |.lst _::r,a,c,e,h=>by cases e
 |.dic _ _::r,a,c,e,h=>by cases e
 |.fdi _ _::r,a,c,e,h=>by cases e
 |.dit _ _::r,a,c,e,h=>by cases e
def Lm(b:q_ D)(P:D->Prop):Prop:=match b with
 |[.lst a]=>P^.lst a
 |[.tup a]=>P^.lst a
 |_=>False
def L5:Do K .fr (λi H Q=>∃p c,i=[.ref p]/\(SqL K H p c\/SqT K H p c)/\∀l,H l=n_->Q (.ref l)^Ar H l^.lst c) Lm:=by
 intro U M H k m P Q j n h w q;unfold Lm at w
 split at w
 .let#[v,rfl,d]:=Ep h
  let#[a,e,rfl,_,f,g]:=d;exact#[a,e,rfl,.inl^.inl f,λl b=>q _ _ _ (Aq b) (DU b g) w]
 .let#[v,rfl,d]:=Ep h
  let#[a,e,rfl,f,g]:=d.tup;exact#[a,e,rfl,.inr f.sq,λl b=>q _ _ _ (Aq b) (DU b g) w]
 grind
end
def bn:D->String
 |.non=>"NoneType"
 |.bl _=>"bool"
 |.int _=>"int"
 |.str _=>"str"
 |.tup _=>"tuple"
 |.lst _=>"list"
 |.dic _ _=>"dict"
 |.fdi _ _=>"dict"
 |.dit _ _=>"dict"
def aQ(t T:String):Bool:=t==T||(t=="bool"&&T=="int")
def cH(T:String)(a:DW):DW:=λn b P=>a n b λd c=>P (.bl^aQ (bn d) T) c
structure UW (K:Frag) (T:String):Prop where
 ans:∀t∈["NoneType","bool","int","str","tuple","list","dict"],PySem.W.kitOne K (.type t)^.type T=P3^aQ t T
def Uk{K:Frag}{M U:Db->Prop}{H:Hp}{d:D}{x:V}(h:AtT K U M H d x):F2 K H x^.type^bn d:=by
 cases d with
 |non=>cases(h);exact .non
 |bl b=>cases h.bl;exact .bl b
 |int i=>cases h.int;exact .int i
 |str z=>cases h.str.1;exact .str z
 |tup e=>
  let#[a,f,rfl,c,j]:=h.tup;exact .tup c
 |lst e=>
  let#[a,f,rfl,_,c,j]:=h
  rcases c with c|⟨o,c⟩
  .exact .lst c
  .exact .frz c
 |dic g e=>
  let#[a,f,rfl,_,c,_]:=h;exact .dK c
 |fdi g e=>
  let#[a,f,rfl,#[o,_,c],_]:=h;exact .dF c
 |dit g e=>
  let#[a,f,rfl,_,c,_]:=h;exact .dT c
def Ul(d:D):bn d∈["NoneType","bool","int","str","tuple","list","dict"]:=by cases d <;>simp[bn]
def Dt{X:Cx}{a:fZ}{o:Kd}{l:DW}{T:String}{b:Str}{p c pos:Pos}(r:UW X.K T)(s:DE X a o l)(u:Gl X "isinstance")(x:X.mg "isinstance"=n_)(e:Gl X b)(f:X.mg b=n_)(g:bootBuiltins b=P3^.type T)
  (h:b ≠ "__name__":=by cbv) (i:(b==("__debug__":Str))=p_:=by cbv)
  (m:starEach [a,.Name b c] X.env=(p_,eval a X.env)::starEach [.Name b c] X.env:=by rfl) (j:starEach [.Name b c] X.env=[(p_,eval (.Name b c) X.env)]:=by rfl)
  (k:(backTo pos^starEach [.Name b c] X.env).any (·.1)=p_:=by rfl):DE X (.Call (.Name "isinstance" p) [a,.Name b c] [] pos) .sh^cH T l:=by
 let#[t,y,z]:=s;have A:PE X (.Name b c)^tC^.ty T:=PJ e f g rfl h i;exact#[_,Dz NP u x (by decide +kernel) (BL y (BL A CH j) m) (by cbv) (by cbv) m k,λC M H n B Z P Q R w q=>z C M H n B Z _ _ R w λv D d E F G I p=>#[v,T,_,_,rfl,Uk^I.tpOf R.dom R.vM,r.ans _^Ul d,q _ D (.bl _) E F G rfl p]]
section
variable {K:Frag}{X:Cx}
def W5(d e:D)(P:D->Prop):Prop:=match d,e with
 |.int i,.int j=>P^.int (i+j)
 |.str i,.str j=>i.length+j.length<=sizeLine/\P^.str (i++j)
 |.tup i,.tup j=>i≠[]/\i.length+j.length<=sizeLine/\P^.tup (i++j)
 |.lst i,.lst j=>i.length+j.length<=sizeLine/\P^.lst (i++j)
 |_,_=>False
def Z6:R2:=λx y H Q=>∃l b a c,x=.ref l/\y=.ref b/\Rd H l^.lst a/\Rd H b^.lst c/\a.length+c.length<=sizeLine/\∀p,H p=n_->Q (.ref p)^Ar H p^.lst (a++c)
def Z5:R2:=λx y H Q=>∃i j,x=.str i/\y=.str j/\i.length+j.length<=sizeLine/\Q (.str (i++j)) H
def Wg(g:Str->Str->Bool):R2:=λx y H Q=>∃i j,x=.str i/\y=.str j/\Q (.bl^g i j) H
def SH(K:Frag):R2:=λx y H Q=>(HR λi j=>.int (i+j)) x y H Q\/Z5 x y H Q\/SG K x y H Q\/Z6 x y H Q
def op_addU:OpR X (binaryOp .Add)^SH X.K:=op_add.or^(N4).or^op_catT.or^PN
def L7:FE X.K .sh (SH X.K) W5:=λU M H d e x y P Q a b c f w q=>by
 unfold W5 at w
 split at w
 .exact .inl^UK U M H _ _ x y P Q a b c f w q
 .exact .inr^.inl^Q8 U M H _ _ x y P Q a b c f w q
 .exact .inr^.inr^.inl^Q7 U M H _ _ x y P Q a b c f w q
 .exact .inr^.inr^.inr^K4 U M H _ _ x y P Q a b c f w λv h z g r p=>q v h z g (r.shOf a^by grind) p
 grind
def ag(d e:D)(P:D->Prop):Prop:=match d,e with
 |.int i,.int j=>P^.bl (decide (i<j))
 |.str i,.str j=>P^.bl (decide (i.cps.toList<j.cps.toList))
 |_,_=>False
def Xx:R2:=λx y H Q=>(HR λi j=>.bl (decide (i<j))) x y H Q\/Wg (λi j=>decide (i.cps.toList<j.cps.toList)) x y H Q
def op_ltU:OpR X (compareOp .Lt) Xx:=op_lt.or QP
def XA:FE X.K .sh Xx ag:=λU M H d e x y P Q a b c f w q=>by
 unfold ag at w
 split at w
 .exact .inl^L6 U M H _ _ x y P Q a b c f w q
 .exact .inr^UE U M H _ _ x y P Q a b c f w q
 grind
def aj(d e:D)(P:D->Prop):Prop:=match d,e with
 |.int i,.int j=>P^.bl (decide (i<=j))
 |.str i,.str j=>P^.bl (!(decide (j.cps.toList<i.cps.toList)))
 |_,_=>False
def Zw:R2:=λx y H Q=>(HR λi j=>.bl (decide (i<=j))) x y H Q\/Wg (λi j=>!(decide (j.cps.toList<i.cps.toList))) x y H Q
def N1:OpR X (compareOp .LtE) Zw:=op_le.or QQ
def UJ:FE X.K .sh Zw aj:=λU M H d e x y P Q a b c f w q=>by
 unfold aj at w
 split at w
 .exact .inl^L6 U M H _ _ x y P Q a b c f w q
 .exact .inr^UE U M H _ _ x y P Q a b c f w q
 grind
def Z0:R2:=HR λi j=>.bl (decide (j<i))
def EH:OpR X (compareOp .Gt) Z0:=Wv
def Gq:FE X.K .sh Z0 (f2 λi j=>.bl (decide (j<i))):=L6
def Z1:R2:=HR λi j=>.bl (decide (j<=i))
def YE:OpR X (compareOp .GtE) Z1:=Ww
def bJ:FE X.K .sh Z1 (f2 λi j=>.bl (decide (j<=i))):=L6
def Zo:V->r_ Int->r_ Int->Hp->VK->Prop:=λx a b H Q=>∃z,x=.str z/\z.length<=sizeLine/\Q (.str^Txt.slice z a b) H
def sl_U:SlR X Zo:=Xs
def cG(w:DW):DW:=λn a P=>w n a λd b=>∃i,d=.int i/\P (.int (-i)) b
def Tt{a:fZ}{c:Kd}{b:DW}{pos:Pos}(h:DE X a c b):DE X (.UnaryOp .USub a pos) .sh^cG b:=by
 let#[t,e,f]:=h;refine#[_,aA Xd e,λC M H n g Z P Q R w q=>?_];refine f C M H n g Z _ _ R w λv j d k l m o p=>?_;let#[i,rfl,p]:=p;exact#[i,Lj o,q _ j (.int _) k l m rfl p]
def Got(P:fT)(w:fY)(K:Frag)(c:Str->r_ Ev)(a:fO)(x:Str)(k:Nat)(b:q_ Str)(e:Kd)(W:W2):Prop:=
 ∃f fd,B8 P w K c a EU k f fd b^QC K e W b.length/\c x=P3^.ref f/\keepIn K^.ref f=o_/\Binds K fd b []/\∀d n P,W d n P->d.length=b.length
def Ag{e:fZ}{a:q_ fZ}{k:Nat}{h:q_ Str}{g:Kd}{W:W2}{x:Str}{p pos:Pos}{b:RE}(G:Got X.prog X.w X.K X.mg X.base x k h g W)
  (i:Room k X.A) (j:Gl X x) (l:RJ X (e::a) b)
  (c:(x==("__debug__":Str))=p_:=by cbv) (m:starEach (e::a) X.env=(p_,eval e X.env)::starEach a X.env:=by rfl) (d:(backTo pos^starEach a X.env).any (·.1)=p_:=by rfl):
  DE X (.Call (.Name x p) (e::a) [] pos) g (Au W b):=by
 let#[f,fd,G,n,o,q,r]:=G;exact V8 G r i j n o q l c m d
def Ws(b:Nat)(g:q_ D->D):W2:=λc n P=>∃a:q_ D,a.length=b/\c=a.map .sh/\P (g a) n
def QG{a:Nat}{g:q_ D->D}{b:q_ Slot}{n:Nat}{P:D->Nat->Prop}(h:Ws a g b n P):b.length=a:=by
 let#[c,e,rfl,_]:=h
 grind
def PZ:UW K "int":=#[λt a=>by
 simp at a
 rcases a with rfl|rfl|rfl|rfl|rfl|rfl|rfl <;>kernel_rfl]
def S4:UW K "bool":=#[λt a=>by
 simp at a
 rcases a with rfl|rfl|rfl|rfl|rfl|rfl|rfl <;>kernel_rfl]
def PY:UW K "str":=#[λt a=>by
 simp at a
 rcases a with rfl|rfl|rfl|rfl|rfl|rfl|rfl <;>kernel_rfl]
def kit_tuple:UW K "tuple":=#[λt a=>by
 simp at a
 rcases a with rfl|rfl|rfl|rfl|rfl|rfl|rfl <;>kernel_rfl]
end
theorem FA{b:Type}(p:b->Bool):∀l:q_ b,allB (l.map λc=>.bl^p c)=P3^l.map p
 |[]=>rfl
 |a::l=>by
  rw[gD];unfold allB;rw[FA p l];rfl
def T5{a b:Bool}{P:D->Nat->Prop}{n:Nat}{k:(D->Nat->Prop)->Prop}(c:a=o_->P (.bl b) n->k P)(h:P (.bl (a&&b)) n):(match (.bl a:D)with|.bl o_=>k P|.bl p_=>P (.bl p_) n|_=>False):=by
 cases a with
 |false=>exact h
 |true=>grind
def TN{P:fT}{w:fY}{K:Frag}{d:Str->r_ Ev}{a:fO}{x:Str}{st:gJ}{f:Db}{fd:f_}{k:Nat}{c:q_ Str}{e:Kd}{W:W2}(F:Fun K x x st f fd)(m:d x=P3^.ref f)(b:Binds K fd c [])
  (h:∀g n P,W g n P->g.length=c.length) (ok:B8 P w K d a EU k f fd c^QC K e W c.length):Got P w K d a x k c e W:=#[f,fd,ok,m,F.kp,b,h]
def MT(K:Frag):Sp:=λc H Q _=>∃a b,c=[V.ref a]/\(jw (α:=Int) b<=63/\SqL K H a^b.map V.int)/\∀d,Q (.bl o_) d
def LJ(K:Frag):Sp:=λe H Q _=>∃a b,e=[V.ref a]/\(jw (α:=Int) b<=63/\SqL K H a^b.map V.int) /\
 ∀(c f:Db) (d:Hp),c≠f->d c=P3^.lst^b.map V.int->d f=P3^.lst [.ref c,.int 0,.int 0]->Q (.ref f) d
def a_{a:q_ Int}(h:a.length<=63):NI (a.map V.int) n_^P3 63=a.map V.int:=by
 have e:HT.sIx (a.map V.int).length (a.map V.int).length^P3 63=a.length:=by
  rw[show(63:Int)=(63:Nat)from rfl,HT.sIx_nat,FM,Nat.min_eq_right h]
 unfold NI;rw[HT.sIx_none]
 grind
theorem KW{b:BW}{c:AW}{g:E2}(I:Nat->Nat->q_ Slot->Prop)(e:∀n a,I 0 n a->g.nx n a):
  ∀(f:q_ D) (n:Nat) (a:q_ Slot) (_:∀(k:Nat) (d:D) (n:Nat) (a:q_ Slot) (nx:Nat->q_ Slot->Prop),d∈f->I (k+1) n a->(∀i j,I k i j->nx i j)->b d a λm=>c {g with nx:=nx,ct:=nx,bk:=g.nx} n m),
   I f.length n a->Ae b c g f n a
 |[],n,a,_,h=>e n a h
 |d::f,n,a,l,h=>l _ d n a _ Re h λi j o=>KW I e f i _ (λk d n a nx p=>l k d n a nx^Sc _ p) o
def aZ{P:fT}{w:fY}{K:Frag}{I:Str->r_ Ev}{u:fO}{st N:gJ}{B:q_ gJ}{f:Db}{fd:f_}{C:q_ Str}{k n0:Nat}{O:AW}(F:Fun K "law" "law" st f fd)
  (S:A5 ("_law_script"::"_law_feed_here"::C) ["_law_script"]^AK st) (J:A7 st=N::B) (X:n0<=2 ^ 60)
  (Y:∀(n:Ev) (A:fb) (l:q_ Env) (s:No) (H:Hp) (E:XK),Room k^A.deeper^envOfC "law" (AK st) s.heap.objs.size f n->
   PS (DX EU P w K I u ("_law_script"::"_law_feed_here"::C) "law" (AK st) f n A l s H E).nox N (MP (Rn (LJ K) [] E0^Oq (Bp 0) Uw)^Hf 1))
  (Z:∀(n:Ev) (A:fb) (l:q_ Env) (s:No) (H:Hp) (E:XK),Room k^A.deeper^envOfC "law" (AK st) s.heap.objs.size f n->
   J7 (DX EU P w K I u ("_law_script"::"_law_feed_here"::C) "law" (AK st) f n A l s H E).nox .sh B O)
  (hW:O {nx:=λ_ _=>False,rt:=λd _=>d=.bl o_} n0 (.no::.fd::gK C.length .no)):B8 P w K I u EU (k+1) f fd ["_law_script"]^MT K:=by
 refine F.ok S (λvs H Q E h=>?_) λn A l s H vs Q E T h=>?_
 .let#[a,L,rfl,_]:=h
  rfl
 .let#[a,L,rfl,#[U,hS],q]:=h
  let#[t,t1,t2]:=Z n A l s H E T;refine#[QB (MP (Rn (LJ K) [] E0^Oq (Bp 0) Uw)^Hf 1) t,by rw[J];exact A6 (Y n A l s H E T) t1,?_];refine#[_,rfl,a,L,rfl,#[U,hS],λc g G D hc W=>?_]
  have y:∀(i:Nat) (x:Slot),(Slot.no::Slot.fd::gK C.length Slot.no)[i]?=P3 x->Slot.no=x\/(Slot.fd=x/\i=1):=by
   intro i x m
   match i,m with
   |0,m=>exact .inl^fG m
   |1,m=>exact .inr #[fG m,rfl]
   |i+2,m=>
    rw[mG,mG,kJ]at m
    split at m
    .exact .inl^fG m
    .cases m
  have R:Rel K #[λb=>b=g,P3 (g,c),λb=>b=g,λb=>b=g,G,[],[]] (λb=>b=g) G n0 (.no::.fd::gK C.length .no)^(start ("_law_script"::"_law_feed_here"::C) [V.ref a]).set 1^P3^.ref g:=by
   refine#[by simp[L2.start],λ_ z=>z,λb z=>#[_,(congrArg G z).trans W],Ext.refl _ _,λb z=>by rw[←fG z],λ_ z=>z,λ_ z=>z,λb z=>?_,λi x m=>?_,λp M=>absurd M^by simp,λi d b m _=>?_,λi x b m o _=>?_,λi j x t b m o _ _ _ _=>?_,λp M=>absurd M^by simp]
   .have e:(g,c)=b:=fG z
    subst e;exact#[0,0,L,W,D,#[D,hc],U,by cbv,by lk]
   .rcases y i x m with e|⟨e,rfl⟩
    .rw[←e];trivial
    .rw[←e]
     exact#[(g,c),by simp[L2.start],rfl]
   .rcases y i _ m with e|⟨e,_⟩ <;>cases e
   .rcases y i x m with e|⟨e,_⟩ <;>(rw[←e]at o;cases o)
   .rcases y i x m with e|⟨e,_⟩ <;>(rw[←e]at o;cases o)
  refine t2 _ _ G n0 _ _ {nx:=λ_ _=>False,rt:=λd _=>d=.bl o_} _ R #[λ_ _ _ _ _ _ z=>z.elim,λv H2 d n' _ _ r p=>?_,λ_ _ _ _ _ _ z=>z.elim,λ_ _ _ _ _ _ z=>z.elim] hW;have e:d=.bl o_:=p;subst e;have e2:v=.bl o_:=r;subst e2;exact q H2
end Dp
namespace L2
section
variable {X:Cx}
theorem F6:∀{a:q_ Ev}{b:q_ Str},StrsAre a b->Vals (b.map V.str) a
 |_,_,.nil=>.nil
 |_,_,.cons x t r=>.cons #[t,rfl]^F6 r
def SD(K:Frag):q_ V->Hp->VK->Prop:=λc H Q=>∃(p:Db) (b:q_ Str),c=[.ref p]/\SqL K H p^b.map V.str/\b.length<64/\∀(a:q_ Str) (l:Db),a.Perm b->sortedS a=o_->H l=n_->Q (.ref l)^Ar H l^.lst^a.map V.str
def OT:Co X (.builtin "sorted")^SD X.K:=by
 intro y s Z H A B Q I r h;let#[p,C,rfl,f,g,q]:=h;let#[u,rfl,i]:=vals1 r;cases i;let#[j,c,k,D]:=I.list f;have a:=c.length;rw[FM]at a;refine sorted_strs k.isList (Ni c) (by lk) λl m n d t=>?_;let#[e,v]:=sortedAll_at _ _ _;have w:=d.length_eq;have x:=I.hok.fresh^fu _;refine#[.ref _,_,I.laid (λb o z=>sortedAll_old z) (fu _) (show ObjOk _ _ _ _ _^.lst _ from#[?_,_,e,F6 n,?_]),rfl,q _ _ d t x]
 .grind
 .exact v
def Wj:R2:=λx y H Q=>∃z k,x=.str z/\y=.int k/\MulOk z k/\Q (.str^Txt.mul z k) H
def VI:OpR X (binaryOp .Mult) Wj:=by
 intro e s Z H x y v u Q I a b h;let#[z,k,rfl,rfl,c,q]:=h;let#[t,rfl]:=a;let#[d,rfl]:=b;exact SB.mul c λd k=>#[.str _,H,I.tok _,#[_,rfl],q]
end
end L2
namespace Dp
open L2
section
variable {K:Frag}
def BM(b:q_ D)(P:D->Prop):Prop:=match b with
 |[.lst a]=>P^.tup a
 |[.tup a]=>P^.tup a
 |_=>False
def UD:Do K .sh (λj H Q=>∃p d,j=[.ref p]/\((SqL K H p d/\∀l,H l=n_->Q (.ref l)^Ar H l^.tup d)\/(SqT K H p d/\Q (.ref p) H))) BM:=by
 intro U M H k m P Q e n h w q;unfold BM at w
 split at w
 .let#[v,rfl,f]:=Ep h
  let#[a,b,rfl,_,c,g]:=f;exact#[a,b,rfl,.inl #[.inl c,λl i=>q _ _ (.tup _) (Aq i) (Cj e i g) w]]
 .let#[v,rfl,f]:=Ep h
  let#[a,b,rfl,c,g]:=f.tup;exact#[a,b,rfl,.inr #[c.sq,q _ H (.tup _) .refl #[a,b,rfl,c,g] w]]
 grind
theorem Ats.strs{M:Db->Prop}{H:Hp}:∀{a:q_ Str},(∀x∈a,x.length<=sizeLine)->Ats K M H (a.map D.str)^a.map V.str
 |[],_=>rfl
 |x::r,h=>#[_,_,rfl,#[rfl,h x Re],Ats.strs λy b=>h y^Sc _ b]
theorem Ats.strs_le{M:Db->Prop}{H:Hp}:∀{b:q_ Str}{c:q_ V},Ats K M H (b.map D.str) c->∀x∈b,x.length<=sizeLine
 |[],_,_=>λx a=>by cases a
 |y::r,c,h=>λx a=>by
  let#[v,t,e,d,f]:=h
  rcases Tk.mp a with rfl|a
  .exact d.2
  .exact Ats.strs_le f x a
def Yd(d:q_ D)(P:D->Prop):Prop:=∃(c:q_ D) (b:q_ Str),d=[.lst c]/\OX c=P3 b/\b.length<64/\∀a:q_ Str,a.Perm b->sortedS a=o_->P^.lst^a.map .str
theorem Py:∀{c:q_ D}{a:q_ Str},OX c=P3 a->c=a.map .str
 |[],a,h=>by cases h;rfl
 |.str b::r,a,h=>by
  let#[t,e,rfl]:=fq.mp h;rw[gD,←Py e]
 |.non::r,a,h=>by cases h
 |.int _::r,a,h=>by cases h
 |.bl _::r,a,h=>by cases h
 |.tup _::r,a,h=>by cases h
 |.lst _::r,a,h=>by cases h
 |.dic _ _::r,a,h=>by cases h
 |.fdi _ _::r,a,h=>by cases h
 |.dit _ _::r,a,h=>by cases h
def WE:Do K .fr (SD K) Yd:=by
 intro U M H p r P Q h s i w q;let#[t,j,rfl,e,b,w]:=w;let#[v,rfl,c]:=Ep i;let#[a,u,rfl,_,k,d]:=c
 have:=Px e d
 subst this;have m:=Py e;subst m;exact#[a,j,rfl,.inl k,b,λn l f o g=>q _ _ _ (Aq g) (DU g^Ats.strs λx c=>d.strs_le x^f.mem_iff.mp c)^w _ f o]
def W4(d e:D)(P:D->Prop):Prop:=match d,e with
 |.int i,.int j=>CMul i j/\P^.int (i*j)
 |.str z,.int k=>MulOk z k/\(Txt.mul z k).length<=sizeLine/\P^.str^Txt.mul z k
 |_,_=>False
def Wl:R2:=λx y H Q=>(rI CMul λi j=>.int (i*j)) x y H Q\/Wj x y H Q
def FJ{X:Cx}:OpR X (binaryOp .Mult) Wl:=op_mul.or VI
def HI:FE K .sh Wl W4:=λU M H d e x y P Q a f b c w q=>by
 unfold W4 at w
 split at w
 .exact .inl^DZ U M H _ _ x y P Q a f b c w q
 .rename_i z k
  exact .inr #[z,k,b.1,c,w.1,q _ H (.str _) .refl #[rfl,w.2.1] w.2.2]
 grind
end
section
variable {X:Cx}{e:Expr}{es:q_ Expr}{pos:Pos}
def bg(X:Cx)(h:q_ fZ)(b:q_ D->q_ Slot->(q_ Slot->Prop)->Prop):Prop:=∃g,bW X h g/\∀(C:Fm) (M:Db->Prop) (H:Hp) (n:Nat) (a:q_ Slot) (Z:L2.St) (c:q_ D) (d:q_ V) (P:q_ Slot->Prop) (Q:L2.St->Hp->Prop),Rel X.K C M H n a Z->Ats X.K M H c d->b c a P->
 (∀e f,Rel X.K C M H n e f->P e->Q f H)->g d Z H Q
def CN:q_ D->q_ Slot->(q_ Slot->Prop)->Prop:=λa b P=>a=[]/\P b
def Ai(b:BW)(bs:q_ D->q_ Slot->(q_ Slot->Prop)->Prop):q_ D->q_ Slot->(q_ Slot->Prop)->Prop:=λa c P=>match a with
 |d::r=>b d c λe=>bs r e P
 |[]=>False
def Bu:bg X [] CN:=#[_,PB,λC M H n a Z b c P Q R h w q=>by
 let#[rfl,w]:=w;exact#[h,q a Z R w]]
def Ad{b:BW}{bs:q_ D->q_ Slot->(q_ Slot->Prop)->Prop}(c:DG X e b)(f:bg X es bs)(i:(assignEach (e::es) X.env).map (·.2)=assign e X.env::(assignEach es X.env).map (·.2):=by rfl):bg X (e::es)^Ai b bs:=by
 let#[g,j,k]:=c;let#[y,l,m]:=f;refine#[_,GB j l i,λC M H n o Z p z P Q R h w q=>?_];cases p with
 |nil=>exact w.elim
 |cons d r=>
  let#[v,a,e,s,t]:=h;exact#[v,a,e,k C M H n o Z d v _ _ R s w λA B u x=>m C M H n _ _ r a _ _ u t x q]
def D8(k:Nat)(bs:q_ D->q_ Slot->(q_ Slot->Prop)->Prop):BW:=λd b P=>match d with
 |.tup a=>a.length=k/\bs a b P
 |_=>False
def Ym{bs:q_ D->q_ Slot->(q_ Slot->Prop)->Prop}{k:Nat}{j:Nat}(f:X.calm=o_)(h:bg X es bs)(i:(assignEach es X.env).length=k:=by rfl)(b:(assignEach es X.env).findIdx? (·.1)=n_:=by rfl):DG X (.Tuple es j pos)^D8 k bs:=by
 let#[g,l,m]:=h;refine#[_,SW f l i b,λC M H n o Z d v P Q R h w q=>?_];cases d with
 |tup p=>
  let#[a,c,rfl,r,e]:=h;exact#[a,c,rfl,r.sq,by rw[e.length];exact w.1,m C M H n o Z p c P Q R e w.2 q]
 |_=>exact w.elim
end
end Dp
namespace L2
mutual
def RV(H:Hp):jX->V->Prop
 |.none,v=>v=.non
 |.bool b,v=>v=.bl b
 |.int i,v=>v=.int i
 |.str x,v=>v=.str x
 |.tuple xs,v=>∃a vs,v=.ref a/\H a=P3^.tup vs/\RVs H xs vs
 |.list xs,v=>∃a vs,v=.ref a/\Rd H a^.lst vs/\RVs H xs vs
 |.dict _,_=>False
def RVs(H:Hp):q_ jX->q_ V->Prop
 |[],vs=>vs=[]
 |x::xs,vs=>∃v r,vs=v::r/\RV H x v/\RVs H xs r
end
section
variable {X:Cx}{zH:q_ (Addr×Obj)}{Z:L2.St}{H:Hp}{s:Shared}
mutual
theorem RV.reads(I:Inv X zH Z H s):∀{d:jX}{v:V}{u:Ev},RV H d v->RelV v u->∃as,Reads s.heap u d as
 |.none,v,u,h,r=>by
  cases(show v=.non from h);cases(show u=fm from r);exact#[_,.none]
 |.bool b,v,u,h,r=>by
  cases(show v=.bl b from h);cases(show u=lg b from r);exact#[_,.bool b]
 |.int i,v,u,h,r=>by
  cases(show v=.int i from h);let#[t,rfl]:=r;exact#[_,.int i t]
 |.str x,v,u,h,r=>by
  cases(show v=.str x from h);let#[t,rfl]:=r;exact#[_,.str x t]
 |.tuple xs,v,u,h,r=>by
  let#[a,vs,rfl,hq,hs]:=h;cases r;let#[its,rv,#[o,e,c,n,d],_]:=I.tuple (X:=X) (xs:=vs)^.inl^.inl hq;let#[as,ra]:=RVs.reads I hs rv;exact#[_,.tuple e c d ra]
 |.list xs,v,u,h,r=>by
  let#[a,vs,rfl,hq,hs]:=h;cases r;let#[its,rv,pl,_]:=I.list (X:=X) (xs:=vs)^.inl hq;let#[o,e,c,n,d]:=pl.isList;let#[as,ra]:=RVs.reads I hs rv;exact#[_,.list e c d ra]
 |.dict _,v,u,h,r=>h.elim
theorem RVs.reads(I:Inv X zH Z H s):∀{ds:q_ jX}{vs:q_ V}{us:q_ Ev},RVs H ds vs->Vals vs us->∃as,ReadsAll s.heap us ds as
 |[],vs,us,h,r=>by
  cases(show vs=[]from h);cases r;exact#[_,.nil]
 | d::ds,vs,us,h,r=>by
  let#[v,w,rfl,h1,h2]:=h;cases r with
  |cons r1 r2=>
   let#[as,a1]:=RV.reads I h1 r1;let#[bs,a2]:=RVs.reads I h2 r2;exact#[_,.cons a1 a2]
end
end
section
variable {X:Cx}
def Z2:R2:=λx y H Q=>∃d e,RV H d x/\RV H e y/\d.canLay0=o_/\e.canLay0=o_/\d.depth<=100/\Q (.bl^gI d e) H
def LX{k:Nat}(a:Room k X.A):OpR X (compareOp .Eq) Z2:=by
 intro n s Z H x y v u Q I b c h;let#[d,e,f,g,i,j,o,q]:=h;let#[p,l]:=RV.reads I f b;let#[r,m]:=RV.reads I g c;have t:=a.un;have w:min _ e.depth<=d.depth:=Nat.min_le_left _ _;exact PySem.SeqAt.compareEq_reads l m i j (by lk) #[.bl _,H,I,rfl,q]
def U3(b:Bool):R2:=λx y H Q=>∃d a,RV H d x/\(RV H (.list a) y\/RV H (.tuple a) y)/\d.canLay0=o_/\iH a=o_/\d.depth<=100/\Q (.bl (if b then !(a.any λy=>gI y d)else a.any λy=>gI y d)) H
def Si{k:Nat}(i:Room k X.A):OpR X (compareOp .In)^U3 p_:=by
 intro o s Z H x y v u Q I j c h;let#[d,l,m,a,e,f,p,q]:=h;let#[r,g]:=RV.reads I m j;have t:=i.un;have w:min (gq l) _<=d.depth:=jN _ _
 rcases a with a|a
 .let#[n,b]:=RV.reads I a c
  exact PySem.SeqAt.in_list_reads b g f e (by lk) #[.bl _,H,I,rfl,q]
 .let#[n,b]:=RV.reads I a c
  exact PySem.SeqAt.in_tuple_reads b g f e (by lk) #[.bl _,H,I,rfl,q]
def CV{k:Nat}(i:Room k X.A):OpR X (compareOp .NotIn)^U3 o_:=by
 intro o s Z H x y v u Q I j c h;let#[d,l,m,a,e,f,p,q]:=h;let#[r,g]:=RV.reads I m j;have t:=i.un;have w:min (gq l) _<=d.depth:=jN _ _
 rcases a with a|a
 .let#[n,b]:=RV.reads I a c
  exact PySem.SeqAt.notIn_list_reads b g f e (by lk) #[.bl _,H,I,rfl,q]
 .let#[n,b]:=RV.reads I a c
  exact PySem.SeqAt.notIn_tuple_reads b g f e (by lk) #[.bl _,H,I,rfl,q]
end
end L2
namespace Dp
open L2
mutual
def toPy:D->jX
 |.non=>.none
 |.bl b=>.bool b
 |.int i=>.int i
 |.str x=>.str x
 |.tup ds=>.tuple^BD ds
 |.lst ds=>.list^BD ds
 |.dic _ _=>.dict []
 |.fdi _ _=>.dict []
 |.dit _ _=>.dict []
def BD:q_ D->q_ jX
 |[]=>[]
 |d::ds=>toPy d::BD ds
end
mutual
def E3:D->Bool
 |.tup ds=>CI ds
 |.lst ds=>CI ds
 |.dic _ _=>p_
 |.fdi _ _=>p_
 |.dit _ _=>p_
 |_=>o_
def CI:q_ D->Bool
 |[]=>o_
 |d::ds=>E3 d&&CI ds
end
def B9(a:q_ D):BD a=a.map toPy:=by
 induction a with
 |nil=>rfl
 |cons d r b=>rw[BD,b,gD]
section
variable {K:Frag}{M:Addr->Prop}{H:Hp}
mutual
theorem At.rv:∀{d:D}{v:V},At K M H d v->E3 d=o_->RV H (toPy d) v
 |.non,v,h,_=>h
 |.bl b,v,h,_=>h
 |.int i,v,h,_=>h
 |.str x,v,h,_=>h.1
 |.tup ds,v,h,n=>by
  let#[a,vs,e,hn,hs]:=h;exact#[a,vs,e,hn,Ats.rv hs n]
 |.lst ds,v,h,n=>by
  let#[a,vs,e,hn,hs]:=h;exact#[a,vs,e,.inl hn.2,Ats.rv hs n]
 |.dic ks ds,v,h,n=>by cases n
 |.fdi ks ds,v,h,n=>by cases n
 |.dit ks ds,v,h,n=>by cases n
theorem Ats.rv:∀{ds:q_ D}{vs:q_ V},Ats K M H ds vs->CI ds=o_->RVs H (BD ds) vs
 |[],vs,h,_=>h
 |d::ds,vs,h,n=>by
  let#[v,r,e,h1,h2]:=h;have n':(E3 d&&CI ds)=o_:=n;rw[fN]at n';exact#[v,r,e,At.rv h1 n'.1,Ats.rv h2 n'.2]
end
def AtT.rv{U:Db->Prop}{d:D}{v:V}(h:AtT K U M H d v)(n:E3 d=o_):RV H (toPy d) v:=by
 cases d with
 |lst c=>
  let#[a,g,e,_,j,k]:=h;exact#[a,g,e,j,Ats.rv k n]
 |dic f c=>cases n
 |fdi f c=>cases n
 |dit f c=>cases n
 |non=>exact h
 |bl b=>exact h
 |int i=>exact h
 |str x=>exact h.1
 |tup c=>exact At.rv h n
def CD(d:D):Prop:=E3 d=o_/\(toPy d).canLay0=o_/\(toPy d).depth<=100
def Cu(d e:D):Bool:=gI (toPy d)^toPy e
def Vr(d e:D)(P:D->Prop):Prop:=CD d/\CD e/\P^.bl^Cu d e
def P1:FE K .sh Z2 Vr:=λU M H d e x y P Q a f b c w q=>
 #[_,_,b.rv w.1.1,c.rv w.2.1.1,w.1.2.1,w.2.1.2.1,w.1.2.2,q _ H (.bl _) .refl rfl w.2.2]
def EY:D->r_^q_ D
 |.lst a=>P3 a
 |.tup a=>P3 a
 |_=>n_
def NB(a:Bool)(d e:D)(P:D->Prop):Prop:=CD d/\CD e/\∃b,EY e=P3 b/\P^.bl (if a then !(b.any λy=>Cu y d)else b.any λy=>Cu y d)
def Fk{c:Bool}:FE K .sh (U3 c)^NB c:=λU M H d e x y P Q k m i j w q=>by
 let#[b,f,g,h,w]:=w;have a:∀g:q_ D,(g.map _).any (λy=>gI y _)=g.any λy=>Cu y d:=λg=>by rw[List.any_map];rfl
 cases e with
 |lst l=>
  cases h;exists _,_,i.rv b.1,.inl^j.rv f.1,b.2.1,by simpa [toPy,PyData.canLay0]using f.2.1,b.2.2;rw[B9,a];exact q _ H (.bl _) .refl rfl w
 |tup l=>
  cases h;exists _,_,i.rv b.1,.inr^j.rv f.1,b.2.1,by simpa [toPy,PyData.canLay0]using f.2.1,b.2.2;rw[B9,a];exact q _ H (.bl _) .refl rfl w
 |_=>cases h
def M_(d e:D)(P:D->Prop):Prop:=CD d/\CD e/\P^.bl (!Cu d e)
end
end Dp
namespace L2
def Zs:R2:=λx y H Q=>∃d e,RV H d x/\RV H e y/\d.canLay0=o_/\e.canLay0=o_/\d.depth<=100/\Q (.bl (!PyData.eqv d e)) H
def Es{X:Cx}{k:Nat}(a:Room k X.A):OpR X (compareOp .NotEq) Zs:=by
 intro n s Z H x y v u Q I b c h;let#[d,e,f,g,i,j,o,q]:=h;let#[p,l]:=RV.reads I f b;let#[r,m]:=RV.reads I g c;have t:=a.un;have w:min _ e.depth<=d.depth:=Nat.min_le_left _ _;exact PySem.SeqAt.compareNe_reads l m i j (by lk) #[.bl _,H,I,rfl,q]
end L2
namespace Dp
open L2
def Hm{K:Frag}:FE K .sh Zs M_:=λU M H d e x y P Q a f b c w q=>
 #[_,_,b.rv w.1.1,c.rv w.2.1.1,w.1.2.1,w.2.1.2.1,w.1.2.2,q _ H (.bl _) .refl rfl w.2.2]
end Dp
namespace L2
def kOf:Key->V
 |.inl i=>.int i
 |.inr x=>.str x
def bu:Key->Key->Bool
 |.inl i,.inl j=>decide (i<j)
 |.inr x,.inr y=>decide (x.cps.toList<y.cps.toList)
 |_,_=>p_
def KJ:Key->Key->Bool
 |.inl _,.inl _=>o_
 |.inr _,.inr _=>o_
 |_,_=>p_
def FT:q_ Key->q_ Key->Bool
 |[],[]=>p_
 |[],_::_=>o_
 |_::_,[]=>p_
 |x::a,y::b=>if x=y then FT a b else bu x y
def Bz:q_ Key->q_ Key->Bool
 |x::a,y::b=>KJ x y&&Bz a b
 |_,_=>o_
def Ta{A:fb}{s:No}{x y:Key}{u v:Ev}(a:RelV (kOf x) u)(b:RelV (kOf y) v):∃e,SeqAt.EqAt A s u v e/\(e=o_↔x=y):=by
 cases x with
 |inl i=>
  cases y with
  |inl j=>exact#[_,Lp a b rfl rfl,by simp[kOf,ao]]
  |inr z=>exact#[_,Lp a b rfl rfl,by simp[kOf,ao]]
 |inr z=>
  cases y with
  |inl j=>exact#[_,Lp a b rfl rfl,by simp[kOf,ao]]
  |inr c=>exact#[_,Lp a b rfl rfl,by simp[kOf,ao]]
def R9(A:fb)(s:No){x y:Key}{u v:Ev}(b:RelV (kOf x) u)(c:RelV (kOf y) v)(d:KJ x y=o_)(a:fT)(w:fY)(E:Ev->No->Prop)(Q:Ev->No->Prop)(h:Q (.bool^bu x y) s):
  wpAny (model a w) A (richCompare .Lt u v) Q E s:=by
 cases x with
 | inl i=>
  cases y with
  |inl j=>
   let#[t,rfl]:=b;let#[e,rfl]:=c;exact mL h
  |inr z=>cases d
 | inr z=>
  cases y with
  |inl j=>cases d
  |inr f=>
   let#[t,rfl]:=b;let#[e,rfl]:=c;exact PySem.P.lt_str h
section
open PySem.SeqAt
open PySem.AutoSeq1 (wpAny_loadPart')
open PySem.MeetsSeq PySem.MeetsSeq2 PySem.MeetsSeq3
def FY(l b:Db)(items items2:Array Ev)(n n2:Nat)(dd dd2:r_ Db)(sl sl2:Array^r_ Ev)(ns ms:q_ Key)(hi:Vals (ns.map kOf) items.toList)(hj:Vals (ms.map kOf) items2.toList)(hsame:Bz ns ms=o_):
  Meets (h8.«tuple.__lt__» #[[.ref l,.ref b],[]])
   (λ_ R s=>s.heap.get? l=P3 {cls:=.type "tuple",dict:=dd,data:=.seq items n,slots:=sl}/\s.heap.get? b=P3 {cls:=.type "tuple",dict:=dd2,data:=.seq items2 n2,slots:=sl2} /\
    R (.ok^.ret^.bool^FT ns ms) s):=
 .of_wp λprog w A R s h=>by
  let#[hp,g,d,tk,os]:=s;let#[hl,hb,h]:=h
  have f2:=AutoSeq1.sub_tuple_tuple;have z1:items.size=ns.length:=by have:=hi.length;rw[FM]at this;rw[this];simp
  have z2:items2.size=ms.length:=by have:=hj.length;rw[FM]at this;rw[this];simp
  wp_walk using gg hl,gg hb,wpAny_forIn_list _ (λrest b s'=>b.1=n_/\s'=#[hp,g,d,tk,os]/\∃(vs ws:q_ Ev) (ns' ms':q_ Key),rest=vs.zip ws /\
   Vals (ns'.map kOf) vs/\Vals (ms'.map kOf) ws/\Bz ns' ms'=o_/\ns'.length+items2.size=ms'.length+items.size/\R (.ok^.ret^.bool^FT ns' ms') #[hp,g,d,tk,os]) _
  case turn=>
   rintro⟨y,x⟩ rest b s' ⟨hb',rfl,vs,ws,ns',ms',hz,hvi,hwi,hsm,hlen,hR⟩;cases ns' with
   |nil=>cases hvi;rw[List.zip_nil_left]at hz;cases hz
   | cons a ns'=>
    cases ms' with
    |nil=>cases hwi;rw[List.zip_nil_right]at hz;cases hz
    | cons c ms'=>
     rw[gD]at hvi hwi;cases hvi with
     | cons ra hvi'=>
      cases hwi with
      | cons rc hwi'=>
       rw[kC]at hz;injection hz with hyx hrest
       injection hyx with hy hx
       subst hy hx;have hR':R (.ok^.ret^.bool (if a=c then FT ns' ms' else bu a c)) #[hp,g,d,tk,os]:=hR;have hsm':(KJ a c&&Bz ns' ms')=o_:=hsm;rw[fN]at hsm';simp only[fF]at hlen;let#[e,he,hiff]:=Ta (A:=A.in1) (s:=#[hp,g,d,tk,os]) ra rc;refine Ch^he prog w _ _ ?_;cases e with
       |true=>
        rw[if_pos (hiff.mp rfl)]at hR'
        wp_walk
        exact#[rfl,rfl,_,_,_,_,hrest,hvi',hwi',hsm'.2,by lk,hR']
       |false=>
        rw[if_neg λq=>absurd (hiff.mpr q) fV]at hR';have hri:=R9 A.in1 #[hp,g,d,tk,os] ra rc hsm'.1 prog w
        wp_walk using hri
        exact#[_,rfl,by simpa using hR']
  case fin=>
   rintro⟨b1,b2⟩ s' ⟨hb',rfl,vs,ws,ns',ms',hz,hvi,hwi,hsm,hlen,hR⟩;simp only at hb';subst hb'
   have hv:FT ns' ms'=decide (items.size<items2.size):=by
    cases ns' with
    | nil=>
     cases ms' with
     |nil=>
      simp only[gn]at hlen;exact(decide_eq_false^by lk).symm
     |cons c u=>
      simp only[gn,fF]at hlen;exact(decide_eq_true^by lk).symm
    | cons a t=>
     cases ms' with
     |nil=>
      simp only[gn,fF]at hlen;exact(decide_eq_false^by lk).symm
     |cons c u=>
      rw[gD]at hvi hwi;cases hvi;cases hwi;rw[kC]at hz;cases hz
   rw[hv]at hR
   wp_walk
   exact#[_,rfl,by simpa [Builtin.Tuple.tupleCompareSizes]using hR]
  case h=>
   exact#[rfl,rfl,items.toList,items2.toList,ns,ms,rfl,hi,hj,hsame,by lk,h]
end
section
variable {X:Cx}
def Zt(K:Frag):R2:=λx y H Q=>∃a b c d,x=.ref a/\y=.ref b/\SqT K H a^c.map kOf/\SqT K H b^d.map kOf/\Bz c d=o_/\Q (.bl^FT c d) H
def YC(m:X.A.units<cLine):OpR X (compareOp .Lt)^Zt X.K:=by
 intro T s Z H x y v u Q I o p h;let#[a,b,r,t,rfl,rfl,w,z,d,q]:=h;cases o;cases p;let#[B,C,D,_]:=I.tuple w;let#[i,E,G,_]:=I.tuple z;let#[#[J,L,j,M],k,N,n,O]:=id D;let#[#[l,P,e,R],c,f,S,g]:=id G;subst N O f g
 exact richCompare_meets_room (op:=.Lt) #[_,k,rfl] #[_,c,rfl] PySem.F.slot_tuple_lt PySem.F.entry_tuple_lt (PySem.F.args_tuple_lt_2 _ _) (FY a b _ _ n S L _ M _ r t C E d)
  #[k,c,#[(λx=>nomatch x),#[.bl _,H,I,rfl,q]]] m
end
def ItAt(a:Bool)(h:fO)(it l:Db)(k:Nat):Prop:=match a with
 |true=>h.IsListIter it l k
 |false=>h.IsTupleIter it l k
def SqAt(b:Bool)(h:fO)(l:Db)(a:Array Ev):Prop:=match b with
 |true=>h.IsList l a
 |false=>h.IsTuple l a
section
variable {κ:Bool}{h h':Heap}{it l b:Addr}{k:Nat}{items:Array Value}
def ItAt.mv(x:ItAt κ h it l k)(e:∀o,h.get? it=P3 o->h'.get? it=P3 o):ItAt κ h' it l k:=by
 cases κ with
 |true=>let#[o,a,r]:=x;exact#[o,e o a,r]
 |false=>let#[o,a,r]:=x;exact#[o,e o a,r]
def SqAt.mv(x:SqAt κ h l items)(e:∀o,h.get? l=P3 o->h'.get? l=P3 o):SqAt κ h' l items:=by
 cases κ with
 |true=>let#[o,a,r]:=x;exact#[o,e o a,r]
 |false=>let#[o,a,r]:=x;exact#[o,e o a,r]
def ItAt.eb(x:ItAt κ h it l k)(a:mM b h h')(n:it≠b):ItAt κ h' it l k:=x.mv λo e=>a it o n e
def SqAt.eb(x:SqAt κ h l items)(a:mM b h h')(n:l≠b):SqAt κ h' l items:=x.mv λo e=>a l o n e
def ItAt.lies(x:ItAt κ h it l k):∃o,h.get? it=P3 o/\∀v,o.data≠.cell v:=by
 cases κ with
 |true=>let#[o,a,_,d]:=x;simp_all
 |false=>let#[o,a,_,d]:=x;simp_all
def SqAt.lies(x:SqAt κ h l items):∃o,h.get? l=P3 o:=by
 cases κ with
 |true=>let#[o,a,_]:=x;grind
 |false=>let#[o,a,_]:=x;grind
end
section
variable {prog:Program}{w:World}{A:Around}{E:Value->Shared->Prop}{s:Shared}
def FO{f:Bool}{c l:Db}{i:Nat}{a:Array Ev}{x:Ev}{Q:Ev->No->Prop}(d:ItAt f s.heap c l i)(n:SqAt f s.heap l a)(hx:a[i]?=P3 x)
  (p:∀h,ItAt f h c l (i+1)->iz c s.heap h->Q x {s with heap:=h}):wpAny (model prog w) A (gs^.ref c) Q E s:=by
 cases f with
 |true=>exact wpAny_nextOf_list_item d n hx p
 |false=>
  have b:s.heap.IsTupleIter c l i:=d;have j:s.heap.IsTuple l a:=n;let#[o,g,r,e]:=id b;let#[t,k,_,u,m]:=j
  unfold gs;refine Ch^gl (name:=iJ "__next__") b.typeIs jB^g8 jB b.typeIs lO ?_^lH _;show wpAny (model prog w) _ (field (.ref c) 0 >>=_) _ _ s;refine Ch (f6 g e (x:=.ref l) rfl ?_)
  show wpAny (model prog w) _ (if(fI l==fm)=o_ then _ else _) _ _ s;rw[if_neg (show ¬((fI l==fm)=o_)from fV)]
  show wpAny (model prog w) _ (field (.ref c) 1 >>=_) _ _ s;refine Ch (f6 g e (x:=.int i 0) rfl ?_)
  show wpAny (model prog w) _ (seqItems?^.ref l >>=_) _ _ s;refine Ch^hG k m ?_;simp only[jg,hx]
  refine Ch^ip g e (by simp)^TW #[x,rfl,TW^p _ (show Heap.IsTupleIter _ c l (i+1)from ?_) (lC ..)];exact#[_,gA _ g^jm^h_ e _,(Obj.cls_mapFields ..).trans r,by(rw[h_ e];simp[rawInt])]
def Ge{g:Bool}{f l:Db}{i:Nat}{b:Array Ev}{Q:Ev->No->Prop}(r:A.handled=n_)(d:ItAt g s.heap f l i)(t:SqAt g s.heap l b)(hx:b[i]?=n_)
  (u:∀h e,mM f s.heap h->(∃o,h.get? e=P3 o/\o.cls=.type "StopIteration")->E (.ref e) {s with heap:=h}):wpAny (model prog w) A (gs^.ref f) Q E s:=by
 cases g with
 |true=>exact wpAny_nextOf_list_end r d t hx u
 |false=>
  have c:=d;have j:s.heap.IsTuple l b:=t;let#[o,k,y,n]:=id c;let#[z,p,_,B,q]:=j
  refine Ch^gl c.typeIs jB^g8 jB c.typeIs lO ?_^lH _;show wpAny (model prog w) _ (field (.ref f) 0 >>=_) _ _ s;refine Ch (f6 k n (x:=.ref l) rfl ?_)
  refine Ch (f6 k n (x:=.int i 0) rfl ?_);refine Ch^hG p q ?_;simp only[jg,hx]
  refine Ch^jr^Ch^ip k n (by simp) ?_;refine Ch ?_;refine Ch (m:=firstArgMember _ _)^iB (a:=fm) (by first|rfl|omega) ?_;refine gi ?_^by size_fits
  simp only[raiseNew];refine Ch^wpAny_handled ?_;first|grind|rw[r]
  refine Ch^TW^wpAny_throw ?_;exact u _ _ (((lC ..).extBut.push _).push _) #[_,UF _ rfl,rfl]
structure ZL (z TI TO i1 i2 l1 l2:Db):Prop where
 TIz:TI≠z
 TOz:TO≠z
 i1z:i1≠z
 i2z:i2≠z
 TOi1:TO≠i1
 TOi2:TO≠i2
 i12:i1≠i2
 l1z:l1≠z
 l1TO:l1≠TO
 l1i1:l1≠i1
 l1i2:l1≠i2
 l2z:l2≠z
 l2TO:l2≠TO
 l2i1:l2≠i1
 l2i2:l2≠i2
def RL{S T:Bool}{z TI TO p q J K:Db}{k:Nat}{xs ys:Array Ev}{x y a b:Ev}{Q:Ev->No->Prop}(D:ZL z TI TO p q J K)
  (L:ji s.heap z TI TO .none) (W:iA s.heap TI (.ref p)^.ref q) (X:iA s.heap TO a b) (h1:ItAt S s.heap p J k) (h2:ItAt T s.heap q K k) (Y:SqAt S s.heap J xs) (Z:SqAt T s.heap K ys) (hx:xs[k]?=P3 x) (hy:ys[k]?=P3 y)
  (hQ:∀r,ji r z TI TO^rawInt s.heap.objs.size->iA r TO x y->ItAt S r p J (k+1)->ItAt T r q K (k+1)->iA r s.heap.objs.size x y->r.objs.size=s.heap.objs.size+1->(∀c o,c≠z->c≠TO->c≠p->c≠q->s.heap.get? c=P3 o->r.get? c=P3 o)->Q (.ref s.heap.objs.size) {s with heap:=r}):
  wpAny (model prog w) A (h8.«zip.__next__» #[[.ref z],[]]) (λa0 s'=>∃v,a0=.done^.ret v/\Q v s') E s:=by
 show wpAny (model prog w) A (field (.ref z) 2 >>=_) _ _ _;refine Ch (f6 L rfl (x:=.bool p_) rfl ?_)
 show wpAny (model prog w) A (field (.ref z) 3 >>=_) _ _ _;refine Ch (f6 L rfl (x:=.ref TI) rfl ?_);refine Ch (hG W rfl ?_)
 show wpAny (model prog w) A (iE^.ref z >>=_) _ _ _;refine Ch ?_;unfold iE
 refine Ch (f6 L rfl (x:=.none) rfl (TW ?_));simp only[if_true];refine Ch^jr ?_;refine Ch (f6 L rfl (x:=.ref TO) rfl ?_)
 refine Ch^i7 L (by simp) λha C d=>?_;replace C:ji ha z TI TO .ellipsis:=C;refine Ch ?_;simp only[List.zipIdx_cons,List.zipIdx_nil,j1,List.forIn_nil]
 refine Ch^Ch^kR ?_;show wpAny (model prog w) _ (gs^.ref p >>=_) _ _ _
 refine Ch^FO (h1.eb d.extBut D.i1z) (Y.eb d.extBut D.l1z) hx λhb a1 h=>TW ?_;have t:iA hb TO a b:=h.extBut _ _ D.TOi1^d.extBut _ _ D.TOz X;refine Ch (hG t rfl ?_);refine Ch (km t λhc j i=>?_)
 replace j:iA hc TO x b:=j;refine Ch^jd^TW ?_;refine Ch^Ch^kR ?_;show wpAny (model prog w) _ (gs^.ref q >>=_) _ _ _
 refine Ch^FO (((h2.eb d.extBut D.i2z).eb h.extBut D.i12.symm).eb i.extBut D.TOi2.symm) (((Z.eb d.extBut D.l2z).eb h.extBut D.l2i1).eb i.extBut D.l2TO) hy λhd a2 l=>TW ?_;have u:iA hd TO x b:=l.extBut _ _ D.TOi2 j;refine Ch (hG u rfl ?_);refine Ch (km u λf g m=>?_)
 replace g:iA f TO x y:=g;refine Ch^jd^TW^TW ?_;refine Ch (hG g rfl ?_);refine Ch^wpAny_newTuple ?_
 have M:f.objs.size=s.heap.objs.size:=by rw[m.1,l.1,i.1,h.1,d.1]
 have N:ji f z TI TO .ellipsis:=m.extBut _ _ D.TOz.symm^l.extBut _ _ D.i2z.symm^i.extBut _ _ D.TOz.symm^h.extBut _ _ D.i1z.symm C;have a3:∀c o,c≠z->c≠TO->c≠p->c≠q->s.heap.get? c=P3 o->f.get? c=P3 o:=λc o F U c3 c4 e=>m.extBut _ _ U^l.extBut _ _ c4^i.extBut _ _ U^h.extBut _ _ c3^d.extBut _ _ F e;have a4:ItAt S f p J (k+1):=((a1.eb i.extBut D.TOi1.symm).eb l.extBut D.i12).eb m.extBut D.TOi1.symm;have a5:ItAt T f q K (k+1):=a2.eb m.extBut D.TOi2.symm;have B:z<f.objs.size:=T0 N;show wpAny (model prog w) _ (kE (.ref z)^.ref f.objs.size >>=_) _ _ _;refine Ch ?_;unfold kE
 have a6:ji (f.push {cls:=.type "tuple",data:=.seq #[ x,y]}) z TI TO .ellipsis:=Go _ N;refine Ch^i7 a6 (by simp) λhg G H=>?_;replace G:ji hg z TI TO^rawInt f.objs.size:=G;refine i7 G (by simp) λO n I=>?_;replace n:ji O z TI TO^rawInt f.objs.size:=n;have V:∀c o,c≠z->f.get? c=P3 o->O.get? c=P3 o:=λc o F e=>I.extBut _ _ F^H.extBut _ _ F^Go _ e;have P:iA O f.objs.size x y:=I.extBut _ _ (iV B)^H.extBut _ _ (iV B) (UF _ rfl);have R:O.objs.size=f.objs.size+1:=by rw[I.1,H.1,gU]
 rw[M]at n P R;refine TW #[_,rfl,?_];show Q (.ref f.objs.size) _;rw[M]
 exact hQ O n (V _ _ D.TOz g) (a4.mv λo e=>V _ o D.i1z e) (a5.mv λo e=>V _ o D.i2z e) P R λc o F U c3 c4 e=>V c o F^a3 c o F U c3 c4 e
def Ub{U V:Bool}{z TI TO p q G H:Db}{k:Nat}{I J:Array Ev}{a b:Ev}{Q:Fin->No->Prop}(W:A.handled=n_)(D:ZL z TI TO p q G H)
  (r:ji s.heap z TI TO .none) (K:iA s.heap TI (.ref p)^.ref q) (L:iA s.heap TO a b) (X:ItAt U s.heap p G k) (h2:ItAt V s.heap q H k) (t:SqAt U s.heap G I) (M:SqAt V s.heap H J) (u:I[k]?=n_\/J[k]?=n_)
  (Y:∀N e,(∀c o,c≠z->c≠TO->c≠p->c≠q->s.heap.get? c=P3 o->N.get? c=P3 o)->(∃o,N.get? e=P3 o/\o.cls=.type "StopIteration")->E (.ref e) {s with heap:=N}):
  wpAny (model prog w) A (h8.«zip.__next__» #[[.ref z],[]]) Q E s:=by
 show wpAny (model prog w) A (field (.ref z) 2 >>=_) _ _ _;refine Ch (f6 r rfl (x:=.bool p_) rfl ?_)
 show wpAny (model prog w) A (field (.ref z) 3 >>=_) _ _ _;refine Ch (f6 r rfl (x:=.ref TI) rfl ?_);refine Ch (hG K rfl ?_)
 show wpAny (model prog w) A (iE^.ref z >>=_) _ _ _;refine Ch ?_;unfold iE
 refine Ch (f6 r rfl (x:=.none) rfl (TW ?_));simp only[if_true];refine Ch^jr ?_;refine Ch (f6 r rfl (x:=.ref TO) rfl ?_)
 refine Ch^i7 r (by simp) λha l d=>?_;replace l:ji ha z TI TO .ellipsis:=l;refine Ch ?_;simp only[List.zipIdx_cons,List.zipIdx_nil,j1,List.forIn_nil]
 refine Ch^Ch^kR ?_;show wpAny (model prog w) _ (gs^.ref p >>=_) _ _ _
 cases O:I[k]? with
 |none=>
  refine Ch^Ge W (X.eb d.extBut D.i1z) (t.eb d.extBut D.l1z) O λP e f R=>?_;let#[S,g,j]:=R;have v:ji P z TI TO .ellipsis:=f _ _ D.i1z.symm l;have n:e≠z:=λx=>by subst x;rw[v]at g;cases g;simp at j
  exact i7 v (by simp) λZ _ i=>Y Z e (λc o y _ T _ x=>i.extBut _ _ y^f _ _ T^d.extBut _ _ y x) #[S,i.extBut _ _ n g,j]
 | some x=>
  have hy:J[k]?=n_:=by
   rcases u with h|h
   .rw[O]at h;cases h
   .exact h
  refine Ch^FO (X.eb d.extBut D.i1z) (t.eb d.extBut D.l1z) O λP a1 f=>TW ?_;have m:iA P TO a b:=f.extBut _ _ D.TOi1^d.extBut _ _ D.TOz L;refine Ch (hG m rfl ?_);refine Ch^km m λZ a0 i=>?_
  refine Ch^jd^TW ?_;refine Ch^Ch^kR ?_;show wpAny (model prog w) _ (gs^.ref q >>=_) _ _ _
  refine Ch^Ge W (((h2.eb d.extBut D.i2z).eb f.extBut D.i12.symm).eb i.extBut D.TOi2.symm) (((M.eb d.extBut D.l2z).eb f.extBut D.l2i1).eb i.extBut D.l2TO) hy λhd e B R=>?_;let#[S,g,j]:=R;have C:ji hd z TI TO .ellipsis:=B _ _ D.i2z.symm^i.extBut _ _ D.TOz.symm^f.extBut _ _ D.i1z.symm l;have n:e≠z:=λx=>by subst x;rw[C]at g;cases g;simp at j
  exact i7 C (by simp) λhf _ F=>Y hf e (λc o y c2 T c4 x=>F.extBut _ _ y^B _ _ c4^i.extBut _ _ c2^f.extBut _ _ T^d.extBut _ _ y x) #[S,F.extBut _ _ n g,j]
end
def YX(a:Bool):String:=match a with
 |true=>"list_iterator"
 |false=>"tuple_iterator"
def He(a:Bool)(l:Db):Obj:={cls:=.type^YX a,data:=.fields #[ .ref l,.int 0 0]}
abbrev zA(a:Bool)(h:fO)(b:Db):fO:=h.push^He a b
abbrev zB(a b:Bool)(h:fO)(c d:Db):fO:=(zA a h c).push^He b d
abbrev zC(a c:Bool)(h:fO)(b d:Db):fO:=(zB a c h b d).push {cls:=.type "tuple",data:=.seq #[ .ref h.objs.size,.ref (zA a h b).objs.size]}
abbrev zD(a b:Bool)(h:fO)(c d:Db):fO:=(zC a b h c d).push {cls:=.type "tuple",data:=.seq #[ .none,.none]}
abbrev zE(a b:Bool)(h:fO)(c d:Db):fO:=(zD a b h c d).push {cls:=.type "zip",data:=.fields #[ .none,.bool p_,.bool p_,.ref (zB a b h c d).objs.size,.ref (zC a b h c d).objs.size]}
def VP(zX zW:Bool)(l1 l2:Db)(xs ys:Array Ev):Meets (h8.«zip.__new__» #[[.type "zip",.ref l1,.ref l2],[]])
  (λ_ R s=>SqAt zX s.heap l1 xs/\SqAt zW s.heap l2 ys/\R (.ok^.ret^.ref (zD zX zW s.heap l1 l2).objs.size) {s with heap:=zE zX zW s.heap l1 l2}):=
 .of_wp λprog w A R s h=>by
  let#[hp,g,d,tk,os]:=s;let#[hl1,hl2,h]:=h
  have hsub:=sub_zip;have hL2:SqAt zW (zA zX hp l1) l2 ys:=hl2.mv λo e=>Go _ e;cases zX with
  | true=>
   have g1:mN (je #[hp,g,d,tk,os]) l1 xs:=hl1;cases zW with
   |true=>
    have g2:mN (je #[hp.push {cls:=.type "list_iterator",data:=.fields #[ .ref l1,.int 0 0]},g,d,tk,os]) l2 ys:=hL2
    wp_walk using hU g1,hU g2
    exact#[_,rfl,h]
   |false=>
    have g2:l9 (je #[hp.push {cls:=.type "list_iterator",data:=.fields #[ .ref l1,.int 0 0]},g,d,tk,os]) l2 ys:=hL2
    wp_walk using hU g1,gm g2
    exact#[_,rfl,h]
  | false=>
   have g1:l9 (je #[hp,g,d,tk,os]) l1 xs:=hl1;cases zW with
   |true=>
    have g2:mN (je #[hp.push {cls:=.type "tuple_iterator",data:=.fields #[ .ref l1,.int 0 0]},g,d,tk,os]) l2 ys:=hL2
    wp_walk using gm g1,hU g2
    exact#[_,rfl,h]
   |false=>
    have g2:l9 (je #[hp.push {cls:=.type "tuple_iterator",data:=.fields #[ .ref l1,.int 0 0]},g,d,tk,os]) l2 ys:=hL2
    wp_walk using gm g1,gm g2
    exact#[_,rfl,h]
def JE(a:Bool)(h:fO)(l:Db):ItAt a (h.push^He a l) h.objs.size l 0:=by
 cases a with
 |true=>exact#[_,UF _ rfl,rfl,rfl]
 |false=>exact#[_,UF _ rfl,rfl,rfl]
section
variable {prog:Program}{w:World}{A:Around}{E:Value->Shared->Prop}{s:Shared}
def Ly{b f:Bool}{a d:Db}{t u:Array Ev}{Q:Ev->No->Prop}(i:SqAt b s.heap a t)(j:SqAt f s.heap d u)
  (h:∀g,ji g (s.heap.objs.size+4) (s.heap.objs.size+2) (s.heap.objs.size+3) .none->iA g (s.heap.objs.size+2) (.ref s.heap.objs.size)^.ref (s.heap.objs.size+1)->iA g (s.heap.objs.size+3) .none .none->
   ItAt b g s.heap.objs.size a 0->ItAt f g (s.heap.objs.size+1) d 0->(∀c o,s.heap.get? c=P3 o->g.get? c=P3 o)->Q (.ref (s.heap.objs.size+4)) {s with heap:=g}):
  wpAny (model prog w) A (call (.type "zip") [.ref a,.ref d]) Q E s:=by
 refine callType_new F.called_zip (by cbv) (F.typeCall_zip_2 _ _) (F.newCall_zip_2 _ _) (λk=>F.args_object_init_3 k _ _) F.entry_zip_new (VP b f a d t u) #[i,j,?_];have l:(zA b s.heap a).objs.size=s.heap.objs.size+1:=gU ..;have m:(zB b f s.heap a d).objs.size=s.heap.objs.size+2:=by rw[gU,l]
 have n:(zC b f s.heap a d).objs.size=s.heap.objs.size+3:=by rw[gU,m]
 have p:(zD b f s.heap a d).objs.size=s.heap.objs.size+4:=by rw[gU,n]
 have q:(zE b f s.heap a d).get? (zD b f s.heap a d).objs.size=P3 _:=UF _ rfl;have v:(zE b f s.heap a d).get? (zC b f s.heap a d).objs.size=P3 _:=Go _ (UF _ rfl);have x:(zE b f s.heap a d).get? (zB b f s.heap a d).objs.size=P3 _:=Go _^Go _ (UF _ rfl);have y:ItAt f (zE b f s.heap a d) (zA b s.heap a).objs.size d 0:=(JE f (zA b s.heap a) d).mv λo e=>Go _^Go _^Go _ e;have z:ItAt b (zE b f s.heap a d) s.heap.objs.size a 0:=(JE b s.heap a).mv λo e=>Go _^Go _^Go _^Go _ e;rw[p]at q;rw[n]at v;rw[m]at x;rw[l]at y;have r:=h (zE b f s.heap a d) (by rw[ji,q,m,n]) (by rw[iA,x,l]) v z y λc o e=>Go _^Go _^Go _^Go _^Go _ e;exists#[_,by rw[p];exact q,rfl];rw[p];exact r
def Jt{i j:Bool}{z TI TO e f g h:Db}{k:Nat}{q r:Array Ev}{x y a b:Ev}{Q:r_ Ev->No->Prop}(D:ZL z TI TO e f g h)
  (t:ji s.heap z TI TO .none) (l:iA s.heap TI (.ref e)^.ref f) (m:iA s.heap TO a b) (v:ItAt i s.heap e g k) (B:ItAt j s.heap f h k) (n:SqAt i s.heap g q) (p:SqAt j s.heap h r) (hx:q[k]?=P3 x) (C:r[k]?=P3 y)
  (G:∀d,ji d z TI TO^rawInt s.heap.objs.size->iA d TO x y->ItAt i d e g (k+1)->ItAt j d f h (k+1)->iA d s.heap.objs.size x y->d.objs.size=s.heap.objs.size+1->(∀c o,c≠z->c≠TO->c≠e->c≠f->s.heap.get? c=P3 o->d.get? c=P3 o)->Q (P3^.ref s.heap.objs.size) {s with heap:=d}):
  wpAny (model prog w) A (pyNext^.ref z) Q E s:=by
 have u:s.TypeIs (.ref z) "zip":=#[_,t,rfl];unfold pyNext
 exact Ch (ig (gl (name:=iJ "__next__") u ko (g8 ko u F.entry_zip_next
  (RL D t l m v B n p hx C λd H I J K L M N=>TW^G d H I J K L M N) (F.args_zip_next_1 _))))
def Lc{r t:Bool}{z TI TO g h i j:Db}{k:Nat}{u v:Array Ev}{a b:Ev}{Q:r_ Ev->No->Prop}(B:A.handled=n_)(D:ZL z TI TO g h i j)
  (x:ji s.heap z TI TO .none) (l:iA s.heap TI (.ref g)^.ref h) (m:iA s.heap TO a b) (C:ItAt r s.heap g i k) (G:ItAt t s.heap h j k) (n:SqAt r s.heap i u) (p:SqAt t s.heap j v) (f:u[k]?=n_\/v[k]?=n_)
  (H:∀q,(∀c o,c≠z->c≠TO->c≠g->c≠h->s.heap.get? c=P3 o->q.get? c=P3 o)->Q n_ {s with heap:=q}):wpAny (model prog w) A (pyNext^.ref z) Q E s:=by
 have y:s.TypeIs (.ref z) "zip":=#[_,x,rfl];unfold pyNext;refine Ch^ig^gl (name:=iJ "__next__") y ko^g8 ko y F.entry_zip_next (Ub B D x l m C G n p f λq e I J=>?_)^F.args_zip_next_1 _;let#[o,K,L]:=J;exact Ch^jt (T:="StopIteration") (b:=o_) #[o,K,L] isSubtype_stop^TW^H _ I
end
section
variable {X:Cx}{zH:q_ (Addr×Obj)}{Z:L2.St}{H:Hp}{s:Shared}{h':Heap}
def Inv.turnedL{t':Nat}{ch:q_ Db}(I:Inv X zH Z H s)(d:∀b∈ch,FW X zH H b)(k:∀b o,b∉ch->s.heap.get? b=P3 o->h'.get? b=P3 o):Inv X zH Z H {s with heap:=h',toks:=t'}:=by
 have f:∀b u,H b=P3 u->b∉ch:=λb u e z=>by rw[(d b z).1]at e;cases e
 refine I.step (λb g=>?_) (λb o _ _ a e _=>k b o a e) (λb o _ _ a e _=>#[_,k b o a e]) (λ_ _ _ _ n=>n) (λb o a e=>#[o,k b o a e]) (λ_ _ e=>e) (λ_ _ _ e=>e) (λb y e=>#[#[],by rw[e];simp]) (λm h=>?_) (λb u e=>(I.hok b u e).stay (λc v a q=>k c v (a.elim (λz=>by grind) λz=>f c _ z) q) (λ_ q=>q) λ_ _ q=>q) I.bare
 .let#[A,i,B,j,l,p]:=d b g
  exact#[j,i,l,p]
 .let#[o,t,w,x,r]:=h
  exact#[o,t,w,k _ o (λz=>(d _ z).2.1 rfl) x,r]
def Inv.turnLaid{t':Nat}{ch:q_ Db}{a:Db}{o:HO}(I:Inv X zH Z H s)(h:∀b∈ch,FW X zH H b)(k:∀b o,b∉ch->s.heap.get? b=P3 o->h'.get? b=P3 o)(j:s.heap.objs.size<=a)(new:ObjOk X.prog X.w (Ar H a o) h' a o):
  Inv X zH Z (Ar H a o) {s with heap:=h',toks:=t'}:=by
 have i:∀b u,H b=P3 u->b∉ch:=λb u e z=>by rw[(h b z).1]at e;cases e
 have l:H a=n_:=I.hok.fresh j;have f:∀b u,H b=P3 u->Ar H a o b=P3 u:=λb u e=>by rw[AM^An e l];exact e
 refine I.step (g':=s.gens) (d':=s.drawn) (ch:=ch) (λb g=>?_) (λb o _ _ d e _=>k b o d e) (λb o _ _ d e _=>#[o.slots,k b o d e]) (λb u _ e n=>?_) (λb o d e=>#[o,k b o d e]) (λb p e=>f _ _ e) (λb o u e=>f _ _ e) (λb F e=>#[#[],by rw[f _ _ e];simp]) (λm t=>?_) (λb u e=>?_) I.bare
 .let#[G,x,J,y,A,B]:=h b g
  exact#[y,x,A,B]
 .rw[AM^fQ^fc (T0 e) j];exact n
 .let#[o,C,D,E,r]:=t
  exact#[o,C,D,k _ o (λz=>(h _ z).2.1 rfl) E,r]
 .by_cases g:b=a
  .subst g;rw[AR]at e;cases e;exact new
  .rw[AM g]at e
   exact(I.hok b u e).stay (λc v d q=>k c v (d.elim (λz=>by grind) λz=>i c _ z) q) (λc q=>f _ _ q) λc p q=>f _ _ q
end
def SqK(c:Bool)(K:Frag)(H:Hp)(a:Db)(b:q_ V):Prop:=match c with
 |true=>SqL K H a b
 |false=>SqT K H a b
def SqK.at{c:Bool}{X:Cx}{e:q_ (Db×Obj)}{Z:L2.St}{H:Hp}{s:No}{a:Db}{d:q_ V}(I:Inv X e Z H s)(h:SqK c X.K H a d):∃b:q_ Ev,Vals d b/\SqAt c s.heap a b.toArray:=by
 cases c with
 |true=>let#[b,r,f,_]:=I.list h;exact#[_,r,f.isList]
 |false=>let#[b,r,p,_]:=I.tuple h;exact#[_,r,p]
def ZN (K:Frag) (e f:Bool) (a b:Db) (c d:q_ V):It:=
  #[λi H=>SqK e K H a c ∧ SqK f K H b d ∧ i < c.length ∧ i < d.length,λi H x g=>∃ T p q,x=.ref T ∧ H T=n_ ∧ g=Ar H T^.tup [p,q] ∧ c[i]?=P3 p ∧ d[i]?=P3 q,
   λi H=>SqK e K H a c ∧ SqK f K H b d ∧ (c.length ≤ i ∨ d.length ≤ i)]
structure bL (zX zW:Bool) (z TI TO i1 i2 a b:Db) (k:Nat) (h:fO):Prop where
 z:ji h z TI TO .none
 ti:iA h TI (.ref i1) (.ref i2)
 to:∃a b,iA h TO a b
 i1:ItAt zX h i1 a k
 i2:ItAt zW h i2 b k
def Rc{P:fT}{w:fY}{K:Frag}{es:q_ fZ}{j:Nat}{pos:Pos}(zX zW:Bool)(z TI TO g l a b:Db)(xs ys:q_ V)(D:ZL z TI TO g l a b)(B:TI∉[z,TO,g,l]):
  Turn P w K (.Tuple es j pos) (ZN K zX zW a b xs ys) [z,TI,TO,g,l] z (bL zX zW z TI TO g l a b) where
 mem:=by simp
 obj:=λi h d c f=>by
  simp only[Tk,fH,or_false]at f
  rcases f with rfl|rfl|rfl|rfl|rfl
  .exact#[_,d.z,λv q=>by cases q]
  .exact#[_,d.ti,λv q=>by cases q]
  .let#[a,b,e]:=d.to
   exact#[_,e,λv q=>by cases q]
  .exact d.i1.lies
  .exact d.i2.lies
 keep:=λi h h' d k=>by
  let#[p,q,e]:=d.to;exact#[k z (by simp) _ d.z,k TI (by simp) _ d.ti,#[p,q,k TO (by simp) _ e],d.i1.mv λo e=>k g (by simp) o e,d.i2.mv λo e=>k l (by simp) o e]
 item:=by
  intro X C F G f i zH s Z H E I r d J;subst C F G;let#[L,M,m,hj]:=J;let#[us,N,O]:=L.at I;let#[ws,R,S]:=M.at I;let#[u,hu,ru]:=N.get^On m;let#[v,hv,rv]:=R.get^On hj;let#[p,q,e]:=d.to;refine Jt D d.z d.ti e d.i1 d.i2 O S (x:=u) (y:=v) (by simpa using hu) (by simpa using hv) λh' a1 a2 a3 a4 a5 a6 a7=>#[_,rfl,?_];refine wpAny_letOwnedTupleGo_zip a1 λT b1 n=>?_;have hT:H s.heap.objs.size=n_:=I.hok.fresh^Rs _
  have t:∀c o,c∉[z,TO,g,l]->s.heap.get? c=P3 o->T.get? c=P3 o:=λc o f e=>by
   simp only[Tk,fH,or_false,not_or]at f;exact n.extBut _ _ f.1^a7 c o f.1 f.2.1 f.2.2.1 f.2.2.2 e
  have I2:Inv X zH Z (Ar H s.heap.objs.size^.tup [xs[i],ys[i]]) {s with heap:=T}:=by
   refine I.turnLaid (t':=s.toks) (ch:=[z,TO,g,l]) (λc f=>r c ?_) t (Rs _) ?_
   .simp only[Tk,fH,or_false]at f ⊢
    rcases f with rfl|rfl|rfl|rfl <;>simp
   .have nT:s.heap.objs.size≠z:=iV^T0 d.z
    exact#[by show 2<=sizeLine;decide,[u,v],.cons ru^.cons rv .nil,#[_,n.extBut _ _ nT a5,rfl,_,rfl,rfl,rfl]]
  have U:iA T TI (.ref g)^.ref l:=t _ _ B d.ti;refine#[.ref s.heap.objs.size,_,I2,rfl,#[_,_,_,rfl,hT,rfl,On m,On hj],#[b1,U,#[_,_,n.extBut _ _ D.TOz a2],a3.eb n.extBut D.i1z,a4.eb n.extBut D.i2z],λc f=>?_];have W:H c=n_:=(r c f).1
  have Y:c≠s.heap.objs.size:=λz=>by
   obtain⟨o,ho,_⟩:∃o,s.heap.get? c=P3 o/\True:=by
    simp only[Tk,fH,or_false]at f
    rcases f with rfl|rfl|rfl|rfl|rfl
    .exact#[_,d.z,trivial]
    .exact#[_,d.ti,trivial]
    .exact#[_,e,trivial]
    .let#[o,q,_]:=d.i1.lies;exact#[o,q,trivial]
    .let#[o,q,_]:=d.i2.lies;exact#[o,q,trivial]
   rw[z]at ho;exact gM _^T0 ho
  rw[AM Y];exact W
 done:=by
  intro X C F G f i zH s Z H E I r d J;subst C F G;let#[L,M,m]:=J;let#[us,N,O]:=L.at I;let#[ws,R,S]:=M.at I;let#[p,q,e]:=d.to;have l1:=N.length;have l2:=R.length;refine Lc (I.ok.hd f) D d.z d.ti e d.i1 d.i2 O S (m.imp (λm=>by simp;lk) λm=>by simp;lk) λh' t=>#[rfl,?_];refine I.turnedL (t':=s.toks) (ch:=[z,TO,g,l]) (λc f=>r c ?_) λc o f e=>?_
  .simp only[Tk,fH,or_false]at f ⊢
   rcases f with rfl|rfl|rfl|rfl <;>simp
  .simp only[Tk,fH,or_false,not_or]at f
   exact t c o f.1 f.2.1 f.2.2.1 f.2.2.2 e
 self:=λA i s Q E d h=>wpAny_pyIter_zip d.z h
section
variable {X:Cx}
def XR(n a b:Nat)(c:a<n)(d:b<n):ZL (n+4) (n+2) (n+3) n (n+1) a b:=by
 constructor <;>(grind)
def XQ(n:Nat):(n+2)∉[n+4,n+3,n,n+1]:=by
 grind
def XU(n c:Nat)(h:c∈[n+4,n+2,n+3,n,n+1]):n<=c:=by
 grind
def cy(K:Frag)(h:TA):TI:=λZ H R=>h Z H λi c=>∃d e a b f g,i=[.ref a,.ref b]/\SqK d K c a f/\SqK e K c b g/\R (ZN K d e a b f g) c
def SS{m f:fZ}{G:q_ fZ}{j:Nat}{g:Pos}{y:TA}{p pos:Pos}(J:Gl X "zip")(L:X.mg "zip"=n_)(M:PA X [m,f] y)(N:starEach [m,f] X.env=[(p_,eval m X.env),(p_,eval f X.env)]:=by rfl)(i:starEach [f] X.env=[(p_,eval f X.env)]:=by rfl):
  PI X (.Tuple G j g) (.Call (.Name "zip" p) [m,f] [] pos) (cy X.K y):=by
 intro O s Z H R I h;refine Call_ (EM I J L boot_zip^gz (thn (M pos O s Z H _ I h) λP d zz=>?_) (by rw[N,i])^by rw[i];rfl);let#[vs,Q,k,S,n]:=zz;let#[z,A,a,b,B,C,e,T,U,q]:=n;subst e;let#[u,v,rfl,V,W]:=vals2 S;cases V;cases W;let#[P,Y,n]:=T.at k;let#[ws,a0,E]:=U.at k;have la:a<d.heap.objs.size:=by let#[o,e]:=n.lies;exact T0 e
 have lb:b<d.heap.objs.size:=by let#[o,e]:=E.lies;exact T0 e
 refine Ly n E λh' F r t w x hk=>?_;refine wpAny_pyIter_zip F ?_;have D:=XR d.heap.objs.size a b la lb;refine#[d.heap.objs.size+4,[d.heap.objs.size+4,d.heap.objs.size+2,d.heap.objs.size+3,d.heap.objs.size,d.heap.objs.size+1],_,ZN X.K z A a b B C,Q,rfl,k.kept (t':=d.toks) hk,Rc z A _ _ _ _ _ a b B C D^XQ d.heap.objs.size,#[F,r,#[_,_,t],w,x],λc hc=>?_,q];have l:d.heap.objs.size<=c:=XU d.heap.objs.size c hc;exact k.fpOk l^k.hok.fresh l
end
end L2
namespace Dp
open L2
def C2(a b:q_ D):q_ D:=kF (λd e=>.tup [d,e]) a b
section
variable {K:Frag}
def LL{U g M:Db->Prop}{H:Hp}{d:D}{v:V}{l:q_ D}(h:AtT K g M H d v)(e:EY d=P3 l)(m:∀a,U a->g a)(s:∀a,g a->M a):∃p a c,v=.ref a/\Ats K M H l c/\∀i f,Pres M H i f->Ext U H f->SqK p K f a c:=by
 cases d with
 |lst q=>
  cases e;let#[a,c,j,n,b,k]:=h;refine#[o_,a,c,j,k,λi f _ ex=>?_]
  rcases b with b|⟨o,b⟩
  .exact .inl^.inl^ex.keep b λz=>n^m a z
  .exact .inl^.inr #[o,ex.keep b λz=>n^m a z]
 |tup q=>
  cases e;let#[a,c,j,b,k]:=h;exact#[p_,a,c,j,k,λi f r _=>(b.pres r).sq]
 |_=>cases e
def Nl{M:Db->Prop}{H:Hp}{d:D}{v:V}{l:q_ D}(h:At K M H d v)(e:EY d=P3 l):∃m a b,v=.ref a/\Ats K M H l b/\∀f c,Pres M H f c->SqK m K c a b:=by
 cases d with
 |lst n=>
  cases e;let#[a,b,g,i,j]:=h;exact#[o_,a,b,g,j,λf c k=>(i.pres k).sq]
 |tup n=>
  cases e;let#[a,b,g,i,j]:=h;exact#[p_,a,b,g,j,λf c k=>(i.pres k).sq]
 |_=>cases e
def IS{M:Db->Prop}{H:Hp}{l m:Bool}{a b:Db}{f g:q_ V}{h j:q_ D}(u:Ats K M H h f)(v:Ats K M H j g){i:Nat}{r:Db->Prop}{c:Hp}(w:Pres M H r c)(z:SqK l K c a f)(A:SqK m K c b g)(s:∀a,r a->∃o,c a=P3 o):
  (∀d,(C2 h j)[i]?=P3 d->(ZN K l m a b f g).go i c/\∀x H2,(ZN K l m a b f g).yld i c x H2->Grow c H2/\At K r H2 d x)/\((C2 h j).length<=i->(ZN K l m a b f g).stop i c):=by
 have P:=u.length;have Q:=v.length;refine#[λd e=>?_,λF=>#[z,A,?_]]
 .unfold C2 at e
  rw[kY]at e;cases k:h[i]? with
  |none=>rw[k]at e;simp at e
  | some G=>
   cases n:j[i]? with
   |none=>rw[k,n]at e;simp at e
   |some I=>
    rw[k,n]at e;have t:D.tup [G,I]=d:=fG e;have R:i<h.length:=(eq.mp k).1;have S:i<j.length:=(eq.mp n).1;refine#[#[z,A,by lk,by lk],λx H2 y=>?_];let#[T,p,q,rfl,B,rfl,J,L]:=y;let#[U,C,N]:=(u.pres w).get k;let#[W,E,O]:=(v.pres w).get n;rw[J]at C;rw[L]at E;cases C;cases E;subst t;exact#[Aq B,Cj s B #[p,[q],rfl,N,q,[],rfl,O,rfl]]
 .unfold C2 at F
  grind
end
section
variable {X:Cx}{e1 e2:Expr}{es:q_ Expr}{j:Nat}{tpos p pos:Pos}{ws:De}
def Ui(ws:De):De:=λn c P=>ws n c λf g=>∃d e a b,f=[d,e]/\EY d=P3 a/\EY e=P3 b/\P (C2 a b) g
def Pn(z:Gl X "zip")(A:X.mg "zip"=n_)(B:WO X [e1,e2] ws)(D:starEach [e1,e2] X.env=[(p_,eval e1 X.env),(p_,eval e2 X.env)]:=by rfl)(c:starEach [e2] X.env=[(p_,eval e2 X.env)]:=by rfl):
  XJ X (.Tuple es j tpos) (.Call (.Name "zip" p) [e1,e2] [] pos) (Ui ws):=by
 let#[t,E,F]:=B;refine#[_,SS z A E D c,λC M H n G Z P W R w q=>?_];refine F C M H n G Z _ _ R w λY f ds I m o J p=>?_;let#[d,e,xs,ys,rfl,K,L,p]:=p;cases J with
 | cons r g=>
  cases g with
  |cons N g=>
   cases g;have s:=R.step m o;let#[O,a,Q,rfl,S,u]:=LL (U:=C.U) r K R.uV s.vM;let#[T,b,h,rfl,V,v]:=LL (U:=C.U) N L R.uV s.vM;refine#[O,T,a,b,Q,h,rfl,u M f (Pres.refl _ _)^Ext.refl _ _,v M f (Pres.refl _ _)^Ext.refl _ _,q _ f _ I m o (λi x y k ex l=>IS S V k (u x y k ex) (v x y k ex) l) p]
def OP(x:Gl X "zip")(y:X.mg "zip"=n_)(z:WN X [e1,e2] ws)(A:starEach [e1,e2] X.env=[(p_,eval e1 X.env),(p_,eval e2 X.env)]:=by rfl)(c:starEach [e2] X.env=[(p_,eval e2 X.env)]:=by rfl):
  DI X (.Tuple es j tpos) (.Call (.Name "zip" p) [e1,e2] [] pos) (Ui ws):=by
 let#[t,B,D]:=z;refine#[_,SS x y B A c,λC M H n E Z P W R w q=>?_];refine D C M H n E Z _ _ R w λY f ds F G I g p=>?_;let#[d,e,xs,ys,rfl,J,K,p]:=p;let#[v,r,rfl,g,v',L,rfl,N,O]:=g;cases(show L=[]from O);let#[Q,a,S,rfl,T,m]:=Nl g J;let#[U,b,h,rfl,V,o]:=Nl N K;exact#[Q,U,a,b,S,h,rfl,m M f^Pres.refl _ _,o M f^Pres.refl _ _,q _ f _ F G I (λi s u k l=>IS T V k (m s u k) (o s u k) l) p]
def cv:D->r_ Key
 |.int i=>P3^.inl i
 |.str x=>P3^.inr x
 |_=>n_
def Hc:q_ D->r_^q_ Key
 |[]=>P3 []
 |d::a=>match cv d,Hc a with
  |some k,P3 b=>P3 (k::b)
  |_,_=>n_
theorem GW{K:Frag}{M:Db->Prop}{H:Hp}:∀{c:q_ D}{a:q_ V}{b:q_ Key},Hc c=P3 b->Ats K M H c a->a=b.map kOf
 |[],a,b,e,h=>by cases e;exact h
 | d::c,a,b,e,h=>by
  let#[v,r,e1,l,m]:=h;unfold Hc at e
  split at e
  .rename_i k n f g
   cases e;rw[e1,GW g m]
   congr 1
   cases d with
   |int i=>cases f;exact l
   |str x=>cases f;exact l.1
   |_=>cases f
  .cases e
def NA(d e:D)(P:D->Prop):Prop:=match d,e with
 |.int i,.int j=>P^.bl (decide (i<j))
 |.str i,.str j=>P^.bl (decide (i.cps.toList<j.cps.toList))
 |.tup c,.tup f=>∃a b,Hc c=P3 a/\Hc f=P3 b/\Bz a b=o_/\P^.bl^FT a b
 |_,_=>False
def Zu(K:Frag):R2:=λx y H Q=>Xx x y H Q\/Zt K x y H Q
def Eu{k:Nat}(a:Room k X.A):OpR X (compareOp .Lt)^Zu X.K:=op_ltU.or^YC a.units0
def Ho:FE X.K .sh (Zu X.K) NA:=λU M H d e x y P Q c h f g w q=>by
 unfold NA at w
 split at w
 .exact .inl^XA U M H _ _ x y P Q c h f g w q
 .exact .inl^XA U M H _ _ x y P Q c h f g w q
 .let#[i,k,l,m,n,w]:=w
  let#[a,u,rfl,o,r]:=f.tup;let#[b,v,rfl,s,t]:=g.tup;have e1:=GW l r;have e2:=GW m t;subst e1 e2;exact .inr #[a,b,i,k,rfl,rfl,o.sq,s.sq,n,q _ H (.bl _) .refl rfl w]
 grind
end
end Dp
namespace L2
section
variable {prog:Program}{w:World}{A:Around}{E:Value->Shared->Prop}{s:Shared}
def MK{t f:Db}{a:Array Ev}{k l:Ev}{b e:r_ Int}{Q:Ev->No->Prop}(c:kO s.heap t a)(n:s.heap.IsSliceOf f k l .none)(p:ke k b)(q:ke l e)
  (o:HT.sIx a.size 0 b=0/\HT.sIx a.size a.size e=a.size) (h:Q (.ref t) s):wpAny (model prog w) A (getItem (.ref t)^.ref f) Q E s:=by
 let#[r,g,i,u]:=id n;have j:s.TypeIs (.ref f) "slice":=#[r,g,i];unfold getItem
 (try with_reducible refine gG ?_);(first|refine Ch^TW ?_|skip)
 refine Ch^wpAny_sequenceKey c.typeIs (by cbv)^Ch^gl (name:=iJ "__getitem__") c.typeIs gW^g8 gW c.typeIs entry_tuple_getitem ?_^args_tuple_getitem _ _;show wpAny (model prog w) _ (lU^.ref t >>=_) _ _ s;refine Ch^tupleItemsOf_ c^Ch^j_ j ?_;rw[if_pos^by cbv]
 refine Ch^HT.sliceApplied_gen n p q ?_;have d:(((HT.sIx a.size 0 b:Nat):Int)==0&&(1:Int)==1&&(HT.sIx a.size a.size e - HT.sIx a.size 0 b)==a.size)=o_:=by rw[o.1,o.2];simp
 show wpAny (model prog w) _ (if(((HT.sIx a.size 0 b:Nat):Int)==0&&(1:Int)==1&&(HT.sIx a.size a.size e - HT.sIx a.size 0 b)==a.size)=o_ then _ else _) _ _ s;rw[if_pos d];refine Ch (m:=lV _) ?_;unfold lV;refine Ch^j_ c.typeIs^TW ?_;show wpAny (model prog w) _ (if((gB "tuple"==gB "tuple")=o_)then _ else _) _ _ s;rw[if_pos^by cbv]
 first
  |grind
  |exact Ch^jr^TW #[_,rfl,TW h]
  |grind
end
section
variable {X:Cx}
def Wh(K:Frag):V->r_ Int->r_ Int->Hp->VK->Prop:=λx c d H Q=>∃a b,x=.ref a/\SqT K H a b/\(HT.sIx b.length 0 c=0/\HT.sIx b.length b.length d=b.length)/\Q (.ref a) H
def Uy:SlR X^Wh X.K:=by
 intro k s Z H x v l m n o p Q I d e f g h;let#[a,t,rfl,i,u,q]:=h;cases d;let#[j,r,b,w]:=I.tuple i;have c:=r.length.symm;exact#[_,_,gW.lookup,b.typeIs,MK b e f g (by grind) #[.ref a,H,I,rfl,q]]
end
section
variable {X:Cx}
def SE(K:Frag):R2:=λx y H Q=>∃a b c,x=.ref a/\y=.ref b/\SqT K H a []/\SqT K H b c/\Q (.ref b) H
def Sj:OpR X (binaryOp .Add)^SE X.K:=by
 intro M s Z H x y v u Q I l m h;let#[a,b,N,rfl,rfl,o,p,q]:=h;cases l;cases m;let#[r,t,w,_]:=I.tuple o;let#[g,O,z,_]:=I.tuple p;cases t;let#[#[A,B,i,C],j,D,n,E]:=id w;let#[#[k,G,d,J],c,e,L,f]:=id z;subst D E e f;exact concat_meets #[_,j,rfl] #[_,c,rfl] lu seq_tuple_add PySem.F.slot_tuple_add PySem.F.entry_tuple_add (PySem.F.args_tuple_add_2 _ _) (tuple_addW0 a b _ _ n L B _ C _^by simp) #[j,c,#[.ref b,H,I,rfl,q]]
def bI(b:Bool):Int:=if b=o_ then 1 else 0
def bp(g:Int->Int->Int):R2:=λx y H Q=>∃k j,x=.bl k/\y=.int j/\Q (.int^g (bI k) j) H
def d6(g:Int->Int->Int):R2:=λx y H Q=>∃i k,x=.int i/\y=.bl k/\Q (.int^g i^bI k) H
def op_add_bi:OpR X (binaryOp .Add) (bp λi j=>i+j):=by
 intro c s Z H x y v u Q I a b h;let#[k,j,rfl,rfl,q]:=h;cases a;let#[t,rfl]:=b;exact PySem.IntBool.add_bool_int #[.int _,H,I.tok _,#[_,rfl],q]
def op_sub_bi:OpR X (binaryOp .Sub) (bp λi j=>i - j):=by
 intro c s Z H x y v u Q I a b h;let#[k,j,rfl,rfl,q]:=h;cases a;let#[t,rfl]:=b;exact PySem.IntBool.sub_bool_int #[.int _,H,I.tok _,#[_,rfl],q]
def QN:OpR X (binaryOp .Sub) (d6 λi j=>i - j):=by
 intro c s Z H x y v u Q I a b h;let#[i,k,rfl,rfl,q]:=h;let#[t,rfl]:=a;cases b;exact PySem.IntBool.sub_int_bool #[.int _,H,I.tok _,#[_,rfl],q]
def Zz(c:Bool):R2:=λx y H Q=>∃a b,x=.bl a/\y=.bl b/\Q (.bl (if c then !(a==b)else a==b)) H
def YD:OpR X (compareOp .Is)^Zz p_:=by
 intro e s Z H x y v u Q I c d h;let#[a,b,rfl,rfl,q]:=h;cases c;cases d;exact is_bool #[.bl _,H,I,rfl,q]
end
end L2
namespace Dp
open L2
section
variable {K:Frag}{X:Cx}
def Bw(d e:D)(P:D->Prop):Prop:=match d,e with
 |.int i,.int j=>P^.int (i+j)
 |.bl k,.int j=>P^.int (bI k+j)
 |.str i,.str j=>i.length+j.length<=sizeLine/\P^.str (i++j)
 |.tup i,.tup j=>i.length+j.length<=sizeLine/\P^.tup (i++j)
 |.lst i,.lst j=>i.length+j.length<=sizeLine/\P^.lst (i++j)
 |_,_=>False
def Wq(K:Frag):R2:=λx y H Q=>SH K x y H Q\/(bp λi j=>i+j) x y H Q\/SE K x y H Q
def Af:OpR X (binaryOp .Add)^Wq X.K:=op_addU.or^op_add_bi.or Sj
def Ax:FE X.K .sh (Wq X.K) Bw:=λU M H d e x y P Q c h f g w q=>by
 unfold Bw at w
 split at w
 .exact .inl^L7 U M H (.int _) (.int _) x y P Q c h f g w q
 .rename_i k j
  exact .inr^.inl #[k,j,f,g,q _ H (.int _) .refl rfl w]
 .exact .inl^L7 U M H _ (.str _) x y P Q c h f g w q
 .rename_i i j
  cases i with
  |nil=>
   let#[a,r,rfl,n,o]:=f.tup;let#[b,l,rfl,m,p]:=g.tup;cases(o);exact .inr^.inr #[a,b,l,rfl,rfl,n.sq,m.sq,q _ H (.tup j) .refl #[b,l,rfl,m,p]^by grind]
  |cons s i=>exact .inl^L7 U M H _ (.tup j) x y P Q c h f g #[(by grind),w] q
 .exact .inl^L7 U M H (.lst _) (.lst _) x y P Q c h f g w q
 grind
def Kp(d e:D)(P:D->Prop):Prop:=match d,e with
 |.int i,.int j=>P^.int (i - j)
 |.bl k,.int j=>P^.int (bI k - j)
 |.int i,.bl k=>P^.int (i - bI k)
 |_,_=>False
def Wf:R2:=λx y H Q=>(HR λi j=>.int (i - j)) x y H Q\/(bp λi j=>i - j) x y H Q\/(d6 λi j=>i - j) x y H Q
def Bc:OpR X (binaryOp .Sub) Wf:=op_sub.or^op_sub_bi.or QN
def B7:FE K .sh Wf Kp:=λU M H d e x y P Q a f b c w q=>by
 unfold Kp at w
 split at w
 .exact .inl^UK U M H _ _ x y P Q a f b c w q
 .rename_i k j
  exact .inr^.inl #[k,j,b,c,q _ H (.int _) .refl rfl w]
 .rename_i i k
  exact .inr^.inr #[i,k,b,c,q _ H (.int _) .refl rfl w]
 grind
def ak(c:Bool)(d e:D)(P:D->Prop):Prop:=match d,e with
 |.bl a,.bl b=>P^.bl (if c then !(a==b)else a==b)
 |_,_=>False
def bG{c:Bool}:FE K .sh (Zz c)^ak c:=λU M H d e x y P Q f i g h w q=>by
 unfold ak at w
 split at w
 .rename_i a b
  exact#[a,b,g,h,q _ H (.bl _) .refl rfl w]
 grind
def Fx(d:D)(a b:r_ Int)(P:D->Prop):Prop:=match d with
 |.str z=>P^.str^Txt.slice z a b
 |.lst c=>P^.lst^cutD c a b
 |.tup c=>P^.tup^cutD c a b
 |_=>False
def Zr(K:Frag):V->r_ Int->r_ Int->Hp->VK->Prop:=λx a b H Q=>Zo x a b H Q\/Zq K x a b H Q\/Zp K x a b H Q\/Wh K x a b H Q
def EX:SlR X^Zr X.K:=sl_U.or^sl_list.or^sl_tup.or Uy
def Ps{M:Db->Prop}{H:Hp}{a:q_ D}{b:q_ V}(c d:r_ Int)(h:Ats K M H a b):Ats K M H (cutD a c d)^NI b c d:=by
 unfold cutD NI;rw[h.length];exact(h.drop _).take _
def CT:eI K .sh (Zr K) Fx:=by
 intro U M H d x c f P Q h n i w q;unfold Fx at w
 split at w
 .rename_i z
  exact .inl #[z,i.str.1,i.str.2,q _ H (.str^Txt.slice z c f) .refl #[rfl,fJ (Txt.slice_le z c f) i.str.2] w]
 .rename_i l
  let#[a,b,rfl,_,j,g]:=i;exact .inr^.inl #[a,b,rfl,.inl j,λp k=>q _ _ (.lst _) (Aq k) ((DU (U:=U) k^Ps c f g).shOf h^by grind) w]
 .rename_i l
  let#[a,b,rfl,j,g]:=i.tup
  by_cases m:HT.sIx b.length 0 c=0/\HT.sIx b.length b.length f=b.length
  .refine .inr^.inr^.inr #[a,b,rfl,j.sq,m,?_]
   have e:cutD l c f=l:=by
    unfold cutD;rw[←g.length,m.1,m.2,mQ,Nat.sub_zero,g.length,l_]
   rw[e]at w;exact q _ H (.tup l) .refl #[a,b,rfl,j,g] w
  .exact .inr^.inr^.inl #[a,b,rfl,j.sq,m,λp k=>q _ _ (.tup _) (Aq k) (Cj h k^Ps c f g) w]
 grind
end
end Dp
namespace Nt
open L2 Dp
def Hq:W2:=λa n P=>∃m:Int,a=[.fd,.sh^.int m]/\1<=m/\m<1073741824/\1<=n/\∀r:Int,0<=r->r<m->P (.int r) (n - 1)
def cs(x:Str):q_ Nat:=x.cps.toList
def Yr{x y:Str}(h:cs x=cs y):x=y:=by
 let#[a]:=x;unfold cs at h
 simp_all
def Qp(x:Str):Prop:=1<=x.length/\x.length<=8/\∀c∈cs x,97<=c/\c<=122
def rising(a:q_ Str):Prop:=a.Pairwise λx y=>cs x<cs y
def Sv(a b:q_ Nat):ltCps a b=decide (a<b):=ltCps_eq a b
theorem HY:∀(l:q_ Str) (p:Str),risingS p l=o_->(p::l).Pairwise λa b=>¬cs b<cs a
 |[],p,_=>kL _ _
 |x::r,p,h=>by
  have c:(!ltCps _ _&&risingS x r)=o_:=h;rw[fN,Bool.not_eq_true',Sv,decide_eq_false_iff_not]at c;have e:=HY r x c.2;refine gR.mpr #[λy d=>?_,e]
  rcases Tk.mp d with rfl|d
  .exact c.1
  .exact List.le_trans c.1^(gR.mp e).1 y d
def Jh{l:q_ Str}(h:sortedS l=o_)(nd:l.Nodup):rising l:=by
 have c:l.Pairwise λa b=>¬cs b<cs a:=by
  cases l with
  |nil=>simp_all
  |cons x r=>exact HY r x h
 exact(c.and nd).imp λ{a b} #[d,e]=>j6 λf=>e^Yr^List.le_antisymm d f
def El(a:Int)(n:Nat):(Em a n).length=n:=by unfold Em;grind
def MU{a:Int}{n:Nat}{d:D}(h:d∈Em a n):∃k:Nat,k<n/\d=.int (a+k):=by
 let#[k,b,rfl]:=TM.mp h;exact#[k,gu.mp b,rfl]
end Nt
namespace L2
def YG{K:Frag}:PySem.W.specialIn K (.builtin "object.__class__") "__get__"=P3^P3^.builtin "getset_descriptor.__get__":=by kernel_rfl
def Sk{K:Frag}:PySem.W.takesIn K^.builtin "object.__class__"=P3 o_:=by kernel_rfl
section
variable {K:Frag}{nm n1 n2:Str}{C U D U':Addr}
def XC.hd(c:XC K nm C U):PySem.W.hasDictIn K C=o_:=by
 let#[a,b,_,d,_]:=c.cls;unfold PySem.W.hasDictIn
 grind
def XC.mro(c:XC K nm C U)(v:Ev):PySem.W.mroIn K C v=P3^(fI C::fI U::Cd).contains v:=by
 let#[d,a,b,_]:=c.cls;unfold PySem.W.mroIn;rw[a,Option.bind_some,b];rfl
def XC.name(c:XC K n1 C U)(d:XC K n2 C U'):n1=n2:=by
 let#[f,g,_,_,h]:=c.cls;let#[a,b,_,_,e]:=d.cls
 grind
def XC.nameU(c:XC K n1 C U)(d:XC K n2 U U'):n2="ThinError":=by
 let#[q,N,i,j,b,k,f,l,m,n,o,p,r,s,e]:=c.up;let#[g,a,_,_,h]:=d.cls;unfold PySem.W.clsIn at a;rw[e]at a
 grind
def XC.ty(c:XC K nm C U):(PySem.W.clsIn K C).isSome=o_/\PySem.W.typeIn K^.ref C=P3^.type "type":=by
 let#[q,N,d,f,a,g,b,h,i,j,k,l,m,e]:=c.obj;refine#[by unfold PySem.W.clsIn;rw[e];rfl,?_];unfold PySem.W.typeIn
 simp_all
def XC.kit(c:XC K n1 C U)(d:XC K n2 D U')(h:n2 ≠ "ThinError"):PySem.W.kitOne K (.ref C)^.ref D=P3 (decide (n1=n2)):=by
 unfold PySem.W.kitOne
 by_cases e:C=D
 .subst e
  rw[c.name d];simp
 .have a:n1≠n2:=λz=>by
   subst z;have q:=c.at_.symm.trans d.at_
   grind
  have b:U≠D:=λz=>by subst z;exact h^c.nameU d
  rw[if_neg^by simp[e]];show(if((PySem.W.clsIn K D).isSome&&PySem.W.typeIn K _==P3 _)=o_ then PySem.W.subIn K _ _ else n_)=_;rw[if_pos^by rw[d.ty.1,d.ty.2];rfl];show PySem.W.mroIn K C^.ref D=_;rw[c.mro,Hl]
  grind
def XC.kitV(c:XC K n1 C U):PySem.W.kitOne K (.ref C)^.type "ValueError"=P3 o_:=by
 show PySem.W.mroIn K C _=_;rw[c.mro];simp[Cd]
end
section
variable {prog:Program}{w:World}{A:Around}{E:Value->Shared->Prop}{s:Shared}{K:Frag}{nm name:Str}{x C U:Addr}{ox:Obj}{od:r_ Obj}{tk:Tok}{fill expr:Bool}
def WQ{Q:Ev->No->Prop}(X:K.In s.heap)(c:XC K nm C U)(I:PySem.W.InstAt s.heap x ox C od)
  (h:wpAny (model prog w) A.in1 (h8.«object.__getattribute__» #[[.ref x,.str name tk],[]]) (λa d=>match a with|.done (.ret v)=>wpAny (model prog w) A (handedOut v) Q E d|_=>False) (λ_ _=>False) s):
  wpAny (model prog w) A (getAttrBy (.ref x) (.str name tk) fill expr) Q E s:=by
 have e:=PySem.F.excAttr_ValueError;have f:(jR "BaseException.__getattribute__"==jR "object.__getattribute__")=p_:=by decide +kernel
 have i:(onTheHeap^fI C&&jR "BaseException.__getattribute__"==jR "object.__getattribute__")=p_:=by rw[f];rfl
 have g:(expr&&onTheHeap^jR "BaseException.__getattribute__")=p_:=by cases expr <;>rfl
 have b:PySem.W.Looks (model prog w) s.heap (isInstance (.ref x)^.type "BaseException") o_:=by
  refine I.type.andThen^PySem.W.looks_mroIn X ?_;rw[c.mro];simp[Cd]
 refine gG^Ch^I.type.here^Ch^(PySem.W.looks_findIn X c.ga).here ?_;show wpAny _ _ (if(onTheHeap^fI C&&jR _==jR _)=o_ then _ else getAttrByItsOwn _ _ _ _ _ _) _ _ _;refine Ch^(PySem.W.looks_findIn X c.gt).here^Ch^ig^gG ?_;unfold callGetattribute boundAndCalled;rw[g,e.ga.bind^.ref x];refine Ch^TW^iK^iZ e.ga.plain PySem.F.entry_bexc_ga^@PySem.W.check_slot (model prog w) _ _ s _ "BaseException" "__getattribute__" (.ref x) [.str name tk] [] _ (by decide +kernel) (by decide +kernel) b (PySem.F.args_bexc_ga _ _)^ft h (λa d z=>?_) λ_ _ z=>z.elim
 rcases a with(_|_|_|_)|_ <;>first|exact z|exact z.elim
def XW{v:Ev}{Q:Ev->No->Prop}(X:K.In s.heap)(c:XC K nm C U)(I:PySem.W.InstAt s.heap x ox C od)(a:PySem.W.findObj K C od name=P3^.value v)(b:PySem.W.handedIn v=o_)(h:Q v {s with toks:=s.toks+1}):
  wpAny (model prog w) A (getAttr (.ref x) name expr) Q E s:=by
 refine Ch^wpAny_mkText^WQ X c I ?_;refine Ch^TW^Ch^TW^Ch^PySem.W.Looks.here I.type^Ch^PySem.W.Looks.here (PySem.W.looks_find X I a)^TW ?_;show wpAny _ _ _ _ _ _;rw[PySem.W.handedOut_of b];exact TW h
def RM{g a v:Ev}{Q:r_ Ev->No->Prop}(X:K.In s.heap)(c:XC K nm C U)(I:PySem.W.InstAt s.heap x ox C od)(b:PySem.W.findObj K C od name=P3^.bind g a)(d:PySem.W.handedIn v=o_)
  (h:∀{A:fb}{R:Ev->No->Prop},R v {s with toks:=s.toks+1}->wpAny (model prog w) A (call g [a,.ref x,.ref C]) R (λ_ _=>False) {s with toks:=s.toks+1}) (q:Q (P3 v) {s with toks:=s.toks+1}):
  wpAny (model prog w) A (getAttr? (.ref x) name) Q E s:=by
 refine Ch^wpAny_mkText^Ch^ig^WQ X c I ?_;unfold h8.«object.__getattribute__»;refine Ch^TW^Ch^TW^Ch^PySem.W.Looks.here I.type^Ch^PySem.W.Looks.here (PySem.W.looks_find X I b) ?_;refine Ch^gG^h^TW ?_;show wpAny _ _ _ _ _ _;rw[PySem.W.handedOut_of d];exact TW^TW q
end
section
variable {K:Frag}{nm:Str}{C U:Addr}
def XC.kitX{a:Db}(c:XC K nm C U):PySem.W.KitX K (.ref a) (.ref C) (λh=>∃i b,PySem.W.InstAt h a i C b) where
 ty:=λ_ _ _ #[_,_,I]=>I.type
 it:=λ_ _ X _=>by
  let#[q,N,l,m,d,o,f,p,t,u,v,x,y,e]:=c.obj;intro L M O P k q;exact Ch (wpAny_loadPart (k _ _^X _ _ e)^TW q)
 ne:=λh tp B D n R X g=>by
  let#[q,N,l,m,d,o,f,p,t,u,v,x,y,e]:=c.obj;refine fj.mpr λz=>?_;have F:C=tp:=Value.ref.inj^beq_iff_eq.mp z;subst F;have S:=congrArg Obj.data^fG^(X _ _ e).symm.trans g
  grind
 ca:=λ{j w A E Q s} X J k=>by
  let#[i,b,I]:=J
  have G:PySem.W.findObj K C b "__class__"=P3^.bind (.builtin "getset_descriptor.__get__")^.builtin "object.__class__":=by
   let#[T,H,_]:=c.cls;unfold PySem.W.findObj;rw[H,c.ca];simp[YG,Sk]
  exact RM X c I G rfl (λr=>iK^PySem.W.class_get X I (c.mro _) r) k
end
section
variable {X:Cx}{zH:q_ (Addr×Obj)}{Z:St}{H:Hp}{s:Shared}{a C U d:Addr}{dx:r_ Addr}{u:HO}{nm f:Str}{fs:q_ (Str×V)}{v:V}{A:Around}{E:Value->Shared->Prop}
def XT.inst(e:XT C dx a u)(I:Inv X zH Z H s)(g:H a=P3 u)(hd:∀d,dx=P3 d->∃o,s.heap.get? d=P3 o):∃h b,PySem.W.InstAt s.heap a h C b:=by
 let#[j,k,rfl,l]:=e;let#[c,_]:=(I.hok a _ g);cases dx with
 |none=>exact#[_,n_,c,rfl,rfl,trivial]
 |some d=>
  let#[o,i]:=hd d rfl;exact#[_,P3 o,c,rfl,rfl,i]
def Vh{b:Bool}{Q:Ev->No->Prop}(I:Inv X zH Z H s)(i:H a=P3 u)(j:XT C (P3 d) a u)(k:H d=P3^.ext^XF d m)(c:XC X.K nm C U)(n:F3 X.K C f)(l:m.lookup f=P3 v)
  (h:∀u e,Inv X zH Z H e->RelV v u->Q u e):wpAny (model X.prog X.w) A (getAttr (.ref a) f b) Q E s:=by
 let#[z,B,rfl,D]:=j;let#[o,_]:=(I.hok a _ i);let#[#[F,p,r,G,_],_]:=(I.hok d _ k);let#[J,q,t]:=KY p;let#[x,y,g]:=RelO.some_of (by rw[←l];exact r f);exact XW I.kIn c #[o,rfl,rfl,q] (PySem.W.findObj_own c.hd n rfl (by rw[t,y])) (Qs g)^h x _ (I.tok _) g
end
def eR(K:Frag)(e:TE)(f:Str):TE:=λZ H Q=>e Z H λx b=>∃a C U d u g c v,x=.ref a/\b a=P3 u/\XT C (P3 d) a u/\b d=P3^.ext^XF d c/\XC K g C U/\F3 K C f/\c.lookup f=P3 v/\Q v b
section
variable {X:Cx}{e:Expr}{f:Str}{pos:Pos}{ta:TE}
def Z_(b:PE X e ta)(g:attributeBase e f X.env^eval e X.env=eval e X.env):PE X (.Attribute e f pos)^eR X.K ta f:=by
 intro w s Z H Q I h;refine V_ g^thn (b _ s Z H _ I h) λu y zz=>?_;let#[x,i,j,k,a,C,U,d,z,A,B,v,ex,m,o,p,c,n,l,q]:=zz;subst ex;obtain rfl:u=fI a:=k;exact Vh j m o p c n l λD E r t=>#[v,i,r,t,q]
def NO:Co X (.builtin "isinstance") (λi H Q=>∃a C U g u j y c b,i=[.ref a,y]/\H a=P3 u/\XT C g a u/\(∀d,g=P3 d->∃k,H d=P3^.ext^XF d k)/\XC X.K j C U/\(y=.ty c/\PySem.W.kitOne X.K (.ref C)^.type c=P3 b\/∃D,y=.ref D/\PySem.W.kitOne X.K (.ref C)^.ref D=P3 b)/\Q (.bl b) H):=by
 intro F s Z H i G Q I r h;let#[a,C,U,g,u,j,y,c,b,rfl,p,t,v,l,x,q]:=h;let#[z,m,rfl,A,n]:=vals2 r;cases(show z=fI a from A)
 have J:=t.inst I p λd e=>by
  let#[k,B]:=v d e;let#[#[L,#[o,_,_,M,_],_],_]:=(show ObjOk X.prog X.w H s.heap d _ from I.hok d _ B)
  grind
 rcases x with⟨rfl,e⟩|⟨D,rfl,e⟩
 .cases(show m=gB c from n)
  exact PySem.W.kia_one l.kitX I.kIn J e (by grind) λE=>#[.bl b,H,I.tok _,rfl,q]
 .cases(show m=fI D from n)
  exact PySem.W.kia_one l.kitX I.kIn J e (by grind) λE=>#[.bl b,H,I.tok _,rfl,q]
end
end L2
namespace Dp
open L2
def eE(M:Db->Prop)(H:Hp)(a:r_ Db)(b:q_ Str)(c:q_ V):Prop:=a=n_/\b=[]/\c=[]\/∃d,a=P3 d/\¬M d/\H d=P3^.ext^XF d^b.zip c
abbrev PX:=Str->q_ Str->q_ D->Nat->Prop
abbrev WX:=q_ Slot->Nat->(D->Nat->Prop)->PX->Prop
def LiftX(K:Frag)(F:r_ (Db×Db))(U M:Db->Prop)(H:Hp)(h:PX)(E:XK):Prop:=∀d C i b c e f a g,Ext U H a->FeedC K F M a g->XC K d C i->eE M a f b e->b.length=c.length->Ats K M a c e->h d b c g->E (.ref C) f a
def cZ(K:Frag)(h:Kd)(W:WX)(i:Nat):Sp:=λb H Q E=>b.length=i/\∃(F:r_ (Db×Db)) (U c M:Db->Prop) (n:Nat) (e:q_ Slot) (P:D->Nat->Prop) (f:PX),Y8 K F U c M H n e b/\W e n P f /\
 (∀v a d g,Ext U H a->FeedC K F M a g->VR K c M H a h v d->P d g->Q v a)/\LiftX K F U M H f E
section
variable {K:Frag}{C:Fm}{M:Addr->Prop}{H:Hp}{n:Nat}{ρ:q_ Slot}{Z:L2.St}
def Rel.setS(R:Rel K C M H n ρ Z){i:Nat}{s:Slot}{o:r_ V}(x:s.owns=p_)(y:∀d,s≠.br d)(h:SlotOk K C.F C.V M H s o):Rel K C M H n (ρ.set i s)^Z.set i o:=by
 have b:∀(j:Nat) (t:Slot),(ρ.set i s)[j]?=P3 t->t.owns=o_->ρ[j]?=P3 t/\((Z.set i o)[j]?).getD n_=(Z[j]?).getD n_:=λj t q w=>by
  rcases Cs q with⟨_,_,rfl⟩|⟨f,q⟩
  .rw[x]at w;cases w
  .exact#[q,Eh f]
 refine#[by rw[gp,gp];exact R.len,R.sub,R.dom,R.ext,R.fU,R.uV,R.vM,R.feed,λj s q=>?_,R.pin,λj e a q c=>?_,λj s a q o c=>?_,λj k s t a g m c r u v=>?_,λp z=>?_]
 .rcases Cs q with⟨rfl,A,rfl⟩|⟨f,q⟩
  .rw[Nk^by rw[←R.len];exact A]
   exact h
  .rw[Eh f]
   exact R.sl j s q
 .rcases Cs q with⟨_,_,e⟩|⟨f,q⟩
  .exact absurd e.symm^y _
  .rw[Eh f]at c
   exact R.br0 j e a q c
 .let#[g,e]:=b j s q o
  rw[e]at c;exact R.new j s a g o c
 .let#[B,D]:=b j s g m
  let#[E,l]:=b k t c r;rw[D]at u;rw[l]at v;exact R.two j k s t a B m E r u v
 .let#[G,I,J,L]:=R.kept p z
  refine#[G,I,J,λj e q=>?_];let#[g,l]:=b j _ q rfl;rw[l];exact L j e g
end
def ZQ(c:Fm->Prop)(X:Cx)(d:Kd)(st:gJ)(w:AW):Prop:=∃t,PS X st t/\∀(C:Fm) (M:Db->Prop) (H:Hp) (n:Nat) (a:q_ Slot) (Z:L2.St) (b:E2) (E:Ends),c C->Rel X.K C M H n a Z->Gs X.K C d b E->w b n a->t E Z H
def NX(c:Fm->Prop)(X:Cx)(d:Kd)(st:q_ gJ)(w:AW):Prop:=∃t,PSs X st t/\∀(C:Fm) (M:Db->Prop) (H:Hp) (n:Nat) (a:q_ Slot) (Z:L2.St) (b:E2) (E:Ends),c C->Rel X.K C M H n a Z->Gs X.K C d b E->w b n a->t E Z H
section
variable {Φ:Fm->Prop}{X:Cx}{κ:Kd}{st:Stmt}{rest:q_ Stmt}{u v:AW}{wA:F4}{c:Expr}{pos p:Pos}
def Tf(h:DS X κ st u):ZQ Φ X κ st u:=let #[t,a,b]:=h;#[t,a,λC M H n c Z d E _=>b C M H n c Z d E]
def Pl(h:J7 X κ rest u):NX Φ X κ rest u:=let #[t,a,b]:=h;#[t,a,λC M H n c Z d E _=>b C M H n c Z d E]
def HG(d:ZQ Φ X κ st u)(e:NX Φ X κ rest v):NX Φ X κ (st::rest)^BE u v:=by
 let#[t,f,g]:=d;let#[j,h,i]:=e;exact#[_,A6 f h,λC M H n a Z b E c R L w=>g C M H n a Z {b with nx:=v b} _ c R #[λM H n a Z R w=>i C M H n a Z b E c R L w,L.rt,L.bk,L.ct] w]
def GZ(a:ZQ Φ X κ st u):NX Φ X κ [st] u:=by
 let#[t,b,c]:=a;exact#[t,Cf b,c]
def Tg{a b:q_ gJ}(k:DT X c wA)(l:NX Φ X κ a u)(m:NX Φ X κ b v):ZQ Φ X κ (.If c a b pos)^CU wA u v:=by
 let#[t,o,q]:=k;let#[A,r,s]:=l;let#[x,y,z]:=m;refine#[_,O7 o r y,λC M H n d Z e E f R L w=>?_];refine q C M H n d Z _ _ R w λb g h i j p=>?_;cases b with
 |true=>exact s C M g h d Z e E f (R.step i j) L p
 |false=>exact z C M g h d Z e E f (R.step i j) L p
end
def bd(P:fT)(w:fY)(K:Frag)(b:Str->r_ Ev)(a:fO)(c:Str)(d:q_ Str)(k:Nat):Prop:=∃C U,XC K c C U/\b c=P3^.ref C /\
 ((d=[]/\PySem.W.findIn K (.ref C) "__init__"=P3^P3^.builtin "ValueError.__init__")\/∃e g f fd h i j,d=[e,g]/\PySem.W.findIn K (.ref C) "__init__"=P3^P3^.ref f/\PySem.W.typeIn K^.ref f=P3^.type "function"/\B8 P w K b a EU k f fd [h,i,j]^Ig C e g/\Binds K fd [h,i,j] [])
def Na(d:Str)(a:q_ Str)(b:De):E2->PX->Nat->q_ Slot->Prop:=λ_ e n g=>b n g λc f=>(a=[]/\c.length<=100/\e d [] [] f)\/(a.length=2/\c.length=2/\e d a c f)
abbrev XI:=E2->PX->Nat->q_ Slot->Prop
def cA(X:Cx)(d:Kd)(st:gJ)(w:XI):Prop:=∃t,ZM X st t/\∀(C:Fm) (M:Db->Prop) (H:Hp) (n:Nat) (a:q_ Slot) (Z:L2.St) (b:E2) (E:Ends) (R:XK) (c:PX),Rel X.K C M H n a Z->Gs X.K C d b E->LiftX X.K C.F C.U M H c R->w b c n a->t E R Z H
def be(X:Cx)(d:Kd)(st:q_ gJ)(w:XI):Prop:=∃t,Y9 X st t/\∀(C:Fm) (M:Db->Prop) (H:Hp) (n:Nat) (a:q_ Slot) (Z:L2.St) (b:E2) (E:Ends) (R:XK) (c:PX),Rel X.K C M H n a Z->Gs X.K C d b E->LiftX X.K C.F C.U M H c R->w b c n a->t E R Z H
def LiftX.step{K:Frag}{F:r_ (Db×Db)}{U M:Db->Prop}{H a:Hp}{b:PX}{E:XK}(h:LiftX K F U M H b E)(e:Ext U H a):LiftX K F U M a b E:=λc C d f g i j k l m=>h c C d f g i j k l^e.trans m
section
variable {X:Cx}{κ:Kd}{st:Stmt}{u v:XI}{c e:Expr}{es:q_ Expr}{pos cpos p:Pos}{nm:Str}{ks:q_ Str}{k:Nat}{was:De}
def Te(a:cA X κ st u):be X κ [st] u:=by
 let#[t,b,c]:=a;exact#[t,SM b,c]
def Ks(G:bd X.prog X.w X.K X.mg X.base nm ks k)(D:Room (k+1) X.A)(I:Gl X nm)(ha:WN X (e::es) was)(a:(nm==("__debug__":Str))=p_:=by cbv)(J:starEach (e::es) X.env=(p_,eval e X.env)::starEach es X.env:=by rfl)(b:(backTo cpos^starEach es X.env).any (·.1)=p_:=by rfl)
  (c:(e::es).length<=sizeLine:=by cbv):cA X κ (.Raise (P3^.Call (.Name nm p) (e::es) [] cpos) n_ pos)^Na nm ks was:=by
 let#[C,U,h,N,G]:=G;let#[t,O,P]:=ha
 rcases G with⟨rfl,s⟩|⟨Q,S,f,fd,p0,p1,p2,rfl,s,hf,F,hb⟩
 .refine#[_,Nv h s D.hd I N O a J b,λC0 M H n u Z D2 E R Pr r L l w=>?_]
  refine P C0 M H n u Z _ _ r w λT V W x i j m p=>?_
  rcases p with⟨_,c,p⟩|⟨z,_⟩
  .exact#[by rw[m.length,PySem.sizeLine_eq];lk,l nm C U [] [] [] n_ V x i j h (.inl #[rfl,rfl,rfl]) rfl rfl p]
  .cases z
 .refine#[_,Nu h s hf F hb D I N O a J b,λC0 M H n u Z D2 E R Pr r L l w=>?_]
  refine P C0 M H n u Z _ _ r w λT V W x i j m p=>?_
  rcases p with⟨z,_⟩|⟨_,c,p⟩
  .cases z
  .have Y:=m.length
   rw[c]at Y
   match T,Y with
   | [y,B],_=>
    refine#[y,B,rfl,λd hd=>?_];have g:=Aq (o:=.ext^XF d [(Q,y),(S,B)]) hd
    have nd:¬M d:=λz=>by
     let#[o,q]:=(r.step i j).dom d z;rw[hd]at q;cases q
    exact l nm C U [Q,S] W [y,B] (P3 d) _ x (i.trans g.ext) (j.grow g) h (.inr #[d,rfl,nd,AR]) c.symm (m.pres g.pres) p
def JQ{R:XK}{j:Fm->Prop}{b:PX}{k:r_ (Db×Db)}{l m:Db->Prop}{o:Hp}{w:XI}(hx:HJ (RF X.prog X.w) X R)(q:LiftX X.K k l m o b R)(c:∀C,j C->C.F=k/\C.U=l/\C.M0=m/\C.H0=o)(h:cA X κ st w):ZQ j X κ st (λg=>w g b):=by
 let#[t,s,u]:=h;refine#[_,QH hx s,λC M H n x Z g E y r L w=>?_];let#[rfl,rfl,rfl,rfl]:=c C y;refine u C M H n x Z g E R b r L (λnm A B ks D G I i J e f N xd O P p=>?_) w;have a:Pres M i _ i:=Pres.less r.sub;refine q nm A B ks D G I i J (r.ext.trans e) (f.pres a λ_ _ _ z=>z) N ?_ O (P.pres a) p
 rcases xd with z|⟨d,Q,S,T⟩
 .exact .inl z
 .exact .inr #[d,Q,λz=>S^r.sub d z,T]
def cB(X:Cx)(e:fZ)(κ:Kd)(w:Nat->q_ Slot->(D->Nat->Prop)->PX->Prop):Prop:=∃t,bX X e t/\∀(C:Fm) (M:Db->Prop) (H:Hp) (n:Nat) (b:q_ Slot) (Z:L2.St) (P:D->Nat->Prop) (Q:VK) (R:XK) (c:PX),Rel X.K C M H n b Z->LiftX X.K C.F C.U M H c R->w n b P c->
 (∀v a d f,Ext C.U H a->FeedC X.K C.F M a f->VR X.K C.V M H a κ v d->P d f->Q v a)->t R Z H Q
def ZE(P:fT)(w:fY)(K:Frag)(c:Str->r_ Ev)(a:fO)(x:Str)(k:Nat)(b:q_ Str)(κ:Kd)(W:WX):Prop:=
 ∃f fd,B8 P w K c a (RF P w) k f fd b^cZ K κ W b.length/\c x=P3^.ref f/\keepIn K^.ref f=o_/\Binds K fd b []/\∀d n P e,W d n P e->d.length=b.length
def Xb(W:WX)(was:RE):Nat->q_ Slot->(D->Nat->Prop)->PX->Prop:=λn a P b=>was n a λc d=>W c d P b
def To{m:q_ Str}{h:Kd}{W:WX}{x:Str}{was:RE}(G:ZE X.prog X.w X.K X.mg X.base x k m h W)(o:Room k X.A)(s:Gl X x)(u:RJ X (e::es) was)
  (c:(x==("__debug__":Str))=p_:=by cbv) (y:starEach (e::es) X.env=(p_,eval e X.env)::starEach es X.env:=by rfl) (g:(backTo pos^starEach es X.env).any (·.1)=p_:=by rfl):
  cB X (.Call (.Name x p) (e::es) [] pos) h (Xb W was):=by
 let#[f,fd,G,z,B,D,E]:=G;let#[t,F,I]:=u;refine#[_,SX G o s z B D F c y g,λC M H n J Z P Q R L r l w q=>?_];refine I C M H n J Z _ _ r w λvs H1 N O a i j p=>?_;have b:=r.step a i;exact#[(Paired.length j).trans^E _ _ _ _ p,_,_,_,M,O,N,P,L,#[b.dom,b.fU,b.uV,b.vM,i,j],p,λv H2 d S T U V Y=>q v H2 d S (a.trans T) U (VR.back a V) Y,l.step a]
abbrev ZH:=E2->Str->q_ Str->q_ D->Nat->q_ Slot->Prop
def DH(X:Cx)(κ:Kd)(g:q_ jv)(w:ZH):Prop:=∃t,PH X g t/\∀(C:Fm) (M:Db->Prop) (H:Hp) (n:Nat) (b:q_ Slot) (Z:L2.St) (c:E2) (E:Ends) (nm:Str) (d h:Db) (ks:q_ Str) (a:q_ D) (e:q_ V) (f:r_ Db),
 Rel X.K C M H n b Z->Gs X.K C κ c E->XC X.K nm d h->eE M H f ks e->ks.length=a.length->Ats X.K M H a e->w c nm ks a n b->t E d f Z H
def cC(c:XI)(d:ZH):AW:=λa n b=>c a (λnm ks e f=>d a nm ks e f b) n b
def Yj{a:q_ gJ}{b:jv}{c:q_ jv}{h:XI}{i:ZH}(d:X.stack=X.env::X.outer)(g:X.env.frame=P3 X.env.locals)(hx:∀e s,X.xe e s->False)(m:be X κ a h)(o:DH X κ (b::c) i):
  DS X κ (.Try a (b::c) [] [] pos) (cC h i):=by
 let#[t,q,u]:=m;let#[K,x,y]:=o;exact#[_,X3 d g hx q x,λC M H n j Z k E r L w=>u C M H n j Z k E _ _ r L (λnm l z ks A B D F G e f I xd J c p=>#[l,rfl,y C M F G j Z k E nm l z ks A B D (r.step e f) L I xd J c p]) w]
def XZ:ZH:=λ_ _ _ _ _ _=>False
def Yl:DH X κ [] XZ:=#[_,X5,λ_ _ _ _ _ _ _ _ _ _ _ _ _ _ _ _ _ _ _ _ _ w=>w.elim]
def WT(e:Str)(i:Nat)(h:Db->AW)(j:ZH):ZH:=λb nm ks f n g=>if nm=e\/e="ThinError" then ∀a,h a {nx:=λc d=>b.nx c^d.set i .no,rt:=b.rt,bk:=λc d=>b.bk c^d.set i .no,ct:=λc d=>b.ct c^d.set i .no} n^g.set i^.ex a nm ks f else j b nm ks f n g
def V3{i:Nat}{f y:Str}{h:gJ}{b:q_ gJ}{x:q_ jv}{J:Db}{O:Db->AW}{Y:ZH}{np:Pos}(hN:X.N.Nodup)(hi:X.N[i]?=P3 y)(hl:X.env.scope.names.lookup y=P3 .local)(hg:Gl X f)(hm:X.mg f=P3^.ref J)(hK:nsIn X.K mainGlobals f=P3^P3^.ref J)
  (P:f="ThinError"/\ZP X.K J\/f ≠ "ThinError"/\∃U,XC X.K f J U) (Q:X.stack=X.env::X.outer) (R:X.env.frame=P3 X.env.locals)
  (S:∀a,J7 (X.hush^X.A.mark^P3^.ref a) κ (h::b)^O a) (hr:DH X κ x Y) (hd:(f==("__debug__":Str))=p_:=by cbv):
  DH X κ (.ExceptHandler (P3^.Name f np) (P3 y) (h::b) pos::x) (WT f i O Y):=by
 let#[th,b1,b2]:=hr;have T:∀a,∃t,PSs (X.hush^X.A.mark^P3^.ref a) (h::b) t/\∀(C:Fm) (M:Db->Prop) (H:Hp) (n:Nat) (B:q_ Slot) (Z:L2.St) (k:E2) (E:Ends),Rel X.K C M H n B Z->Gs X.K C κ k E->O a k n B->t E Z H:=S;refine#[_,VA (ts:=λa=>(T a).choose) hN hi hl hg hm (P.elim (λz=>z.2) fun#[_,U,c]=>c.isX) Q R (λa=>(T a).choose_spec.1) b1 hd,λC M H n B Z k E nm Cc V ks ds vs dx r L m xd D x w=>#[nm,V,m,?_]];unfold WT at w
 by_cases e:nm=f\/f="ThinError"
 .rw [if_pos e]at w
  refine .inl #[?_,λa u fa xt=>?_]
  .rcases P with⟨z,_⟩|⟨z,U,c⟩
   .subst z
    have q:=m.atU.symm.trans hK;cases q;exact .inr rfl
   .rcases e with e|e
    .subst e
     have q:=m.at_.symm.trans hK;cases q;exact .inl rfl
    .exact absurd e z
  .have g:Grow H^Ar H a u:=Aq fa
   have r1:=r.step (g.ext)^r.feed.grow g;have na:¬M a:=λz=>by let#[o,q]:=r.dom a z;rw[fa]at q;cases q
   have nd:∀{d:Db}{o:HO},H d=P3 o->Ar H a u d=P3 o:=λ{d o} q=>g.all d o q;refine(T a).choose_spec.2 C M (Ar H a u) n (B.set i^.ex a nm ks ds) _ {nx:=λj l=>k.nx j^l.set i .no,rt:=k.rt,bk:=λj l=>k.bk j^l.set i .no,ct:=λj l=>k.ct j^l.set i .no} _ (r1.setS rfl (λ_ z=>by cases z) #[rfl,Cc,V,dx,u,vs,m,#[na,AR],xt,?_,D,x.pres g.pres]) #[λF G j l zZ I q=>?_,L.rt,λF G j l zZ I q=>?_,λF G j l zZ I q=>?_]^w a
   .rcases xd with z|⟨d,W,n1,h1⟩
    .exact .inl z
    .exact .inr #[d,W,n1,nd h1]
   .exact L.nx F G j _ _ (I.setS (s:=.no) rfl (λ_ z=>by cases z) trivial) q
   .exact L.bk F G j _ _ (I.setS (s:=.no) rfl (λ_ z=>by cases z) trivial) q
   .exact L.ct F G j _ _ (I.setS (s:=.no) rfl (λ_ z=>by cases z) trivial) q
 .rw[if_neg e]at w
  have W:nm≠f:=λz=>e^.inl z;have e2:f ≠ "ThinError":=λz=>e^.inr z
  rcases P with⟨z,_⟩|⟨_,U,c⟩
  .exact absurd z e2
  .refine .inr #[λz=>?_,λz=>?_,b2 C M H n B Z k E nm Cc V ks ds vs dx r L m xd D x w]
   .subst z
    exact W^m.name c
   .subst z
    exact e2^m.nameU c
end
end Dp
namespace L2
def HX(A:fb)(H:Hp):Prop:=∃a C b u,A.handled=P3^.ref a/\H a=P3 u/\XT C b a u
structure eF (P:fT) (w:fY) (K:Frag) (tg:fZ) (J:It) (fp:List Db) (it:Db) (tn:Nat->fO->Prop):Prop where
 mem:it∈fp
 obj:∀i h,tn i h->∀b∈fp,∃o,h.get? b=P3 o/\∀v,o.data≠.cell v
 keep:∀i h h',tn i h->(∀b∈fp,∀o,h.get? b=P3 o->h'.get? b=P3 o)->tn i h'
 item:∀(X:Cx),X.prog=P->X.w=w->X.K=K->HX X.A X.H₀->∀(i:Nat) (zH:List (Db×Obj)) (s:No) (Z:St) (H:Hp) (E:Ev->No->Prop),Inv X zH Z H s->(∀b∈fp,FW X zH H b)->tn i s.heap->J.go i H->
  wpAny (model P w) X.A (pyNext^.ref it) (λr s1=>∃u,r=P3 u /\
   wpAny (model P w) X.A (letOwnedTupleGo tg (.ref it) u) (λ_ s2=>∃x H',Inv X zH Z H' s2/\RelV x u/\J.yld i H x H'/\tn (i+1) s2.heap/\∀b∈fp,H' b=n_) E s1) E s
 done:∀(X:Cx),X.prog=P->X.w=w->X.K=K->HX X.A X.H₀->∀(i:Nat) (zH:List (Db×Obj)) (s:No) (Z:St) (H:Hp) (E:Ev->No->Prop),Inv X zH Z H s->(∀b∈fp,FW X zH H b)->tn i s.heap->J.stop i H->
  wpAny (model P w) X.A (pyNext^.ref it) (λr s1=>r=n_/\Inv X zH Z H s1) E s
 self:∀(A:fb) (i:Nat) (s:No) (Q:Ev->No->Prop) (E:Ev->No->Prop),tn i s.heap->Q (.ref it) s->wpAny (model P w) A (pyIter^.ref it) Q E s
end L2
namespace Dp
open L2
end Dp
namespace L2
structure RoomH (k:Nat) (A:fb):Prop where
 dp:A.depth+3*k+5<recursionLimit
 un:A.units+16*k+200<cLine
 gd:A.guards=P3 []
def RoomH.mono{j k:Nat}{A:fb}(r:RoomH k A)(h:j<=k):RoomH j A:=#[by have:=r.dp;lk,by have:=r.un;lk,r.gd]
def RoomH.room{k:Nat}{A:fb}(r:RoomH k A):Room k {A with handled:=n_}:=#[rfl,r.dp,r.un,r.gd]
def Room.held{k:Nat}{A:fb}(r:Room k A)(e:r_ Ev):RoomH k^A.mark e:=#[r.dp,r.un,r.gd]
def RoomH.deeper{k:Nat}{A:fb}(r:RoomH (k+1) A)(a:Env):RoomH k^A.deeper a:=let q:=r.room.deeper a;#[q.dp,q.un,q.gd]
structure NW (P:fT) (w:fY) (K:Frag) (mg:Str->Option Ev) (base:fO) (k:Nat) (f:Db) (fd:f_) (ps:List Str) (sp:Sp):Prop where
 len:∀vs H Q E,sp vs H Q E->vs.length=ps.length
 run:∀(A:fb) (outer:List Env) (s:No) (H:Hp) (args:Args) (us:List Ev) (vs:List V) (Q:VK) (E:XK),RoomH k A->HX A H->Env0 P w K mg base A outer s H->lG s fd args^ps.zip us->Vals vs us->sp vs H Q E->
  codeAny (model P w) A (.call (.ref f) args) (CR EU outer P w H s Q E) s
def Fun.okH{P:fT}{w:fY}{K:Frag}{B:Str->r_ Ev}{g:fO}{x a:Str}{st:gJ}{f:Db}{fd:f_}{N G:q_ Str}{k:Nat}{M:Sp}(F:Fun K x a st f fd)(S:A5 N G^AK st)(len:∀j H Q E,M j H Q E->j.length=G.length)
  (m:∀(d:Ev) (A:fb) (c:q_ Env) (s:No) (H:Hp) (j:q_ V) (Q:VK) (E:XK),RoomH k^A.deeper^envOfC a (AK st) s.heap.objs.size f d->HX A H->M j H Q E->
   ∃t,PSs ((DX EU P w K B g N a (AK st) f d A c s H E).hush^A.deeper^envOfC a (AK st) s.heap.objs.size f d) (A7 st) t/\t {nx:=λ_ l=>Q .non l,rt:=Q} (start N j) H):NW P w K B g (k+1) f fd G M:=by
 let#[oc,od,kV,a0,pm,an,d,ct,a1,rfl,lk,O]:=F.ex;refine#[len,λA c s H Y us j Q E Z hx i hb r C=>?_];have hl:=len _ _ _ _ C;have KX:K.In s.heap:=i.mod.kin.keeps λb o e=>(i.bs b o e).1;have R:s.heap.NoLimit:=i.mod.nolimit.keeps λb o e=>(i.bs b o e).1
 have p:∀y∈G.zip us,(AK st).names.lookup y.1=P3 .local\/((AK st).names.lookup y.1=P3 .cell/\((cellsFrom (s.heap.objs.size+1) (AK st).names []).lookup y.1).isSome=o_):=fun#[n,v] hy=>by
  rcases S.par n (jy hy).1 with q|q
  .exact .inl q
  .exact .inr #[q,PySem.W.cellsFrom_some _ _ _^.inl q]
 refine codeAny_call_function Z.room.depth (KX _ _ lk) rfl S.co S.gen rfl (PySem.W.codeRec_of KX O) (hb _ _ _ _ ?_);refine lT S.kind p λa2 he T x1=>?_;subst he;refine#[R.keeps x1.toInCall.keep,codeAny_func ?_];let#[t,ht,hq]:=m d A c s H j Q E (Z.deeper _) hx C;have I0:Inv (DX EU P w K B g N a (AK st) f d {A with handled:=n_} c s H E) [] (start N j) H T:=Kh S rfl #[i.frames,i.mod,i.bs,i.bsz,i.funs,i.frf,i.hok,i.bare] hl r x1;have I:Inv ((DX EU P w K B g N a (AK st) f d A c s H E).hush^A.deeper^envOfC a (AK st) s.heap.objs.size f d) [] (start N j) H T:=I0.hush (A:=A.deeper^envOfC a (AK st) s.heap.objs.size f d)^mV i.frames;refine ft (ht [] T (start N j) H _ I hq) (λfl U z=>?_) λe U z=>gC z
 have D:∀{L:St}{l:Hp}{v:V}{u:Ev},Inv ((DX EU P w K B g N a (AK st) f d A c s H E).hush^A.deeper^envOfC a (AK st) s.heap.objs.size f d) [] L l U->RelV v u->Q v l->CE c P w H s Q u U:=
  λ{L l v u} J X q=>#[v,l,J.os,J.bare,J.base,J.hok,X,q]
 cases fl with
 |ret u=>
  let#[v,L,l,J,X,q]:=z;exact D J X q
 |next=>
  let#[L,l,J,q]:=z;exact D (v:=V.non) (u:=fm) J rfl q
 |brk=>
  let#[_,_,_,q]:=z;exact gC q
 |cont=>
  let#[_,_,_,q]:=z;exact gC q
section
variable {X:Cx}{k:Nat}{f:Addr}{fd:FuncData}{ps:q_ Str}{sp:Sp}{x:Str}{p pos:Pos}{e:Expr}{es:q_ Expr}{t:TA}
def Xq(A:fb)(sp:Sp)(t:TA):TE:=λZ H Q=>t Z H λb a=>HX A a/\sp b a Q E0
def Se(F:NW X.prog X.w X.K X.mg X.base k f fd ps sp)(l:RoomH k X.A)(m:Gl X x)(n:X.mg x=P3^.ref f)(o:keepIn X.K^.ref f=o_)(v:Binds X.K fd ps [])
  (y:PA X (e::es) t) (d:(x==("__debug__":Str))=p_:=by cbv) (z:starEach (e::es) X.env=(p_,eval e X.env)::starEach es X.env:=by rfl) (g:(backTo pos^starEach es X.env).any (·.1)=p_:=by rfl):
  PE X (.Call (.Name x p) (e::es) [] pos) (Xq X.A sp t):=by
 intro B s Z H Q I h;refine gc^Dn I m n ?_ d;refine PySem.W.callWith_K (h₀:=X.base) I.ok.mod.kin o (thn (y pos B s Z H _ I h) λa i zz=>?_) z g;let#[j,C,c,r,D,q]:=zz;refine #[c.kIn,?_];have E:(a++[]).length=ps.length:=by rw[fh,←r.length];exact F.len _ _ _ _ q
 have G:Vals j (a++[]):=by grind
 refine iK^jJ (F.run X.A X.stack i C #[a,[]] (a++[]) j Q E0 l D c.env0 (v i a c.kIn E) G q) λr L b=>?_;cases r with
 |error e=>exact gC b
 |ok J=>
  cases J with
  |ret u=>exact c.after b
  |next=>exact gC b
  |brk=>exact gC b
  |cont=>exact gC b
end
end L2
namespace Dp
open L2
section
variable {X:Cx}{e:Expr}{es:q_ Expr}{p p1 p2 pos:Pos}{i:Nat}{x f nm:Str}{κ:Kd}
def Wa(i:Nat):Nat->q_ Slot->(Slot->Nat->Prop)->Prop:=λn b P=>match b[i]? with
 |some (.ex a nm c d)=>P (.ex a nm c d) n
 |_=>False
def a9(i:Nat){x:Str}{pos:Pos}(d:X.N[i]?=P3 x:=by rfl)(e:RB X.env.scope x:=by first|exact f9 rfl|exact g7 (f9 rfl)|exact g7 (g7 rfl))(b:(x==("__debug__":Str))=p_:=by cbv)
  (c:(x==("__classdict__":Str))=p_:=by cbv):bh X (.Name x pos)^Wa i:=by
 refine#[_,En d e b c,λC M H n l Z P Q R w q=>?_];unfold Wa at w
 split at w
 .rename_i a nm g h b
  let#[j,k]:=R.sl i _ b;exact#[_,getD_some j,q _ H (.ex a nm g h) n (Ext.refl _ _) R.feed #[#[rfl,k],rfl] w]
 grind
def dg(i:Nat)(f:Str):DW:=λn a P=>match a[i]? with
 |some (.ex _ _ b c)=>∃d,(b.zip c).lookup f=P3 d/\P d n
 |_=>False
theorem IT{K:Frag}{M:Db->Prop}{H:Hp}{f:Str}{d:D}:∀{b:q_ Str}{c:q_ D}{a:q_ V},Ats K M H c a->(b.zip c).lookup f=P3 d->∃v,(b.zip a).lookup f=P3 v/\At K M H d v
 |[],c,a,h,e=>by simp at e
 |k::b,[],a,h,e=>by simp at e
 |k::b,j::c,a,h,e=>by
  let#[v,r,rfl,l,g]:=h;rw[kC,io]at e ⊢
  split at e
  .grind
  .exact IT g e
def W8(j:f∈(["word","number","row"]:q_ Str))(o:X.N[i]?=P3 x:=by rfl)(c:RB X.env.scope x:=by first|exact f9 rfl|exact g7 (f9 rfl)|exact g7 (g7 rfl))(e:(x==("__debug__":Str))=p_:=by cbv)
  (g:(x==("__classdict__":Str))=p_:=by cbv) (r:attributeBase (.Name x p) f X.env^eval (.Name x p) X.env=eval (.Name x p) X.env:=by rfl):DE X (.Attribute (.Name x p) f pos) .sh^dg i f:=by
 refine#[_,Z_ (En o c e g) r,λC M H n E Z P Q R w q=>?_];unfold dg at w
 split at w
 .rename_i a nm F G e
  let#[d,l,w]:=w;let#[s,k,U,I,u,J,b,#[m,t],y,z,L,A]:=R.sl i _ e
  rcases z with⟨_,rfl,_⟩|⟨B,rfl,O,h⟩
  .simp at l
  .let#[v,D,c]:=IT A l
   have m:F3 X.K k f:=by
    simp only[Tk,fH,or_false]at j
    rcases j with rfl|rfl|rfl
    .exact b.nw
    .exact b.nn
    .exact b.nr
   exact#[.ref a,getD_some s,a,k,U,B,u,nm,_,v,rfl,t,y,h,b,m,D,q v H d n (Ext.refl _ _) R.feed c w]
 .exact w.elim
def ZR(i:Nat)(a:Str):DW:=λn b P=>match b[i]? with
 |some (.ex _ nm _ _)=>P (.bl (decide (nm=a))) n
 |_=>False
def WR(i:Nat):DW:=λn a P=>match a[i]? with
 |some (.ex _ _ _ _)=>P (.bl o_) n
 |_=>False
def F1{b:Str}{D U:Db}(t:b ≠ "ThinError")(xd:XC X.K b D U)(c:Gl X b)(e:X.mg b=P3^.ref D)(y:Gl X "isinstance")(A:X.mg "isinstance"=n_)(B:X.N[i]?=P3 x:=by rfl)(E:RB X.env.scope x:=by first|exact f9 rfl|exact g7 (f9 rfl)|exact g7 (g7 rfl))(g:(x==("__debug__":Str))=p_:=by cbv)
  (h:(x==("__classdict__":Str))=p_:=by cbv) (j:(b==("__debug__":Str))=p_:=by cbv) (o:starEach [.Name x p1,.Name b p2] X.env=(p_,eval (.Name x p1) X.env)::starEach [.Name b p2] X.env:=by rfl) (k:starEach [.Name b p2] X.env=[(p_,eval (.Name b p2) X.env)]:=by rfl) (l:(backTo pos^starEach [.Name b p2] X.env).any (·.1)=p_:=by rfl):
  DE X (.Call (.Name "isinstance" p) [.Name x p1,.Name b p2] [] pos) .sh (ZR i b):=by
 refine#[_,Dz NO y A (by decide +kernel) (BL (En B E g h) (BL (VC (v:=.ref D) c e rfl j) CH k) o) (by cbv) (by cbv) o l,λC M H n T Z P Q R w q=>?_];unfold ZR at w
 split at w
 .rename_i a nm V W g
  let#[F,G,I,J,u,Y,r,#[na,L],O,S,hl,hs]:=R.sl i _ g;refine#[.ref a,getD_some F,a,G,I,J,u,nm,.ref D,"",_,rfl,L,O,λd s=>?_,r,.inr #[D,rfl,r.kit xd t],q _ H (.bl _) n (Ext.refl _ _) R.feed rfl w]
  rcases S with⟨z,_⟩|⟨dd,z,_,m⟩
  .grind
  .rw[z]at s;cases s;exact#[_,m]
 grind
def V6(c:Gl X "ValueError")(e:X.mg "ValueError"=n_)(r:Gl X "isinstance")(s:X.mg "isinstance"=n_)(t:X.N[i]?=P3 x:=by rfl)(y:RB X.env.scope x:=by first|exact f9 rfl|exact g7 (f9 rfl)|exact g7 (g7 rfl))(g:(x==("__debug__":Str))=p_:=by cbv)
  (h:(x==("__classdict__":Str))=p_:=by cbv) (m:starEach [.Name x p1,.Name "ValueError" p2] X.env=(p_,eval (.Name x p1) X.env)::starEach [.Name "ValueError" p2] X.env:=by rfl) (j:starEach [.Name "ValueError" p2] X.env=[(p_,eval (.Name "ValueError" p2) X.env)]:=by rfl) (k:(backTo pos^starEach [.Name "ValueError" p2] X.env).any (·.1)=p_:=by rfl):
  DE X (.Call (.Name "isinstance" p) [.Name x p1,.Name "ValueError" p2] [] pos) .sh (WR i):=by
 refine#[_,Dz NO r s (by decide +kernel) (BL (En t y g h) (BL (PJ (v:=.ty "ValueError") c e PyProof.Rows.Boot.«ValueError» rfl) CH j) m) (by cbv) (by cbv) m k,λC M H n J Z P Q R w q=>?_];unfold WR at w
 split at w
 .rename_i a nm K L g
  let#[A,B,D,E,u,O,o,#[S,F],G,I,T,U]:=R.sl i _ g;refine#[.ref a,getD_some A,a,B,D,E,u,nm,.ty "ValueError","ValueError",o_,rfl,F,G,λd b=>?_,o,.inl #[rfl,o.kitV],q _ H (.bl _) n (Ext.refl _ _) R.feed rfl w]
  rcases I with⟨z,_⟩|⟨V,z,_,l⟩
  .rw[z]at b;cases b
  .rw[z]at b;cases b;exact#[_,l]
 .exact w.elim
def ZF(P:fT)(w:fY)(K:Frag)(c:Str->r_ Ev)(a:fO)(x:Str)(k:Nat)(b:q_ Str)(κ:Kd)(W:W2):Prop:=
 ∃f fd,NW P w K c a k f fd b^QC K κ W b.length/\c x=P3^.ref f/\keepIn K^.ref f=o_/\Binds K fd b []/\∀d n P,W d n P->d.length=b.length
def Xc(a:Db)(i:Nat)(W:W2)(b:RE):DW:=λn c P=>(∃nm d e,c[i]?=P3^.ex a nm d e)/\b n c λg h=>W g h P
def Tw{a:Db}(i:Nat){k:Nat}{r:q_ Str}{W:W2}{b:RE}(s:X.A.handled=P3^.ref a)(G:ZF X.prog X.w X.K X.mg X.base x k r κ W)(y:RoomH k X.A)(z:Gl X x)(g:RJ X (e::es) b)
  (h:(x==("__debug__":Str))=p_:=by cbv) (B:starEach (e::es) X.env=(p_,eval e X.env)::starEach es X.env:=by rfl) (j:(backTo pos^starEach es X.env).any (·.1)=p_:=by rfl):
  DE X (.Call (.Name x p) (e::es) [] pos) κ (Xc a i W b):=by
 let#[f,fd,G,D,E,I,J]:=G;let#[t,L,N]:=g;refine#[_,Se G y z D E I L h B j,λC M H n O Z P Q R w q=>?_];let#[#[nm,ks,ds,S],w]:=w;refine N C M H n O Z _ _ R w λvs H1 T Y l m o p=>?_;have c:=R.step l m;let#[ea,Cc,U',dx,u,a0,xc,#[na,g],xt,_]:=c.sl i _ S;refine#[#[a,Cc,dx,u,s,g,xt],(Paired.length o).trans^J _ _ _ p,C.F,C.U,C.V,M,Y,T,P,#[c.dom,c.fU,c.uV,c.vM,m,o],p,λv H2 d n2 e2 f2 r2 p2=>?_];exact q v H2 d n2 (l.trans e2) f2 (VR.back l r2) p2
end
def c9{P:fT}{w:fY}{K:Frag}{u:Str->r_ Ev}{e:fO}{x b:Str}{st:gJ}{f:Db}{fd:f_}{N g:q_ Str}{k:Nat}{l:Kd}{W:W2}{y:AW}(F:Fun K x b st f fd)(S:A5 N g^AK st)(D:g.length<=N.length)
  (G:∀(c:Ev) (A:fb) (a:q_ Env) (s:No) (H:Hp) (E:XK),RoomH k^A.deeper^envOfC b (AK st) s.heap.objs.size f c->HX A H->J7 ((DX EU P w K u e N b (AK st) f c A a s H E).hush^A.deeper^envOfC b (AK st) s.heap.objs.size f c) l (A7 st) y)
  (hW:∀j n i,j.length=g.length->W j n i->y {nx:=λn _=>l=.sh/\i .non n,rt:=i} n (j++gK (N.length - g.length) .no)):
  NW P w K u e (k+1) f fd g (QC K l W g.length):=by
 refine F.okH S (λB H Q E h=>h.1) λc A a s H B Q E I J h=>?_;let#[hl,L,U,O,M,n,j,i,C,hw,q]:=h;let#[t,T,V]:=G c A a s H E I J;exists t,T;have el:B.length=j.length:=Paired.length C.2.2.2.2.2;have R:=G2 (N:=N) C (by lk);refine V #[M,L,U,O,H,[],[]] M H n _ _ {nx:=λn _=>l=.sh/\i .non n,rt:=i} _ R #[λM1 m o zQ zK r p=>?_,λv m d o X Y Z p=>q v m d o X Y Z p,λ_ _ _ _ _ _ z=>z.elim,λ_ _ _ _ _ _ z=>z.elim] ?_
 .let#[hk,p]:=p
  subst hk;exact q .non m .non o r.ext (r.feed.pres (Pres.less r.sub) λ_ _ _ z=>z) rfl p
 grind
def fnX{P:fT}{w:fY}{K:Frag}{G:Str->r_ Ev}{e:fO}{x a:Str}{st:gJ}{f:Db}{fd:f_}{N i:q_ Str}{k:Nat}{m:Kd}{W:WX}{wb:PX->AW}(F:Fun K x a st f fd)(S:A5 N i^AK st)(J:i.length<=N.length)
  (L:∀(c:Ev) (A:fb) (b:q_ Env) (s:No) (H:Hp) (E:XK) (g:PX) (o:r_ (Db×Db)) (U M:Db->Prop),LiftX K o U M H g E->Room k^A.deeper^envOfC a (AK st) s.heap.objs.size f c->
   NX (λC=>C.F=o/\C.U=U/\C.M0=M/\C.H0=H) (DX (RF P w) P w K G e N a (AK st) f c A b s H E) m (A7 st) (wb g))
  (hW:∀r n j g,r.length=i.length->W r n j g->wb g {nx:=λn _=>m=.sh/\j .non n,rt:=j} n (r++gK (N.length - i.length) .no)):
  B8 P w K G e (RF P w) (k+1) f fd i (cZ K m W i.length):=by
 let#[oc,od,kV,O,pm,an,c,ct,T,rfl,V,u]:=F.ex;refine W1 V u S (λX H Q E h=>h.1) λA b s H X Q E Y h=>?_;let#[hl,o,U,V',M,n,r,j,g,I,hw,q,l]:=h;let#[t,Z,t2]:=L c A _ s H E g o U M l Y;exists t,Z;have el:=Paired.length I.2.2.2.2.2;have R:=G2 (N:=N) I (by lk);refine t2 _ M H n _ _ {nx:=λn _=>m=.sh/\j .non n,rt:=j} _ #[rfl,rfl,rfl,rfl] R #[λM1 y B zQ zK D p=>?_,λv y d B e1 f1 r1 p=>q v y d B e1 f1 r1 p,λ_ _ _ _ _ _ z=>z.elim,λ_ _ _ _ _ _ z=>z.elim] ?_
 .let#[hk,p]:=p
  subst hk;exact q .non y .non B D.ext (D.feed.pres (Pres.less D.sub) λ_ _ _ z=>z) rfl p
 grind
end Dp
namespace So
open PySem.W
section
variable {O:KeyOrd}{key:Nat->O.α}{N:Nat}{cmp:Nat->Nat->(Bool->Shared->Prop)->Shared->Prop}{s:Shared}{p p0:Array Nat}
def KN(O:KeyOrd)(key:Nat->O.α)(p:Array Nat)(i:Nat):O.α:=key^p.getD i 0
def Srt(O:KeyOrd)(key:Nat->O.α)(p:Array Nat)(k:Nat):Prop:=∀i j,i<=j->j<k->O.kle (KN O key p i)^KN O key p j
def bY(O:KeyOrd)(key:Nat->O.α)(p:Array Nat)(k:Nat):Prop:=∀i j,i<=j->j<k->O.kle (KN O key p j)^KN O key p i
def XN(O:KeyOrd)(key:Nat->O.α)(N:Nat)(cmp:Nat->Nat->(Bool->No->Prop)->No->Prop)(s:No):Prop:=∀(i j:Nat) (C:Bool->No->Prop),i<N->j<N->C (O.blt (key i)^key j) s->cmp i j C s
def Bd(N:Nat)(p:Array Nat):Prop:=0<N/\∀x∈p,x<N
def Vj(p:Array Nat)(i:Nat):p.getD i 0=(p[i]?).getD 0:=by
 simp
def Bd.get(h:Bd N p)(i:Nat):p.getD i 0<N:=by
 rw[Vj];cases e:p[i]? with
 |none=>exact h.1
 |some x=>exact h.2 x^Array.mem_of_getElem? e
def Bd.perm{a:Array Nat}(h:Bd N p)(b:a.Perm p):Bd N a:=#[h.1,λx c=>h.2 x^b.mem_iff.mp c]
def FF{p q:Array Nat}{i j:Nat}(h:p[i]?=q[j]?):KN O key p i=KN O key q j:=by
 unfold KN
 simp_all
def K9{a d:Nat}(f:a<p.size)(hd:d<=a)(k:Nat):
  KN O key (bubble p a d) k=if k=a - d then KN O key p a else if a - d<k/\k<=a then KN O key p (k - 1)else KN O key p k:=by
 have e:=getElem?_bubble f d hd k
 by_cases b:k=a - d
 .rw[if_pos b]at e ⊢;exact FF e
 .rw[if_neg b]at e ⊢
  by_cases c:a - d<k/\k<=a
  .rw[if_pos c]at e ⊢;exact FF e
  .rw[if_neg c]at e ⊢;exact FF e
def HK{i j:Nat}(b:j<=p.size)(k:Nat):KN O key (kas_rev p i j) k=if i<=k/\k<j then KN O key p (i+j - 1 - k)else KN O key p k:=by
 have e:=getElem?_mirror_all (i:=i) b k
 by_cases a:i<=k/\k<j
 .rw[if_pos a]at e ⊢;exact FF e
 .rw[if_neg a]at e ⊢;exact FF e
def Bi{i j:Nat}(a:j<=p.size)(b:∀k,i<=k->k<j->KN O key p k=KN O key p (j - 1))(k:Nat):KN O key (kas_rev p i j) k=KN O key p k:=by
 rw[HK a]
 grind
def CG(p:Array Nat)(i j:Nat):(kas_rev p i j).Perm p:=mirror_perm _ _ _ _
def yes{c:Type}{a b:KasT c}{Q:c->No->Prop}(h:a.kasWp cmp Q s):(if o_=o_ then a else b).kasWp cmp Q s:=by grind
def no{c:Type}{b a:KasT c}{Q:c->No->Prop}(h:a.kasWp cmp Q s):(if p_=o_ then b else a).kasWp cmp Q s:=by grind
theorem OU(q:XN O key N cmp s)(d:Bd N p){nrem:Nat}{G:Nat->No->Prop}:∀(f n:Nat),1<=n->n+f=nrem->Srt O key p n->
  (∀m,n<=m->m<=nrem->Srt O key p m->(m=nrem\/O.klt (KN O key p m)^KN O key p (m - 1))->G m s)->(kas_asc p f n).kasWp cmp G s
 |0,n,_,e,b,h=>h n (Rs _) (by lk) b^.inl^by lk
 | f+1,n,w,e,b,h=>by
  show cmp (p.getD n 0) (p.getD (n - 1) 0) (λc r=>(if c=o_ then KasT.ret n else kas_asc p f (n+1)).kasWp cmp G r) s;refine q _ _ _ (d.get n) (d.get _) ?_;cases a:O.blt (key^p.getD n 0)^key^p.getD (n - 1) 0 with
  |true=>exact yes^h n (Rs _) (by lk) b^.inr a
  | false=>
   refine no^OU q d f (n+1) (by lk) (by lk) (λi j g x=>?_) λm y t u v=>h m (by lk) t u v
   by_cases k:j<n
   .exact b i j g k
   .have l:j=n:=by lk
    subst l
    by_cases o:i=j
    .subst o;exact hZ _
    .exact kW (b i (j - 1) (by lk)^by lk) a
theorem IM(D:XN O key N cmp s){l:Nat}{G:Array Nat×Nat×Nat->No->Prop}:∀(f:Nat) (p:Array Nat) (n q:Nat),p.Perm p0->Bd N p->l<=p.size->1<=n->n+f=l->bY O key p n->q+1<=n->
  (∀i,n - (q+1)<=i->i<n->KN O key p i=KN O key p (n - 1))->
  (∀g m v,g.Perm p0->Bd N g->g.size=p.size->n<=m->m<=l->bY O key g m->v+1<=m->(∀i,m - (v+1)<=i->i<m->KN O key g i=KN O key g (m - 1))->G (g,m,v) s)->(kas_desc f p n q).kasWp cmp G s
 |0,p,n,q,C,u,Q,Y,e,x,R,E,h=>h p n q C u rfl (Rs _) (by lk) x R E
 | f+1,p,n,q,C,u,Q,Y,e,x,R,E,h=>by
  show cmp (p.getD n 0) (p.getD (n - 1) 0) (λc S=>(if c=o_ then(if q > 0 then kas_desc f (kas_rev p (n - (q+1)) n) (n+1) 0 else kas_desc f p (n+1) 0)
   else .ask (p.getD (n - 1) 0) (p.getD n 0) λd=>if d=o_ then .ret (p,n,q)else kas_desc f p (n+1) (q+1)).kasWp cmp G S) s
  refine D _ _ _ (u.get n) (u.get _) ?_;cases o:O.blt (key^p.getD n 0)^key^p.getD (n - 1) 0 with
  | true=>
   have Z:O.klt (KN O key p n)^KN O key p (n - 1):=o
   have r:∀T:Array Nat,(∀k,KN O key T k=KN O key p k)->bY O key T (n+1):=by
    intro T W i j y hj;rw[W,W]
    by_cases z:j<n
    .exact x i j y z
    .have A:j=n:=by lk
     subst A
     by_cases B:i=j
     .subst B;exact hZ _
     .exact kW (kM Z)^x i (j - 1) (by lk)^by lk
   refine yes ?_;have U:n<=p.size:=by lk
   by_cases F:q > 0
   .rw[if_pos F]
    refine IM D f _ (n+1) 0 ((CG _ _ _).trans C) (u.perm^CG _ _ _) (by rw[kas_rev_size];exact Q) (by lk) (by lk) (r _^Bi U E) (by lk) (λi a b=>by congr 1;lk) λg m v H I J X K L M P=>h g m v H I (J.trans^kas_rev_size _ _) (by lk) K L M P
   .rw[if_neg F]
    exact IM D f _ (n+1) 0 C u Q (by lk) (by lk) (r _ λ_=>rfl) (by lk) (λi a b=>by congr 1;lk) λg m v H I J X K L M P=>h g m v H I J (by lk) K L M P
  | false=>
   refine no ?_;show cmp (p.getD (n - 1) 0) (p.getD n 0) (λd S=>(if d=o_ then KasT.ret (p,n,q)else kas_desc f p (n+1) (q+1)).kasWp cmp G S) s;refine D _ _ _ (u.get _) (u.get n) ?_;cases t:O.blt (key^p.getD (n - 1) 0)^key^p.getD n 0 with
   |true=>exact yes (h p n q C u rfl (Rs _) (by lk) x R E)
   | false=>
    have w:KN O key p n=KN O key p (n - 1):=me (O:=O) t o;refine no^IM D f p (n+1) (q+1) C u Q (by lk) (by lk) (λi j y hj=>?_) (by lk) (λi a b=>?_) λg m v H I J X K L M P=>h g m v H I J (by lk) K L M P
    .by_cases z:j<n
     .exact x i j y z
     .have A:j=n:=by lk
      subst A
      by_cases B:i=j
      .subst B;exact hZ _
      .rw[w];exact x i (j - 1) (by lk)^by lk
    .rw[show n+1 - 1=n by lk]
     by_cases V:i=n
     .subst V;rfl
     .rw[w];exact E i (by lk)^by lk
def MO(e:XN O key N cmp s){n a:Nat}{G:Nat×Array Nat->No->Prop}(f:p.Perm p0)(d:Bd N p)(r:a<=p.size)(g:1<=n)(t:n<=a)(k:bY O key p n)
  (h:∀m b,b.Perm p0->Bd N b->b.size=p.size->1<=m->m<=a->Srt O key b m->G (m,b) s):(kas_tail3 n a p).kasWp cmp G s:=by
 unfold kas_tail3;rw[KasT.kasWp_bind];have c:n<=p.size:=by lk
 refine OU e (d.perm^CG _ _ _) _ n g (by lk) (λi j l u=>?_) λm v o q _=>h m _ ((CG _ _ _).trans f) (d.perm^CG _ _ _) (kas_rev_size _ _) (by lk) o q;rw[HK c,HK c,if_pos^by lk,if_pos^by lk];exact k _ _ (by lk)^by lk
def Hj(k:XN O key N cmp s){n c:Nat}{G:Nat×Array Nat->No->Prop}(E:p.Perm p0)(F:Bd N p)(H:c<=p.size)(K:n+1<=c)(I:bY O key p (n+1))
  (h:∀m d,d.Perm p0->Bd N d->d.size=p.size->1<=m->m<=c->Srt O key d m->G (m,d) s):(kas_descPart n c p).kasWp cmp G s:=by
 unfold kas_descPart;rw[KasT.kasWp_bind];refine IM (p0:=p0) k (c - (n+1)) p (n+1) 0 E F H (by lk) (by lk) I (by lk) (λi a b=>by grind) λd m l y z A L B C M D=>?_;have f:m<=d.size:=by lk
 show(if l > 0 then kas_tail3 m c^kas_rev d (m - (l+1)) m else kas_tail3 m c d).kasWp cmp G s
 by_cases g:l > 0
 .rw[if_pos g]
  refine MO k ((CG _ _ _).trans y) (z.perm^CG _ _ _) (by rw[kas_rev_size];lk) (by lk) B (λi j o J=>?_) λq e r t u v w x=>h q e r t (u.trans^(kas_rev_size _ _).trans A) v w x;rw[Bi f D,Bi f D];exact C i j o J
 .rw[if_neg g]
  exact MO k y z (by lk) (by lk) B C λq e r t u v w x=>h q e r t (u.trans A) v w x
def T2(y:XN O key N cmp s){nrem:Nat}{G:Nat×Array Nat->No->Prop}(z:p.Perm p0)(e:Bd N p)(H:nrem<=p.size)(W:1<=nrem)
  (h:∀m o,o.Perm p0->Bd N o->o.size=p.size->1<=m->m<=nrem->Srt O key o m->G (m,o) s):(kas_count nrem p).kasWp cmp G s:=by
 unfold kas_count;rw[KasT.kasWp_bind];refine OU (nrem:=nrem) y e (nrem - 1) 1 (Rs _) (by lk) (λi j q I=>by have:i=j:=(by lk);subst this;exact hZ _) λn r t b A=>?_
 by_cases f:n=nrem
 .rw[if_pos^by simpa using f]
  exact h n p z e rfl r t b
 .rw [if_neg^by simpa using f]
  have u:O.klt (KN O key p n)^KN O key p (n - 1):=A.resolve_left f
  by_cases v:n > 1
  .rw[if_pos v]
   show cmp (p.getD 0 0) (p.getD (n - 1) 0) (λc J=>(if c=o_ then KasT.ret (n,p)else kas_descPart n nrem^kas_rev p 0 n).kasWp cmp G J) s;refine y _ _ _ (e.get _) (e.get _) ?_;cases g:O.blt (key^p.getD 0 0)^key^p.getD (n - 1) 0 with
   |true=>exact yes (h n p z e rfl r t b)
   | false=>
    have d:O.kle (KN O key p (n - 1))^KN O key p 0:=g;have w:n<=p.size:=by lk
    have a:∀k,0<=k->k<n->KN O key p k=KN O key p (n - 1):=by
     intro k _ K;have L:=b 0 k (by lk) K;have M:=b k (n - 1) (by lk) (by lk);exact me M^kW d L
    refine no^Hj y ((CG _ _ _).trans z) (e.perm^CG _ _ _) (by rw[kas_rev_size];exact H) (by lk) (λi j q I=>?_) λP B Q R S T U V=>h P B Q R (S.trans^kas_rev_size _ _) T U V;rw[Bi w a,Bi w a]
    by_cases C:j<n
    .rw[a i (by lk)^by lk,a j (by lk) C];exact hZ _
    .have D:j=n:=by lk
     subst D
     by_cases l:i=j
     .subst l;exact hZ _
     .rw[a i (by lk)^by lk];exact kM u
  .rw[if_neg v]
   have x:n=1:=by lk
   subst x;refine Hj y z e H (by lk) (λi j q I=>?_) h
   by_cases l:i=j
   .subst l;exact hZ _
   .have E:i=0:=by lk
    have F:j=1:=by lk
    subst E;subst F
    exact kM u
theorem Ip(m:XN O key N cmp s)(g:Bd N p){k:Nat}(j:Srt O key p k){G:Nat->No->Prop}
  (h:∀l,l<=k->(∀i,i<l->O.kle (KN O key p i)^KN O key p k)->(∀i,l<=i->i<k->O.klt (KN O key p k)^KN O key p i)->G l s):∀(f l r:Nat),l<=r->r<=k->r - l<=f->
  (∀i,i<l->O.kle (KN O key p i)^KN O key p k)->(∀i,r<=i->i<k->O.klt (KN O key p k)^KN O key p i)->(kas_place p k f l r).kasWp cmp G s
 |0,l,r,n,d,t,b,c=>by
  have:l=r:=by lk
  subst this;exact h l d b c
 | f+1,l,r,n,d,t,b,c=>by
  unfold kas_place
  by_cases e:l≥r
  .rw[if_pos e]
   have:l=r:=by lk
   subst this;exact h l d b c
  .rw[if_neg e]
   refine m _ _ _ (g.get _) (g.get _) ?_;cases a:O.blt (key^p.getD k 0)^key^p.getD ((l+r) / 2) 0 with
   |true=>
    have o:O.klt (KN O key p k)^KN O key p ((l+r) / 2):=a;exact yes^Ip m g j h f l ((l+r) / 2) (by lk) (by lk) (by lk) b λi q u=>KeyOrd.klt_of_klt_of_kle o^j _ _ q u
   |false=>
    have o:O.kle (KN O key p ((l+r) / 2))^KN O key p k:=a;exact no^Ip m g j h f ((l+r) / 2+1) r (by lk) (by lk) (by lk) (λi q=>kW (j i ((l+r) / 2) (by lk)^by lk) o) c
theorem E9(y:XN O key N cmp s){n:Nat}{G:Array Nat->No->Prop}(h:∀r,r.Perm p0->Srt O key r n->G r s):∀(f:Nat) (p:Array Nat) (k:Nat),p.Perm p0->Bd N p->n<=p.size->k+f=n->Srt O key p k->(kas_bin f p k).kasWp cmp G s
 |0,p,k,t,u,z,e,d=>h p t^by rw[←e];exact d
 | f+1,p,k,t,u,z,e,d=>by
  rw[show kas_bin (f+1) p k=(kas_place p k k 0 k).bind λl=>kas_bin f (bubble p k (k - l)) (k+1)from rfl,KasT.kasWp_bind];refine Ip y u d (λl A v w=>?_) k 0 k (Uf _) (Rs _) (by lk) (λi B=>by lk) λi a b=>by lk
  have g:k<p.size:=by lk
  refine E9 y h f _ (k+1) ((bubble_perm _ _ _).trans t) (u.perm^bubble_perm _ _ _) (by rw[bubble_size];exact z) (by lk) λi j x C=>?_;rw[K9 g^by lk,K9 g^by lk,show k - (k - l)=l by lk]
  by_cases m:i=l
  .rw[if_pos m]
   by_cases c:j=l
   .rw[if_pos c];exact hZ _
   .rw[if_neg c,if_pos^by lk]
    exact kM^w (j - 1) (by lk)^by lk
  .rw [if_neg m]
   by_cases o:l<i/\i<=k
   .rw[if_pos o,if_neg^by lk,if_pos^by lk]
    exact d (i - 1) (j - 1) (by lk)^by lk
   .rw[if_neg o]
    by_cases c:j=l
    .rw[if_pos c];exact v i^by lk
    .rw[if_neg c]
     by_cases q:l<j/\j<=k
     .rw[if_pos q]
      exact d i (j - 1) (by lk)^by lk
     .rw[if_neg q]
      exact d i j x^by lk
def sort_ok{n:Nat}(b:1<=n)(c:XN O key n cmp s){G:Array Nat->No->Prop}(h:∀p,p.Perm^fk^fo n->Srt O key p n->G p s):(kas_sort n).kasWp cmp G s:=by
 unfold kas_sort;rw[KasT.kasWp_bind];have f:Bd n^fk^fo n:=#[b,λx k=>by grind];have g:(fk^fo n).size=n:=by simp
 refine T2 c (mH _) f (by lk) b λm d e i l o q j=>?_
 by_cases a:m<n
 .rw[if_pos a,show max m 1=m by lk]
  exact E9 c h _ d m e i (by lk) (by lk) j
 .rw[if_neg a]
  exact h d e^by grind
end
end So
namespace L2
open PySem.W
def YL:Key->Key->Bool
 |.inl i,.inl j=>decide (i<j)
 |.inr x,.inr y=>decide (x.cps.toList<y.cps.toList)
 |.inl _,.inr _=>o_
 |.inr _,.inl _=>p_
def BF:q_ Key->q_ Key->Bool
 |[],[]=>p_
 |[],_::_=>o_
 |_::_,[]=>p_
 |x::a,y::b=>if x=y then BF a b else YL x y
theorem OF:∀x:Key,YL x x=p_
 |.inl i=>decide_eq_false^Int.lt_irrefl i
 |.inr x=>decide_eq_false^iP _
theorem Qf:∀x y z:Key,YL x y=o_->YL y z=o_->YL x z=o_
 |.inl i,.inl j,.inl k,a,b=>decide_eq_true^Int.lt_trans (of_decide_eq_true a)^of_decide_eq_true b
 |.inr i,.inr j,.inr k,a,b=>decide_eq_true^kT (of_decide_eq_true a)^of_decide_eq_true b
 |.inl i,.inl j,.inr k,_,_=>rfl
 |.inl i,.inr j,.inr k,_,_=>rfl
 |.inl i,.inr j,.inl k,_,h=>by cases h
 |.inr i,.inl j,_,h,_=>by cases h
 |.inr i,.inr j,.inl k,_,h=>by cases h
theorem Qg:∀x y:Key,YL x y=p_->YL y x=p_->x=y
 |.inl i,.inl j,c,d=>congrArg _^by have a:=of_decide_eq_false c;have b:=of_decide_eq_false d;lk
 |.inr x,.inr y,c,d=>by
  have e:=List.le_antisymm (of_decide_eq_false d)^of_decide_eq_false c;let#[u]:=x
  simp_all
 |.inl i,.inr j,h,_=>by cases h
 |.inr i,.inl j,_,h=>by cases h
theorem B_:∀x:q_ Key,BF x x=p_
 |[]=>rfl
 |x::a=>by unfold BF;rw[if_pos rfl];exact B_ a
theorem CY:∀x y z:q_ Key,BF x y=o_->BF y z=o_->BF x z=o_
 |[],[],_,h,_=>by cases h
 |[],_::_,[],_,h=>by cases h
 |[],_::_,_::_,_,_=>rfl
 |_::_,[],_,h,_=>by cases h
 |_::_,_::_,[],_,h=>by cases h
 | x::f,y::g,z::i,a,b=>by
  unfold BF at a b ⊢
  by_cases d:x=y
  .subst d
   rw[if_pos rfl]at a
   by_cases c:x=z
   .subst c
    rw[if_pos rfl]at b ⊢;exact CY f g i a b
   grind
  .rw[if_neg d]at a
   by_cases c:y=z
   .grind
   .rw[if_neg c]at b
    have e:=Qf x y z a b
    by_cases j:x=z
    .subst j
     rw[OF]at e;cases e
    grind
theorem B3:∀x y:q_ Key,BF x y=p_->BF y x=p_->x=y
 |[],[],_,_=>rfl
 |[],_::_,h,_=>by cases h
 |_::_,[],_,h=>by cases h
 | x::c,y::d,a,b=>by
  unfold BF at a b
  by_cases e:x=y
  .subst e
   rw[if_pos rfl]at a b;rw[B3 c d a b]
  .rw[if_neg e]at a
   rw[if_neg λz=>e z.symm]at b;exact absurd (Qg x y a b) e
def QM:KeyOrd:=#[q_ Key,BF,B_,CY,λa b c h=>by
 cases e:BF a b with
 |true=>exact .inl rfl
 |false=>
  cases d:BF b a with
  |true=>exact .inr^CY b a c d h
  |false=>rw[←B3 a b e d];exact .inr h,B3]
theorem GU:∀x y:q_ Key,Bz x y=o_->FT x y=BF x y
 |[],[],_=>rfl
 |[],_::_,_=>rfl
 |_::_,[],_=>rfl
 | x::b,y::c,h=>by
  have a:(KJ x y&&Bz b c)=o_:=h;rw[fN]at a;unfold FT BF
  by_cases e:x=y
  .rw[if_pos e,if_pos e];exact GU b c a.2
  .rw[if_neg e,if_neg e]
   cases x with
   |inl i=>cases y with
    |inl j=>rfl
    |inr z=>cases a.1
   |inr i=>cases y with
    |inl j=>cases a.1
    |inr z=>rfl
section
variable {prog:Program}{w:World}{A:Around}{E:Value->Shared->Prop}{s:Shared}
theorem S0{b:Bool}{Q:Bool->No->Prop}{h j:Nat}:∀(a c:q_ Key) (k l:q_ Ev) (i:Nat),Vals (a.map kOf) k->Vals (c.map kOf) l->Bz a c=o_->a.length+j=c.length+h->Q (FT a c) s->
  KatLex prog w A b (decide (h<j)) Q (k.zip l) i s
 |[],[],k,l,i,o,p,_,g,q=>by
  cases o;cases p;refine kat_nil ?_;rw[show decide (h<j)=p_ from decide_eq_false^by simp only[gn]at g;lk];exact q
 |[],m::c,k,l,i,o,p,_,g,q=>by
  cases o;rw[List.zip_nil_left];refine kat_nil ?_;rw[show decide (h<j)=o_ from decide_eq_true^by simp only[gn,fF]at g;lk];exact q
 |n::a,[],k,l,i,o,p,_,g,q=>by
  cases p;rw[List.zip_nil_right];refine kat_nil ?_;rw[show decide (h<j)=p_ from decide_eq_false^by simp only[gn,fF]at g;lk];exact q
 | n::a,m::c,k,l,i,o,p,F,g,q=>by
  have d:(KJ n m&&Bz a c)=o_:=F;rw[fN]at d;have f:Q (if n=m then FT a c else bu n m) s:=q;cases o with
  | @cons _ u _ r t G=>
   cases p with
   | @cons _ v _ B C H=>
    rw[kC];have D:n=m->KatLex prog w A b (decide (h<j)) Q (r.zip B) (i+1) s:=λe=>S0 a c r B (i+1) G H d.2 (by simp only[fF]at g;lk) (by rw[if_pos e]at f;exact f);cases n with
    | inl x=>
     cases m with
     |inr y=>cases d.1
     | inl y=>
      let#[I,rfl]:=t;let#[J,rfl]:=C;refine kat_cons^wpAny_eqBool_int ?_
      by_cases e:x=y
      .rw[show(x==y)=o_ by simpa using e]
       exact kat_yes^D^by rw[e]
      .rw[show(x==y)=p_ by simpa using e]
       refine kat_no ?_;rw[if_neg λz=>e^Sum.inl.inj z]at f;cases K:(b&&i==0)with
       |true=>exact oneLt_int f
       |false=>exact kat_one _ _^mL (show PySem.W.BoolBack Q (.bool (decide (x<y))) s from f)
    | inr x=>
     cases m with
     |inl y=>cases d.1
     | inr y=>
      let#[I,rfl]:=t;let#[J,rfl]:=C;refine kat_cons^wpAny_eqBool_str ?_
      by_cases e:x=y
      .rw[show decide (x=y)=o_ by simpa using e]
       exact kat_yes^D^by rw[e]
      .rw[show decide (x=y)=p_ by simpa using e]
       refine kat_no ?_;rw[if_neg λz=>e^iw z]at f;cases K:(b&&i==0)with
       |true=>exact oneLt_str f
       |false=>exact kat_one _ _^PySem.P.lt_str (show PySem.W.BoolBack Q (.bool (decide (x.cps.toList<y.cps.toList))) s from f)
structure P5 (h:fO) (ks:List Ev) (keys:List^List Key):Prop where
 at_:∀(i:Nat) (ns:List Key),keys[i]?=P3 ns->∃a o its n,ks[i]?=P3^.ref a/\h.get? a=P3 o/\o.cls=.type "tuple"/\o.data=.seq its n/\Vals (ns.map kOf) its.toList
 len:ks.length=keys.length
 same:∀x∈keys,∀y∈keys,Bz x y=o_
 ne:∀x∈keys,x≠[]
def bj:Key->String
 |.inl _=>"int"
 |.inr _=>"str"
theorem firsts{h:fO}:∀(g:q_ Ev) (b:q_^q_ Key) (T:String),g.length=b.length->(∀(i:Nat) (u:q_ Key),b[i]?=P3 u->∃a o c n,g[i]?=P3^.ref a/\h.get? a=P3 o/\o.cls=.type "tuple"/\o.data=.seq c n/\Vals (u.map kOf) c.toList)->
  (∀x∈b,∃k r,x=k::r/\bj k=T)->∃j:q_ Ev,KatTups h g j/\j.length=b.length/\∀v∈j,typeOf v=pure^.type T
 |[],[],T,_,_,_=>#[[],trivial,rfl,λv l=>by cases l]
 |[],_::_,T,m,_,_=>by cases m
 |_::_,[],T,m,_,_=>by cases m
 | k::g,x::b,T,m,z,B=>by
  let#[j,F,G,H]:=firsts g b T (by simpa using m) (λi u e=>by
   let#[a,o,c,n,p,r]:=z (i+1) u (by simpa using e);exact#[a,o,c,n,by simpa using p,r]) λy I=>B y^Sc _ I
  let#[a,o,c,n,p,J,K,L,q]:=z 0 x rfl;have p:k=.ref a:=by simpa using p
  subst p;let#[k,r,rfl,C]:=B x Re;rw[gD]at q;cases d:c.toList with
  |nil=>rw[d]at q;cases q
  | cons f M=>
   rw[d]at q;cases q with
   | cons D N=>
    refine#[f::j,KatTups.cons J K L (by rw[←Array.getElem?_toList,d];rfl) F,by rw[fF,fF,G],λv l=>?_]
    rcases Tk.mp l with rfl|l
    .cases k with
     |inl i=>let#[t,rfl]:=D;subst C;rfl
     |inr i=>let#[t,rfl]:=D;subst C;rfl
    .exact H v l
def KD{c:q_ Ev}{keys:q_^q_ Key}(K:P5 s.heap c keys)(h2:2<=c.length){G:Array Nat->No->Prop}(h:∀p,p.Perm^fk^fo c.length->So.Srt QM (λi=>keys.getD i []) p c.length->G p s):
  wpAny (model prog w) A (keyKind' c.toArray) (λN P=>(kas_sort c.length).kasWp (kas_ask prog w A N c) G P) (λ_ _=>False) s:=by
 obtain⟨f,I,Q⟩:∃f I,keys=f::I:=by
  cases e:keys with
  |nil=>have:=K.len;rw[e]at this;simp only[gn]at this;lk
  |cons x r=>exact#[x,r,rfl]
 have J:f∈keys:=by rw[Q];exact Re
 obtain⟨m,R,S⟩:∃k r,f=k::r:=by
  cases e:f with
  |nil=>exact absurd e^K.ne f J
  |cons k r=>exact#[k,r,rfl]
 have y:∀x∈keys,∃k r,x=k::r/\bj k=bj m:=λx L=>by
  cases e:x with
  |nil=>exact absurd e^K.ne x L
  | cons k r=>
   exists k,r,rfl;have b:=K.same x L f J;rw[e,S]at b;have b:(KJ k m&&Bz r R)=o_:=b;rw[fN]at b;cases k with
   |inl i=>cases m with
    |inl j=>rfl
    |inr j=>cases b.1
   |inr i=>cases m with
    |inl j=>cases b.1
    |inr j=>rfl
 let#[fs,z,B,T]:=firsts c keys (bj m) K.len K.at_ y;refine kat_kind z (by rw[B,←K.len];lk) (λv U=>by rw[T v U];exact Looks.now) (by simp) ?_;refine So.sort_ok (O:=QM) (key:=λi=>keys.getD i []) (by lk) (λi j C V W X=>?_) h;have g:i<keys.length:=by rw[←K.len];exact V
 have l:j<keys.length:=by rw[←K.len];exact W
 let#[a,o,q,n,Y,Z,e3,e4,M]:=K.at_ i keys[i] (On g);let#[a',o',d,n',D,F,a0,H,t]:=K.at_ j keys[j] (On l);unfold kas_ask;rw[show c.getD i fm=.ref a by rw[fw,Y];rfl,show c.getD j fm=.ref a' by rw[fw,D];rfl];have b:=K.same _ (f7 g) _^f7 l;refine kat_lt Z e4 F H (S0 keys[i] keys[j] _ _ 0 M t b ?_ ?_)
 .have l1:=M.length
  have l2:=t.length;have l3:(keys[i].map kOf).length=keys[i].length:=FM ..;have l4:(keys[j].map kOf).length=keys[j].length:=FM ..;have l5:q.toList.length=q.size:=iI;have l6:d.toList.length=d.size:=iI;lk
 .rw[GU _ _ b]
  have z:keys.getD i []=keys[i]:=by rw[fw,On g];rfl
  have B:keys.getD j []=keys[j]:=by rw[fw,On l];rfl
  have u:C (BF (keys.getD i [])^keys.getD j []) s:=X;rw[z,B]at u;exact u
def F_{v:Ev}{c:q_ (Str×Ev)}{Q:Ev->No->Prop}(e:argsOk "sorted" #[[v],c])(f:∀x,argsOk "list.sort" #[[.ref x],c])
  (k:wpAny (model prog w) A.in1 (collect v) (λg a=>g.length<=sizeLine/\wpAny (model prog w) A.in1.in1 (h8.«list.sort» #[[.ref a.heap.objs.size],c]) (λb i=>b=.done^.ret .none/\Q (.ref a.heap.objs.size) i) E {a with heap:=a.heap.push^seqObj "list" g.toArray 0}) E s):
  wpAny (model prog w) A (call (.builtin "sorted") [v] c) Q E s:=call_function_entry_kw kind_sorted plain_sorted entry_sorted e^Ch^TW^Ch^ft k (λg a h=>Ch^lW (Ch^gG^wpAny_call_entry_kw PyProof.Rows.slot_list_sort #[_,UF _ rfl,rfl] PyProof.Rows.entry_list_sort (ft h.2 (λb i j=>#[_,j.1,TW #[_,rfl,j.2]]) λ_ _ x=>x)^f _) h.1) λ_ _ x=>x
def Di(h:fO)(D:Db)(a:q_ Ev):fO:=((h.update D^gH λ_=>(#[]:Array Ev)).push^seqObj "tuple" a.toArray 0).push^seqObj "list" #[] 0
def Gz{h:fO}{D:Db}{a:q_ Ev}{b:Db}{o:Obj}(c:b≠D)(e:h.get? b=P3 o):(Di h D a).get? b=P3 o:=
 Go _ (Go _^(fL _ _^gE c).trans e)
def Ii{h:fO}{D:Db}{c:q_ Ev}{n:Nat}(d:h.get? D=P3^seqObj "list" c.toArray n):∃a,(Di h D c).get? D=P3^seqObj "list" #[] a/\(h.update D^gH λ_=>(#[]:Array Ev)).get? D=P3^seqObj "list" #[] a:=by
 obtain⟨a,b⟩:∃a,(h.update D _).get? D=P3^seqObj _ _ a:=#[_,jY d _];exact#[a,Go _^Go _ b,b]
def Mo{D:Db}{a:q_ Ev}{n:Nat}{P:PySem.Fin->No->Prop}{G:Array Nat->Prop}(r:s.heap.get? D=P3^seqObj "list" a.toArray n)(t:a.length<64)
  (u:2<=a.length->wpAny (model prog w) A (keyKind' a.toArray) (λJ k=>(kas_sort a.length).kasWp (kas_ask prog w A J a) (λp v=>v={s with heap:=Di s.heap D a}/\G p) k) (λ_ _=>False) {s with heap:=Di s.heap D a})
  (L:a.length<2->G^fk^fo a.length) (l:∀(p:Array Nat) (y:fO) (c:Nat),p.size=a.length->G p->(∀b o,b≠D->s.heap.get? b=P3 o->y.get? b=P3 o)->y.get? D=P3^seqObj "list" (fk^p.toList.map λi=>a.getD i fm) c->P (.done^.ret .none) {s with heap:=y}):
  wpAny (model prog w) A (h8.«list.sort» #[[.ref D],[]]) P E s:=by
 let#[V,d,z]:=Ii r
 have m:∀(p:Array Nat),p.size=a.length->G p->P (.done^.ret .none) {s with heap:=(Di s.heap D a).update D^gH λ_=>fk^p.toList.map λi=>a.getD i fm}:=λp q B=>by
  obtain⟨C,F⟩:∃C,((Di s.heap D a).update D^gH λ_=>fk^p.toList.map λi=>a.getD i fm).get? D=P3^seqObj "list" (fk^p.toList.map λi=>a.getD i fm) C:=#[_,jY d λ_=>fk^p.toList.map λi=>a.getD i fm];exact l p _ C q B (λb o K e=>(fL _ _^gE K).trans^Gz K e) F
 rw[list_sort_plain];refine Ch (kr r rfl ?_);refine Ch (jC r rfl ?_ (by rw[fM,fz];lk) (Uf _));refine Ch (lL z rfl ?_);refine Ch (wpAny_newTuple ?_^by show a.length<=_;rw[fz];lk);refine Ch^lW ?_^Uf _;refine gG ?_;show wpAny (model prog w) A _ P E {s with heap:=Di s.heap D a}
 dsimp only
 by_cases H:a.length<2
 .have f:a.toArray.size<2:=by rw[fM];exact H
  rw[if_pos f,if_pos f];refine Ch^TW ?_;rw[StateT.run_pure];refine Ch^TW ?_
  dsimp only
  refine Ch (lL d rfl ?_);have h:(fk^fo a.length).size=a.length:=by simp
  have g:(arrOf^SortSt.mk' general' (a.toArray.zip a.toArray) #[] 7 n_).map (·.2)=fk ((fk^fo a.length).toList.map λi=>a.getD i fm):=by
   refine kat_snds rfl ?_;have e:=kas_range^a.toArray.zip a.toArray;rw[show(a.toArray.zip a.toArray).size=a.length by simp]at e;exact e.symm
  rw[g];refine Ch (jC d rfl ?_ (Uf _) (by rw[fM,FM,iI,h,fz];lk));simp only[bne_self_eq_false,gQ,if_false];exact TW^m _ h^L H
 .have f:¬a.toArray.size<2:=by rw[fM];exact H
  rw[if_neg f,if_neg f];refine Ch^ft (u^by lk) (λJ W u=>?_) λ_ _ x=>x.elim
  refine Ch (ft (kat_run (Q:=λj k=>∃p:Array Nat,p.size=a.length/\arrOf j=p.map^kas_item^a.toArray.zip a.toArray/\failedOf j=n_/\k={s with heap:=Di s.heap D a}/\G p)
   rfl (by lk) t (λN j k O R S T=>#[N,O,R,S,T]) u) ?_ λ_ _ e=>e)
  rintro⟨⟨⟩,j⟩ k ⟨p,q,I,U,rfl,B⟩
  dsimp only
  have g:=kat_snds rfl I;have h:(fk^p.toList.map λi=>a.getD i fm).size=a.length:=by rw[fM,FM,iI,q]
  rw[g];refine Ch (lL d rfl ?_);refine Ch (jC d rfl ?_ (Uf _) (fJ (lw h)^by rw[fz];lk));rw[U];simp only[bne_self_eq_false,gQ,if_false];exact TW^m p q B
def Qh{D:Db}{f:Ev}{a:q_ Ev}{n:Nat}{P:PySem.Fin->No->Prop}(U:s.heap.get? D=P3^seqObj "list" a.toArray n)(Y:a.length<64)(J:q_ Ev->No->Prop)(h:Db)(M:h=s.heap.objs.size+1)
  (h0:∀r,(Di s.heap D a).get? D=P3^seqObj "list" #[] r->J [] {s with heap:=Di s.heap D a})
  (z:∀(d:q_ Ev) (g:No) (e:Nat) (v:Ev),J d g->g.heap.get? h=P3^seqObj "list" d.toArray e->a[d.length]?=P3 v->wpAny (model prog w) A (call f [v]) (λk l=>l.heap.get? h=P3^seqObj "list" d.toArray e/\J (d++[k]) {l with heap:=l.heap.update h (gH (·.push k))}) (λ_ _=>False) g)
  (N:∀(r:Nat),(Di s.heap D a).get? D=P3^seqObj "list" #[] r->∀(d:q_ Ev) (g:No),J d g->d.length=a.length->g.heap.get? D=P3^seqObj "list" #[] r/\∃G:Array Nat->Prop,
   (2<=a.length->wpAny (model prog w) A (keyKind' d.toArray) (λκ O=>(kas_sort a.length).kasWp (kas_ask prog w A κ d) (λp l=>l=g/\G p) O) (λ_ _=>False) g)/\(a.length<2->G^fk^fo a.length) /\
   ∀(p:Array Nat) (V:fO) (c:Nat),p.size=a.length->G p->(∀b o,b≠D->b≠h->g.heap.get? b=P3 o->V.get? b=P3 o)->V.get? D=P3^seqObj "list" (fk^p.toList.map λi=>a.getD i fm) c->(∃o,V.get? h=P3 o)->P (.done^.ret .none) {g with heap:=V}):
  wpAny (model prog w) A (ksk_tree D f p_) P E s:=by
 let#[r,R,Z]:=Ii U;have u:((s.heap.update D^gH λ_=>(#[]:Array Ev)).push^seqObj "tuple" a.toArray 0).objs.size=h:=by rw[size_push',Heap.size_update,M]
 have hD:D<s.heap.objs.size:=T0 U;have S:D≠h:=by rw[M];exact fQ^gj hD
 have a0:(Di s.heap D a).get? h=P3^seqObj "list" #[] 0:=by rw[←u];exact UF _ rfl
 unfold ksk_tree;refine Ch (kr U rfl ?_);refine Ch (jC U rfl ?_ (by rw[fM,fz];lk) (Uf _));refine Ch (lL Z rfl ?_);refine Ch (wpAny_newTuple ?_^by show a.length<=_;rw[fz];lk);refine Ch^lW ?_^Uf _;refine gG ?_;show wpAny (model prog w) A (ksk_rest D f p_ a.toArray r^.ref ((s.heap.update D^gH λ_=>(#[]:Array Ev)).push^seqObj "tuple" a.toArray 0).objs.size) P E {s with heap:=Di s.heap D a};rw[u];unfold ksk_rest;refine Ch^jr ?_
 first
  |rw[List.forIn_toArray]
  |(rw[←Array.forIn_toList];simp only[List.toList_toArray])
  |rw[←Array.forIn_toList]
 refine Ch^ksk_fold (I:=λi g=>∃d e,jw d=i/\J d g/\g.heap.get? h=P3^seqObj "list" d.toArray e) a 0 _ #[[],0,rfl,h0 r R,a0] (λj x g hx hI=>?_) λg hI=>?_
 .let#[d,e,t,hJ,C]:=hI
  have hj:j<a.length:=(eq.mp hx).1;have t:d.length=j:=by lk
  refine Ch^ig^ft (z d g e x hJ C^by rw[t];exact hx) (λk l F=>?_) λ_ _ hF=>hF.elim;have ea:(fk d).push k=fk (d++[k]):=by simp
  obtain⟨H,K⟩:∃H,(l.heap.update h (gH (·.push k))).get? h=P3^seqObj "list" (fk (d++[k])) H:=#[_,by rw[←ea];exact jY F.1 (·.push k)]
  try dsimp only
  refine Ch (jC F.1 rfl ?_ (by rw[fM,fz];lk) (fJ (lw (Array.size_push ..))^by rw[fM,fz];lk));exact TW #[rfl,d++[k],H,by rw[XV,fS];lk,F.2,K]
 .let#[d,e,t,hJ,C]:=hI
  have t:d.length=a.length:=by lk
  let#[a5,G,g2,g1,g3]:=N r R d g hJ t
  try dsimp only
  refine Ch (kr C rfl ?_)
  have y:∀(W:SortSt) (p:Array Nat),p.size=a.length->G p->(arrOf W).map (·.2)=fk (p.toList.map λi=>a.getD i fm)->failedOf W=n_->wpAny (model prog w) A (ksk_tail D p_ r (.ref h) W) P E g:=λW p X hg T hf=>by
   have a6:(fk^p.toList.map λi=>a.getD i fm).size=a.length:=by rw[fM,FM,iI,X]
   obtain⟨ck,a7⟩:∃ck,(g.heap.update h^gH λ_=>(#[]:Array Ev)).get? h=P3^seqObj "list" #[] ck:=#[_,jY C λ_=>#[]];have L:(g.heap.update h^gH λ_=>(#[]:Array Ev)).get? D=P3^seqObj "list" #[] r:=(fL _ _^gE S).trans a5;obtain⟨H,K⟩:∃H,((g.heap.update h^gH λ_=>(#[]:Array Ev)).update D^gH λ_=>fk^p.toList.map λi=>a.getD i fm).get? D=P3^seqObj "list" (fk^p.toList.map λi=>a.getD i fm) H:=#[_,jY L λ_=>fk^p.toList.map λi=>a.getD i fm];unfold ksk_tail
   try dsimp only
   rw[T];refine Ch (jC C rfl ?_ (by rw[fM,fz];lk) (Uf _));refine Ch^jd ?_;refine Ch (lL L rfl ?_);refine Ch (jC L rfl ?_ (Uf _) (fJ (lw a6)^by rw[fz];lk));rw[hf];simp only[bne_self_eq_false,gQ,if_false];refine TW^g3 p _ H X hg (λb o a8 a9 e=>(fL _ _^gE a8).trans^(fL _ _^gE a9).trans e) K #[_,(fL _ _ S).trans a7]
  unfold ksk_end
  try dsimp only
  simp only[gQ,if_false]
  by_cases h2:a.length<2
  .have m:a.toArray.size<2:=by rw[fM];exact h2
   rw[if_pos m,if_pos m];refine Ch^TW ?_;rw[StateT.run_pure];refine Ch^TW ?_
   try dsimp only
   refine y _ (fk^fo a.length) (by simp) (g1 h2) (kat_snds t ?_) rfl;have er:=kas_range^d.toArray.zip a.toArray;rw[show(d.toArray.zip a.toArray).size=a.length by simp[t]]at er;exact er.symm
  .have m:¬a.toArray.size<2:=by rw[fM];exact h2
   rw[if_neg m,if_neg m];refine Ch^ft (g2^by lk) (λκ s0 C=>?_) λ_ _ x=>x.elim
   refine Ch (ft (kat_run (Q:=λq O=>∃p:Array Nat,p.size=a.length/\arrOf q=p.map^kas_item^d.toArray.zip a.toArray/\failedOf q=n_/\O=g/\G p)
    t (by lk) Y (λp' q O a1 a2 a3 a4=>#[p',a1,a2,a3,a4]) C) ?_ λ_ _ e=>e)
   rintro⟨⟨⟩,q⟩ O ⟨p,X,b0,hf,rfl,hg⟩
   try dsimp only
   exact y q p X hg (kat_snds t b0) hf
end
section
variable {X:Cx}{zH:q_ (Addr×Obj)}{Z:L2.St}{H:Hp}{s:Shared}{h':Heap}
structure RD (X:Cx) (zH:List (Db×Obj)) (D:Db):Prop where
 new:X.s₀.heap.objs.size<=D
 loc:D≠X.env.locals
 cell:∀x c,X.env.cells.lookup x=P3 c->c≠D
 pin:∀p∈X.pn++zH,p.1≠D
 fs:D∉X.fs
def Inv.mine(I:Inv X zH Z H s){D:Db}(h:s.heap.objs.size<=D):RD X zH D:=by
 refine#[fJ I.sz h,λz=>?_,λx c e z=>?_,λp a z=>?_,I.nofs h]
 .have:=I.lt
  rw[←z]at this;exact absurd this^jV.mpr h
 .let#[v,o,b,_]:=I.cell x c e
  have:=T0 b
  rw[z]at this;exact absurd this^jV.mpr h
 .let#[e,_]:=I.pin p a
  have:=T0 e
  rw[z]at this;exact absurd this^jV.mpr h
structure KeysAt (K:Frag) (H:Hp) (vs:List V) (keys:List^List Key):Prop where
 len:vs.length=keys.length
 at_:∀(i:Nat) (ns:List Key),keys[i]?=P3 ns->∃a,vs[i]?=P3^.ref a/\SqT K H a (ns.map kOf)
 same:∀x∈keys,∀y∈keys,Bz x y=o_
 ne:∀x∈keys,x≠[]
def K8(a:q_^q_ Key)(b:q_ Nat):Prop:=b.Perm^fo a.length/\∀i j,i<=j->j<a.length->BF (a.getD (b.getD j 0) [])^a.getD (b.getD i 0) []=p_
def KeysAt.tups{d:q_ V}{f:q_ Ev}{c:q_^q_ Key}(I:Inv X zH Z H s)(r:Vals d f)(k:KeysAt X.K H d c){h':fO}(g:∀b o,s.heap.get? b=P3 o->h'.get? b=P3 o):P5 h' f c:=by
 refine#[λi h e=>?_,r.length.symm.trans k.len,k.same,k.ne];let#[a,j,l]:=k.at_ i h e;let#[u,m,p]:=r.get j;cases p;let#[q,x,#[o,t,v,n,w],_]:=I.tuple l;exact#[a,o,_,n,m,g a o t,v,w,by grind]
theorem Gw:∀{a:q_ V}{b:q_ Ev},Vals a b->∀i:Nat,RelV (a.getD i .non)^b.getD i fm
 |_,_,.nil,i=>by simp[RelV]
 |_,_,.cons r t,0=>by simpa using r
 |_,_,.cons r t,i+1=>by simpa using Gw t i
theorem IX{f:Nat->V}{g:Nat->Ev}(h:∀i,RelV (f i)^g i):∀a:q_ Nat,Vals (a.map f)^a.map g
 |[]=>.nil
 |i::a=>.cons (h i)^IX h a
def getD_list(p:Array Nat)(i:Nat):p.getD i 0=p.toList.getD i 0:=by simp
def Sg{a:q_^q_ Key}{n:Nat}{p:Array Nat}(c:a.length=n)(d:p.Perm^fk^fo n)(e:So.Srt QM (λi=>a.getD i []) p n):K8 a p.toList:=by
 subst c;refine#[Array.perm_iff_toList_perm.mp d,λi j b f=>?_];have h:=e i j b f;unfold So.KN at h;rw[getD_list,getD_list]at h;exact h
def QD{z:fb}{A:Ev->No->Prop}{d:q_ V}{f:q_ Ev}{keys:q_^q_ Key}{Q:VK}(I:Inv X zH Z H s)(r:Vals d f)(B:d.length<64)(k:KeysAt X.K H d keys)
  (q:∀(v:q_ Nat) (l:Db),K8 keys v->H l=n_->Q (.ref l)^Ar H l^.lst^v.map λi=>d.getD i .non):
  wpAny (model X.prog X.w) z (h8.«list.sort» #[[.ref s.heap.objs.size],[]]) (λm C=>m=.done^.ret .none/\EP X zH Z Q (.ref s.heap.objs.size) C) A {s with heap:=s.heap.push^seqObj "list" f.toArray 0}:=by
 have x:=r.length;have t:keys.length=f.length:=k.len.symm.trans x;refine Mo (G:=λp=>p.Perm _/\So.Srt QM (λi=>keys.getD i []) p f.length) (n:=0) (UF _ rfl) (by lk) (λD=>?_) (λL=>#[mH _,λi j E M=>?_]) λp h' c N y g F=>#[rfl,?_]
 .refine KD (keys:=keys) (k.tups I r λb o e=>?_) D λp a b=>#[rfl,a,b]
  exact Gz (fQ^T0 e)^Go _ e
 .have:i=j:=by lk
  subst this;exact hZ _
 .have J:H s.heap.objs.size=n_:=I.fresh
  have u:(p.toList.map λi=>d.getD i .non).length=f.length:=by grind
  refine#[.ref s.heap.objs.size,Ar H s.heap.objs.size^.lst _,I.laid (t':=s.toks) (λb o e=>g b o (fQ^T0 e)^Go _ e) (Rs _) #[by rw[u,←x,fz];lk,_,c,IX (Gw r) p.toList,F],rfl,q _ _ (Sg t y.1 y.2) J]
def NK{c:fT}{w:fY}{A:fb}{E:Ev->No->Prop}{s:No}{l:Db}{b:q_ Ev}{Q:q_ Ev->No->Prop}(e:kO s.heap l b.toArray)
  (h:Q b {s with heap:=(s.heap.push^seqObj "list" #[] 0).update s.heap.objs.size (gH (·++b.toArray))}) (g:b.length<=sizeLine):
  wpAny (model c w) A (collect^.ref l) Q E s:=by
 let#[o,i,j,n,k]:=id e;unfold collect;refine Ch^wpAny_runValue^gy entry_proto_collect' ?_;show wpAny _ _ (do again (.builtin "list.__iadd__" #[[←newList [],.ref l],[]])) _ _ s;refine Ch^lW^TW #[jW _ (by decide +kernel),gy entry_list_iadd' ?_];show wpAny _ _ (i8 (.ref s.heap.objs.size) (.ref l)^.ref s.heap.objs.size) _ _ {s with heap:=s.heap.push^seqObj "list" #[] 0};unfold i8;have d:(s.heap.push^seqObj "list" #[] 0).get? l=P3 o:=Go _ i;refine Ch^j_ (T:="tuple") #[o,d,j] ?_;have m:(gB "tuple"==gB "tuple")=o_:=by rfl
 rw[if_pos^by rw[m];simp];refine Ch^kr d k ?_;refine Ch (kr (xs:=#[]) (n:=0) (UF _ rfl) rfl ?_);rw[if_neg^by simp];refine Ch (jC (xs:=#[]) (n:=0) (UF _ rfl) rfl ?_ (Uf _) (by show(#[]++b.toArray).size<=sizeLine+1;simp only[Array.size_append,fM,gn];lk));refine TW ?_
 show wpAny (model c w) A (do
   let o ←load s.heap.objs.size
   match o.data with
   |.seq xs _=>pure xs.toList
   |_=>unsupported "internal:collect") Q E {s with heap:=(s.heap.push^seqObj "list" #[] 0).update s.heap.objs.size (gH (·++b.toArray))}
 refine Ch^wpAny_load (jY (UF _ rfl) _) ?_;show wpAny _ _ (pure ((#[]:Array Ev)++b.toArray).toList) Q E _;rw[show((#[]:Array Ev)++b.toArray).toList=b by simp];exact TW h
def NM{h:fO}{g:Array Ev->Array Ev}{b:Db}{o:Obj}(e:h.get? b=P3 o):((h.push^seqObj "list" #[] 0).update h.objs.size^gH g).get? b=P3 o:=
 (fL _ _^gE^fQ^T0 e).trans (Go _ e)
def NL{g:Bool}{k:fb}{l:Ev->No->Prop}{p:Db}{c:q_ V}{Q:q_ Ev->No->Prop}(I:Inv X zH Z H s)(h:SqK g X.K H p c)(q:∀i j,Vals c i->c.length<=sizeLine->Inv X zH Z H j->Q i j):
  wpAny (model X.prog X.w) k (collect^.ref p) Q l s:=by
 cases g with
 |true=>
  let#[d,r,f,a]:=I.list h;exact collect_list f.isList (q _ _ r a^I.kept λb o e=>NM e)^by rw[←r.length];exact a
 |false=>
  let#[d,r,f,a]:=I.tuple h;exact NK f (q _ _ r a^I.kept λb o e=>NM e)^by rw[←r.length];exact a
def SA(K:Frag):q_ V->Hp->VK->Prop:=λd H Q=>∃(e:Bool) (p:Db) (b:q_ V) (a:q_^q_ Key),d=[.ref p]/\SqK e K H p b/\b.length<64/\KeysAt K H b a /\
 ∀(c:q_ Nat) (l:Db),K8 a c->H l=n_->Q (.ref l)^Ar H l^.lst^c.map λi=>b.getD i .non
def B6:Co X (.builtin "sorted")^SA X.K:=by
 intro zH s Z H k d Q I r h;let#[l,p,m,b,rfl,e,a,f,q]:=h;let#[u,rfl,g]:=vals1 r;cases g;exact F_ (args_sorted1 _) (λx=>args_list_sort _)^NL I e λd n c i j=>#[by rw[←c.length];exact i,QD j c a f q]
end
section
variable {X:Cx}{tg elt iter:Expr}{ifs:q_ Expr}{sc:Scope}{pos spos pos':Pos}{N':q_ Str}{js:q_^r_ Nat}{wi:TI}{i:Nat}{x:Str}
def U5(hc:X.calm=o_)(N':q_ Str)(js:q_^r_ Nat)(hi:PI X tg iter wi)
  (hB:Gi sc X.env.scope X.N N' js=o_) (hN:X.N.Nodup) (a0:X.N[i]?=P3 x) (hx:Loc X.env.scope x)
  (a1:swapsWith (.ListComp elt [#[tg,iter,ifs,0]] sc pos) (P3^.Name x pos') spos.line X.env=pure o_)
  (hs:∀x,foldedSetIterable iter X.env x=pure x:=by intro _;rfl)
  (hf:X.fn x=o_\/X.env.scope.names.lookup x=P3 .local:=by first|exact .inl rfl|exact .inr rfl|assumption):
  PS X (.Assign [.Name x pos'] (.ListComp elt [#[tg,iter,ifs,0]] sc pos) spos) (MP (Rm X sc N' js tg elt ifs wi)^Hf i):=by
 intro M s Z H D I h;have O:CompOk X sc N' js:=CompOk.of hB;let#[P,t,a2,R]:=JV (scope:=sc) (env:=X.env) λx hx=>I.ok.has x^O.free x hx;rw[exec_Assign_Name_used _ _ _ _ a1];refine Ch^kP^Ch ?_;show wpAny _ _ (do let _ ←comprehension (.ListComp elt [#[tg,iter,ifs,0]] sc pos) sc X.env _ (newList []) p_ (eval iter X.env)^P3^assign (.Name x pos') X.env) _ _ s
 refine Ch (ft (wpAny_comprehension_free (Q:=λ_ p=>SP X M D .next p) (use:=P3^assign (.Name x pos') X.env) rfl hs t O.kind O.names (thn (hi M s Z H _ I h) λv s1 h1=>thn h1 λa5 c h2=>?_))
  (λ_ p hq=>TW^TW hq) λ_ _ e=>e)
 let#[it,fp,tn,J,H2,e,G,T,u,f2,hq]:=h2;subst e
 have B:X.K.lookup c.heap.objs.size=n_:=by
  cases q:X.K.lookup c.heap.objs.size with
  |none=>rfl
  |some o=>exact absurd (T0^G.kIn _ _ q)^gM _
 let#[g,tt,te,W,hg,ht,he,#[m0,w0],hW]:=hq c.heap.objs.size (G.hok.fresh^Rs _) B P (c.heap.objs.size+1) c H2 fp;refine gi^wpAny_newFunctionEnv O.cell (by intro y hy;simp at hy) (λj f d=>?_) O.kind
 dsimp only at f d ⊢
 generalize C:c.heap.push {cls:=.type "list",dict:=n_,data:=.seq ([]:q_ Ev).toArray}=Hh at f d ⊢;have k:Hh.objs.size=c.heap.objs.size+1:=by rw[←C,gU]
 have S:∀b∈fp,b<c.heap.objs.size:=λb l=>by
  let#[o,e,_]:=T.obj _ _ u b l;exact T0 e
 have U:∀b o,c.heap.get? b=P3 o->j.get? b=P3 o:=λb o e=>d.extBut b o (by rw[k];exact fQ^gj^T0 e)^Go _ (C▸Go _ e);have hD:∃n,j.get? c.heap.objs.size=P3 {cls:=.type "list",data:=.seq #[] n}:=#[_,d.extBut _ _ (by rw[k];exact fQ^jM _)^Go _ (C▸UF _ rfl)]
 have I3:∀L,Inv (Aw X sc N' P (c.heap.objs.size+1) c H2 fp) [] (CW js Z) (Ar H2 c.heap.objs.size^.lst []) {c with heap:=j,toks:=L}:=λL=>
  Mz G hc O a2 R f2 (λb l=>let #[o,e,_]:=T.obj _ _ u b l;#[o,e]) (by rw[←k];exact f) U hD
 have V:tn 0 j:=T.keep _ _ _ u λb l o e=>U b o e
 have a3:∀b∈fp,Ar H2 c.heap.objs.size (.lst []) b=n_:=λb l=>by
  rw[AM^fQ^S b l];exact(f2 b l).1
 have r:∀L,codeAny (model X.prog X.w) X.A (.compLoop (.ListComp elt [#[tg,iter,ifs,0]] sc pos) 0 (.ref it) (.ref c.heap.objs.size)^compEnvC sc P (c.heap.objs.size+1) X.env)
   (compPost (model X.prog X.w) X.A X.xe (P3^assign (.Name x pos') X.env) (λ_ p=>SP X M D .next p) (.ref c.heap.objs.size) (c.heap.objs.size+1)) {c with heap:=j,toks:=L}:=λL=>by
  refine Kt (W:=W) (m0:=m0) (Q:=λv H1=>Hf i v Z H1 λzN H2=>D.nx zN H2) G f2 S (fu _) T hg ht he hW (λzZ H' p J' q'=>?_) (I3 L) V a3 w0;let#[m,hn,_]:=J'.loc;have Y:H' (c.heap.objs.size+1)=n_:=J'.free;have I4:Inv X M Z H' p:=JG (h':=p.heap) G f2 (fu _) J' λb _=>rfl;let#[g1,g2,g3,g4,g5,g6]:=G.fpOk (b:=c.heap.objs.size+1) (fu _) Y;show wpAny (model X.prog X.w) X.A (assign (.Name x pos') X.env^.ref c.heap.objs.size) (λ_ E=>∃m,E.heap.Ns (c.heap.objs.size+1) m/\∀h',iz (c.heap.objs.size+1) E.heap h'->SP X M D .next {E with heap:=h'}) X.xe p;refine wpAny_assign_Name (KH (v:=.ref c.heap.objs.size) I4 hN a0 hx rfl (λs5 I5 zz=>?_) hf);let#[a,F,ha]:=zz
  have na:c.heap.objs.size+1≠a:=by
   rcases ha with rfl|ha
   .exact g2
   .exact λz=>g5 _ _ ha z.symm
  refine#[m,hn.sameBut F na,λh' a4=>?_];exact#[_,H',I5.turned (t':=s5.toks) (it:=c.heap.objs.size+1) (λb o l e=>a4.extBut b o l e) Y g2 g4 g5 g6,q']
 rw[show(newEnv sc Hh.objs.size X.env.globals P X.env.qual n_ .none (P3 X.env) builtinsNs).locals=c.heap.objs.size+1 from k];show codeAny (model X.prog X.w) X.A (.compStart (.ListComp elt [#[tg,iter,ifs,0]] sc pos) 0 (.ref it) (.ref c.heap.objs.size)^compEnvC sc P (c.heap.objs.size+1) X.env) _ _;exact codeAny_compStart_list (r _)^T.self _ 0 _ _ _ V^r _
end
end L2
namespace Dp
open L2
section
variable {X:Cx}{zR:Kd}{tg elt iter:Expr}{ifs:q_ Expr}{sc:Scope}{pos:Pos}{src:De}{b:BW}{tt:F4}{te:DW}
def T3(hc:X.calm=o_)(N':q_ Str)(js:q_^r_ Nat)(hi:XJ X tg iter src)(hg:∀L C s H O,DG (Aw X sc N' L C s H O) tg b)(ht:∀L C s H O,ZI (Aw X sc N' L C s H O) ifs tt)(he:∀L C s H O,DE (Aw X sc N' L C s H O) elt zR te)
  (hB:Gi sc X.env.scope X.N N' js=o_) (hk:zR≠.tp:=by intro z;cases z)
  (hs:∀x,foldedSetIterable iter X.env x=pure x:=by intro _;rfl):∃wi,PI X tg iter wi/\∀(C:Fm) (M:Db->Prop) (H:Hp) (n:Nat) (ρ:q_ Slot) (Z:L2.St) (P:D->Nat->Prop) (Q:VK),Rel X.K C M H n ρ Z->DF js src b tt te n ρ P->
   (∀v r d S,Ext C.U H r->FeedC X.K C.F M r S->VR X.K C.V M H r .fr v d->P d S->Q v r)->Rm X sc N' js tg elt ifs wi Z H Q:=by
 let#[wi,a1,a2]:=hi;refine#[wi,a1,λC M H n ρ Z P Q R w q=>?_];refine a2 C M H n ρ Z _ _ R w λJ T u n1 A f1 y w1=>?_;let#[b4,w1]:=w1;have R1:=R.step A f1;intro l hl b6 L Ca s0 H0 O;let#[g,g1,g2]:=hg L Ca s0 H0 O;let#[tc,c1,c2]:=ht L Ca s0 H0 O;let#[tx,x1,x2]:=he L Ca s0 H0 O
 have a6:¬C.U l:=λz=>by
  let#[o,z]:=R1.udom l z;rw[hl]at z;cases z
 generalize W:(λb=>M b\/b=l)=M';have a7:M' l:=by rw[←W];exact .inr rfl
 have M'of:∀b,M b->M' b:=λb z=>by rw[←W];exact .inl z
 have a4:∀b,M' b->M b\/b=l:=λb z=>by rw[←W]at z;exact z
 have b1:∀b,C.V b\/b=l->M' b:=λb z=>z.elim (λz=>M'of b^R1.vM b z) λz=>by rw[z];exact a7
 have b5:js.length=N'.length:=E8 (CompOk.of hB).cap
 exists g,tc,tx,λi m zZ r=>m=u.length - i/\i<=u.length/\∃S zY k G,Rel X.K #[M',C.F,C.U,λb=>C.V b\/b=l,T,[],[]] M' r S zY zZ/\r l=P3^.lst G/\Ats X.K M' r k G/\k.length<=i/\Pres M T M' r /\
   D4 b tt te (λk n2=>P (.lst k) n2) (u.drop i) k S zY,g1,c1,x1,#[u.length,by simp,Uf _,n1,GS js ρ,[],[],?_]
 .have I:Grow T^Ar T l^.lst []:=Aq hl
  have Y:Pres M T M'^Ar T l^.lst []:=#[λb o e _=>I.all b o e,λb z=>(a4 b z).elim .inl λz=>.inr (by rw[z];exact hl),λb G e=>I.all b _ e];refine#[#[?_,λa z=>z,λa z=>?_,I.ext,R1.fU,λa z=>.inl^R1.uV a z,b1,f1.pres Y λf o _ e=>I.all f.1 o e,?_,λp hp=>absurd hp^by simp,λi d a q z=>PR R1.sl q z,λi s a q o _=>absurd o (by rw[EL q];decide),λi j s t a q o _ _ _ _=>absurd o (by rw[EL q];decide),λp hp=>absurd hp^by simp],AR,rfl,Uf _,Y,w1]
  .unfold GS CW
   rw[FM,FM]
  .rcases a4 a z with z|z
   .let#[o,z]:=R1.dom a z
    exact#[o,I.all a o z]
   .subst z
    exact#[_,AR]
  .refine Mr R1.sl Y λd v h=>h.same Y (λa o _ e=>I.all a o e) λa e n1 z=>z.elim n1 λz=>?_
   subst e;let#[o,w]:=h.lies;rw[z,hl]at w;cases w
 .rintro i m zZ r ⟨rfl,hi,S,zY,k,G,R',a8,a0,a9,Y,w'⟩
  by_cases a3:i<u.length
  .have ed:u.drop i=u[i]::u.drop (i+1):=gZ a3
   rw[ed]at w';let#[go,yl]:=(y i M' r Y R'.ext R'.dom).1 u[i] (On a3);refine .inr #[go,λx H2 hy=>?_];let#[I,hx]:=yl x H2 hy;have b2:=R'.step I.ext^R'.feed.grow I;refine g2 _ M' H2 S zY zZ u[i] x _ _ b2 hx w' λzO zV R3 w3=>?_;refine c2 _ M' H2 S zO zV _ _ R3 w3 λc H4 n4 e4 f4 w4=>?_;have R4:=R3.step e4 f4;have p4:Pres M' r M' H4:=I.pres.trans^R3.pres e4;have l4:H4 l=P3^.lst G:=e4.keep (I.all _ _ a8) a6;cases c with
   |false=>exact#[u.length - (i+1),by lk,rfl,a3,n4,zO,k,G,R4,l4,a0.pres p4,by lk,Y.trans p4,w4]
   | true=>
    refine x2 _ M' H4 n4 zO zV _ _ R4 w4 λyv H5 d5 n5 e5 f5 r5 w5=>?_;have B:=R4.step e5 f5;have p5:Pres M' H4 M' H5:=R4.pres e5;have l5:H5 l=P3^.lst G:=e5.keep l4 a6;have b3:=r5.shOf R4.dom hk;have a5:=(a0.pres p4).pres p5;have pu:Pres M' H5 M'^Ar H5 l^.lst (G++[yv]):=Cg a7 l5;have b7:G.length=k.length:=a0.length;refine#[G,l5,by rw[fz];lk,u.length - (i+1),by lk,rfl,a3,n5,zO,k++[d5],G++[yv],?_,AR,(a5.append^Ats.one b3).pres pu,by rw[XV,fS];lk,(Y.trans p4).trans^p5.trans pu,w5];refine#[B.len,B.sub,λa z=>?_,λb o e=>?_,B.fU,B.uV,B.vM,?_,λj s hs=>?_,λp hp=>absurd hp^by simp,B.br0,B.new,B.two,λp hp=>absurd hp^by simp]
    .by_cases ha:a=l
     .subst ha;exact#[_,AR]
     .rw[AM ha];exact B.dom a z
    .let#[o',q1,q2]:=B.ext b o e
     by_cases hb:b=l
     .subst hb
      have e':T b=P3 o:=e;rw[hl]at e';cases e'
     .exact#[o',by rw[AM hb];exact q1,q2]
    .refine f5.pres pu λf o hf e=>?_
     rw[AM λz=>a6^by rw[←z];exact R1.fU f hf];exact e
    .have E:=B.sl j s hs
     cases s with
     |no=>trivial
     |sh d=>let#[v,A,h2]:=E;exact#[v,A,h2.pres pu]
     |ex a nm ks u=>let#[A,h2]:=E;exact#[A,h2.pres pu]
     | br d=>
      let#[v,A,h2]:=E;refine#[v,A,h2.same pu (λa o z e=>?_) λ_ _ z=>z];subst z;let#[o3,w]:=B.br0 j d a hs A
      have a9:a≠l:=λz=>by
       have w':T a=P3 o3:=w;rw[z,hl]at w';cases w'
      rw[AM a9];exact e
     |ow d=>
      let#[a,A,h2,_]:=E;exact absurd h2 (B.new j _ a hs rfl A).1
     |lt a d=>
      let#[A,h2,_]:=E;exact absurd h2 (B.new j _ a hs rfl A).1
     |fd=>exact E
  .have e:i=u.length:=by lk
   subst e;rw[iq]at w';refine .inl #[(y _ M' r Y R'.ext R'.dom).2 (Rs _),?_];have eb:Ext C.U T r:=R'.ext;have b0:Pres M' r M r:=Pres.less M'of;refine q _ r (.lst k) S (A.trans eb) (R'.feed.pres b0 λ_ _ _ z=>z) (VR.back A ?_) w';exact#[l,rfl,hl,G,a8,by rw[W];exact a0]
def Gb{q:Kd}{i:Nat}{x:Str}{a c:Pos}(r:X.N.Nodup)(j:X.N[i]?=P3 x)(hx:Loc X.env.scope x)(l:X.calm=o_)(e:q_ Str)(h:q_^r_ Nat)(t:XJ X tg iter src)(u:∀f C s H g,DG (Aw X sc e f C s H g) tg b)(y:∀f C s H g,ZI (Aw X sc e f C s H g) ifs tt)(A:∀f C s H g,DE (Aw X sc e f C s H g) elt zR te)
  (m:Gi sc X.env.scope X.N e h=o_) (k:swapsWith (.ListComp elt [#[tg,iter,ifs,0]] sc pos) (P3^.Name x a) c.line X.env=pure o_:=by rfl) (B:zR≠.tp:=by intro z;cases z)
  (o:∀x,foldedSetIterable iter X.env x=pure x:=by intro _;rfl)
  (D:X.fn x=o_\/X.env.scope.names.lookup x=P3 .local:=by first|exact .inl rfl|exact .inr rfl|assumption):DS X q (.Assign [.Name x a] (.ListComp elt [#[tg,iter,ifs,0]] sc pos) c)^Cq i^DF h src b tt te:=by
 let#[S,F,G]:=T3 l e h t u y A m B o;exact#[_,U5 l e h F m r j hx k o D,λC M H n I Z T E R L w=>G C M H n I Z _ _ R w λv J d K O P Q p=>L.nx M J K _ _ ((R.step O P).set^Q.shOf R.dom^by grind) p]
end
end Dp
namespace L2
def Z3:R2:=λy x H Q=>∃a o,x=.ref a/\DGet H a y o/\Q (.bl o.isSome) H
def Wp:R2:=λy x H Q=>∃a o,x=.ref a/\DGet H a y o/\Q (.bl (!o.isSome)) H
def Z4:R2:=λx y H Q=>∃a v,x=.ref a/\DGet H a y^P3 v/\Q v H
def N3{X:Cx}{k:Nat}(b:Room k X.A):OpR X (compareOp .In) Z3:=by
 intro f s Z H y x h u Q I c d #[a,i,ex,g,q];subst ex;obtain rfl:u=fI a:=d;exact dG (JH b) I g c λj e=>#[.bl _,H,e,rfl,q]
def C_{X:Cx}{k:Nat}(b:Room k X.A):OpR X (compareOp .NotIn) Wp:=by
 intro f s Z H y x h u Q I c d #[a,i,ex,g,q];subst ex;obtain rfl:u=fI a:=d;exact V9 (JH b) I g c λj e=>#[.bl _,H,e,rfl,q]
end L2
namespace Dp
open L2
def BA:q_ Key->q_ D->Key->r_ D
 |a::b,d::c,k=>if a=k then P3 d else BA b c k
 |_,_,_=>n_
section
variable {K:Frag}{X:Cx}
theorem F7{M:Db->Prop}{H:Hp}{k:Key}:∀{ks:q_ Key}{b:q_ D}{a:q_ V},Ats K M H b a->
  match BA ks b k with
  |some z=>∃v,EV (ks.zip a) k=P3 v/\At K M H z v
  |none=>EV (ks.zip a) k=n_
 |[],b,a,h=>by exact rfl
 |c::ks,[],a,h=>by cases h;exact rfl
 | c::ks,d::b,a,h=>by
  let#[v,r,rfl,f,g]:=h;have i:=F7 (k:=k) (ks:=ks) g;unfold BA
  by_cases e:c=k
  .rw[if_pos e]
   refine#[v,?_,f];show EV ((c,v)::ks.zip r) k=P3 v;rw[Ec e]
  .have:EV ((c,v)::ks.zip r) k=EV _ k:=Ee e
   simp_all
def keyOf:D->r_ Key
 |.int i=>P3^.inl i
 |.str x=>P3^.inr x
 |_=>n_
def DQ{U M:Db->Prop}{H:Hp}{d:D}{v:V}{k:Key}(e:keyOf d=P3 k)(h:AtT K U M H d v):v=kV k:=by
 cases d with
 |int i=>cases e;exact h
 |str x=>cases e;exact h.str.1
 |_=>cases e
def JS:D->r_ (q_ Key×q_ D)
 |.dic a b=>P3 (a,b)
 |.fdi a b=>P3 (a,b)
 |_=>n_
def JR{U M:Db->Prop}{H:Hp}{d:D}{x:V}{g:q_ Key}{i:q_ D}(e:JS d=P3 (g,i))(h:AtT K U M H d x):∃a b,x=.ref a/\Rd H a^.dK^g.zip b/\Ats K M H i b:=by
 cases d with
 |dic j k=>cases e;let#[a,b,rfl,_,c,_,f]:=h;exact#[a,b,rfl,.inl c,f]
 |fdi j k=>cases e;let#[a,b,rfl,#[o,_,c],_,f]:=h;exact#[a,b,rfl,.inr #[o,c],f]
 |_=>cases e
def IL{H:Hp}{a:Db}{b:q_ (Key×V)}{k:Key}(e:Rd H a^.dK b):DGet H a (kV k)^EV b k:=.inl #[_,k,e,rfl,rfl]
def NC(a:Bool)(e d:D)(P:D->Prop):Prop:=∃b c k,JS d=P3 (b,c)/\keyOf e=P3 k/\P^.bl (if a then !(BA b c k).isSome else(BA b c k).isSome)
def CQ(d e:D)(P:D->Prop):Prop:=∃a b k z,JS d=P3 (a,b)/\keyOf e=P3 k/\BA a b k=P3 z/\P z
def UM:FE K .sh Z3^NC p_:=λU M H e d y x P Q b o f g w q=>by
 let#[ks,i,k,j,l,w]:=w;let#[a,p,rfl,m,n]:=JR j g;refine#[a,_,rfl,by rw[DQ l f];exact IL m,q _ H (.bl _) .refl rfl ?_];have h:=F7 (k:=k) (ks:=ks) n;cases c:BA ks i k with
 |none=>simp_all
 |some z=>rw[c]at h w;let#[v,r,_]:=h;simp_all
def D9:FE K .sh Wp^NC o_:=λU M H e d y x P Q b o f g w q=>by
 let#[ks,i,k,j,l,w]:=w;let#[a,p,rfl,m,n]:=JR j g;refine#[a,_,rfl,by rw[DQ l f];exact IL m,q _ H (.bl _) .refl rfl ?_];have h:=F7 (k:=k) (ks:=ks) n;cases c:BA ks i k with
 |none=>simp_all
 |some z=>rw[c]at h w;let#[v,r,_]:=h;simp_all
def Yw:FE K .sh Z4 CQ:=λU M H d e x y P Q b p c f w q=>by
 let#[ks,r,k,z,g,i,j,w]:=w;let#[a,s,rfl,l,m]:=JR g c;have h:=F7 (k:=k) (ks:=ks) m;rw[j]at h;let#[v,n,o]:=h;exact#[a,v,rfl,by rw[DQ i f,←n];exact IL l,q v H z .refl o w]
variable {a b:Expr}{zT zM:Kd}{wa wb:DW}{pos:Pos}
def BQ{k:Nat}(g:Room k X.A)(h:DE X a zT wa)(i:DE X b zM wb)(j:ZA b:=by intro _ _;rfl):DE X (.Subscript a b pos) .sh^Ao CQ wa wb:=by
 let#[m,c,d]:=h;let#[o,e,f]:=i;exact#[_,LU (JH g) c e j,λC M H n l Z P Q R w q=>E9 Yw d f C M H n l Z P Q R w q]
end
def WZ(i:Nat)(w:DW):AW:=λe n c=>∃a:Int,c[i]?=P3^.sh^.int a/\w n c λd f=>∃b:Int,d=.int b/\e.nx f^c.set i^.sh^.int (a+b)
def V0{X:Cx}{h j:Kd}{e:fZ}{g:DW}{pos:Pos}{i:Nat}{x:Str}{c:Pos}(k:X.N.Nodup)(l:X.N[i]?=P3 x)(hx:Loc X.env.scope x)(m:DE X e j g)
  (o:X.fn x=o_\/X.env.scope.names.lookup x=P3 .local:=by first|exact .inl rfl|exact .inr rfl|assumption):DS X h (.AugAssign (.Name x c) .Add e pos)^WZ i g:=by
 let#[t,q,r]:=m;refine#[_,X4 k l hx q YZ o,λC M H n s Z F E R L w=>?_];let#[a,u,w]:=w;let#[v,f,y]:=R.sl i _ u;cases(y);refine#[_,getD_some f,r C M H n s Z _ _ R w λv z d A f B D p=>?_];let#[b,rfl,p]:=p;exact#[a,b,rfl,Lj D,L.nx M z A _ _ ((R.step f B).set (d:=.int _) rfl) p]
end Dp
namespace L2
open PySem.W
section
variable {X:Cx}{zH:q_ (Addr×Obj)}{Z:L2.St}{H:Hp}{s:Shared}{h':Heap}
def Inv.adopt2{D e:Db}{o:HO}(I:Inv X zH Z H s)(m:RD X zH D)(h:H D=n_)(i:RD X zH e)(j:H e=n_)(l:D≠e)(k:∀b u,b≠D->b≠e->s.heap.get? b=P3 u->h'.get? b=P3 u)(new:ObjOk X.prog X.w (Ar H D o) h' D o):Inv X zH Z (Ar H D o) {s with heap:=h'}:=by
 have a:∀b,b∉[D,e]->b≠D/\b≠e:=λb d=>#[λz=>d (by rw[z];exact Re),λz=>d^by rw[z];exact Sc _ (Op.mpr rfl)]
 refine I.step (g':=s.gens) (d':=s.drawn) (t':=s.toks) (ch:=[D,e]) (λb g=>?_) (λb u _ _ d q _=>k b u (a b d).1 (a b d).2 q) (λb u _ _ d q _=>#[u.slots,k b u (a b d).1 (a b d).2 q]) (λb u d q n=>?_)
  (λb u d q=>#[u,k b u (a b d).1 (a b d).2 q]) (λb p q=>?_) (λb u v q=>?_) (λb B q=>#[#[],?_]) (λC t=>?_) (λb u q=>?_) I.bare
 .rcases Tk.mp g with rfl|g
  .exact#[.inr m.new,m.loc,m.cell,m.pin]
  .rw[Op.mp g]
   exact#[.inr i.new,i.loc,i.cell,i.pin]
 .rw[AM (a b d).1];exact n
 .rw[AM^An q h];exact q
 .rw[AM^An q h];exact q
 .rw[AM^An q h,q];simp
 .let#[u,x,y,A,r]:=t
  exact#[u,x,y,k _ u (gE m.loc) (gE i.loc) A,r]
 .by_cases g:b=D
  .subst g;rw[AR]at q;cases q;exact new
  .rw[AM g]at q
   refine(I.hok b u q).stay (λc v d f=>k c v ?_ ?_ f) (λc f=>by rw[AM^An f h];exact f) λc p f=>by rw[AM^An f h];exact f
   .grind
   grind
def Xk(K:Frag)(f:Sp)(g:TE):TE:=λZ H Q=>g Z H λx d=>∃(h:Bool) (l:Db) (c:q_ V) (a:q_^q_ Key) (J:q_ V->Hp->Prop),x=.ref l/\SqK h K d l c/\c.length<64/\J [] d /\
 (∀b H2 v,J b H2->c[b.length]?=P3 v->f [v] H2 (λk j=>J (b++[k]) j) E0) /\
 ∀b H2,J b H2->b.length=c.length->KeysAt K H2 b a/\∀(e:q_ Nat) (l:Db),K8 a e->H2 l=n_->Q (.ref l)^Ar H2 l^.lst^e.map λi=>c.getD i .non
def SY{k:Nat}{f:Db}{fd:f_}{pn fn:Str}{sp:Sp}{te:TE}{e:fZ}{p fp kp pos:Pos}(F:B8 X.prog X.w X.K X.mg X.base EU k f fd [pn] sp)(hr:Room (k+2) X.A)(hg:Gl X "sorted")(hm:X.mg "sorted"=n_)
  (a9:Gl X fn) (b0:X.mg fn=P3^.ref f) (hb:Binds X.K fd [pn] []) (he:PE X e te) (hs:starEach [e] X.env=[(p_,eval e X.env)]:=by rfl) (b1:(fn==("__debug__":Str))=p_:=by cbv):
  PE X (.Call (.Name "sorted" p) [e] [#[P3 "key",.Name fn fp,kp]] pos) (Xk X.K sp te):=by
 intro zH s Z H Q I h;refine gc^EM I hg hm jI ?_
 refine callWith_kw (thn (BL he CH hs pos zH s Z H (λC T=>∃x,C=[x]/\∃(κ:Bool) (l:Db) (C:q_ V) (keys:q_^q_ Key) (J:q_ V->Hp->Prop),x=.ref l/\SqK κ X.K T l C/\C.length<64/\J [] T /\
   (∀B H2 v,J B H2->C[B.length]?=P3 v->sp [v] H2 (λk H3=>J (B++[k]) H3) E0) /\
   ∀B H2,J B H2->B.length=C.length->KeysAt X.K H2 B keys/\∀(ix:q_ Nat) (l:Db),K8 keys ix->H2 l=n_->Q (.ref l)^Ar H2 l^.lst^ix.map λi=>C.getD i .non) I ?first) λt s1 #[xs,T,I1,r1,q1]=>kws_cons^Dn I1 a9 b0 (kws_nil ?_) b1) (by rw[hs];rfl)^by rw[hs];rfl
 case first=>
  show te Z H _;refine cast (congrArg (te Z H) ?_) h
  funext x T
  refine propext #[λz=>#[x,rfl,z],fun#[y,e,z]=>?_];cases e;exact z
 let#[x,rfl,κ,l,C,keys,J,rfl,hq,b2,j0,U,a0]:=q1;let#[u,rfl,ru]:=vals1 r1;cases ru;show wpAny (model X.prog X.w) X.A (call (.builtin "sorted") [.ref l] [(iJ "key",.ref f)]) _ _ s1;refine F_ (ksk_s1 _ _) (λx=>ksk_l1 _ _)^NL I1 hq λt R r2 hz I2=>#[by rw[←r2.length];exact hz,?_];rw[ksk_t1];have hl:=r2.length;generalize W:R.heap.objs.size=D;have a1:(R.heap.push^seqObj "list" t.toArray 0).objs.size=D+1:=by rw[size_push',W]
 have a2:(R.heap.push^seqObj "list" t.toArray 0).get? D=P3^seqObj "list" t.toArray 0:=by rw[←W];exact UF _ rfl
 have mD:RD X zH D:=I2.mine (by rw[W];exact Rs _);have mK:RD X zH (D+2):=I2.mine (by rw[W];exact mB _ _);have nD:T D=n_:=I2.hok.fresh (by rw[W];exact Rs _);have nK:T (D+2)=n_:=I2.hok.fresh (by rw[W];exact mB _ _);have a3:D≠D+2:=fQ^gj^jM D;have S:∀b,RD X zH b->b∉Kj X.stack:=λb m z=>(Tk.mp^I2.stkSub b z).elim m.loc m.fs
 refine Qh (s:={R with heap:=R.heap.push^seqObj "list" t.toArray 0}) (n:=0) a2 (by rw[←hl];exact b2)
  (λB N=>∃O E,Vals O B/\J O E/\Inv X zH Z E N/\E D=n_/\E (D+2)=n_/\N.heap.get? D=(Di (R.heap.push^seqObj "list" t.toArray 0) D t).get? D) (D+2) (by show D+2=(R.heap.push _).objs.size+1;rw[a1]) (λe1 a4=>?_) (λB N e v Y hk hv=>?_) λe1 a4 B N Y L=>?_
 .refine#[[],T,.nil,j0,?_,nD,nK,rfl]
  exact I2.kept (t':=R.toks) λb o q=>Gz (by rw[←W];exact fQ^T0 q)^Go _ q
 .let#[O,E,rk,Y,I',n1,n2,P]:=Y
  have hi:B.length<t.length:=(eq.mp hv).1;have a5:C[O.length]?=P3 (C[O.length]'(by rw[rk.length];lk)):=On _;let#[u',e2,ru]:=r2.get a5;rw[rk.length,hv]at e2;cases e2;have b3:=U O E _ Y a5;have E1:Env0 X.prog X.w X.K X.mg X.base X.A.in1.in1 X.stack N E:=I'.env0.in1.in1;refine iK^jJ (F.run X.A.in1.in1 X.stack N E #[[v],[]] [v] _ _ E0 (hr.in1).in1 E1 (by simpa using hb N [v] I'.kIn rfl) (.cons ru .nil) b3) λr g M=>?_;cases r with
  |error e=>exact gC M
  | ok fl=>
   cases fl with
   |next=>exact gC M
   |brk=>exact gC M
   |cont=>exact gC M
   | ret u=>
    let#[w',H3,os,a6,un,b4,b5,q3]:=id M
    obtain⟨oD,eD⟩:∃o,N.heap.get? D=P3 o:=by
     let#[c,hc,_]:=Ii a2;exact#[_,P.trans hc]
    have kD:g.heap.get? D=P3 oD:=un.keep D oD eD n1 (S D mD) (by simp);have kK:g.heap.get? (D+2)=P3^seqObj "list" B.toArray e:=un.keep _ _ hk n2 (S _ mK) (by simp);have f1:H3 D=n_:=un.free D oD eD n1 (by simp);have f2:H3 (D+2)=n_:=un.free _ _ hk n2 (by simp);have I3:Inv X zH Z H3 g:=I'.call' os un b4 a6 (λb z=>absurd z^by simp);exists kK,O++[w'],H3,rk.append^.cons b5 .nil,q3,?_,f1,f2
    .exact I3.turned (t':=g.toks) (λb o hb q=>(fL _ _^gE hb).trans q) f2 mK.loc (.inr mK.new) mK.cell mK.pin
    .show(g.heap.update (D+2) _).get? D=_
     rw[fL _ _^gE a3,kD,←eD,P]
 .let#[O,E,rk,Y,I',n1,n2,P]:=Y
  let#[a7,q]:=a0 O E Y (by rw[rk.length,L,hl]);have b6:keys.length=t.length:=by rw[←a7.len,rk.length,L]
  refine#[P.trans a4,λp=>p.Perm^fk^fo t.length/\So.Srt QM (λi=>keys.getD i []) p t.length,λh2=>?_,λh1=>#[mH _,λi j b9 hj=>?_],λp h' c hp hg a8 b7 _=>#[rfl,?_]]
  .have ts:=KD (prog:=X.prog) (w:=X.w) (A:=X.A.in1.in1) (keys:=keys) (a7.tups I' rk λb o e=>e) (by lk) (G:=λp g=>g=N/\p.Perm^fk^fo t.length/\So.Srt QM (λi=>keys.getD i []) p t.length) λp a b=>#[rfl,by rw[←L];exact a,by rw[←L];exact b]
   rw[L]at ts;exact ts
  .have:i=j:=by lk
   subst this;exact hZ _
  .have b8:(p.toList.map λi=>C.getD i .non).length=t.length:=by rw[FM,iI,hp]
   refine#[.ref D,Ar E D^.lst^p.toList.map λi=>C.getD i .non,I'.adopt2 mD n1 mK n2 a3 a8 #[by rw[b8,←hl,fz];lk,_,c,IX (Gw r2) p.toList,b7],rfl,q _ _ (Sg b6 hg.1 hg.2) n1]
theorem Iu{e f:Type}{F:e->f->Prop}:∀{c:q_ e}{d:q_ f}{j:Nat}{a:e}{b:f},Paired F c d->c[j]?=P3 a->d[j]?=P3 b->F a b
 |_,_,_,_,_,.nil,h,_=>by simp at h
 |_,_,0,_,_,.cons r t,g,i=>by
  grind
 |_,_,j+1,_,_,.cons r t,g,i=>Iu (j:=j) t (by simp_all)^by simp_all
end
end L2
namespace Dp
open L2
section
variable {K:Frag}
def TU(a:q_ D)(P:D->Prop):Prop:=match a with
 |[.int i,.int j]=>P^.int (if j<i then j else i)
 |_=>False
def am(a:q_ D)(P:D->Prop):Prop:=match a with
 |[.int i]=>P^.int (if i<0 then -i else i)
 |_=>False
def UH:Do K .sh (λa H Q=>∃i j,a=[.int i,.int j]/\Q (.int (if j<i then j else i)) H) TU:=by
 intro U M H h k P Q b l c w q;unfold TU at w
 split at w
 .rename_i i j
  cases c with
  | cons d e=>cases e with
   |cons f g=>
    cases g;cases d.int;cases f.int;exact#[i,j,rfl,q _ H (.int _) .refl rfl w]
 grind
def bK:Do K .sh (λa H Q=>∃i,a=[.int i]/\Q (.int (if i<0 then -i else i)) H) am:=by
 intro U M H f g P Q b h c w q;unfold am at w
 split at w
 .rename_i i
  cases c with
  |cons d e=>
   cases e;cases d.int;exact#[i,rfl,q _ H (.int _) .refl rfl w]
 grind
end
end Dp
namespace L2
def FU(H:Hp)(L:q_ Db)(f:Db->Obj):Hp:=λb=>if b∈L then(H b).map^HO.frz^f b else H b
def DR{H:Hp}{L:q_ Db}{f:Db->Obj}{b:Db}(h:b∉L):FU H L f b=H b:=by unfold FU;rw[if_neg h]
def Ll{H:Hp}{L:q_ Db}{f:Db->Obj}{b:Db}{o:HO}(h:b∈L)(e:H b=P3 o):FU H L f b=P3^.frz (f b) o:=by unfold FU;grind
section
variable {X:Cx}{zH:q_ (Addr×Obj)}{Z:L2.St}{H:Hp}{s:Shared}
def Inv.frz{L:q_ Db}(I:Inv X zH Z H s)(k:∀b∈L,∃d,H b=P3^.dK d):∃f,Inv X zH Z (FU H L f) s:=by
 have a:∀(f:Db->Obj) b o,H b=P3 o->(∀d,o≠.dK d)->FU H L f b=P3 o:=λf b o e n=>by
  rw[DR λx=>by grind];exact e
 exists λb=>(s.heap.get? b).getD {cls:=.none,data:=.fields #[]};refine I.step (g':=s.gens) (d':=s.drawn) (t':=s.toks) (h':=s.heap) (ch:=[]) (λ_ z=>nomatch z) (λ_ _ _ _ _ e _=>e) (λb o _ _ _ e _=>#[o.slots,e]) (λb o _ e n=>?_) (λb o _ e=>#[o,e]) (λb l e=>a _ b _ e λ_ z=>by cases z) (λb o u e=>a _ b _ e λ_ z=>by cases z) (λb A e=>#[#[],by grind]) (λ_ h=>h) (λb u e=>?_) I.bare
 .unfold FU
  simp_all
 .by_cases g:b∈L
  .let#[d,i]:=k b g
   rw[Ll g i]at e;cases e;let#[z,y,m,r,p,t,v,j,c]:=(show ObjOk X.prog X.w H s.heap b^.dK d from I.hok b _ i);exact#[by rw[j];rfl,z,y,m,r,p,t,v,j,c]
  .rw[DR g]at e
   exact(I.hok b u e).stay (λ_ _ _ q=>q) (λc q=>a _ c _ q λ_ z=>by cases z) λc l q=>a _ c _ q λ_ z=>by cases z
def cW(t:TE):TE:=λZ H Q=>t Z H λv c=>∃L:q_ Db,(∀b∈L,∃a,c b=P3^.dK a)/\∀f:Db->Obj,Q v^FU c L f
def Sa{e:fZ}{t:TE}(h:PE X e t):PE X e^cW t:=by
 intro zH s Z H Q I a;refine thn (h _ s Z H _ I a) λu g zz=>?_;let#[v,i,b,r,L,c,q]:=zz;let#[f,d]:=b.frz c;exact#[v,_,d,r,q f]
end
end L2
namespace Dp
open L2
def CJ:D->r_^q_ Key
 |.tup a=>Hc a
 |_=>n_
def Gu(c:D->r_^q_ Key)(f:q_ D):Prop:=f.Pairwise λa b=>∀d e,c a=P3 d->c b=P3 e->BF e d=p_
def Keyed(a:D->r_^q_ Key)(b:q_ D):Prop:=(∀x∈b,∃k,a x=P3 k/\k≠[])/\∀x∈b,∀y∈b,∀c d,a x=P3 c->a y=P3 d->Bz c d=o_
def range_getD(a:q_ D):(fo a.length).map (λi=>a.getD i .non)=a:=by
 apply List.ext_getElem
 .simp
 simp_all
def PM{kf:D->r_^q_ Key}{c:q_ D}{a:q_^q_ Key}{b:q_ Nat}(m:a.length=c.length)(r:∀(i:Nat) (x:D),c[i]?=P3 x->∃k,a[i]?=P3 k/\kf x=P3 k)(h:K8 a b):
  (b.map λi=>c.getD i .non).Perm c/\Gu kf (b.map λi=>c.getD i .non):=by
 let#[d,s]:=h;constructor
 .have:=d.map λi=>c.getD i D.non
  rw[m,range_getD]at this;exact this
 .unfold Gu
  rw[lj];intro i j n f l t u o p;rw[List.getElem_map]at o p;rw[FM]at n f;have v:b.length=a.length:=by rw[d.length_eq,jj]
  have g:∀i (h:i<b.length) k,kf (c.getD b[i] .non)=P3 k->a.getD (b.getD i 0) []=k:=λi h k e=>by
   have w:b[i]<a.length:=gu.mp^d.mem_iff.mp^f7 h;have q:b[i]<c.length:=by rw[←m];exact w
   let#[C,y,z]:=r b[i] c[b[i]] (On q);have A:c.getD b[i] .non=c[b[i]]:=by rw[fw,On q];rfl
   rw[A,z]at e;have B:b.getD i 0=b[i]:=by rw[fw,On h];rfl
   rw[B,fw,y];exact fG e
  have:=s i j (j8 l)^by rw[←v];exact f
  rw[g i n t o,g j f u p]at this;exact this
theorem FK{b:D->r_^q_ Key}:∀{xs:q_ D},(∀x∈xs,∃k,b x=P3 k/\k≠[])->∃a:q_^q_ Key,a.length=xs.length/\(∀(i:Nat) (x:D),xs[i]?=P3 x->∃k,a[i]?=P3 k/\b x=P3 k/\k≠[])
 |[],_=>#[[],rfl,λi x e=>by simp at e]
 | x::xs,h=>by
  let#[k,d,f]:=h x Re;let#[a,l,g]:=FK (xs:=xs) λy c=>h y^Sc _ c;refine#[k::a,by simp_all,λi y e=>?_];cases i with
  |zero=>
   simp_all
  |succ i=>
   simp_all
section
variable {K:Frag}{M:Addr->Prop}{H:Hp}
theorem Ats.getD:∀{b:q_ D}{a:q_ V},Ats K M H b a->∀i:Nat,At K M H (b.getD i .non)^a.getD i .non
 |[],a,h,i=>by cases(h);simp[At]
 |d::b,a,h,0=>by
  let#[v,r,e,f,c]:=h
  grind
 |d::b,a,h,i+1=>by
  let#[v,r,e,f,c]:=h;subst e
  simpa using Ats.getD c i
theorem Ats.pick{b:q_ D}{c:q_ V}(h:Ats K M H b c):∀a:q_ Nat,Ats K M H (a.map λi=>b.getD i .non)^a.map λi=>c.getD i .non
 |[]=>rfl
 |i::a=>#[_,_,rfl,h.getD i,Ats.pick h a]
def HC{o:D->r_^q_ Key}{f:q_ D}{t:q_ V}{c:q_^q_ Key}(p:∀d k v,d∈f->o d=P3 k->At K M H d v->∃a,v=.ref a/\SqT K H a^k.map kOf)(u:Ats K M H f t)(z:Keyed o f)(w:c.length=f.length)(A:∀(i:Nat) (x:D),f[i]?=P3 x->∃k,c[i]?=P3 k/\o x=P3 k/\k≠[]):KeysAt K H t c:=by
 have b:∀(i:Nat) (h:q_ Key),c[i]?=P3 h->∃x,f[i]?=P3 x/\o x=P3 h/\h≠[]:=λi h e=>by
  have l:i<f.length:=by rw[←w];exact(eq.mp e).1
  let#[k,g,m,n]:=A i f[i] (On l);rw[e]at g;cases g;exact#[f[i],On l,m,n]
 refine#[u.length.trans w.symm,λi h e=>?_,λx q y B=>?_,λx q=>?_]
 .let#[d,g,m,_]:=b i h e
  let#[v,n,C]:=u.get g;let#[a,rfl,E]:=p d h v (f8 g) m C;exact#[a,n,E]
 .let#[i,l]:=h9.mp q
  let#[j,F]:=h9.mp B;let#[d,g,m,_]:=b i x l;let#[G,r,s,_]:=b j y F;exact z.2 d (f8 g) G (f8 r) x y m s
 .let#[i,l]:=h9.mp q
  let#[d,g,m,n]:=b i x l;exact n
def HD{d:D}{k:q_ Key}{v:V}(e:CJ d=P3 k)(h:At K M H d v):∃a,v=.ref a/\SqT K H a^k.map kOf:=by
 cases d with
 |tup g=>
  let#[a,i,b,c,f]:=h
  have:=GW (e) f
  subst this;exact#[a,b,c.sq]
 |_=>cases e
def Ds(c:q_ D)(P:D->Prop):Prop:=∃d b,c=[d]/\EY d=P3 b/\b.length<64/\Keyed CJ b/\∀a:q_ D,a.Perm b->Gu CJ a->P^.lst a
def ER:Do K .fr (SA K) Ds:=by
 intro U M H E F P Q o p r w q;let#[d,G,rfl,e,c,g,w]:=w;let#[v,rfl,s]:=Ep r;let#[t,a,u,rfl,f,y]:=LL s e (λ_ z=>z) p;let#[h,j,m]:=FK g.1;refine#[t,a,u,_,rfl,y M H (Pres.refl _ _)^Ext.refl _ _,by rw[f.length];exact c,HC (λd k v _=>HD) f g j m,λA l B n=>?_];let#[C,D]:=PM (kf:=CJ) j (λi x e=>by let#[k,a,b,_]:=m i x e;simp_all) B;exact q _ _ _ (Aq n) (DU n^f.pick A)^w _ C D
end
section
variable {X:Cx}{a e:Expr}{zT:Kd}{wa:DW}{pos p fp kp:Pos}
def XY(W:W2)(wa:DW):DW:=λn h P=>wa n h λd e=>∃(c:q_ D) (f:D->D),EY d=P3 c/\c.length<64/\(∀x∈c,∀g:D->Nat->Prop,g (f x) e->W [.sh x] e g)/\Keyed (λx=>CJ^f x) c /\
 ∀b:q_ D,b.Perm c->Gu (λx=>CJ^f x) b->P (.lst b) e
def Tr{k:Nat}{fn pn:Str}{W:W2}(G:Got X.prog X.w X.K X.mg X.base fn k [pn] .sh W)(hr:Room (k+2) X.A)(hg:Gl X "sorted")(hm:X.mg "sorted"=n_)(a0:Gl X fn)(he:DE X e zT wa)
  (J:starEach [e] X.env=[(p_,eval e X.env)]:=by rfl) (a1:(fn==("__debug__":Str))=p_:=by cbv):DE X (.Call (.Name "sorted" p) [e] [#[P3 "key",.Name fn fp,kp]] pos) .fr^XY W wa:=by
 let#[f,fd,F,a2,b1,hb,hW]:=G;let#[t,h1,h2]:=he;refine#[_,SY F hr hg hm a0 a2 hb h1 J a1,λC M H n ρ Z P Q R w q=>?_];refine h2 C M H n ρ Z _ _ R w λv H1 d Y e1 f1 r1 p=>?_;let#[j,B,hd,a3,hw,hK,w]:=p;have L:=R.step e1 f1;let#[κ,l,us,rfl,J,sq]:=LL (U:=C.U) (r1.tpOf R.dom R.vM) hd R.uV L.vM;let#[N,hl,hk]:=FK hK.1;have s:=J.length;refine#[κ,l,us,N,λc H2=>Ext C.U H1 H2/\FeedC X.K C.F M H2 Y/\c.length<=j.length/\∀(i:Nat) (k:V),c[i]?=P3 k->∃x,j[i]?=P3 x/\At X.K M H2 (B x) k,rfl,sq M H1 (Pres.refl _ _)^Ext.refl _ _,by rw[s];exact a3,#[Ext.refl _ _,f1,Uf _,λi k z=>absurd (show(n_:r_ V)=P3 k from z) λh=>nomatch h],λc H2 v hJ hv=>?_,λc H2 hJ a4=>?_]
 .let#[ex,u,a5,E]:=hJ
  have m:=L.step ex u;have hi:c.length<j.length:=by rw[←s];exact(eq.mp hv).1
  have O:j[c.length]?=P3 j[c.length]:=On hi;let#[v',e2,hA]:=(J.pres^L.pres ex).get O;rw[hv]at e2;cases e2;refine#[rfl,C.F,C.U,C.V,M,Y,[.sh j[c.length]],λd n=>d=B j[c.length]/\n=Y,#[m.dom,m.fU,m.uV,m.vM,u,.cons #[#[v,rfl,hA],rfl] .nil],hw _ (f7 hi) _ #[rfl,rfl],λr H3 d n' S f3 vr hd=>?_];let#[rfl,rfl]:=hd;refine#[ex.trans S,f3,by rw[XV,fS];lk,λi k o=>?_]
  by_cases a6:i<c.length
  .rw[hX a6]at o
   let#[x,h3,h4]:=E i k o;exact#[x,h3,h4.pres^m.pres S]
  .rw[iL^by lk]at o
   have a7:i=c.length:=by
    have:=(eq.mp o).1
    rw[fS]at this;lk
   subst a7;rw[Nat.sub_self]at o;cases(show P3 r=P3 k from o);exact#[_,O,vr]
 .let#[ex,u,a5,E]:=hJ
  have m:=L.step ex u;have a8:c.length=j.length:=by rw[a4,s]
  have a9:Ats X.K M H2 (j.map B) c:=by
   have go:∀(j:q_ D) (c:q_ V),c.length=j.length->(∀(i:Nat) (k:V),c[i]?=P3 k->∃x,j[i]?=P3 x/\At X.K M H2 (B x) k)->Ats X.K M H2 (j.map B) c:=by
    intro j
    induction j with
    |nil=>intro c h _;exact jQ.mp h
    | cons x j ih=>
     intro c h hh;cases c with
     |nil=>cases h
     | cons k c=>
      let#[T,e3,h3]:=hh 0 k rfl;cases(show P3 x=P3 T from e3)
      exact#[k,c,rfl,h3,ih c (by simpa using h) λi k' e4=>by
       let#[y,e5,h5]:=hh (i+1) k' (by simpa using e4);exact#[y,by simpa using e5,h5]]
   exact go j c a8 E
  have b0:Keyed CJ^j.map B:=by
   refine#[λy hy=>?_,λy hy z hz ka kb ea eb=>?_]
   .let#[x,hx,rfl]:=TM.mp hy
    exact hK.1 x hx
   .let#[x,hx,rfl]:=TM.mp hy
    let#[T,I,rfl]:=TM.mp hz;exact hK.2 x hx T I ka kb ea eb
  refine#[HC (λd k v _=>HD) a9 b0 (by rw[hl,FM]) λi x e=>?_,λix l ho hn=>?_]
  .rw[fK]at e
   let#[T,I,rfl]:=fq.mp e;exact hk i T I
  .let#[o1,o2]:=PM (kf:=λx=>CJ^B x) hl (λi x e=>by let#[k,a,b,_]:=hk i x e;exact#[k,a,b]) ho
   have g:Grow H2 (Ar H2 l^.lst^ix.map λi=>us.getD i .non):=Aq hn;refine q _ _ (.lst^ix.map λi=>j.getD i .non) Y ((e1.trans ex).trans g.ext) (u.grow g) (VR.back (e1.trans ex) ?_)^w _ o1 o2;exact DU hn^(J.pres^L.pres ex).pick ix
def W9:Key->D
 |.inl i=>.int i
 |.inr x=>.str x
def Lg:Key->Prop
 |.inl _=>True
 |.inr x=>x.length<=sizeLine
def Tx{K:Frag}{M:Db->Prop}{H:Hp}{k:Key}(h:Lg k):At K M H (W9 k)^kOf k:=by
 cases k with
 |inl i=>exact rfl
 |inr x=>exact#[rfl,h]
end
end Dp
namespace L2
section
open PySem.MeetsSeq
open PySem.AutoSeq1 (wpAny_loadPart')
def R7(l:Db)(items:Array Ev)(n:Nat)(x:Ev)(e:Ev->Bool)(j:Nat)(hj:j<items.size)(hit:e items[j]=o_)(hs1:items.size<=sizeLine)(prog:fT)(w:fY)(A:fb)(R:Result->No->Prop)(hp:fO)(g:Array GenState)(d:Drawn)(tk:Nat)(os:_)
  (hl:hp.get? l=P3 {cls:=.type "list",dict:=n_,data:=.seq items n,slots:=#[]}) (he:∀y,y∈items->PySem.SeqAt.EqAt A.in1 #[hp,g,d,tk,os] y x^e y) (h:R (.ok^.ret .none) #[hp.update l^gH λxs=>xs.eraseIdxIfInBounds j,g,d,tk,os]):
  ∀k i:Nat,j - i=k->i<=j->(∀m (hm:m<items.size),i<=m->m<j->e items[m]=p_)->
   wpAny (model prog w) A.in1 (h8.«list.remove.loop» #[[.ref l,x,rawInt i],[]]) (λfin s'=>match fin with|.done f=>R (.ok f) s'|.again c'=>c'.quiet=o_/\codeAny (model prog w) A c' R s') (λe s'=>R (.error e) s') #[hp,g,d,tk,os]:=by
 intro k
 induction k with
 |zero=>
  intro i hk hij hno;have hij':i=j:=by lk
  subst hij'
  wp_walk using gg hl
  have hi:items[((i:Nat):Int).toNat]?=P3 items[i]:=by simp[hj]
  rw[hi];refine Ch^he _ (lc hj) prog w _ _ ?_;rw[hit];have hz':(items.eraseIdxIfInBounds i).size<=sizeLine+1:=fJ (size_erased items _)^Nat.le_succ_of_le hs1
  wp_walk using (jZ hl rfl (hz:=hs1) (_hz':=hz')),gg hl
  simpa using h
 | succ k ih=>
  intro i hk hij hno;have hlt:i<items.size:=by lk
  wp_walk using gg hl
  have hi:items[((i:Nat):Int).toNat]?=P3 items[i]:=by simp[hlt]
  have hc:((i:Int)+1)=((i+1:Nat):Int):=by push_cast;rfl
  rw[hi];refine Ch^he _ (lc hlt) prog w _ _ ?_;rw[hno i hlt (Rs _)^by lk]
  wp_walk
  rw[hc]
  exact#[iC plain_remove_loop _,gy entry_remove_loop (by
   rw[iF plain_remove_loop _];exact ih (i+1) (by lk) (by lk) λm hm h1 h2=>hno m hm (by lk) h2)]
def R8{prog:fT}{w:fY}{A:fb}{E:Ev->No->Prop}{s:No}{Q:Ev->No->Prop}(l:Db)(items:Array Ev)(n:Nat)(x:Ev)(e:Ev->Bool)(j:Nat)(hj:j<items.size)(hit:e items[j]=o_)(hno:∀m (hm:m<items.size),m<j->e items[m]=p_)
  (hs1:items.size<=sizeLine) (hl:s.heap.get? l=P3 {cls:=.type "list",dict:=n_,data:=.seq items n,slots:=#[]}) (he:∀y,y∈items->PySem.SeqAt.EqAt A.in1 s y x^e y)
  (h:Q .none {s with heap:=s.heap.update l^gH λxs=>xs.eraseIdxIfInBounds j}):wpAny (model prog w) A (call (.builtin "list.remove") [.ref l,x]) Q E s:=by
 have key:wpAny (model prog w) A.in1 (h8.«list.remove» #[[.ref l,x],[]]) (λfin s'=>match fin with|.done f=>wants Q E (.ok f) s'|.again c'=>c'.quiet=o_/\codeAny (model prog w) A c' (wants Q E) s') (λe s'=>wants Q E (.error e) s') s:=by
  let#[hp,g,d,tk,os]:=s
  wp_walk using gg hl
  exact#[iC plain_remove_loop _,gy entry_remove_loop (R7 l _ n x e j hj hit hs1 _ w A _ hp g d tk os hl he h _ 0 rfl (Uf _) (λm hm _ h2=>hno m hm h2))]
 exact iK^iZ PySem.F.slot_list_remove.plain PySem.F.entry_list_remove^PySem.F.slot_list_remove.check _ _ _ _ _ _ _ _ #[_,hl,rfl] (PySem.F.args_list_remove_2 _ _) key
end
section
variable {X:Cx}
def O0:V->q_ V->Hp->VK->Prop:=λx f H Q=>∃(l:Db) (b:q_ V) (y:V) (a:q_ jX) (d:jX) (j:Nat),x=.ref l/\f=[y]/\H l=P3^.lst b/\RVs H a b/\RV H d y/\iH a=o_/\d.canLay0=o_/\d.depth<=100 /\
 (∃c,a[j]?=P3 c/\gI c d=o_)/\(∀m e,m<j->a[m]?=P3 e->gI e d=p_)/\Q .non^Ar H l^.lst^b.eraseIdx j
def Qa{k:Nat}(L:Room k X.A):XH X "list.remove" O0:=by
 intro Y s Z H x vs v us Q I M N h;let#[l,O,y,c,d,j,rfl,rfl,D,o,P,E,R,dd,#[S,F,p],t,q]:=h;cases M;let#[u,rfl,T]:=N.one;let#[z,a,n,r,hl,e]:=I.lstM D;let#[U,G]:=RVs.reads I o r;let#[bs,V]:=RV.reads I P T;have J:=PySem.SeqAt.readsAll_map c a U E G;have b:c.length=a.length:=by rw[←J,FM]
 have hu:=L.un;have K:min (gq c) d.depth<=d.depth:=jN _ _
 have f:∀m w,c[m]?=P3 w->∀(h:m<a.toArray.size),PySem.SeqAt.readOf s.heap a.toArray[m]=w:=λm w e h=>by
  rw[←J,fK]at e;have W:m<a.length:=by simpa using h
  rw[On W]at e;have e:=fG e
  simpa using e
 have B:j<a.length:=by rw[←b];exact(eq.mp F).1
 refine R8 l a.toArray n u (λy=>gI (PySem.SeqAt.readOf s.heap y) d) j (by rw[fM];exact B) (by rw[f j S F];exact p) (λm g C=>?_) (by rw[fM];lk) e (PySem.SeqAt.items_eqAt (vs:=a.toArray) (by rw[List.toList_toArray];exact G) V E R^by lk) ?_
 .have i:m<c.length:=by rw[b];simpa using g
  rw[f m c[m] (On i) g];exact t m c[m] C (On i)
 .refine#[.non,_,I.lset (t':=s.toks) (its':=a.eraseIdx j) D e ?_ (r.eraseIdx j) ?_,rfl,q]
  .show a.toArray.eraseIdxIfInBounds j=(a.eraseIdx j).toArray
   rw[List.eraseIdxIfInBounds_toArray]
  .have:=HA O j
   lk
def O1:V->q_ V->Hp->VK->Prop:=λx b H Q=>∃(l:Db) (a:q_ V) (i:Int) (y:V),x=.ref l/\b=[.int i,y]/\H l=P3^.lst a/\0<=i/\i<=(a.length:Int)/\i<1000000000/\a.length<sizeLine/\Q .non^Ar H l^.lst (a.take i.toNat++y::a.drop i.toNat)
def Vf(a:q_ Ev)(u:Ev)(i:Int)(e:0<=i)(f:i<=(a.length:Int)):
  (λb:Array Ev=>have k:=if i<0 then(i+(b.size:Int)).toNat else min i.toNat b.size;(b.extract 0 k).push u++b.extract k) a.toArray=(a.take i.toNat++u::a.drop i.toNat).toArray:=by
 have c:¬i<0:=by lk
 have d:min i.toNat a.length=i.toNat:=by lk
 simp only[if_neg c,d]
 grind
def Qb:XH X "list.insert" O1:=by
 intro p s Z H x w v A Q I j k h;let#[l,B,i,y,rfl,rfl,d,m,C,D,E,q]:=h;cases j;let#[u,f,rfl,o,c]:=vals2 k;let#[t,rfl]:=o;let#[z,a,n,r,G,e]:=I.lstM d
 have b:¬(!Builtin.List.listFitsIndex i)=o_:=by
  rw[fitsIndex_both (by lk)^by lk]
  grind
 have g:=AutoSeq1.list_insert_list_int_val_1 l a.toArray n i t f b (by grind);refine call_meets F.slot_list_insert #[_,e,rfl] F.entry_list_insert (F.args_list_insert_3 _ _ _) g #[e,?_];refine#[.non,_,I.lset d e (Vf a f i m^by grind) ((r.take _).append^.cons c^r.drop _) ?_,rfl,q]
 grind
end
end L2
namespace Dp
open L2
def dC(d:D)(b:q_ D)(P:D->D->Prop):Prop:=∃(a:q_ D) (y:D) (j:Nat),d=.lst a/\b=[y]/\CD^.lst a/\CD y/\(∃x,a[j]?=P3 x/\Cu x y=o_)/\(∀m x,m<j->a[m]?=P3 x->Cu x y=p_)/\P (.lst^a.eraseIdx j) .non
def bD{K:Frag}:UU K O0 dC:=by
 intro M H a d G I P Q m t n w q;let#[b,y,j,rfl,rfl,#[o,s,_],#[v,z,A],#[x,B,c],f,w]:=w;let#[h,i,k]:=t;let#[u,r,rfl,C,D]:=n;cases(show r=[]from D)
 have g:∀(m:Nat) (p:jX),(BD b)[m]?=P3 p->∃x,b[m]?=P3 x/\p=toPy x:=λm p e=>by
  rw[B9,fK]at e;let#[x,l,rfl]:=fq.mp e
  grind
 refine#[a,h,u,BD b,toPy y,j,rfl,rfl,i,k.rv o,C.rv v,s,z,A,#[toPy x,by rw[B9,fK,B];rfl,c],λm p E e=>?_,q _ (.lst^b.eraseIdx j) .non _ #[h.eraseIdx j,AR,?_] rfl w]
 .let#[F,l,rfl]:=g m p e
  exact f m F E l
 .exact(k.eraseIdx j).pres^Cg m i
def Ye(d:D)(b:q_ D)(P:D->D->Prop):Prop:=∃(a:q_ D) (i:Int) (y:D),d=.lst a/\b=[.int i,y]/\0<=i/\i<=(a.length:Int)/\i<1000000000/\a.length<sizeLine/\P (.lst (a.take i.toNat++y::a.drop i.toNat)) .non
def bH{K:Frag}:UU K O1 Ye:=by
 intro M H a d p s P Q m t g w q;let#[h,i,y,rfl,rfl,j,v,k,x,w]:=w;let#[l,e,b]:=t;let#[u,r,rfl,n,f,z,rfl,c,o]:=g;cases(o);cases(n);have A:=b.length;exact#[a,l,i,f,rfl,rfl,e,j,by simp_all,k,by simp_all,q _ (.lst _) .non _ #[_,AR,((b.take _).append (show Ats K M H (y::h.drop _) _ from#[f,_,rfl,c,b.drop _])).pres^Cg m e] rfl w]
def RT(c:F4)(i:AW):AW:=λd n a=>∃W:Nat->Nat->q_ Slot->Prop,(∃m,W m n a)/\∀m n a,W m n a->
 c n a λb e=>if b=o_ then ∃N:Nat->q_ Slot->Prop,(∀f g,N f g->∃h,h<m/\W h f g)/\i {d with nx:=N,ct:=N,bk:=d.nx} e a else d.nx e a
section
variable {X:Cx}{κ:Kd}{c:Expr}{body:q_ Stmt}{wc:F4}{wb:AW}{pos:Pos}
def Ga(G:j9 (model X.prog X.w) X.A X.env X.xe)(I:DT X c wc)(J:J7 X κ body wb):DS X κ (.While c body [] pos)^RT wc wb:=by
 let#[tc,O,P]:=I;let#[tb,Q,S]:=J;refine#[_,SN G O Q,λC M H n T Z y E R L w=>?_];let#[W,#[U,V],g]:=w;exists λm h t=>∃i j a,Rel X.K C i t j a h/\W m j a,#[U,M,n,T,R,V];rintro m h t ⟨i,j,a,z,Y⟩;refine P C i t j a h _ _ z (g m j a Y) λb H2 B e f p=>?_;have R2:=z.step e f;cases b with
 | true=>
  rw[if_pos rfl]at p ⊢;let#[N,hN,p]:=p;exists λD F=>∃u k l,Rel X.K C u F k l D/\N k l,λD F #[u,k,l,R3,w3]=>?_
  .let#[m',hm,d]:=hN k l w3
   exact#[m',hm,u,k,l,R3,d]
  .exact S C i H2 B a h {y with nx:=N,ct:=N,bk:=y.nx} _ R2 #[λo v q r x s d=>#[o,q,r,s,d],L.rt,λo v q r x s d=>L.nx o v q r x s d,λo v q r x s d=>#[o,q,r,s,d]] p
 |false=>
  rw[if_neg^by cbv]at p ⊢;exact L.nx i H2 B a h R2 p
def Gv{f:E2}{n:Nat}{a:q_ Slot}(I:Nat->Nat->q_ Slot->Prop)(i:Nat)(j:I i n a)
  (k:∀m n a (N:Nat->q_ Slot->Prop),I m n a->(∀c e g,c<m->I c e g->N e g)->wc n a λb d=>if b=o_ then wb {f with nx:=N,ct:=N,bk:=f.nx} d a else f.nx d a)
  (mono:∀n a (P Q:Bool->Nat->Prop),(∀b d,P b d->Q b d)->wc n a P->wc n a Q):RT wc wb f n a:=by
 refine#[I,#[i,j],λm n a h=>?_];refine mono n a _ _ (λb d p=>?_)^k m n a (λe g=>∃c,c<m/\I c e _) h λc e g l o=>#[c,l,o];cases b with
 |true=>exact#[_,λ_ _ z=>z,p]
 |false=>exact p
end
def J9(i:Nat)(b:BW)(c:AW):AW:=λf n d=>∃e,d[i]?=P3^.ow^.lst e/\∀a,Ae b c {f with nx:=λn d=>d[i]?=P3^.lt a^.lst e/\f.nx n^d.set i^.ow^.lst e} e n^d.set i^.lt a^.lst e
section
variable {X:Cx}{κ:Kd}{tg:Expr}{body:q_ Stmt}{b:BW}{wb:AW}{pos p:Pos}{x:Str}{i:Nat}
def IK(hp:j9 (model X.prog X.w) X.A X.env X.xe)(hc:X.calm=o_)(h:PE X (.Name x p)^Bp i)(hg:DG X tg b)(hb:J7 X κ body wb)
  (hs:∀y,foldedSetIterable (.Name x p) X.env y=pure y:=by intro _;rfl):DS X κ (.For tg (.Name x p) body [] pos)^J9 i b wb:=by
 let#[g,g1,g2]:=hg;let#[tb,b1,b2]:=hb;refine#[_,G3 hp hc (LR h) g1 b1 hs,λC M H n o Z Y E R L w=>?_];let#[c,hi,w]:=w;let#[a,e1,hm,nv,j,hH,D]:=R.sl i _ hi;have hk:∀q∈C.kp,q.1≠a:=λq F z=>(R.kept q F).2.2.2 i _ hi (by rw[e1,z]);have R1:=(R.lend hi e1 hH).pinned;refine#[.ref a,getD_some e1,.inl #[a,rfl,#[j,.inl^.inl hH],?_]];have w1:=w a;generalize G:({Y with nx:=λn o=>o[i]?=P3^.lt a^.lst c/\Y.nx n^o.set i^.ow^.lst c}:E2)=l at w1
 have L3:∀M H n o Z,Rel X.K {C with kp:=(a,.lst j)::C.kp} M H n o Z->l.nx n o->E.nx Z H:=λM H n o Z R w=>by
  rw[←G]at w;exact L.nx M H n _ Z (R.unlend w.1 hk) w.2
 have a0:l.rt=Y.rt:=by rw[←G]
 exists λk m S t=>m=c.length - k/\k<=c.length/\∃u B I,Rel X.K {C with kp:=(a,.lst j)::C.kp,zH:=(M,H)::C.zH} u t B I S/\Ae b wb l (c.drop k) B I,#[c.length,by simp,Uf _,M,n,_,R1,w1];rintro k m S t ⟨rfl,a3,u,B,I,T,U⟩;have pr:Pres M H u t:=T.pin (M,H) Re;have a1:t a=P3^.lst j:=(T.kept (a,.lst j) Re).1;have F:SqL X.K t a j:=.inl^.inl a1
 by_cases s:k<c.length
 .have ed:c.drop k=c[k]::c.drop (k+1):=gZ s
  rw[ed]at U;let#[v,ev,hv]:=(D.pres pr).get^On s;refine .inr #[#[j,v,F,ev],λzN H2=>∃M2 V W,Rel X.K {C with kp:=(a,.lst j)::C.kp,zH:=(M,H)::C.zH} M2 H2 V W zN/\Ae b wb l (c.drop (k+1)) V W,λzN H2 #[M2,V,W,a2,w2]=>#[c.length - (k+1),by lk,rfl,s,M2,V,W,a2,w2],λy H2 hy=>?_];let#[e2,hy]:=hy;subst e2
  have:P3 v=P3 y:=ev.symm.trans^hy j F
  cases this;refine g2 _ u H2 B I S c[k] v _ _ T hv U λzO zV R3 w3=>?_;refine b2 _ u H2 B zO zV {l with nx:=Ae b wb l^c.drop (k+1),ct:=Ae b wb l^c.drop (k+1),bk:=l.nx} _ R3 #[λJ H4 N O zS P Q=>#[J,N,O,P,Q],λv H d n e f r p=>L.rt v H d n e f r (by rw[←a0];exact p),λJ H4 N O zS P Q=>L3 J H4 N O zS P.unpin Q,λJ H4 N O zS P Q=>#[J,N,O,P,Q]] w3
 .have e:k=c.length:=by lk
  subst e;rw[iq]at U;exact .inl #[#[j,F,by rw[D.length];exact Rs _],L3 u t B I S T.unpin U]
end
end Dp
namespace L2
open PySem.W
section
variable {prog:Program}{w:World}{A:Around}{E:Value->Shared->Prop}{R:Result->Shared->Prop}{I:Addr}{fp wr:q_ Addr}{n:Nat}{P:Nat->Value->Prop}{St:Nat->Heap->Prop}
def XM(prog:fT)(w:fY)(A:fb)(c:CmpOp)(P:Nat->Ev->Prop)(d:fO->Prop)(e:Nat->Nat->Bool):Prop:=
 ∀i j a b (s:No) (Q:Ev->No->Prop) (E:Ev->No->Prop),d s.heap->P i a->P j b->Q (.bool^e i j) s->wpAny (model prog w) A (richCompare c a b) Q E s
def Qd(W:Walks prog w A.in1 I fp wr n P St)(D:Nat->Nat->Bool)(G:fO->Prop)(H:XM prog w A.in1 .Lt P G D)(S:Db)(J:S∉fp)(g:∀h u:fO,G h->(∀b o,b∉wr->b≠S->h.get? b=P3 o->u.get? b=P3 o)->G u):
  ∀(k j:Nat) (s:No) (r:Ev) (c:Nat),n - (j+1)=k->j+1<=n->St (j+1) s.heap->G s.heap->P (argBest D j) r->
  s.heap.get? S=P3 {cls:=.type "list",dict:=n_,data:=.seq #[ r,r] c,slots:=#[]}->
  (∀v u O,P (argBest D (n - 1)) v->(∀b o,b∉wr->b≠S->s.heap.get? b=P3 o->u.get? b=P3 o)->R (.ok^.ret v) {s with heap:=u,toks:=O})->
  codeAny (model prog w) A (.builtin "min.loop" #[[.ref I,.none,.ref S],[]]) R s:=by
 have K:S∉wr:=λh=>J^W.sub _ h;have i:(toString "min"++toString ".loop":String)="min.loop":=by cbv
 intro k
 induction k with
 |zero=>
  intro j s r c Z hj y L t M Q;have N:j+1=n:=by lk
  refine gy PySem.F.entry_min_loop ?_;rw[iF PySem.F.plain_min_loop _];show wpAny _ A.in1 (seqItems?^.ref S >>=_) _ _ s;refine Ch (hG M rfl ?_);show wpAny _ A.in1 (tryCatch (pyNext^.ref I) _ >>=_) _ _ s;refine Ch^lI^W.done s _ _ (N▸y) λu O a=>?_;have l:=a S _ K M;show wpAny _ A.in1 (updateSeq S (λ_=>#[]) >>=_) _ _ _;refine Ch ?_;refine jZ l rfl (Ch^jd^TW ?_);refine Q r _ O (by rw[←N];exact t) λb o d f e=>(fL _ _^gE f).trans^a b o d e
 | succ k V=>
  intro j s r c Z hj y L t M Q;have z:j+1<n:=by lk
  refine gy PySem.F.entry_min_loop ?_;rw[iF PySem.F.plain_min_loop _];show wpAny _ A.in1 (seqItems?^.ref S >>=_) _ _ s;refine Ch (hG M rfl ?_);show wpAny _ A.in1 (tryCatch (pyNext^.ref I) _ >>=_) _ _ s;refine Ch^lI^W.item (j+1) s _ _ z y λv u O X x a=>?_;have l:=a S _ K M;have m:G u:=g _ _ L λb o h1 _ e=>a b o h1 e;show wpAny _ A.in1 (tryCatch (holding [v,v] (richCompare .Lt v r >>=_)) _ >>=_) _ _ _;refine Ch^lI^gG^Ch^H (j+1) (argBest D j) v r _ _ _ m X t ?_;refine Ch^gG^iG ?_;refine Ch^jd^TW ?_;cases Y:D (j+1)^argBest D j with
  | true=>
   simp only[if_true];refine Ch ?_;refine jZ l rfl (Ch^jd ?_);rw[i]
   refine TW #[iC PySem.F.plain_min_loop _,V (j+1) _ v _ (by lk) z (W.frame _ _ _ x λb T o e=>?_) (g _ _ m λb o _ h2 e=>(fL _ _^gE h2).trans e) (by simp only[argBest,Y,if_true];exact X) (gA _ l rfl)
    λU B p C q=>?_]
   .exact(fL _ _ λh:S=b=>J^by rw[h];exact T).trans e
   .exact Q U B p C λb o d f e=>q b o d f^(fL _ _^gE f).trans^a b o d e
  |false=>
   simp only[gQ,if_false];refine Ch^jd ?_;rw[i];refine TW #[iC PySem.F.plain_min_loop _,V (j+1) _ r c (by lk) z x m (by simp only[argBest,Y,gQ,if_false];exact t) l λU B p C q=>?_];exact Q U B p C λb o d f e=>q b o d f^a b o d e
def OB(W:Walks prog w A.in1 I fp wr n P St)(x:Nat->Nat->Bool)(j:fO->Prop)(k:XM prog w A.in1 .Lt P j x)(S:Db)(d:S∉fp)(a:∀h f:fO,j h->(∀b o,b∉wr->b≠S->h.get? b=P3 o->f.get? b=P3 o)->j f)(G:0<n){s:No}{c:Nat}(y:St 0 s.heap)(z:j s.heap)
  (H:s.heap.get? S=P3 {cls:=.type "list",dict:=n_,data:=.seq #[] c,slots:=#[]})
  (K:∀v f J,P (argBest x (n - 1)) v->(∀b o,b∉wr->b≠S->s.heap.get? b=P3 o->f.get? b=P3 o)->R (.ok^.ret v) {s with heap:=f,toks:=J}):
  codeAny (model prog w) A (.builtin "min.loop" #[[.ref I,.none,.ref S],[]]) R s:=by
 have B:S∉wr:=λh=>d^W.sub _ h;have g:(toString "min"++toString ".loop":String)="min.loop":=by cbv
 refine gy PySem.F.entry_min_loop ?_;refine Ch (hG H rfl ?_);refine Ch^lI^W.item 0 s _ _ G y λv f J L l i=>?_;have m:=i S _ B H;have p:j f:=a _ _ z λb o M _ e=>i b o M e;show wpAny _ A.in1 (updateSeq S (λ_=>#[ v,v]) >>=_) _ _ _;refine Ch ?_;refine jZ m rfl ?_;rw[g];refine TW #[iC PySem.F.plain_min_loop _,Qd W x j k S d a _ 0 _ v _ rfl G (W.frame _ _ _ l λb N o e=>?_) (a _ _ p λb o _ O e=>(fL _ _^gE O).trans e) L (gA _ m rfl) λQ C q D r=>?_]
 .exact(fL _ _ λh:S=b=>d^by grind).trans e
 .exact K Q C q D λb o t u e=>r b o t u^(fL _ _^gE u).trans^i b o t e
def min_list{s:No}{l:Db}{a:Array Ev}{Q:Ev->No->Prop}(u:Nat->Nat->Bool)(G:A.handled=n_)(x:s.heap.IsList l a)(H:0<a.size)
  (m:∀i j r t (p:No) (Q:Ev->No->Prop) (E:Ev->No->Prop),(∀b o,s.heap.get? b=P3 o->p.heap.get? b=P3 o)->a[i]?=P3 r->a[j]?=P3 t->Q (.bool^u i j) p->wpAny (model prog w) A.in1 (richCompare .Lt r t) Q E p)
  (h:∀v k y,a[argBest u (a.size - 1)]?=P3 v->(∀b o,s.heap.get? b=P3 o->k.get? b=P3 o)->Q v {s with heap:=k,toks:=y}):wpAny (model prog w) A (call (.builtin "min") [.ref l]) Q E s:=by
 have d:(toString "min"++toString ".loop":String)="min.loop":=by cbv
 have f:l<s.heap.objs.size:=by let#[_,e,_]:=x;exact T0 e
 refine call_function_tree PySem.F.kind_min PySem.F.plain_min PySem.F.entry_min (PySem.F.args_min1 _) ?_;show wpAny _ A.in1 (lP "min" ["key","default"] 0 #[[],[]] >>=_) _ _ s;refine Ch^iB (show lP "min" ["key","default"] 0 #[[],[]]=pure [n_,n_]from rfl) ?_;refine Ch^TW ?_;refine Ch^hU x ?_;refine Ch^gi ?_;rw[d];have W:=Walks.list (prog:=prog) (w:=w) (A:=A.in1) G s.heap.objs.size l (fQ f) a;have g:(s.heap.push {cls:=.type "list_iterator",data:=.fields #[ .ref l,.int 0 0]}).objs.size=s.heap.objs.size+1:=gU _ _;refine TW #[iC PySem.F.plain_min_loop _,OB W u (λk=>∀b o,s.heap.get? b=P3 o->k.get? b=P3 o) (λi j r t p Q E z C D q=>m i j r t p Q E z C D q) (s.heap.push {cls:=.type "list_iterator",data:=.fields #[ .ref l,.int 0 0]}).objs.size (λc=>?_) (λC D z B b o e=>B b o (λc=>?_) ?_^z b o e) H #[#[_,Go _ (UF _ rfl),rfl,rfl],(x.push _).push _] (λb o e=>Go _^Go _ e) (UF _ rfl) λv k y J B=>?_]
 .rw[g]at c
  rcases Tk.mp c with e|c
  .exact absurd e^Nat.succ_ne_self _
  .rw[←Op.mp c]at f
   exact absurd f^jV.mpr^fu _
 .rw[Op.mp c]at e
  exact absurd (T0 e)^gM _
 .rw[g]
  exact fQ^gj^T0 e
 .refine h v k y J λb o e=>B b o (λc=>?_) ?_^Go _^Go _ e
  .rw[Op.mp c]at e
   exact absurd (T0 e)^gM _
  .rw[g]
   exact fQ^gj^T0 e
end
theorem JZ(a:q_^q_ Key):∀m:Nat,argBest (λi j=>BF (a.getD i [])^a.getD j []) m<=m/\∀i,i<=m->BF (a.getD i [])^a.getD (argBest (λi j=>BF (a.getD i [])^a.getD j []) m) []=p_
 |0=>#[Rs _,λi b=>by
  have:i=0:=by lk
  subst this;exact B_ _]
 | m+1=>by
  let#[f,d]:=JZ a m;unfold argBest
  by_cases c:BF (a.getD (m+1) [])^a.getD (argBest (λi j=>BF (a.getD i [])^a.getD j []) m) []=o_
  .rw[if_pos c]
   refine#[Rs _,λi b=>?_]
   by_cases e:i=m+1
   .subst e;exact B_ _
   .cases z:BF (a.getD i [])^a.getD (m+1) [] with
    |false=>rfl
    |true=>
     have:=CY _ _ _ z c
     rw[d i^by lk]at this;cases this
  grind
section
variable {X:Cx}
def Wn(K:Frag):q_ V->Hp->VK->Prop:=λc H Q=>∃(p:Db) (b:q_ V) (a:q_^q_ Key),c=[.ref p]/\SqL K H p b/\0<b.length/\KeysAt K H b a /\
 ∀j v,b[j]?=P3 v->(∀i,i<b.length->BF (a.getD i [])^a.getD j []=p_)->Q v H
def Q6{k:Nat}(U:Room k X.A):Co X (.builtin "min")^Wn X.K:=by
 intro zH s Z H V us Q I r h;let#[p,vs,c,rfl,hq,hn,B,q]:=h;let#[u,rfl,rx]:=vals1 r;cases rx;let#[f,E,pl,hz]:=I.list hq;have W:=E.length;have Y:=B.tups I E λb o e=>e;have hu:=U.un;refine min_list (λi j=>BF (c.getD i [])^c.getD j []) U.hd pl.isList (by rw[fM];lk) (λi j vi vj s' Q' E' d G J L=>?_) λv h' M N d=>?_
 .have C:i<c.length:=by rw[←B.len,W];have:=(ju.mp G).1;simpa using this
  have l:j<c.length:=by rw[←B.len,W];have:=(ju.mp J).1;simpa using this
  let#[a,#[a2,dd,a0,sl],V,n,m,D,e3,e4,e5]:=Y.at_ i c[i] (On C);let#[a',#[a1,O,P,R],S,n',g,t,w,y,T]:=Y.at_ j c[j] (On l);simp only at e3 e4 w y;subst e3 e4 w y;have m:f.toArray[i]?=P3^.ref a:=by rw[←m];simp
  have g:f.toArray[j]?=P3^.ref a':=by rw[←g];simp
  rw[m]at G;rw[g]at J;cases G;cases J;have z:=B.same _ (f7 C) _^f7 l;have g1:c.getD i []=c[i]:=by rw[fw,On C];rfl
  have g2:c.getD j []=c[j]:=by rw[fw,On l];rfl
  simp only[g1,g2]at L;rw[←GU _ _ z]at L
  exact richCompare_meets_room (op:=.Lt) #[_,d _ _ D,rfl] #[_,d _ _ t,rfl] PySem.F.slot_tuple_lt PySem.F.entry_tuple_lt (PySem.F.args_tuple_lt_2 _ _) (FY a a' V S n n' dd O sl R c[i] c[j] e5 T z)
   #[d _ _ D,d _ _ t,show lg (FT c[i] c[j])≠Value.notImplemented/\Q' (.bool (FT c[i] c[j])) s' from#[(λx=>nomatch x),L]] (by show X.A.units+1<cLine;lk)
 .let#[b1,b2]:=JZ c (f.toArray.size - 1)
  rw[fM]at N b1 b2;have l:argBest (λi j=>BF (c.getD i [])^c.getD j []) (f.length - 1)<vs.length:=by lk
  let#[u,m,ru]:=E.get^On l;have D:f.toArray[argBest (λi j=>BF (c.getD i [])^c.getD j []) (f.length - 1)]?=P3 u:=by rw[←m];simp
  rw[D]at N;cases N;exact#[_,H,I.kept (t':=M) d,ru,q _ _ (On l) λi C=>b2 i^by lk]
end
end L2
namespace Dp
open L2
def af(d:q_ D)(P:D->Prop):Prop:=∃a,d=[.lst a]/\0<a.length/\Keyed CJ a/\∀x∈a,(∀y∈a,∀b c,CJ x=P3 b->CJ y=P3 c->BF c b=p_)->P x
def Yv{K:Frag}:Do K .sh (Wn K) af:=by
 intro U M H D E P Q p F r w q;let#[e,rfl,G,l,w]:=w;let#[v,rfl,s]:=Ep r;let#[a,t,rfl,_,u,f]:=s;let#[b,x,g]:=FK l.1;have c:=f.length;refine#[a,t,b,rfl,.inl u,by lk,HC (λd k v _=>HD) f l x g,λj v m z=>?_];have h:j<e.length:=by rw[←c];exact(eq.mp m).1
 let#[I,n,A]:=f.get^On h;rw[m]at n;cases n;refine q v H e[j] .refl A (w _ (f7 h) λy B J L ex N=>?_);let#[i,o]:=h9.mp B;have C:i<e.length:=(eq.mp o).1;let#[O,R,S,_]:=g i y o;let#[T,V,W,_]:=g j e[j] (On h)
 grind
end Dp
namespace Nt
open L2 Dp
theorem KS{c i:Type}{f:c->i}:∀{l:q_ c},l.Nodup->(∀a∈l,∀b∈l,f a=f b->a=b)->(l.map f).Nodup
 |[],_,_=>gL
 |a::l,h,d=>by
  rw[fX]at h;rw[gD,fX];refine#[λj=>?_,KS h.2 λx k y m=>d x (Sc _ k) y^Sc _ m];let#[b,g,e]:=TM.mp j;exact h.1 (d a Re b (Sc _ g) e.symm▸g)
def VT{f m j k:Nat}{M:Nat}(d:m<=M)(g:j<m)(i:k<m)(e:(f+j) % M=(f+k) % M):j=k:=by
 have h:∀a b,a<=b->b<m->(f+a) % M=(f+b) % M->a=b:=λa b c l e=>by
  have:=Nat.sub_mod_eq_zero_of_mod_eq e.symm
  rw[Nat.mod_eq_of_lt^by lk]at this;lk
 rcases Nat.le_total j k with c|c
 .grind
 grind
def NR(a:q_ Str):OX^a.map .str=P3 a:=by
 induction a with
 |nil=>rfl
 |cons y r b=>
  rw[gD];unfold OX
  grind
theorem D1{b:BW}{g:AW}{l:E2}{all:q_ D}(I:q_ D->Nat->q_ Slot->Prop)(i:∀n c,I all n c->l.nx n c)
  (f:∀(a:q_ D) (d:D) (j:q_ D) (n:Nat) (c:q_ Slot) (nx:Nat->q_ Slot->Prop),all=a++d::j->I a n c->(∀m o,I (a++[d]) m o->nx m o)->b d c λp=>g {l with nx:=nx,ct:=nx,bk:=l.nx} n p):
  ∀(k a:q_ D) (n:Nat) (c:q_ Slot),all=a++k->I a n c->Ae b g l k n c
 |[],a,n,c,e,h=>by
  rw[fh]at e;subst e;exact i n c h
 |d::k,a,n,c,e,h=>f _ d k n c _ e h λm o q=>D1 I i f k _ m _ (by grind) q
def Oz{c:Int}{n:Nat}{a b:q_ D}{d:D}(h:Em c n=a++d::b):d=.int (c+(a.length:Int))/\a.length<n:=by
 have f:=congrArg jw h;rw[El]at f;have e:(Em c n)[a.length]?=P3 d:=by grind
 unfold Em at e
 simp_all
structure AX where
 a:Str
 b:Str
 len:Int
structure Net where
 ps:List Str
 ts:List AX
def AJ(t:AX):D:=.tup [.str t.a,.str t.b,.int t.len]
def enc(N:Net):D:=.tup [.tup^N.ps.map .str,.tup^N.ts.map AJ]
def BZ(s t:AX):Prop:=cs s.a<cs t.a\/(s.a=t.a/\cs s.b<cs t.b)
structure Net.Ok (N:Net):Prop where
 names:∀x∈N.ps,Qp x
 rise:rising N.ps
 tin:∀t∈N.ts,t.a∈N.ps/\t.b∈N.ps/\cs t.a<cs t.b/\1<=t.len/\t.len<=1000000
 trise:N.ts.Pairwise BZ
structure Ix where
 i:Nat
 j:Nat
 len:Int
def Ix.tie(a:q_ Str)(t:Ix):AX:=#[a.getD t.i "",a.getD t.j "",t.len]
def YW(s t:Ix):Prop:=s.i<t.i\/(s.i=t.i/\s.j<t.j)
def getD_at{a:q_ Str}{i:Nat}(h:i<a.length):a[i]?=P3^a.getD i "":=by
 simp_all
def getD_mem{a:q_ Str}{i:Nat}(h:i<a.length):a.getD i ""∈a:=f8^getD_at h
def IF{a:q_ Str}(h:rising a){i j:Nat}(b:i<j)(c:j<a.length):cs^a.getD i ""<cs^a.getD j "":=by
 have d:=lj.mp h i j (by lk) c b;have e:a.getD i ""=a[i]:=by rw[fw,On _];rfl
 simp_all
def YH{a:q_ Str}{b:q_ Ix}(k:∀x∈a,Qp x)(c:rising a)(d:∀t∈b,t.i<t.j/\t.j<a.length/\1<=t.len/\t.len<=1000000)(l:b.Pairwise YW):Net.Ok #[a,b.map^Ix.tie a]:=by
 exists k,c,λt h=>?_
 .let#[u,m,rfl]:=TM.mp h
  let#[g,e,n,o]:=d u m;exact#[getD_mem (show u.i<a.length by lk),getD_mem e,IF c g e,n,o]
 .show(b.map^Ix.tie a).Pairwise BZ
  rw[jF];refine List.Pairwise.imp_of_mem (λ{s t} p f h=>?_) l;let#[g,e,_]:=d s p;let#[v,q,_]:=d t f
  rcases h with h|⟨h,r⟩
  .exact .inl^IF c h^by lk
  .refine .inr #[?_,IF c r q]
   show a.getD s.i ""=a.getD t.i "";rw[h]
def Dd(c:q_ AX)(p:Str):q_ (Str×Int):=c.flatMap λt=>(if t.a=p then [(t.b,t.len)]else [])++(if t.b=p then [(t.a,t.len)]else [])
def Sq(a:q_ AX)(p:Str):D:=.fdi ((Dd a p).map λx=>.inr x.1)^(Dd a p).map λx=>.int x.2
def EB(N:Net):D:=.dic (N.ps.map .inr)^N.ps.map^Sq N.ts
def UP:W2:=λa n P=>∃N:Net,a=[.sh^enc N]/\N.Ok/\N.ps.length<=1000/\N.ts.length<=1000/\P (EB N) n
def kv(x:Str×Int):Key×V:=(.inr x.1,.int x.2)
structure Stp (H:Hp) (d:Db) (as:List (Str×Db)) (tb:Str->List (Key×V)) (H':Hp):Prop where
 old:∀b o,H b=P3 o->H' b=P3 o
 new:H d=n_
 top:H' d=P3 (.dK^as.map λx=>(.inr x.1,.ref x.2))
 inn:∀x∈as,H x.2=n_/\x.2≠d/\H' x.2=P3 (.dK^tb x.1)
 ads:(as.map (·.2)).Nodup
 nms:(as.map (·.1)).Nodup
def IB{b:q_ (Str×Db)}(c:(b.map (·.1)).Nodup){p:Str}{a:Db}(h:(p,a)∈b):EV (b.map λx=>((.inr x.1:Key),V.ref x.2))^.inr p=P3^.ref a:=by
 induction b with
 |nil=>cases h
 | cons x r d=>
  rw[gD,fX]at c
  rcases Tk.mp h with e|h
  .rw[←e]
   exact Ec rfl
  .exact(Ee λe=>c.1^by rw[iw e];exact TM.mpr #[_,h,rfl]).trans^d c.2 h
def Nq{a:q_ (Str×Db)}{p:Str}{v:V}(h:p∉a.map (·.1)):putK (a.map λx=>((.inr x.1:Key),V.ref x.2)) (.inr p) v=(a.map λx=>((.inr x.1:Key),V.ref x.2))++[(.inr p,v)]:=by
 unfold putK
 simp_all
def O6{a:q_ (Str×Int)}{p:Str}{l:Int}(h:p∉a.map (·.1)):putK (a.map kv) (.inr p)^.int l=(a++[(p,l)]).map kv:=by
 unfold putK;rw[if_neg,fg]
 .rfl
 .rw[kX]
  rintro⟨y,b,e⟩;let#[x,c,rfl]:=TM.mp b;exact h^TM.mpr #[x,c,iw^of_decide_eq_true e]
def Stp.more{H m:Hp}{d q:Db}{l:q_ (Str×Db)}{n:Str->q_ (Key×V)}{p:Str}(s:Stp H d l n m)(i:m q=n_)(v:p∉l.map (·.1))(A:n p=[]):
  Stp H d (l++[(p,q)]) n (Ar (Ar m q^.dK []) d^.dK^putK (l.map λx=>((.inr x.1:Key),V.ref x.2)) (.inr p)^.ref q):=by
 have w:q≠d:=λe=>by rw[e,s.top]at i;cases i
 have k:H q=n_:=by
  cases c:H q with
  |none=>rfl
  |some o=>rw[s.old q o c]at i;cases i
 exists λb o e=>?_,s.new,?_,λx f=>?_,?_
 .have B:b≠d:=λz=>by rw[z,s.new]at e;cases e
  have r:b≠q:=λz=>by rw[z,k]at e;cases e
  rw[AM B,AM r];exact s.old b o e
 .rw[AR,Nq v,fg];rfl
 .rcases ZB.mp f with f|f
  .let#[y,t,j]:=s.inn x f
   have r:x.2≠q:=λz=>by rw[z,i]at j;cases j
   exact#[y,t,by rw[AM t,AM r];exact j]
  .rw[Op.mp f]
   exact#[k,w,by rw[AM w,AR,A]]
 .rw[fg,gX]
  refine#[s.ads,fX.mpr #[(λh=>by cases h),gL],λa u b g e=>?_];let#[x,f,rfl]:=TM.mp u;have g:b=q:=Op.mp g;let#[y,t,j]:=s.inn x f;rw[e,g,i]at j;cases j
 .rw[fg,gX]
  refine#[s.nms,fX.mpr #[(λh=>by cases h),gL],λa u b g e=>?_];have g:b=p:=Op.mp g;exact v^by rw[←g,←e];exact u
def QW{c:q_ (Str×Db)}(d:(c.map (·.1)).Nodup){p:Str}{a b:Db}(e:(p,a)∈c)(f:(p,b)∈c):a=b:=by
 have:=(IB d e).symm.trans^IB d f
 grind
def QV{b:q_ (Str×Db)}(c:(b.map (·.2)).Nodup){p q:Str}{a:Db}(e:(p,a)∈b)(f:(q,a)∈b):p=q:=by
 induction b with
 |nil=>cases e
 | cons x r i=>
  rw[gD,fX]at c
  rcases Tk.mp e with j|g
  .rcases Tk.mp f with h|d
   .grind
   .exact absurd (TM.mpr #[_,d,by rw[←j]]) c.1
  .rcases Tk.mp f with h|d
   .exact absurd (TM.mpr #[_,g,by rw[←h]]) c.1
   .exact i c.2 g d
def Stp.put{H g:Hp}{d a:Db}{c:q_ (Str×Db)}{h tb2:Str->q_ (Key×V)}{p:Str}{kvs:q_ (Key×V)}(s:Stp H d c h g)(f:(p,a)∈c)(i:tb2 p=kvs)(j:∀q,q≠p->tb2 q=h q):
  Stp H d c tb2 (Ar g a^.dK kvs):=by
 let#[u,k,v]:=s.inn _ f;refine#[λb o e=>?_,s.new,?_,λx l=>?_,s.ads,s.nms]
 .have m:b≠a:=λz=>by grind
  rw[AM m];exact s.old b o e
 .rw[AM^gE k]
  exact s.top
 .let#[n,r,t]:=s.inn x l
  exists n,r
  by_cases e:x.2=a
  .have:=QV s.ads (show(x.1,a)∈c by grind) f
   rw[e,AR,this,i]
  .have:x.1≠p:=λz=>e^QW s.nms (show(p,x.2)∈c by grind) f
   rw[AM e,j _ this];exact t
def Ml(c:q_ AX)(t:AX)(p:Str):Dd (c++[t]) p=Dd c p++((if t.a=p then [(t.b,t.len)]else [])++(if t.b=p then [(t.a,t.len)]else [])):=by
 unfold Dd
 simp_all
def Ld{d:q_ AX}{p q:Str}(h:q∈(Dd d p).map (·.1)):∃t∈d,(t.a=p/\t.b=q)\/(t.b=p/\t.a=q):=by
 let#[x,c,rfl]:=TM.mp h;let#[t,e,c]:=g9.mp c;exists t,e
 rcases ZB.mp c with c|c
 .simp_all
 simp_all
def PQ(c:q_ AX)(p:Str):(Dd c p).length<=2*c.length:=by
 induction c with
 |nil=>exact Uf _
 |cons t r d=>
  unfold Dd at d ⊢;rw[List.flatMap_cons,XV,XV];have e:(if t.a=p then [(t.b,t.len)]else []).length<=1:=by grind
  grind
def Tb{d:q_ AX}{t:AX}(i:(d++[t]).Pairwise BZ)(f:∀s∈d++[t],cs s.a<cs s.b):t.b∉(Dd d t.a).map (·.1)/\t.a∉(Dd d t.b).map (·.1):=by
 rw[ku]at i
 have g:∀s∈d,¬((s.a=t.a/\s.b=t.b)\/(s.b=t.a/\s.a=t.b)):=λs c e=>by
  have j:=i.2.2 s c t (Op.mpr rfl);have m:=f s^gP _ c;have n:=f t^fR _ (Op.mpr rfl)
  rcases e with⟨k,l⟩|⟨k,l⟩
  .unfold BZ at j
   grind
  grind
 refine#[λh=>?_,λh=>?_]
 .let#[s,c,e]:=Ld h
  exact g s c e
 .let#[s,c,e]:=Ld h
  exact g s c^e.elim (λz=>.inr #[z.2,z.1]) λz=>.inl #[z.2,z.1]
def LN{c:q_ Str}(h:rising c):c.Nodup:=h.imp λ{a b} d e=>by grind
def N9{a:q_ Str}(h:a.Nodup){i:Nat}(c:i<a.length):a[i]∉a.take i:=by
 have e:a=a.take i++a[i]::a.drop (i+1):=by
  simp_all
 intro b;rw[e,gX]at h;exact h.2.2 _ b _ Re rfl
def Stp.at_{K:Frag}{M:Db->Prop}{H q:Hp}{d:Db}{c:q_ (Str×Db)}{N:Net}(t:∀a,M a->∃o,H a=P3 o)(s:Stp H d c (λp=>(Dd N.ts p).map kv) q)(u:c.map (·.1)=N.ps)(f:Db->Obj):At K M (FU q (c.map (·.2)) f) (EB N)^.ref d:=by
 have v:∀b,H b=n_->¬M b:=λb e m=>by let#[o,h]:=t b m;rw[h]at e;cases e
 have i:∀c:q_ (Str×Db),(c.map λx=>((.inr x.1:Key),V.ref x.2))=((c.map (·.1)).map (.inr:Str->Key)).zip (c.map λx=>V.ref x.2):=λc=>by
  grind
 refine#[d,c.map λx=>.ref x.2,rfl,#[v d s.new,by rw[DR (λw=>by let#[x,j,e]:=TM.mp w;exact(s.inn x j).2.1 e),s.top,i,u]],by rw[FM,FM],?_];rw[←u]
 have z:∀k:q_ (Str×Db),(∀x∈k,x∈c)->Ats K M (FU q (c.map (·.2)) f) ((k.map (·.1)).map^Sq N.ts) (k.map λx=>V.ref x.2):=λk=>by
  induction k with
  |nil=>intro _;rfl
  | cons x r l=>
   intro j;refine#[.ref x.2,r.map λx=>V.ref x.2,rfl,?_,l λy A=>j y^Sc _ A];let#[B,D,C]:=s.inn x^j x Re
   have n:∀g:q_ (Str×Int),g.map kv=(g.map λx=>(.inr x.1:Key)).zip (g.map λx=>V.int x.2):=λg=>by
    induction g with
    |nil=>rfl
    |cons x r l=>rw[gD,l];rfl
   refine#[x.2,(Dd N.ts x.1).map λx=>V.int x.2,rfl,#[f x.2,v _ B,by rw[Ll (TM.mpr #[x,j x Re,rfl]) C,n]],by rw[FM,FM],?_];generalize Dd N.ts x.1=g
   induction g with
   |nil=>rfl
   |cons x r l=>exact#[.int x.2,_,rfl,rfl,l]
 exact z c λ_ h=>h
end Nt
namespace L2
def df(d:Db)(o:Obj)(a:q_ (Key×V)):It:=
 #[λi H=>H d=P3^.frz o^.dK a/\i<a.length,λi H x b=>∃T p,x=.ref T/\H T=n_/\a[i]?=P3 p/\b=Ar H T^.tup [kV p.1,p.2],λi H=>H d=P3^.frz o^.dK a/\a.length<=i]
def S5{P:fT}{w:fY}{k:Key}{u:Ev}(h:(BC P w).is k u=o_):RelV (kV k) u:=by
 rcases BI h with⟨i,t,rfl,rfl⟩|⟨x,t,rfl,rfl⟩
 .exact#[t,rfl]
 .exact#[t,rfl]
def FQ{X:Cx}{j:q_ (Db×Obj)}{Z:L2.St}{H:Hp}{s:No}{d:Db}{o:Obj}{a:q_ (Key×V)}{c:Array DictEntry}{e:Nat}(I:Inv X j Z H s)(h:H d=P3^.frz o^.dK a)(hd:o.data=.dict c e):
  ∃b,KV a b/\s.heap.DictAt (BC X.prog X.w) d b e:=by
 let#[f,_,_,b,k,q,l,m,g,n,i,p]:=(I.hok d _ h);rw[f]at g;cases g;rw[hd]at i;cases i;exact#[b,k,o,c,f,n,hd,p]
def Nd{P:fT}{w:fY}{K:Frag}{J:q_ fZ}{j:Nat}{pos:Pos}(d it:Db)(o:Obj)(f:q_ (Key×V))(es:Array DictEntry)(Y:Nat)(l:o.data=.dict es Y):
  Turn P w K (.Tuple J j pos) (df d o f) [it] it (λi h=>∃ok m,IsItemIter h it d i f.length Y ok m) where
 mem:=by simp
 obj:=λi h #[ok,m,b] c a=>by
  rw[Op.mp a];exact#[_,b,λv q=>by cases q]
 keep:=λi h h' #[ok,m,b] k=>#[ok,m,k it (by simp) _ b]
 item:=by
  intro X L M N a i zH s Z H E I B b O;subst L M N;let#[R,hi]:=O;let#[ok,m,b]:=b;let#[C,F,D]:=FQ I R l
  have G:=F.length;have S:i<C.length:=by lk
  rw[G]at b;obtain⟨k,v,T⟩:∃k v,C[i]=(k,v):=#[_,_,rfl];have hx:C[i]?=P3 (k,v):=by rw[On S,T]
  have hp:f[i]?=P3 f[i]:=On hi;let#[U,rv]:=Iu F hp hx;have U:f[i].1=k:=U;refine wpAny_pyNext_items_item b D hx λn h' p r t a0 u=>#[_,rfl,?_];refine wpAny_letOwnedTupleGo_items r λh2 x g=>?_;have hT:H s.heap.objs.size=n_:=I.hok.fresh^Rs _;have y:s.heap.objs.size≠it:=iV^T0 b
  have kk:∀c o,c∉[it]->s.heap.get? c=P3 o->h2.get? c=P3 o:=λc o a e=>by
   have a:c≠it:=λz=>a (by rw[z];exact Op.mpr rfl);exact(g.2 c a).trans^u c o a e
  have I2:Inv X zH Z (Ar H s.heap.objs.size^.tup [kV f[i].1,f[i].2]) {s with heap:=h2}:=by
   refine I.turnLaid (t':=s.toks) (ch:=[it]) (λc a=>B c a) kk (Rs _) ?_;exact#[by show 2<=sizeLine;decide,[n,v],.cons (S5^by rw[U];exact p)^.cons rv .nil,#[_,(g.2 _ y).trans t,rfl,_,rfl,rfl,rfl]]
  refine#[.ref s.heap.objs.size,_,I2,rfl,#[_,_,rfl,hT,hp,rfl],#[n,v,by rw[G];exact x],λc a=>?_];rw[Op.mp a,AM^gE y];exact(B it^by simp).1
 done:=by
  intro X L M N a i zH s Z H E I B b O;subst L M N;let#[R,hi]:=O;let#[ok,m,b]:=b;let#[C,F,D]:=FQ I R l
  have G:=F.length;rw[G]at b;refine wpAny_pyNext_items_end (I.ok.hd a) b D (kZ^by lk) λh' ext=>#[rfl,?_];exact I.turnedL (t':=s.toks) (ch:=[it]) (λc a=>B c a) λc o a e=>ext c o (λz=>a^by rw[z];exact Op.mpr rfl) e
 self:=λA i s Q E #[ok,m,b] h=>PySem.W.kcp_self b h
def Ya(c:TE):TI:=λZ H R=>c Z H λx b=>∃d o a,x=.ref d/\b d=P3^.frz o^.dK a/\∀r,b r=n_->R (df d o a)^Ar b r^.ext λh=>h.IsItemsView r d
def SV{X:Cx}{e:fZ}{z:q_ fZ}{j:Nat}{p g i:Pos}{G:TE}(P:PE X e G)(m:attributeBase e "items" X.env^eval e X.env=eval e X.env:=by rfl)(n:(g.endLine==i.line)=o_:=by rfl):
  PI X (.Tuple z j p) (.Call (.Attribute e "items" g) [] [] i) (Ya G):=by
 intro J s Z H R I h;refine wpAny_Call_method0_late m n^thn (P J s Z H _ I h) λv a zz=>?_;let#[x,u,r,Q,d,o,f,ex,t,q]:=zz;subst ex;cases Q;let#[K,L,S]:=OJ r^.inl #[f,.inr #[o,t]];let#[_,_,M,T,D]:=Fi r.hok^.inr #[o,t];refine#["dict","dict.items",PySem.F.plainAttrs_dict,PySem.F.slot_dict_items,PySem.F.type_dict_items,K,L,iu rfl (PySem.evalArgs_none ?_)];refine kg PySem.F.slot_dict_items D.typeIs PySem.F.entry_dict_items (PySem.F.args_dict_items_1 _) (meets_dict_items (BC X.prog X.w) d S) #[#[M,D],?_];have N:u a.heap.objs.size=n_:=r.fresh;have O:(a.heap.push {cls:=.type "dict_items",data:=.fields #[ .ref d]}).IsItemsView a.heap.objs.size d:=#[_,UF _ rfl,rfl,rfl]
 have y:Inv X J Z (Ar u a.heap.objs.size^.ext λh=>h.IsItemsView a.heap.objs.size d) {a with heap:=a.heap.push {cls:=.type "dict_items",data:=.fields #[ .ref d]}}:=
  r.laid (t':=a.toks) (λb o e=>Go _ e) (Rs _) #[O,#[_,UF _ rfl],λK L #[o,e,c] k=>#[o,k o e,c]]
 have A:(Ar u a.heap.objs.size^.ext λh=>h.IsItemsView a.heap.objs.size d) d=P3^.frz o^.dK f:=by rw[AM^An t N];exact t
 obtain⟨B,C,l⟩:∃B C,o.data=.dict B C:=by
  let#[e0,_,_,M,T,o',U,V,e1,e2,e3,e4]:=(show ObjOk X.prog X.w u a.heap d^.frz o^.dK f from r.hok d _ t)
  grind
 let#[W,E,Y]:=FQ y A l
 have hl:=E.length;refine wpAny_pyIter_items (s:={a with heap:=a.heap.push {cls:=.type "dict_items",data:=.fields #[ .ref d]}}) O Y ?_;refine#[_,[(a.heap.push {cls:=.type "dict_items",data:=.fields #[ .ref d]}).objs.size],_,df d o f,_,rfl,y.kept (t':=a.toks) λb o e=>Go _ e,Nd d _ o f B C l,#[.none,.none,by rw[hl];exact UF _ rfl],λc hc=>?_,q _ N];rw[Op.mp hc];exact y.fpOk (Rs _) y.fresh
end L2
namespace Dp
open L2
def wItems(c:DW):De:=λn e P=>c n e λd f=>∃a b,d=.fdi a b/\(∀k∈a,Lg k)/\P (C2 (a.map W9) b) f
def S6(k:Key):kV k=kOf k:=by cases k <;>rfl
section
variable {X:Cx}{a:Expr}{zT:Kd}{wa:DW}{els:q_ Expr}{j:Nat}{tpos apos cpos:Pos}
def Tl(V:DE X a zT wa)(c:attributeBase a "items" X.env^eval a X.env=eval a X.env:=by rfl)(f:(apos.endLine==cpos.line)=o_:=by rfl):DI X (.Tuple els j tpos) (.Call (.Attribute a "items" apos) [] [] cpos)^wItems wa:=by
 let#[t,W,Y]:=V;refine#[_,SV W c f,λC M H n ρ Z P Rr R w q=>?_];refine Y C M H n ρ Z _ _ R w λv l d n1 I J r1 p=>?_;let#[b,m,rfl,s,p]:=p;have R1:=R.step I J;obtain⟨D,k,rfl,⟨o,nM,L⟩,N,O⟩:∃a k,v=.ref a/\NdF M l a b k/\b.length=m.length/\Ats X.K M l m k:=r1.tpOf R.dom R.vM;have hl:=O.length;refine#[D,o,_,rfl,L,λr hr=>?_];have g:Grow l (Ar l r^.ext λh=>h.IsItemsView r D):=Aq hr;refine q _ _ _ n1 (I.trans g.ext) (J.grow g) (λi Q E pr F=>?_) p;have u:Pres M l Q E:=g.pres.trans pr;have z:E D=P3^.frz o^.dK^b.zip k:=(u.nd nM L).2;have zl:(b.zip k).length=b.length:=by rw[mI];lk
 have zd:(C2 (b.map W9) m).length=b.length:=by unfold C2;rw[lD,FM];lk
 refine#[λe B=>?_,λa0=>#[z,by lk]];have G:i<b.length:=by rw[←zd];exact(eq.mp B).1
 have A:i<m.length:=by lk
 refine#[#[z,by lk],λx H2 y=>?_];let#[T,pp,rfl,S,U,rfl]:=y;let#[v',e1,h1]:=(O.pres u).get^On A
 have e2:(b.zip k)[i]?=P3 (b[i],v'):=by
  rw[lq];exact#[On G,e1]
 rw[e2]at U;cases U
 have e3:e=.tup [W9 b[i],m[i]]:=by
  unfold C2 at B;rw[kY,fK,On G,On A]at B;exact(fG B).symm
 subst e3;refine#[Aq S,Cj F S #[_,_,rfl,?_,_,_,rfl,h1,rfl]];show At X.K Q E (W9 b[i]) (kV b[i]);rw[S6];exact Tx^s _^f7 G
end
section
variable {K:Frag}{C:Fm}{M:Addr->Prop}{H:Hp}{n:Nat}{ρ:q_ Slot}{Z:L2.St}
def Rel.hold(R:Rel K C M H n ρ Z){p:Db}{o:HO}(h:H p=n_):Rel K C (λb=>M b\/b=p) (Ar H p o) n ρ Z:=by
 have g:Grow H^Ar H p o:=Aq h;have j:Pres M H _^Ar H p o:=Fv h;refine#[R.len,λa z=>.inl^R.sub a z,λa z=>?_,R.ext.trans g.ext,R.fU,R.uV,λa z=>.inl^R.vM a z,(R.feed.grow g).more p λf k q=>?_,λi s q=>(R.sl i s q).pres j (λ_ z=>.inl z) g.ext R.uV,λq c=>(R.pin q c).trans j,R.br0,R.new,R.two,λq c=>?_]
 .rcases z with z|z
  .let#[u,d]:=R.dom a z
   exact#[u,g.all a u d]
  .rw[z];exact#[o,AR]
 .let#[_,_,_,_,_,e,_]:=R.feed f k
  have:=e.2
  grind
 .let#[d,l,e,m]:=R.kept q c
  exact#[g.all _ _ d,.inl l,e,m]
end
def JI(a:q_ Key)(k:Key):Bool:=a.any λb=>decide (b=k)
def hasK_iff{a:q_ Key}{k:Key}:JI a k=o_↔k∈a:=by
 unfold JI
 simp_all
def Cv(a:q_ Key)(k:Key):q_ Key:=if JI a k=o_ then a else a++[k]
def DL{a:Type}(b:q_ Key)(c:q_ a)(k:Key)(d:a):q_ a:=if JI b k=o_ then kF (λe f=>if e=k then d else f) b c else c++[d]
def WB{c:q_ Key}{d:q_ V}(j:c.length=d.length)(k:Key):((c.zip d).any λf=>decide (f.1=k))=JI c k:=by
 rw[gf,kX,hasK_iff];constructor
 .rintro⟨⟨a,b⟩,g,e⟩
  have e:=of_decide_eq_true e;rw[←e];exact(jy g).1
 .intro h
  let#[i,l,e]:=List.mem_iff_getElem.mp h;exact#[(c[i],d[i]'(by lk)),List.mem_iff_getElem.mpr #[i,by grind,by grind],by grind]
def SJ{c:q_ Key}{d:q_ V}(f:c.length=d.length)(k:Key)(v:V):putK (c.zip d) k v=(Cv c k).zip^DL c d k v:=by
 unfold putK Cv DL;rw[WB f]
 by_cases h:JI c k=o_
 .have l:∀(c:q_ _) (d:q_ V),((c.zip d).map λe=>if e.1=k then(e.1,v)else e)=c.zip^kF (λg i=>if g=k then v else i) c d:=by
   intro c
   induction c with
   |nil=>intro d;rfl
   | cons a c j=>
    intro d;cases d with
    |nil=>rfl
    |cons b d=>
     show(if a=k then(a,v)else(a,b))::_=(a,if a=k then v else b)::_;exact List.cons_eq_cons.mpr #[by split <;>rfl,j d]
  simp_all
 .rw[if_neg h,if_neg h,if_neg h,List.zip_append f]
  rfl
theorem Ats.put{K:Frag}{M:Db->Prop}{H:Hp}{k:Key}{d:D}{v:V}(hd:At K M H d v):∀{c:q_ Key}{f:q_ D}{b:q_ V},Ats K M H f b->Ats K M H (kF (λg i=>if g=k then d else i) c f)^kF (λg i=>if g=k then v else i) c b
 |[],f,b,h=>rfl
 |a::c,[],b,h=>by cases(h);rfl
 |a::c,e::f,b,h=>by
  let#[u,r,rfl,l,j]:=h;refine#[_,_,rfl,?_,Ats.put hd j]
  grind
def Ats.putX{K:Frag}{M:Db->Prop}{H:Hp}{k:Key}{d:D}{v:V}{a:q_ Key}{b:q_ D}{c:q_ V}(hd:At K M H d v)(h:Ats K M H b c):Ats K M H (DL a b k d)^DL a c k v:=by
 unfold DL
 split
 .exact Ats.put hd h
 .exact h.append^Ats.one hd
def O5{b:Type}{a:q_ Key}{c:q_ b}{k:Key}{d:b}(e:a.length=c.length):(Cv a k).length=(DL a c k d).length:=by
 unfold Cv DL
 grind
theorem KA:∀{b:q_ Key}{ds:q_ D}{k:Key},k∉b->BA b ds k=n_
 |[],ds,k,_=>by rfl
 |a::b,[],k,_=>rfl
 |a::b,d::ds,k,h=>by
  unfold BA;rw[if_neg λe=>h^by grind];exact KA λz=>h^Sc _ z
theorem Gx:∀{b:q_ Key}{ds:q_ D}{k:Key},b.length=ds.length->k∈b->∃z,BA b ds k=P3 z
 |[],ds,k,_,h=>by cases h
 |a::b,[],k,h,_=>by cases h
 | a::b,d::ds,k,c,h=>by
  unfold BA
  by_cases e:a=k
  .simp_all
  .rw[if_neg e]
   exact Gx (by simp_all)^(Tk.mp h).resolve_left λz=>e z.symm
def RZ{b:q_ Key}{c:q_ D}{k:Key}{d:D}(g:b.length=c.length)(j:Key):BA (Cv b k) (DL b c k d) j=if j=k then P3 d else BA b c j:=by
 unfold Cv DL
 by_cases i:JI b k=o_
 .have h:=hasK_iff.mp i
  rw[if_pos i,if_pos i]
  have n:∀(b:q_ Key) (c:q_ D),b.length=c.length->(j=k->k∈b)->BA b (kF (λp q=>if p=k then d else q) b c) j=if j=k then P3 d else BA b c j:=by
   intro b
   induction b with
   |nil=>
    intro c _ l
    by_cases e:j=k
    .exact absurd (l e) fH
    .rw[if_neg e];cases c <;>rfl
   | cons a b o=>
    intro c g l;cases c with
    |nil=>cases g
    | cons e c=>
     show(if a=j then P3 (if a=k then d else e)else BA b _ j)=if j=k then P3 d else if a=j then P3 e else BA b c j
     by_cases f:a=j
     .rw[if_pos f,if_pos f]
      by_cases m:j=k
      .rw[if_pos m,if_pos^f.trans m]
      .rw[if_neg m,if_neg λz=>m^f.symm.trans z]
     .rw[if_neg f,if_neg f]
      refine o c (by simpa using g) λz=>(Tk.mp^l z).resolve_left λw=>f^w.symm.trans z.symm
  exact n b c g λ_=>h
 .have h:k∉b:=λz=>i^hasK_iff.mpr z
  rw[if_neg i,if_neg i]
  have n:∀(b:q_ Key) (c:q_ D),b.length=c.length->k∉b->BA (b++[k]) (c++[d]) j=if j=k then P3 d else BA b c j:=by
   intro b
   induction b with
   | nil=>
    intro c g _;cases c with
    |nil=>
     show(if k=j then P3 d else n_)=if j=k then P3 d else n_
     by_cases e:j=k
     .rw[if_pos e,if_pos e.symm]
     .rw[if_neg e,if_neg λz=>e z.symm]
    |cons e c=>cases g
   | cons a b o=>
    intro c g l;cases c with
    |nil=>cases g
    |cons e c=>
     show(if a=j then P3 e else BA (b++[k]) (c++[d]) j)=if j=k then P3 d else if a=j then P3 e else BA b c j
     rw[o c (by simpa using g) λz=>l^Sc _ z]
     by_cases f:a=j
     .rw[if_pos f,if_pos f,if_neg λz=>l^by rw[←z,←f];exact Re]
     .rw[if_neg f,if_neg f]
  exact n b c g h
section
variable {X:Cx}{a b e:Expr}{κ zT zM:Kd}{wa wb:DW}{pos pos':Pos}
def Xa(f g:DW):DW:=λn e P=>f n e λk h=>g h e λd i=>∃c,keyOf k=P3 c/\P (.dic [c] [d]) i
def NH(J:DE X a zT wa)(L:DE X b zM wb)(N:zM≠.tp:=by intro z;cases z):DE X (.Dict [P3 a] [b] pos) .fr^Xa wa wb:=by
 let#[t,O,S]:=J;let#[u,T,V]:=L;refine#[_,VD (SQ O T U6) rfl rfl (g_ _ _) (by show 1<=15;decide),λC M H n E Z P Q R w q=>λp i=>?_];have j:=R.hold (o:=.dK []) i
 have r:¬C.U p:=λz=>by
  let#[o,w]:=R.dom p^R.vM p^R.uV p z;rw[i]at w;cases w
 refine S C _ _ n E Z _ _ j w λx H2 k W s Y r1 p1=>?_;have R2:=j.step s Y;refine V C _ _ W E Z _ _ R2 p1 λy v d n2 A F r2 B=>?_;let#[e,h,B]:=B;have R3:=R2.step A F;have D:At X.K (λb=>M b\/b=p) v d y:=r2.shOf R2.dom N;have g:v p=P3^.dK []:=A.keep (s.keep AR r) r;have hx:x=kV e:=DQ h^r1.tpOf j.dom j.vM;refine#[g,[(e,y)],by rw[hx];rfl,by show 1<=15;decide,?_];show Q (.ref p)^Ar v p^.dK [(e,y)];refine q _ _ (.dic [e] [d]) n2 (λb o c=>?_) ?_ #[p,rfl,i,[y],AR,rfl,?_] B
 .have l:b≠p:=An c i
  let#[o1,z1,k1,G]:=s b o (by rw[AM l];exact c);let#[o2,z2,k2,t2]:=A b o1 z1;exact#[o2,by rw[AM l];exact z2,λI=>(k2 I).trans^k1 I,λm z=>(t2 m^(G m z).trans z).trans^G m z]
 .refine F.pres #[λb o c l=>by rw[AM λz=>l^.inr z];exact c,λb z=>.inl^.inl z,λb m c=>by rw[AM λz=>by rw[z,g]at c;cases c];exact c] λf o hf c=>?_
  rw[AM λz=>r^by rw[←z];exact R.fU f hf];exact c
 .exact#[y,[],rfl,D.pres^Cg (.inr rfl) g,rfl]
def MF(i:Nat)(h j:DW):AW:=λl n e=>∃f g,e[i]?=P3^.ow^.dic f g/\j n e λd m=>h m e λk o=>∃c,keyOf k=P3 c/\f.length<sizeLine/\l.nx o^e.set i^.ow^.dic (Cv f c)^DL f g c d
def Lq{i k:Nat}{x:fZ}(O:Room k X.A)(hx:PE X x^Bp i)(P:DE X a zT wa)(Q:DE X b zM wb)(S:zM≠.tp:=by intro z;cases z)
  (T:swapsWith b (P3^.Subscript x a pos') pos.line X.env=pure p_:=by rfl):DS X κ (.Assign [.Subscript x a pos'] b pos)^MF i wa wb:=by
 let#[t,U,V]:=P;let#[u,W,Y]:=Q;refine#[_,IG (JH O) hx U W T,λC M H n D Z D2 E R L w=>?_];let#[l,ds,o,w]:=w;refine Y C M H n D Z _ _ R w λv H1 d n1 e1 f1 r1 p=>?_;have f:=R.step e1 f1;let#[F,q,m,nv,tt]:=f.sl i _ o;exists .ref F,getD_some q;refine V C M H1 n1 D Z _ _ f p λy H2 kk n2 G f2 r2 p=>?_;let#[c,g,a0,p]:=p;have R2:=f.step G f2;let#[a1,h,m',a2,r]:=R2.sl i _ o;rw[q]at h;cases h;let#[I,J,N,j]:=r;have s:At X.K M H2 d v:=(r1.shOf R.dom S).pres^f.pres G;have B:l.length=I.length:=by rw[N,j.length]
 refine#[F,_,rfl,by rw[DQ g^r2.tpOf f.dom f.vM];exact DPut.k J (by rw[mI];lk),L.nx M _ n2 _ Z (R2.mut (e:=.dic (Cv l c)^DL l ds c d) o q #[DL l I c v,by rw[AR,SJ B],O5 N,(j.putX s).pres^Cg m' J]) p]
def ZX:D->r_ Bool
 |.lst c=>P3 (!c.isEmpty)
 |.tup c=>P3 (!c.isEmpty)
 |.bl b=>P3 b
 |.non=>P3 p_
 |_=>n_
def ZS(wa:DW):F4:=λn e P=>wa n e λd f=>∃c,ZX d=P3 c/\P c f
def K3{K:Frag}{M:Db->Prop}{H:Hp}{c:q_ D}{d:q_ V}(h:Ats K M H c d):d.isEmpty=c.isEmpty:=by
 have:=h.length
 cases d <;>cases c <;>first|rfl|cases this
def Xh{U M:Db->Prop}{H:Hp}{K:Frag}{d:D}{x:V}{c:Bool}(h:AtT K U M H d x)(e:ZX d=P3 c):Y5 K x H c:=by
 cases d with
 |lst j=>cases e;let#[a,f,rfl,_,g,i]:=h;exact .inl #[f,.inl g,by rw[K3 i]]
 |tup j=>cases e;let#[a,f,rfl,g,i]:=h;exact .inr^.inl #[f,.inl^.inl g,by rw[K3 i]]
 |bl b=>cases e;rw[h.bl];exact rfl
 |non=>cases e;rw[h];exact rfl
 |_=>cases e
def Yg(h:DE X e κ wa)(g:∀f,isTrue e X.env f=(do let v ←f;standAt e.pos;holding [v]^truthy v):=by intro _;rfl):DT X e^ZS wa:=by
 let#[t,i,j]:=h;refine#[_,SK i g,λC M H n k Z P Q R w q=>?_];refine j C M H n k Z _ _ R w λv l d m o r s p=>?_;let#[c,u,p]:=p;exact#[c,Xh (s.tpOf R.dom R.vM) u,q c l m o r p]
def HE(c:Bool)(d e:D)(P:D->Prop):Prop:=e=.non/\P^.bl (if c then !S9 d else S9 d)
def FC{K:Frag}:FE K .sh (λx y H Q=>y=.non/\Q (.bl (decide (x=.non))) H)^HE p_:=λU M H d e x y P Q c h f g w q=>by
 let#[rfl,w]:=w;exact#[g,q _ H _ .refl (by rw[Mx f];rfl) w]
def HH{K:Frag}:FE K .sh (λx y H Q=>y=.non/\Q (.bl (!decide (x=.non))) H)^HE o_:=λU M H d e x y P Q c h f g w q=>by
 let#[rfl,w]:=w;exact#[g,q _ H _ .refl (by rw[Mx f];rfl) w]
variable {apos cpos:Pos}{f:Expr}{κf:Kd}{wf:DW}
def WV(wa i:DW):DW:=λn e P=>wa n e λd j=>∃g h,JS d=P3 (g,h)/\i j e λk l=>∃c,keyOf k=P3 c/\P ((BA g h c).getD .non) l
def WU(wa i j:DW):DW:=λn e P=>wa n e λd l=>∃g h,JS d=P3 (g,h)/\i l e λk m=>j m e λz o=>∃c,keyOf k=P3 c/\P ((BA g h c).getD z) o
def RX{U M:Db->Prop}{H:Hp}{K:Frag}{d z:D}{x v:V}{ks:q_ Key}{g:q_ D}{key:Key}(e:JS d=P3 (ks,g))(h:AtT K U M H d x)(l:At K M H z v):∃a o,x=.ref a/\DGet H a (kV key) o/\At K M H ((BA ks g key).getD z)^o.getD v:=by
 let#[a,m,rfl,i,j]:=JR e h;exists a,_,rfl,IL i;have h:=F7 (k:=key) (ks:=ks) j;cases c:BA ks g _ with
 |none=>simp_all
 |some y=>rw[c]at h;let#[u,n,p]:=h;grind
def TF{U M:Db->Prop}{H:Hp}{K:Frag}{d:D}{x:V}{c:q_ Key}{g:q_ D}(e:JS d=P3 (c,g))(h:AtT K U M H d x):∃a,x=.ref a/\b_ H a:=by
 let#[a,j,rfl,i,k]:=JR e h;exact#[a,rfl,.inl #[_,i]]
def V7{k:Nat}(B:Room k X.A)(D:DE X a zT wa)(E:DE X b zM wb)(m:M1 X a "get" apos b cpos:=by exact#[rfl,rfl,rfl,rfl]):DE X (.Call (.Attribute a "get" apos) [b] [] cpos) .sh^WV wa wb:=by
 let#[t,F,G]:=D;let#[u,I,J]:=E;refine#[_,Sd (JH B) F I m,λC M H n j Z P Q R w q=>?_];refine G C M H n j Z _ _ R w λv K d L l N r p=>?_;let#[Y,ds,s,p]:=p;have c:=R.step l N;let#[O,rfl,S]:=TF s^r.tpOf R.dom R.vM;exists O,rfl,S;refine J C M K L j Z _ _ c p λy H2 kk T h x U p=>?_;let#[key,e,p]:=p;have R2:=c.step h x;have i:=(r.tpOf R.dom R.vM).pres (c.pres h) h R.uV;let#[V,o,ex,g,W]:=RX (key:=key) s i (z:=.non) (v:=.non) rfl;cases ex;exact#[o,by rw[DQ e^U.tpOf c.dom c.vM];exact g,q _ H2 _ T (l.trans h) x W p]
def Pp{k:Nat}(D:Room k X.A)(E:DE X a zT wa)(F:DE X b zM wb)(G:DE X f κf wf)(I:κf≠.tp:=by intro z;cases z)(m:M2 X a "get" apos b f cpos:=by exact#[rfl,rfl,rfl,rfl]):DE X (.Call (.Attribute a "get" apos) [b,f] [] cpos) .sh^WU wa wb wf:=by
 let#[t,J,K]:=E;let#[u,L,N]:=F;let#[u2,O,S]:=G;refine#[_,Sb (JH D) J L O m,λC M H n j Z P Q R w q=>?_];refine K C M H n j Z _ _ R w λv T d U r V s p=>?_;let#[ks,ds,x,p]:=p;have e:=R.step r V;let#[W,rfl,Y]:=TF x^s.tpOf R.dom R.vM;exists W,rfl,Y;refine N C M T U j Z _ _ e p λy H2 kk n2 i f2 r2 p=>?_;have R2:=e.step i f2;refine S C M H2 n2 j Z _ _ R2 p λz H3 dz n3 c B r3 p=>?_;let#[key,h,p]:=p;have R3:=R2.step c B;have l:=((s.tpOf R.dom R.vM).pres (e.pres i) i R.uV).pres (R2.pres c) c R.uV;have hy:=(r2.tpOf e.dom e.vM).pres (R2.pres c) c R.uV;let#[a0,o,ex,g,hz]:=RX (key:=key) x l^r3.shOf R2.dom I;cases ex;exact#[o,by rw[DQ h hy];exact g,q _ H3 _ n3 ((r.trans i).trans c) B hz p]
end
end Dp
namespace L2
open AutoSeq1 (wpAny_loadPart')
def QU:typeLookup (.type "list_reverseiterator") "__len__"=pure n_:=by kernel_rfl
def TK:typeLookup (.type "list_reverseiterator") "__length_hint__"=pure^P3^.builtin "list_reverseiterator.__length_hint__":=by kernel_rfl
def boot_reversed:bootBuiltins "reversed"=P3^.type "reversed":=by decide +kernel
def bc(a:fT)(w:fY)(St:Nat->No->Prop)(I:Db):Prop:=∀(A:fb) (E:Ev->No->Prop) (c:No) (Q:Bool->No->Prop),St 0 c->(∀b d,c.toks<=d->Q b {c with toks:=d})->wpAny (model a w) A (i9^.ref I) Q E c
section
variable {prog:Program}{w:World}{A:Around}{E:Value->Shared->Prop}{s:Shared}{I:Addr}{fp wr:q_ Addr}{G:Array GenState->Array GenState->Prop}{n:Nat}{P:Nat->Value->Prop}{St:Nat->Shared->Prop}{c:String}
def OR{Q:q_ Ev->No->Prop}(S:(gB c==gB "list")=p_/\(gB c==gB "tuple")=p_)(T:bc prog w St I)
  (W:WalksS prog w A.in1 I fp wr G n P St) (U:∀i s,St i s->s.TypeIs (.ref I) c) (J:St 0 s) (K:∀b∈fp,b<s.heap.objs.size) (V:I∈fp)
  (X:∀g d,Moved wr G s g->ItemsOf P d n->Q d.toList g) (hn:n<=sizeLine):wpAny (model prog w) A (collect^.ref I) Q E s:=by
 have r:s.heap.objs.size∉fp:=λt=>gM _^K _ t;have L:s.heap.objs.size≠I:=λe=>r (e▸V);unfold collect;refine Ch^wpAny_runValue^gy F.entry_proto_collect ?_;rw[iF F.plain_proto_collect _];show wpAny _ A.in1 (newList [] >>=λl=>again^.builtin "list.__iadd__" #[[l,.ref I],[]]) _ _ s;refine Ch^gi ?_;refine TW #[iC F.plain_list_iadd _,gy F.entry_list_iadd ?_];rw[iF F.plain_list_iadd _];have a:=W.frame 0 s (s.heap.push {cls:=.type "list",data:=.seq ([]:q_ Ev).toArray}) s.toks J (Rs _) λb _ o e=>Go _ e;have f:(s.heap.push {cls:=.type "list",data:=.seq ([]:q_ Ev).toArray}).get? s.heap.objs.size=P3 {cls:=.type "list",data:=.seq ([]:q_ Ev).toArray}:=UF _ rfl;have M:mC (.ref s.heap.objs.size)^.ref I=p_:=by simp[mC,L]
 show wpAny _ A.in1 (i8 (.ref s.heap.objs.size) (.ref I)^.ref s.heap.objs.size) _ _ _;unfold i8;refine Ch^j_ (U 0 _ a) ?_;rw[if_neg^by rw[M,S.1,S.2];decide];refine Ch^W.self 0 _ _ _ a ?_;refine Ch^gG ?_;refine T _ _ _ _ a λb y u=>?_
 have z:∀(h:fO) (p m:Nat),s.toks<=m->St 0 {s with heap:=h,toks:=m}->h.get? s.heap.objs.size=P3 {cls:=.type "list",data:=.seq #[] p}->(∀b o,b≠s.heap.objs.size->s.heap.get? b=P3 o->h.get? b=P3 o)->
   ∀R:Result->No->Prop,(∀g d c,g.heap.get? s.heap.objs.size=P3 {cls:=.type "list",dict:=n_,data:=.seq d c,slots:=#[]}->Moved wr G s g->ItemsOf P d n->R (.ok^.ret^.ref s.heap.objs.size) g)->
   codeAny (model prog w) A (.builtin "list.extend.loop" #[[.ref s.heap.objs.size,.ref I,.ref s.heap.objs.size],[]]) R {s with heap:=h,toks:=m}:=by
  intro h p m Y N Z hk R hR;refine codeAny_extend_loopS W hn _ r _ n 0 _ _ _ rfl (Uf _) N Z (ItemsOf.nil P) λg B c' t O C=>hR g B c' O #[λb o x e=>t.heap b o (λj=>?_)^hk b o (fQ^T0 e) e,t.gens,t.drawn,t.os,fJ Y t.toks] C
  rcases Tk.mp j with e'|j
  .exact absurd (T0 e)^by rw[e'];exact gM _
  .exact x j
 have q:∀g d c,g.heap.get? s.heap.objs.size=P3 {cls:=.type "list",dict:=n_,data:=.seq d c,slots:=#[]}->Moved wr G s g->ItemsOf P d n->wpAny (model prog w) A (load s.heap.objs.size >>=λo=>match o.data with
   |.seq xs _=>pure xs.toList
   |_=>unsupported "internal:collect") Q E g:=λg d c M h2 h3=>Ch^wpAny_load M^TW^X g d h2 h3
 have D:=W.frame 0 _ (s.heap.push {cls:=.type "list",data:=.seq ([]:q_ Ev).toArray}) y a u λb _ o e=>e;refine wpAny_ite_split (λ_=>?_) λ_=>TW #[iC F.plain_extend_loop _,z _ 0 y u D f (λb o _ e=>Go _ e) _ q];refine Ch^jr ?_;refine Ch ?_;show wpAny _ _ (updateSeq s.heap.objs.size (·.push .none) >>=λ_=>updateSeq s.heap.objs.size (·.pop)) _ _ _;refine Ch (jZ f rfl ?_);have k:=gA (gH (·.push fm)) f rfl;refine jZ (hz:=by seq_fits) k rfl ?_;have v:=gA (gH (·.pop)) k rfl;refine TW #[iC F.plain_extend_loop _,z _ _ y u ?_ v (λb o x e=>?_) _ q]
 .refine W.frame 0 {s with heap:=s.heap.push {cls:=.type "list",data:=.seq ([]:q_ Ev).toArray},toks:=y} _ y D (Rs _) λb x o e=>?_
  have H:b≠s.heap.objs.size:=λh=>r (h▸x);exact(fL _ _^gE H).trans^(fL _ _^gE H).trans e
 .exact(fL _ _^gE x).trans^(fL _ _^gE x).trans^Go _ e
def Jw{Q₁:Ev->No->Prop}(nc:(gB c==gB "list")=p_/\(gB c==gB "tuple")=p_)(hH:bc prog w St I)(W:WalksS prog w A.in1.in1 I fp wr G n P St)(hT:∀i s,St i s->s.TypeIs (.ref I) c)(hst:St 0 s)(hfp:∀b∈fp,b<s.heap.objs.size)(hI:I∈fp)
  (h:∀s' acc,Moved wr G s s'->ItemsOf P acc n->Q₁ (.ref s'.heap.objs.size) {s' with heap:=s'.heap.push {cls:=.type "tuple",data:=.seq acc}}) (hsz:n<=sizeLine):
  codeAny (model prog w) A (.call (.builtin "tuple.__new__") #[[.type "tuple",.ref I],[]]) (wants Q₁ E) s:=by
 refine ki ?_;show wpAny _ A.in1 (do checkBuiltinCall "tuple.__new__" #[[.type "tuple",.ref I],[]];again^.builtin "tuple.__new__" #[[.type "tuple",.ref I],[]]) _ _ s;refine Ch^iB (F.newCall_tuple_1 _)^TW #[iC F.plain_tuple_new _,gy F.entry_tuple_new ?_];rw[iF F.plain_tuple_new _];have hsub:=sub_tuple_self;have hinit:=init_tuple_lookup;have hmh:=madeHere_tuple;have hTI:=hT 0 s hst;have nc2:=nc.2
 wp_walk using j_ hTI,OR (hn:=hsz) nc hH W hT hst hfp hI
 intro s' acc hm hacc;show wpAny _ _ (kA acc.toList.toArray >>=λv=>ret v) _ _ _;unfold kA;refine Ch (gi ?_^by show acc.toList.toArray.size<=sizeLine;simp only[Array.toArray_toList];rw[hacc.1];exact hsz);refine TW ?_;have e:acc.toList.toArray=acc:=by simp
 rw[e];exact h s' acc hm hacc
def Jx{Q:Ev->No->Prop}(l:(gB c==gB "list")=p_/\(gB c==gB "tuple")=p_)(m:bc prog w St I)(W:WalksS prog w A.in1.in1.in1 I fp wr G n P St)(o:∀i s,St i s->s.TypeIs (.ref I) c)(j:St 0 s)(k:∀b∈fp,b<s.heap.objs.size)(p:I∈fp)
  (q:∀g e,Moved wr G s g->ItemsOf P e n->Q (.ref g.heap.objs.size) {g with heap:=g.heap.push {cls:=.type "tuple",data:=.seq e}}) (hsz:n<=sizeLine):
  wpAny (model prog w) A (call (.type "tuple") [.ref I]) Q E s:=by
 refine callType_codes (Q₁:=λf a=>a.TypeIs f "tuple"/\Q f a) mR (F.typeCall_tuple_1 _) F.entry_object_init
  (Jw (hsz:=hsz) l m W o j k p λg e r h=>#[#[_,UF _ rfl,rfl],q g e r h]) λf a d=>?_
 exact#[d.1,kz f _,object_init_meets mR.init.lookup mR.made (by cbv) prog w A.in1 _ a #[d.1,rfl,d.2]]
def Sw(e:∀i s,St i s->s.TypeIs (.ref I) "list_reverseiterator"):bc prog w St I:=by
 intro A E s Q c h;have d:=e 0 _ c;unfold i9;refine Ch^iX d QU ?_;show wpAny _ A (specialOf (fI I)^iJ "__length_hint__" >>=_) _ _ _;refine Ch (iX d TK ?_)
 (generalize a:("list_reverseiterator.__length_hint__":String)=id0;wp_delta;rw[show splitId id0=P3 ("list_reverseiterator","__length_hint__")from by subst a;decide +kernel];subst a)
 refine Ch^jt (b:=o_) d (by rw[jn];kernel_rfl) ?_;exact TW^h _ _^Rs _
end
section
variable {X:Cx}{e:Expr}{te:TE}{p1 p2 q1 q2:Pos}
def bT(X:Cx)(R:Db->q_ V->Hp->Prop):Prop:=∀{k:q_ (Db×Obj)}{Z:St}{j:Hp}{d:No}{l:Db}{h:q_ V},Inv X k Z j d->R l h j->∃e:q_ Ev,Vals h e/\h.length<=sizeLine/\l<d.heap.objs.size /\
 ∀{A:fb}{E:Ev->No->Prop}{Q:Ev->No->Prop},(∀(o:Obj) (g:Nat) (c:String) (f:Nat->No->Prop),o.isFreed=p_->(gB c==gB "list")=p_/\(gB c==gB "tuple")=p_->WalksS X.prog X.w X.A.in1.in1.in1 d.heap.objs.size [d.heap.objs.size,l] [d.heap.objs.size] (λa b=>b=a) e.toArray.size (λi v=>e.toArray[e.toArray.size - 1 - i]?=P3 v) f->
  (∀i s,f i s->s.TypeIs (.ref d.heap.objs.size) c)->bc X.prog X.w f d.heap.objs.size->f 0 {d with heap:=d.heap.push o,toks:=g}->Q (.ref d.heap.objs.size) {d with heap:=d.heap.push o,toks:=g})->wpAny (model X.prog X.w) A (call (.type "reversed") [.ref l]) Q E d
def Rl(R:Db->q_ V->Hp->Prop)(te:TE):TE:=λZ H Q=>te Z H λx a=>∃l b,x=.ref l/\R l b a/\∀r,a r=n_->Q (.ref r)^Ar a r^.tup b.reverse
def PC{R:Db->q_ V->Hp->Prop}(ok:bT X R)(Y:PE X e te)(z:Gl X "tuple")(A:X.mg "tuple"=n_)(B:Gl X "reversed")(C:X.mg "reversed"=n_)(M:starEach [ja (.Name "reversed" p2) [e] [] q2] X.env=[(p_,eval (ja (.Name "reversed" p2) [e] [] q2) X.env)])
  (N:starEach [e] X.env=[(p_,eval e X.env)]):PE X (.Call (.Name "tuple" p1) [.Call (.Name "reversed" p2) [e] [] q2] [] q1)^Rl R te:=by
 intro t s Z H Q I h;refine gc^EM I z A boot_tuple ?_;refine gz ?_ M rfl;rw[M];refine iN ?_;refine gc^EM I B C boot_reversed ?_;refine gz ?_ N rfl;rw[N];refine iN^thn (Y t s Z H _ I h) λu d zz=>?_;let#[x,j,v,r1,l,D,ex,hq,q]:=zz;refine jE ?_;subst ex;cases r1;let#[f,O,P,E,go]:=ok v hq;have k:=O.length;refine go λo m c a0 fr nc W hT hH h0=>jE ?_;have F:j d.heap.objs.size=n_:=v.fresh;have I2:Inv X t Z j {d with heap:=d.heap.push o,toks:=m}:=v.kept (t':=m) λb o e=>Go _ e;have G:FW X t j d.heap.objs.size:=v.fpOk (Rs _) F;refine Jx nc hH W hT h0 (λb n=>?_) Re (λs' a y p=>?_)^by rw[fM,←k];exact P
 .rcases Tk.mp n with rfl|n
  .exact T0^UF _ fr
  .obtain rfl:=Op.mp n
   exact fc E^by show d.heap.objs.size<=(d.heap.push _).objs.size;rw[size_push'];exact fu _
 .let#[h',g',d',g,J]:=s'
  have e1:g'=d.gens:=y.gens;have e2:d'=d.drawn:=y.drawn;have e3:J=d.os:=y.os;subst e1 e2 e3;have K:=I2.turnedL (h':=h') (t':=g) (ch:=[d.heap.objs.size]) (λc hc=>by rw[Op.mp hc];exact G) λb o n e=>y.heap b o n e;have S:Inv X t Z j {d with heap:=h',toks:=g}:=K
  have hv:a.toList=f.reverse:=by
   refine List.ext_getElem? λi=>?_;let#[T,a2]:=p;have e0:a.toList[i]?=a[i]?:=by simp
   rw[e0]
   by_cases U:i<f.length
   .have r:i<a.size:=by rw[T,fM];exact U
    have a3:=a2 i a[i] (iR r);rw[List.getElem?_reverse U,iR r,←a3,fM];simp
   .rw[kZ^by rw[lE];lk]
    exact mO^by rw[T,fM];lk
  have L:a=f.reverse.toArray:=by rw[←hv]
  have rr:Vals D.reverse f.reverse:=O.reverse;refine#[.ref h'.objs.size,Ar j h'.objs.size^.tup D.reverse,S.laid (t':=g) (λb o e=>Go _ e) (Rs _) (show ObjOk X.prog X.w _ _ _^.tup D.reverse from#[by rw[lE];exact P,f.reverse,rr,by rw[L];exact IsTupN.new _ _]),rfl,q _^S.hok.fresh^Rs _]
def Uq(K:Frag)(te:TE):TE:=Rl (λl a H=>SqL K H l a) te
def QL(o:X.calm=o_)(p:PE X e te)(d:Gl X "tuple")(f:X.mg "tuple"=n_)(g:Gl X "reversed")(h:X.mg "reversed"=n_)(q:starEach [ja (.Name "reversed" p2) [e] [] q2] X.env=[(p_,eval (ja (.Name "reversed" p2) [e] [] q2) X.env)]:=by rfl)
  (r:starEach [e] X.env=[(p_,eval e X.env)]:=by rfl):PE X (.Call (.Name "tuple" p1) [.Call (.Name "reversed" p2) [e] [] q2] [] q1)^Uq X.K te:=by
 refine PC (λ{x Z y c l z} n s=>?_) p d f g h q r;let#[a,t,u,v]:=n.list s;have j:c.heap.IsList l a.toArray:=u.isList;have b:l<c.heap.objs.size:=by let#[_,e,_]:=id j;exact T0 e
 refine#[a,t,v,b,λ{A E Q} k=>call_reversed_list j (k (revObj l ((a.toArray.size:Int) - 1)) c.toks "list_reverseiterator" _ rfl (by cbv) (Walks.listRev (A:=X.A.in1.in1.in1) (n.ok.hd o) c.heap.objs.size l (fQ b) a.toArray).toS (λi w m=>m.2.1.typeIs) (Sw λi w m=>m.2.1.typeIs) #[Uf _,#[_,UF _ rfl,rfl,by show Data.fields _=_;simp[revObj]],j.push _])]
end
end L2
namespace Dp
open L2
def Uj(b:DW):DW:=λn c P=>b n c λd e=>∃a,d=.lst a/\P (.tup a.reverse) e
section
variable {X:Cx}{a:Expr}{zT:Kd}{wa:DW}{p1 p2 q1 q2:Pos}
def Qz(m:X.calm=o_)(o:DE X a zT wa)(b:Gl X "tuple")(c:X.mg "tuple"=n_)(e:Gl X "reversed")(f:X.mg "reversed"=n_)(s:starEach [ja (.Name "reversed" p2) [a] [] q2] X.env=[(p_,eval (ja (.Name "reversed" p2) [a] [] q2) X.env)]:=by rfl)
  (u:starEach [a] X.env=[(p_,eval a X.env)]:=by rfl):DE X (.Call (.Name "tuple" p1) [.Call (.Name "reversed" p2) [a] [] q2] [] q1) .sh^Uj wa:=by
 let#[t,x,y]:=o;refine#[_,QL m x b c e f s u,λC M H n z Z P Q R w q=>?_];refine y C M H n z Z _ _ R w λv h d A i j B p=>?_;let#[I,rfl,p]:=p;have D:=R.step i j;let#[E,k,rfl,J,F,G]:=B.tpOf R.dom R.vM;refine#[E,k,rfl,.inl F,λr l=>?_];have g:Grow h^Ar h r^.tup k.reverse:=Aq l;exact q _ _ (.tup _) A (i.trans g.ext) (j.grow g) (Cj D.dom l^G.reverse) p
end
def ZU(i:Nat)(e:DW)(b:BW):AW:=λf n a=>∃c,a[i]?=P3^.ow^.lst c/\e n a λd g=>∃(k:Nat) (x:D),d=.int (k:Int)/\c[k]?=P3 x/\k<2 ^ 60/\b x (a.set i^.ow^.lst^c.eraseIdx k) λh=>f.nx g h
section
variable {X:Cx}{κ zR:Kd}{tg e:Expr}{b:BW}{we:DW}{pos p apos cpos:Pos}{x:Str}{i:Nat}
def QE{k n:Nat}(h:k<n):seqIndex? (k:Int) n=P3 k:=by
 refine(Lh ?_).1;unfold S7
 grind
def Vy(h:PE X (.Name x p)^Bp i)(P:DE X e zR we)(Q:DG X tg b)
  (S:swapsWithSole [tg] (.Call (.Attribute (.Name x p) "pop" apos) [e] [] cpos) pos.line X.env=pure p_:=by rfl) (T:swappedStores [tg] (.Call (.Attribute (.Name x p) "pop" apos) [e] [] cpos) X.env=pure n_:=by rfl)
  (U:(assignEach [tg] X.env).map (·.2)=[assign tg X.env]:=by rfl)
  (f:attributeBase (.Name x p) "pop" X.env^eval (.Name x p) X.env=eval (.Name x p) X.env:=by rfl)
  (l:((backTo cpos^starEach [e] X.env).all (λx=>!x.1)&&(backToKw cpos^keywordEach [] X.env).all (λx=>x.1.isSome)
   && decide ([e].length+([]:q_ iO).length+(if([]:q_ iO).isEmpty then 0 else 1)<30))=o_:=by rfl)
  (j:(apos.endLine==cpos.line)=o_:=by rfl) (q:starEach [e] X.env=(p_,eval e X.env)::starEach [] X.env:=by rfl) (c:(backTo cpos^starEach [] X.env).any (·.1)=p_:=by rfl):
  DS X κ (.Assign [tg] (.Call (.Attribute (.Name x p) "pop" apos) [e] [] cpos) pos) (ZU i we b):=by
 let#[t,V,W]:=P;let#[g,Y,g2]:=Q;refine#[_,LQ (PF PySem.F.plainAttrs_list PySem.F.slot_list_pop PySem.F.type_list_pop Sr h (BL V CH q) f l j q c) Y S T U,λC M H n ρ Z D2 E R L w=>?_];let#[G,z,w]:=w;let#[a,A,m,nv,tt]:=R.sl i _ z;exists .ref a,getD_some A,Li (show bv "list"^.lst G from rfl)^tt.att nv;refine W C M H n ρ Z _ _ R w λv H1 d I ee f1 r1 p=>?_;let#[k,y,rfl,hx,hk,p]:=p;have J:=R.step ee f1;let#[a',r,K,a0,u,B,s]:=J.sl i _ z;rw[A]at r;cases r;let#[N,O,hv]:=s.get hx;have D:k<u.length:=(eq.mp O).1;exists a,u,(k:Int),k,N,rfl,by rw[Lj r1],B,by lk,by lk,QE D,O;have R2:=J.mut (e:=.lst^G.eraseIdx k) z A (o:=.lst^u.eraseIdx k) #[u.eraseIdx k,AR,(s.eraseIdx k).pres^Cg K B];exact g2 C M _ I _ Z y N _ _ R2 (hv.pres^Cg K B) p λzY zZ R' w'=>L.nx M _ I zY zZ R' w'
end
end Dp
namespace L2
end L2
namespace Dp
open L2
end Dp
namespace L2
open AutoSeq1 (wpAny_loadPart')
def boot_enumerate:bootBuiltins "enumerate"=P3^.type "enumerate":=by decide +kernel
section
variable {prog:Program}{w:World}{A:Around}{E:Value->Shared->Prop}{s:Shared}
def Qx{κ:Bool}(j:A.handled=n_)(it l:Db)(f:l≠it)(c:Array Ev):Draws prog w A it [it,l] c.size (λi v=>c[i]?=P3 v) (λi h=>ItAt κ h it l i/\SqAt κ h l c) where
 live:=λ_ _ d=>let #[o,m,_]:=d.1.lies;#[o,m]
 frame:=λ_ _ _ d k=>#[d.1.mv λo e=>k it (by simp) o e,d.2.mv λo e=>k l (by simp) o e]
 item:=λi s Q E g d n=>FO d.1 d.2 (x:=c[i]) (by simp[g]) λp a b=>n _ p s.toks (by simp[g]) #[a,d.2.eb b.extBut f] b
 done:=λs Q E d q=>Ge j d.1 d.2 (by simp) q
def ON{κ:Bool}(c:A.handled=n_)(it l:Db)(a:Array Ev)(k:Nat)(d:a[k]?=n_):Draws prog w A it [it,l] k (λ_ _=>True) (λi h=>ItAt κ h it l i/\SqAt κ h l a/\i=k) where
 live:=λ_ _ b=>let #[o,f,_]:=b.1.lies;#[o,f]
 frame:=λ_ _ _ b k=>#[b.1.mv λo e=>k it (by simp) o e,b.2.1.mv λo e=>k l (by simp) o e,b.2.2]
 item:=λi s Q E g b m=>absurd b.2.2^fQ g
 done:=λs Q E b j=>Ge c b.1 b.2.1 d j
def Sm(κ:Bool)(l:Db)(items:Array Ev):Meets (h8.«enumerate.__new__» #[[.type "enumerate",.ref l],[]]) (λ_ R s=>SqAt κ s.heap l items /\
   R (.ok^.ret^.ref (s.heap.push^He κ l).objs.size) {s with heap:=(s.heap.push^He κ l).push {cls:=.type "enumerate",data:=.fields #[ .none,.bool p_,.ref s.heap.objs.size,rawInt 0,.none,.none]}}):=
 .of_wp λprog w A R s h=>by
  let#[hp,g,d,tk,os]:=s;let#[hl,h]:=h
  have hsub:=sub_enumerate;cases κ with
  | true=>
   have hL:mN (je #[hp,g,d,tk,os]) l items:=hl;let#[#[c,dct,dt,sl],ho,hc,n,hd]:=id hL;replace hc:c=.type "list":=hc;replace hd:dt=.seq items n:=hd;subst hc hd
   wp_walk using gg ho
   refine wpAny_stack_any λst=>TW ?_
   split
   .rename_i c _ _ _ _ _
    cases(c==gB "enumerate") <;>(wp_walk using gg ho,hU hL;exact#[_,rfl,h])
   ·(wp_walk using gg ho,hU hL;exact#[_,rfl,h])
  | false=>
   have hL:l9 (je #[hp,g,d,tk,os]) l items:=hl;let#[#[c,dct,dt,sl],ho,hc,n,hd]:=id hL;replace hc:c=.type "tuple":=hc;replace hd:dt=.seq items n:=hd;subst hc hd
   wp_walk using gg ho
   refine wpAny_stack_any λst=>TW ?_
   split
   .rename_i c _ _ _ _ _
    cases(c==gB "enumerate") <;>(wp_walk using gg ho,gm hL;exact#[_,rfl,h])
   ·(wp_walk using gg ho,gm hL;exact#[_,rfl,h])
def Jz{c:Bool}{l:Db}{a:Array Ev}{Q:Ev->No->Prop}(j:SqAt c s.heap l a)
  (h:∀d,IsEnum d (s.heap.objs.size+1) s.heap.objs.size 0 .none->ItAt c d s.heap.objs.size l 0->(∀b o,s.heap.get? b=P3 o->d.get? b=P3 o)->Q (.ref (s.heap.objs.size+1)) {s with heap:=d}):
  wpAny (model prog w) A (call (.type "enumerate") [.ref l]) Q E s:=by
 refine callType_new F.called_enumerate (by cbv) (F.typeCall_enumerate_1 _) (F.newCall_enumerate_1 _) (λf=>kz f _) F.entry_enumerate_new (Sm c l a) #[j,?_];have g:(s.heap.push^He c l).objs.size=s.heap.objs.size+1:=gU ..;have i:((s.heap.push^He c l).push {cls:=.type "enumerate",data:=.fields #[ .none,.bool p_,.ref s.heap.objs.size,rawInt 0,.none,.none]}).get? (s.heap.push^He c l).objs.size=P3 _:=UF _ rfl;rw[g]at i;exists#[_,by rw[g];exact i,rfl];rw[g];exact h _ i ((JE c s.heap l).mv λo e=>Go _ e) λb o e=>Go _^Go _ e
end
def ZO(K:Frag)(c:Bool)(a:Db)(b:q_ V):It:=
 #[λi H=>SqK c K H a b/\i<b.length,λi H x d=>∃T p,x=.ref T/\H T=n_/\d=Ar H T^.tup [.int i,p]/\b[i]?=P3 p,λi H=>SqK c K H a b/\b.length<=i]
structure ZG (κ:Bool) (e it a:Db) (k:Nat) (h:fO):Prop where
 e:∃old,IsEnum h e it (k:Int) old
 i:ItAt κ h it a k
def P_{P:fT}{w:fY}{K:Frag}{es:q_ fZ}{j:Nat}{pos:Pos}(κ:Bool)(e it a:Db)(R:q_ V)(p:e≠it)(ae:a≠e)(ai:a≠it):
  Turn P w K (.Tuple es j pos) (ZO K κ a R) [e,it] e (ZG κ e it a) where
 mem:=by simp
 obj:=λi h d c b=>by
  simp only[Tk,fH,or_false]at b
  rcases b with rfl|rfl
  .let#[o,q]:=d.e
   exact#[_,q,λv q=>by cases q]
  .exact d.i.lies
 keep:=λi h S d k=>by
  let#[o,q]:=d.e;exact#[#[o,k e (by simp) _ q],d.i.mv λo e=>k it (by simp) o e]
 item:=by
  intro X r t y b i T s Z H E I l d B;subst r t y;let#[C,D]:=B;let#[m,n,F]:=C.at I;let#[u,hu,ru]:=n.get^On D;let#[g,f]:=d.e;have l1:=n.length;refine wpAny_pyNext_enum_itemD (Qx (κ:=κ) (A:=X.A.in1) (I.ok.hd b) it a ai m.toArray) f #[d.i,F] (by simp;lk) p (by simp[p,ae.symm]) λx S G hp a1 a2 a3 a4 a5=>#[_,rfl,?_]
  have J:x=u:=by
   have U:m[i]?=P3 x:=by simpa using hp
   rw[hu]at U;exact(fG U).symm
  subst J;refine wpAny_letOwnedTupleGo_enum a1 λW b1 L=>?_;have hT:H s.heap.objs.size=n_:=I.hok.fresh^Rs _
  have M:∀c o,c∉[e,it]->s.heap.get? c=P3 o->W.get? c=P3 o:=λc o b z=>by
   simp only[Tk,fH,or_false,not_or]at b;exact L.extBut _ _ b.1^a5 c o b.1 b.2 z
  have I2:Inv X T Z (Ar H s.heap.objs.size^.tup [.int i,R[i]]) {s with heap:=W,toks:=G+1}:=by
   refine I.turnLaid (t':=G+1) (ch:=[e,it]) l M (Rs _) ?_;have nT:s.heap.objs.size≠e:=iV^T0 f;exact#[by show 2<=sizeLine;decide,[.int i G,x],.cons #[_,rfl]^.cons ru .nil,#[_,L.extBut _ _ nT a3,rfl,_,rfl,rfl,rfl]]
  refine#[.ref s.heap.objs.size,_,I2,rfl,#[_,_,rfl,hT,rfl,On D],#[#[_,b1],a2.1.eb L.extBut p.symm],λc b=>?_];have N:H c=n_:=(l c b).1
  have O:c≠s.heap.objs.size:=λz=>by
   obtain⟨o,Y⟩:∃o,s.heap.get? c=P3 o:=by
    simp only[Tk,fH,or_false]at b
    rcases b with rfl|rfl
    .exact#[_,f]
    .let#[o,q,_]:=d.i.lies;exact#[o,q]
   rw[z]at Y;exact gM _^T0 Y
  rw[AM O];exact N
 done:=by
  intro X r t y b i T s Z H E I l d B;subst r t y;let#[C,D]:=B;let#[m,n,F]:=C.at I;let#[g,f]:=d.e;have l1:=n.length;refine wpAny_pyNext_enum_endD (ON (κ:=κ) (A:=X.A.in1) (I.ok.hd b) it a m.toArray i^by simp;lk) f #[d.i,F,rfl] λS M=>#[rfl,?_];refine I.turnedL (t':=s.toks) (ch:=[e,it]) l λc o b e=>?_;simp only[Tk,fH,or_false,not_or]at b;exact M c o b.2 e
 self:=λA i s Q E d h=>by
  let#[g,f]:=d.e;exact wpAny_pyIter_enum f h
section
variable {X:Cx}{e1:Expr}{es:q_ Expr}{j:Nat}{tpos p pos:Pos}{te:TE}
def aW(K:Frag)(te:TE):TI:=λZ H R=>te Z H λv b=>∃c a d,v=.ref a/\SqK c K b a d/\R (ZO K c a d) b
def U_(t:Gl X "enumerate")(v:X.mg "enumerate"=n_)(w:PE X e1 te)(g:starEach [e1] X.env=[(p_,eval e1 X.env)]:=by rfl):
  PI X (.Tuple es j tpos) (.Call (.Name "enumerate" p) [e1] [] pos) (aW X.K te):=by
 intro y s Z H R I h;refine gc^EM I t v boot_enumerate ?_;refine gz ?_ g rfl;rw[g];refine iN^thn (w y s Z H _ I h) λu b zz=>?_;let#[x,z,f,A,i,a,k,ex,B,q]:=zz;refine jE ?_;subst ex;cases A;let#[F,C,l]:=B.at f;have m:a<b.heap.objs.size:=by let#[o,e]:=l.lies;exact T0 e
 refine Jz l λG n D E=>?_;refine wpAny_pyIter_enum n ?_;refine#[b.heap.objs.size+1,[b.heap.objs.size+1,b.heap.objs.size],_,ZO X.K i a k,z,rfl,f.kept (t':=b.toks) E,P_ i _ _ a k (by show(_:Nat)≠(_:Nat);lk) (fQ^gj m)^fQ m,#[#[_,n],D],λc r=>?_,q]
 have d:b.heap.objs.size<=c:=by
  simp only[Tk,fH,or_false]at r
  rcases r with rfl|rfl
  .exact fu _
  .exact Rs _
 exact f.fpOk d^f.hok.fresh d
end
end L2
namespace Dp
open L2
def Fh:Nat->q_ D->q_ D
 |_,[]=>[]
 |k,x::r=>.tup [.int (k:Int),x]::Fh (k+1) r
theorem Kq:∀(k:Nat) (a:q_ D),(Fh k a).length=a.length
 |_,[]=>rfl
 |k,x::r=>by show(Fh (k+1) r).length+1=r.length+1;rw[Kq (k+1) r]
theorem Kr:∀(k:Nat) (a:q_ D) (i:Nat),(Fh k a)[i]?=(a[i]?).map λx=>.tup [.int ((k+i:Nat):Int),x]
 |_,[],i=>by simp[Fh]
 |k,x::r,0=>rfl
 |k,x::r,i+1=>by
  show(Fh (k+1) r)[i]?=(r[i]?).map _;rw[Kr (k+1) r i,show k+1+i=k+(i+1) by lk]
section
variable {K:Frag}
def ND{M:Db->Prop}{H:Hp}{g:Bool}{a:Db}{c:q_ V}{e:q_ D}(m:Ats K M H e c){i:Nat}{j:Db->Prop}{b:Hp}(s:Pres M H j b)(n:SqK g K b a c)(k:∀a,j a->∃o,b a=P3 o):
  (∀d,(Fh 0 e)[i]?=P3 d->(ZO K g a c).go i b/\∀x H2,(ZO K g a c).yld i b x H2->Grow b H2/\At K j H2 d x)/\((Fh 0 e).length<=i->(ZO K g a c).stop i b):=by
 have z:=m.length;refine#[λd f=>?_,λt=>#[n,by rw[Kq]at t;lk]];rw[Kr,k6]at f;cases h:e[i]? with
 |none=>rw[h]at f;cases f
 |some u=>
  rw[h]at f;have l:D.tup [.int (i:Int),u]=d:=fG f;have A:i<e.length:=(eq.mp h).1;refine#[#[n,by lk],λx H2 y=>?_];let#[T,p,rfl,q,rfl,v]:=y;let#[B,r,w]:=(m.pres s).get h;rw[v]at r;cases r;subst l;exact#[Aq q,Cj k q #[.int (i:Int),[p],rfl,rfl,p,[],rfl,w,rfl]]
end
section
variable {X:Cx}{e1:Expr}{es:q_ Expr}{j:Nat}{tpos p pos:Pos}{κ:Kd}{wa:DW}
def WW(wa:DW):De:=λn b P=>wa n b λd c=>∃a,EY d=P3 a/\P (Fh 0 a) c
def V2(g:Gl X "enumerate")(k:X.mg "enumerate"=n_)(h:DE X e1 κ wa)(l:κ≠.tp:=by intro z;cases z)(m:starEach [e1] X.env=[(p_,eval e1 X.env)]:=by rfl):
  DI X (.Tuple es j tpos) (.Call (.Name "enumerate" p) [e1] [] pos) (WW wa):=by
 let#[t,o,r]:=h;refine#[_,U_ g k o m,λC M H n s Z P J R w q=>?_];refine r C M H n s Z _ _ R w λv c d u x y A p=>?_;let#[K,B,p]:=p;let#[D,a,E,rfl,F,e]:=Nl (A.shOf R.dom l) B;exact#[D,a,E,rfl,e M c^Pres.refl _ _,q _ c _ u x y (λi G I f b=>ND F f (e G I f) b) p]
end
def ZV(i:Nat)(b:BW)(a:AW):AW:=λf n c=>∃d e,c[i]?=P3^.br d/\EY d=P3 e/\Ae b a f e n c
section
variable {X:Cx}{κ:Kd}{tg:Expr}{body:q_ Stmt}{b:BW}{wb:AW}{pos p:Pos}{x:Str}{i:Nat}
def Rel.lessKp{K:Frag}{C:Fm}{q:Db×HO}{M:Db->Prop}{H:Hp}{n:Nat}{a:q_ Slot}{Z:L2.St}(R:Rel K {C with kp:=q::C.kp} M H n a Z):Rel K C M H n a Z:=
 #[R.len,R.sub,R.dom,R.ext,R.fU,R.uV,R.vM,R.feed,R.sl,R.pin,R.br0,R.new,R.two,λp c=>R.kept p^Sc _ c]
def Pm(hp:j9 (model X.prog X.w) X.A X.env X.xe)(hc:X.calm=o_)(h:PE X (.Name x p)^Bp i)(hg:DG X tg b)(hb:J7 X κ body wb)
  (hs:∀y,foldedSetIterable (.Name x p) X.env y=pure y:=by intro _;rfl):DS X κ (.For tg (.Name x p) body [] pos)^ZV i b wb:=by
 let#[g,g1,g2]:=hg;let#[tb,b1,b2]:=hb;refine#[_,G3 hp hc (LR h) g1 b1 hs,λC M H n U Z G E R L w=>?_];let#[d,f,hi,hd,w]:=w;let#[v,e1,a2]:=R.sl i _ hi;cases d with
 | tup a3=>
  cases hd;let#[a,I,rfl,hn,J]:=a2;refine#[.ref a,getD_some e1,.inr^.inl #[a,rfl,#[I,hn.sq],?_]];obtain⟨c,ek⟩:∃c,c=C.kp:=#[_,rfl];have R1:Rel X.K {C with kp:=c} M H n U Z:=by rw[ek];exact R
  have B:∀{M H n U Z},Rel X.K {C with kp:=c} M H n U Z->Rel X.K C M H n U Z:=λR=>by rw[ek]at R;exact R
  have st:∀l k r s t,Rel X.K {C with kp:=c,zH:=(M,H)::C.zH} l k r s t->SqT X.K k a I:=λl k r s t D=>(hn.pres^D.pin (M,H) Re).sq;exists λi m t k=>m=f.length - i/\i<=f.length/\∃l r s,Rel X.K {C with kp:=c,zH:=(M,H)::C.zH} l k r s t/\Ae b wb G (f.drop i) r s,#[f.length,by simp,Uf _,M,n,U,R1.pinned,w];rintro i m t k ⟨rfl,a4,l,r,s,D,V⟩;have pr:Pres M H l k:=D.pin (M,H) Re;have N:=st l k r s t D
  by_cases F:i<f.length
  .have ed:f.drop i=f[i]::f.drop (i+1):=gZ F
   rw[ed]at V;let#[v,ev,hv]:=(J.pres pr).get^On F;refine .inr #[#[I,v,N,ev],λzN H2=>∃M2 W Y,Rel X.K {C with kp:=c,zH:=(M,H)::C.zH} M2 H2 W Y zN/\Ae b wb G (f.drop (i+1)) W Y,λzN H2 #[M2,W,Y,a0,w2]=>#[f.length - (i+1),by lk,rfl,F,M2,W,Y,a0,w2],λy H2 hy=>?_];let#[e2,hy]:=hy;subst e2
   have:P3 v=P3 y:=ev.symm.trans^hy I N
   cases this;refine g2 _ l H2 r s t f[i] v _ _ D hv V λzO zV R3 w3=>?_;refine b2 _ l H2 r zO zV {G with nx:=Ae b wb G^f.drop (i+1),ct:=Ae b wb G^f.drop (i+1),bk:=G.nx} _ R3 #[λO H4 P Q zS S T=>#[O,P,Q,S,T],L.rt,λO H4 P Q zS S T=>L.nx O H4 P Q zS (B S.unpin) T,λO H4 P Q zS S T=>#[O,P,Q,S,T]] w3
  .have e:i=f.length:=by lk
   subst e;rw[iq]at V;exact .inl #[#[I,N,by rw[J.length];exact Rs _],L.nx l k r s t (B D.unpin) V]
 | lst a3=>
  cases hd;let#[a,I,rfl,nV,hH,J]:=a2
  obtain⟨o,ho,a1⟩:∃o,H a=P3 o/\∀k:Hp,k a=P3 o->SqL X.K k a I:=by
   rcases hH with z|⟨u,z⟩
   .exact#[_,z,λk e=>.inl^.inl e]
   .exact#[_,z,λk e=>.inl^.inr #[u,e]]
  refine#[.ref a,getD_some e1,.inl #[a,rfl,#[I,a1 H ho],?_]]
  obtain⟨c,R1,B,st⟩:∃c,Rel X.K {C with kp:=c} M H n U Z/\(∀{M H n U Z},Rel X.K {C with kp:=c} M H n U Z->Rel X.K C M H n U Z)/\(∀l k r s t,Rel X.K {C with kp:=c,zH:=(M,H)::C.zH} l k r s t->SqL X.K k a I):=by
   by_cases hM:M a
   .refine#[(a,o)::C.kp,#[R.len,R.sub,R.dom,R.ext,R.fU,R.uV,R.vM,R.feed,R.sl,R.pin,R.br0,R.new,R.two,λq N=>?_],λR=>R.lessKp,λl k r s t D=>a1 k (D.kept (a,o) Re).1]
    rcases Tk.mp N with rfl|N
    .refine#[ho,hM,nV,λj e q z=>?_]
     let#[u,hu]:=R.br0 i _ a hi e1
     have:=(R.new j _ a q rfl z).2
     rw[hu]at this;cases this
    .exact R.kept q N
   .exact#[C.kp,R,λR=>R,λl k r s t D=>a1 k^(D.pin (M,H) Re).1 a o ho hM]
  exists λi m t k=>m=f.length - i/\i<=f.length/\∃l r s,Rel X.K {C with kp:=c,zH:=(M,H)::C.zH} l k r s t/\Ae b wb G (f.drop i) r s,#[f.length,by simp,Uf _,M,n,U,R1.pinned,w];rintro i m t k ⟨rfl,a4,l,r,s,D,V⟩;have pr:Pres M H l k:=D.pin (M,H) Re;have N:=st l k r s t D
  by_cases F:i<f.length
  .have ed:f.drop i=f[i]::f.drop (i+1):=gZ F
   rw[ed]at V;let#[v,ev,hv]:=(J.pres pr).get^On F;refine .inr #[#[I,v,N,ev],λzN H2=>∃M2 W Y,Rel X.K {C with kp:=c,zH:=(M,H)::C.zH} M2 H2 W Y zN/\Ae b wb G (f.drop (i+1)) W Y,λzN H2 #[M2,W,Y,a0,w2]=>#[f.length - (i+1),by lk,rfl,F,M2,W,Y,a0,w2],λy H2 hy=>?_];let#[e2,hy]:=hy;subst e2
   have:P3 v=P3 y:=ev.symm.trans^hy I N
   cases this;refine g2 _ l H2 r s t f[i] v _ _ D hv V λzO zV R3 w3=>?_;refine b2 _ l H2 r zO zV {G with nx:=Ae b wb G^f.drop (i+1),ct:=Ae b wb G^f.drop (i+1),bk:=G.nx} _ R3 #[λO H4 P Q zS S T=>#[O,P,Q,S,T],L.rt,λO H4 P Q zS S T=>L.nx O H4 P Q zS (B S.unpin) T,λO H4 P Q zS S T=>#[O,P,Q,S,T]] w3
  .have e:i=f.length:=by lk
   subst e;rw[iq]at V;exact .inl #[#[I,N,by rw[J.length];exact Rs _],L.nx l k r s t (B D.unpin) V]
 |_=>cases hd
end
end Dp
namespace L2
open PySem.W
end L2
namespace Dp
open L2
end Dp
namespace L2
def de(d:Db)(o:Obj)(a:q_ (Key×V)):It:=
 #[λi H=>H d=P3^.frz o^.dK a/\i<a.length,λi H x b=>b=H/\∃p,a[i]?=P3 p/\x=kV p.1,λi H=>H d=P3^.frz o^.dK a/\a.length<=i]
def P9{P:fT}{w:fY}{K:Frag}{tg:fZ}(d n:Db)(o:Obj)(a:q_ (Key×V))(es:Array DictEntry)(U:Nat)(g:o.data=.dict es U):
  Turn P w K tg (de d o a) [n] n (λi h=>h.IsKeyIter n d i a.length U) where
 mem:=by simp
 obj:=λi h f c j=>by
  rw[Op.mp j];let#[u,B,_,hd]:=f;exact#[u,B,λv q=>by rw[hd]at q;cases q]
 keep:=λi h C f k=>f.at λu e=>k n (by simp) u e
 item:=by
  intro X F G J j i W s Z H E I r f L;subst F G J;let#[M,Y]:=L;let#[t,x,D]:=FQ I M g
  have y:=x.length;have N:i<t.length:=by lk
  rw[y]at f;obtain⟨k,v,O⟩:∃k v,t[i]=(k,v):=#[_,_,rfl];have hx:t[i]?=P3 (k,v):=by rw[On N,O]
  have hp:a[i]?=P3 a[i]:=On Y;let#[R,rv]:=Iu x hp hx;have R:a[i].1=k:=R;refine wpAny_pyNext_dict_item f D hx λa0 C l p m=>#[_,rfl,?_];let#[u,B,S,T]:=id p;refine M8 B S T (by cbv) ?_;have I2:Inv X W Z H {s with heap:=C}:=I.turnedL (t':=s.toks) (ch:=[n]) r λc o j e=>m.extBut c o (λz=>j^by rw[z];exact Op.mpr rfl) e;exact#[_,H,I2,S5 (by rw[←R]at l;exact l),#[rfl,_,hp,rfl],by rw[y];exact p,λb hb=>(r b hb).1]
 done:=by
  intro X F G J j i W s Z H E I r f L;subst F G J;let#[M,Y]:=L;let#[t,x,D]:=FQ I M g
  have y:=x.length;rw[y]at f;refine wpAny_pyNext_dict_end (I.ok.hd j) f D (kZ^by lk) λC ext=>#[rfl,?_];exact I.turnedL (t':=s.toks) (ch:=[n]) r λc o j e=>ext c o (λz=>j^by rw[z];exact Op.mpr rfl) e
 self:=λA i s Q E f h=>wpAny_pyIter_keyiter f h
def aV(c:TE):TI:=λZ H R=>c Z H λx b=>∃d o a,x=.ref d/\b d=P3^.frz o^.dK a/\R (de d o a) b
def U9{X:Cx}{e y:fZ}{p:TE}(z:PE X e p):PI X y e^aV p:=by
 intro A s Z H R I h;refine thn (z A s Z H _ I h) λu i zz=>?_;let#[x,r,g,B,d,o,f,ex,j,q]:=zz;subst ex;cases B;let#[_,C,_]:=Fi g.hok^.inr #[o,j]
 obtain⟨k,l,a⟩:∃k l,o.data=.dict k l:=by
  let#[E,_,_,F,t,L,m,n,v,M,G,N]:=(show ObjOk X.prog X.w r i.heap d^.frz o^.dK f from g.hok d _ j);rw[E]at v;cases v;exact#[m,n,G]
 let#[F,t,D]:=FQ g j a
 have J:=t.length;refine wpAny_pyIter_dict C D ?_;refine#[i.heap.objs.size,[i.heap.objs.size],_,de d o f,r,rfl,g.kept (t':=i.toks) λb o e=>Go _ e,P9 d _ o f k l a,#[_,UF _ rfl,rfl,by rw[J];rfl],λc K=>?_,q];rw[Op.mp K];exact g.fpOk (Rs _)^g.hok.fresh^Rs _
end L2
namespace Dp
open L2
section
variable {X:Cx}{a tg:Expr}{zT:Kd}{wa:DW}
def WS(wa:DW):De:=λn c P=>wa n c λd e=>∃b f,d=.fdi b f/\(∀k∈b,Lg k)/\P (b.map W9) e
def V1(D:DE X a zT wa):DI X tg a^WS wa:=by
 let#[t,E,F]:=D;refine#[_,U9 E,λC M H n G Z P V R w q=>?_];refine F C M H n G Z _ _ R w λv l d I m r J p=>?_;let#[b,s,rfl,f,p]:=p;have W:=R.step m r;obtain⟨u,c,rfl,⟨o,L,z⟩,A,N⟩:∃a c,v=.ref a/\NdF M l a b c/\b.length=s.length/\Ats X.K M l s c:=J.tpOf R.dom R.vM;have Y:=N.length;refine#[u,o,_,rfl,z,q _ _ _ I m r (λi M' O Q S=>?_) p];have g:O u=P3^.frz o^.dK^b.zip c:=(Q.nd L z).2;have zl:(b.zip c).length=b.length:=by rw[mI];lk
 refine#[λe h=>?_,λj=>#[g,by rw[FM]at j;lk]];have k:i<b.length:=by have:=(eq.mp h).1;rw[FM]at this;exact this
 refine#[#[g,by lk],λx H2 y=>?_];let#[rfl,pp,B,rfl]:=y
 have T:(b.zip c)[i]?=P3 (b[i],c[i]'(by lk)):=by
  rw[lq];exact#[On k,On^by lk]
 rw[T]at B;cases B
 have U:e=W9 b[i]:=by
  rw[fK,On k]at h;exact(fG h).symm
 subst U;exists .refl;rw[S6];exact Tx^f _^f7 k
def RW(wa:DW):DW:=λn e P=>wa n e λd f=>∃c b,d=.dic c b/\CI b=o_/\P (.fdi c b) f
mutual
theorem At.frz{K:Frag}{M:Db->Prop}{H:Hp}{a:Db}{f:Db->Obj}{kvs:q_ (Key×V)}(ha:H a=P3^.dK kvs):∀{d:D}{v:V},E3 d=o_->At K M H d v->At K M (FU H [a] f) d v
 |.non,v,_,h=>h
 |.bl b,v,_,h=>h
 |.int i,v,_,h=>h
 |.str x,v,_,h=>h
 |.tup ds,v,hn,h=>by
  let#[b,vs,e,n2,hs]:=h;refine#[b,vs,e,?_,Ats.frz ha hn hs];unfold NdT at n2 ⊢;rw[DR λz=>by rw[Op.mp z,ha]at n2;cases n2];exact n2
 |.lst ds,v,hn,h=>by
  let#[b,vs,e,#[n1,n2],hs]:=h;refine#[b,vs,e,#[n1,?_],Ats.frz ha hn hs];rw[DR λz=>by rw[Op.mp z,ha]at n2;cases n2];exact n2
 |.dic _ _,v,hn,h=>by cases hn
 |.fdi _ _,v,hn,h=>by cases hn
 |.dit _ _,v,hn,h=>by cases hn
theorem Ats.frz{K:Frag}{M:Db->Prop}{H:Hp}{a:Db}{f:Db->Obj}{kvs:q_ (Key×V)}(ha:H a=P3^.dK kvs):∀{ds:q_ D}{vs:q_ V},CI ds=o_->Ats K M H ds vs->Ats K M (FU H [a] f) ds vs
 |[],vs,_,h=>h
 |d::ds,vs,hn,h=>by
  let#[v,r,e,h1,h2]:=h;have hn:(E3 d&&CI ds)=o_:=hn;rw[fN]at hn;exact#[v,r,e,At.frz ha hn.1 h1,Ats.frz ha hn.2 h2]
end
def Tv(A:DE X a .fr wa):DE X a .sh^RW wa:=by
 let#[t,B,D]:=A;refine#[_,Sa B,λC M H n E Z P Q R w q=>?_];refine D C M H n E Z _ _ R w λv u d F G I J p=>?_;let#[K,L,rfl,l,p]:=p;let#[b,rfl,x,N,j,O,S]:=J;refine#[[b],λc T=>by rw[Op.mp T];exact#[_,j],λf=>?_];have U:¬M b:=λz=>by let#[o,w]:=R.dom b z;rw[x]at w;cases w
 have e:∀{c:Db},c≠b->FU u [b] f c=u c:=λh=>DR λz=>h^Op.mp z;refine q _ _ (.fdi K L) F (λc o y=>?_) ?_ #[b,N,rfl,#[f b,U,Ll (Op.mpr rfl) j],O,Ats.frz j l ?_] p
 .have V:c≠b:=An y x
  let#[W,Y,k1]:=G c o y;exact#[W,by rw[e V];exact Y,k1]
 .intro g hg
  let#[m,k,i,r,h2,#[n3,s],h4]:=I g hg;exact#[m,k,i,by rw[e λz=>by rw[z,j]at r;cases r];exact r,h2,#[n3,by rw[e λz=>by rw[z,j]at s;cases s];exact s],h4]
 .exact S.pres^Pres.less (M':=M) λ_ z=>.inl z
end
end Dp
namespace L2
open PySem.W
structure fC (prog:fT) (w:fY) (A:fb) (I d:Db) (n:Nat) (base:fO) (key:Nat->Db) (val:Nat->Ev) (ch:Db->Prop) (St:Nat->fO->Prop):Prop where
 new:∀b,ch b->base.get? b=n_
 item:∀(i:Nat) (s:No) (Q:Option Ev->No->Prop) (E:Ev->No->Prop),i<n->St i s.heap->(∀b o,base.get? b=P3 o->s.heap.get? b=P3 o)->(∃o,s.heap.get? d=P3 o)->
  (∀h' tk a o c,h'.get? a=P3 o->o.cls=.type "tuple"->o.data=.seq #[ .ref^key i,val i] c->St (i+1) h'->(∀b o,¬ch b->s.heap.get? b=P3 o->h'.get? b=P3 o)->Q (P3^.ref a) {s with heap:=h',toks:=tk})->wpAny (model prog w) A (pyNext^.ref I) Q E s
 done:∀(s:No) (Q:Option Ev->No->Prop) (E:Ev->No->Prop),St n s.heap->(∀b o,base.get? b=P3 o->s.heap.get? b=P3 o)->(∀h' tk,(∀b o,¬ch b->s.heap.get? b=P3 o->h'.get? b=P3 o)->Q n_ {s with heap:=h',toks:=tk})->wpAny (model prog w) A (pyNext^.ref I) Q E s
 frame:∀i h h',St i h->iz d h h'->St i h'
 dch:¬ch d
end L2
namespace Dp
open L2
end Dp
namespace L2
end L2
namespace Dp
open L2
end Dp
namespace L2
end L2
namespace Dp
open L2
end Dp
namespace L2
end L2
namespace Dp
open L2
end Dp
namespace L2
end L2
namespace Dp
open L2
end Dp
namespace L2
end L2
namespace Dp
open L2
section
variable {X:Cx}{κ:Kd}{e:Expr}{pos p:Pos}{i:Nat}{x:Str}
def ZT(i:Nat)(w:Nat->q_ Slot->(D->Nat->Prop)->PX->Prop):XI:=λb c n a=>w n a (λd e=>b.nx e^a.set i^.sh d) c
def Vv{b:Kd}{w:Nat->q_ Slot->(D->Nat->Prop)->PX->Prop}{a:Pos}(c:X.N.Nodup)(f:X.N[i]?=P3 x)(hx:Loc X.env.scope x)(h:cB X e b w)(g:b≠.tp:=by intro z;cases z)(j:swapsWith e (P3^.Name x a) pos.line X.env=pure p_:=by rfl)
  (k:X.fn x=o_\/X.env.scope.names.lookup x=P3 .local:=by first|exact .inl rfl|exact .inr rfl|assumption):cA X κ (.Assign [.Name x a] e pos)^ZT i w:=by
 let#[t,m,o]:=h;refine#[_,U4 c f hx m j k,λC M H n q Z G E R s r L l w=>?_];exact o C M H n q Z _ _ R s r l w λv u d y A B F p=>L.nx M u y _ _ ((r.step A B).set^F.shOf r.dom g) p
end
section
variable {X:Cx}{κ:Kd}{tg iter:Expr}{src:De}{body:q_ Stmt}{pos:Pos}{b:BW}{wb:AW}
def Vw{v:Fm->Prop}(I:∀C p,v C->v {C with zH:=p})(V:j9 (model X.prog X.w) X.A X.env X.xe)(W:X.calm=o_)(P:DI X tg iter src)(Y:DG X tg b)(hb:NX v X κ body wb)
  (hs:∀x,foldedSetIterable iter X.env x=pure x:=by intro _;rfl):ZQ v X κ (.For tg iter body [] pos)^F5 src b wb:=by
 let#[wi,a1,a2]:=P;let#[g,g1,g2]:=Y;let#[tb,b1,b2]:=hb;refine#[_,G3 V W a1 g1 b1 hs,λC M H n Q Z h E hC R L w=>?_];refine a2 C M H n Q Z _ _ R w λJ z a n1 e1 f1 y w1=>?_;have R1:=R.step e1 f1;exists λi m B j=>m=a.length - i/\i<=a.length/\∃c k o,Rel X.K {C with zH:=(M,z)::C.zH} c j k o B/\Ae b wb h (a.drop i) k o,#[a.length,by simp,Uf _,M,n1,Q,R1.pinned,w1];rintro i m B j ⟨rfl,P,c,k,o,l,D⟩;have S:Pres M z c j:=l.pin (M,z) Re
 by_cases d:i<a.length
 .have ed:a.drop i=a[i]::a.drop (i+1):=gZ d
  rw[ed]at D;let#[go,yl]:=(y i c j S l.dom).1 a[i] (On d);refine .inr #[go,λT H2=>∃M2 F G,Rel X.K {C with zH:=(M,z)::C.zH} M2 H2 F G T/\Ae b wb h (a.drop (i+1)) F G,λT H2 #[M2,F,G,f,w2]=>#[a.length - (i+1),by lk,rfl,d,M2,F,G,f,w2],λx H2 hy=>?_];let#[U,hx]:=yl x H2 hy;have f:=l.step U.ext^l.feed.grow U;refine g2 _ c H2 k o B a[i] x _ _ f hx D λzO zV R3 w3=>?_;refine b2 _ c H2 k zO zV {h with nx:=Ae b wb h^a.drop (i+1),ct:=Ae b wb h^a.drop (i+1),bk:=h.nx} _ (I C _ hC) R3 #[λq N r s O t u=>#[q,r,s,t,u],L.rt,λq N r s O t u=>L.nx q N r s O t.unpin u,λq N r s O t u=>#[q,r,s,t,u]] w3
 .have e:i=a.length:=by lk
  subst e;rw[iq]at D;exact .inl #[(y _ c j S l.dom).2 (Rs _),L.nx c j k o B l.unpin D]
end
end Dp
namespace L2
section
variable {te:RI}{tb:TE}{x:Str}
def cS(r:R2)(te:RI)(tb:TE):RI:=λR Z H Q=>te R Z H λx a=>tb Z a λy H2=>r x y H2 Q
end
end L2
namespace Dp
open L2
section
variable {wb:DW}
def cE(f:D->D->(D->Prop)->Prop)(w:Nat->q_ Slot->(D->Nat->Prop)->PX->Prop)(wb:DW):Nat->q_ Slot->(D->Nat->Prop)->PX->Prop:=λn a P b=>w n a (λd c=>wb c a λe g=>f d e λz=>P z g) b
end
def Nb:AW:=λa n b=>a.bk n b
def Th{X:Cx}{a:Kd}{pos:Pos}:DS X a (.Break pos) Nb:=#[_,SO,λC M H n b Z c E R L w=>L.bk M H n b Z R w]
end Dp
namespace L2
end L2
namespace Dp
open L2
abbrev Fu(K:Frag)(x:Str)(st:gJ)(f:Db)(fd:f_):Prop:=Fun K x x st f fd
def d_{P:fT}{w:fY}{K:Frag}{i:Str->r_ Ev}{a:fO}{x:Str}{st:gJ}{f:Db}{fd:f_}{N c:q_ Str}{k:Nat}{e:Kd}{W:W2}{j:AW}(F:Fu K x st f fd)(S:A5 N c^AK st)
  (l:∀{d:Ev}{A:fb}{b:q_ Env}{s:No}{H:Hp}{E:XK},Room k^A.deeper^envOfC x (AK st) s.heap.objs.size f d->J7 (DX EU P w K i a N x (AK st) f d A b s H E).nox e (A7 st) j)
  (m:∀{ss n Pd},W ss n Pd->j {nx:=λn _=>e=.sh/\Pd .non n,rt:=Pd} n (ss++gK (N.length - c.length) .no)) (g:c.length<=N.length:=by cbv):
  B8 P w K i a EU (k+1) f fd c (QC K e W c.length):=c_ F S g (λ_ _ _ _ _ _ h=>l h) λ_ _ _ _ h=>m h
section
variable {X:Cx}
def cg{m:Nat}(g:Room m X.A){e:fZ}{a:q_ fZ}{k:Nat}{h:q_ Str}{f:Kd}{W:W2}{x:Str}{p pos:Pos}{b:RE}(G:Got X.prog X.w X.K X.mg X.base x k h f W)(i:RJ X (e::a) b)(j:k<=m:=by cbv)(l:Gl X x:=by rfl)
  (c:(x==("__debug__":Str))=p_:=by cbv) (n:starEach (e::a) X.env=(p_,eval e X.env)::starEach a X.env:=by rfl) (d:(backTo pos^starEach a X.env).any (·.1)=p_:=by rfl):DE X (.Call (.Name x p) (e::a) [] pos) f^Au W b:=Ag G (g.mono j) l i c n d
variable {tg iter elt:Expr}{ifs:q_ Expr}{sc:Scope}{pos:Pos}{b:BW}{tt:F4}{te:DW}{zR:Kd}{src:De}
def e8(a:q_ Str)(c:q_^r_ Nat)(d:XJ X tg iter src)(e:∀{cl C s H fp},DG (Aw X sc a cl C s H fp) tg b)(f:∀{cl C s H fp},ZI (Aw X sc a cl C s H fp) ifs tt)(g:∀{cl C s H fp},DE (Aw X sc a cl C s H fp) elt zR te)
  (h:Gi sc X.env.scope X.N a c=o_) (i:X.calm=o_:=by rfl) (j:zR≠.tp:=by intro z;cases z) (k:∀x,foldedSetIterable iter X.env x=pure x:=by intro _;rfl):DE X (.ListComp elt [#[tg,iter,ifs,0]] sc pos) .fr^DF c src b tt te:=Pq i a c d (λ_ _ _ _ _=>e) (λ_ _ _ _ _=>f) (λ_ _ _ _ _=>g) h j k
end
theorem Kl{P:fT}{w:fY}{K:Frag}{p:Str->r_ Ev}{a:fO}{x:Str}{st:gJ}{f:Db}{fd:f_}{N e:q_ Str}{W:Nat->W2}{t:W2->AW}(c:Nat)(F:Fu K x st f fd)(S:A5 N e^AK st)(m:p x=P3^.ref f)(b:Binds K fd e [])
  (q:∀{k:Nat}{o:W2}{i:Ev}{A:fb}{d:q_ Env}{s:No}{H:Hp}{E:XK},c+1<=k->Got P w K p a x k e .sh o->Room k^A.deeper^envOfC x (AK st) s.heap.objs.size f i->J7 (DX EU P w K p a N x (AK st) f i A d s H E).nox .sh (A7 st)^t o)
  (r:∀{o j g n Pd},(∀g n P,j≠0->W (j - 1) g n P->o g n P)->W j g n Pd->t o {nx:=λn _=>Kd.sh=.sh/\Pd .non n,rt:=Pd} n (g++gK (N.length - e.length) .no)) (u:∀j g n P,W j g n P->g.length=e.length) (l:e.length<=N.length:=by cbv):
  ∀j,B8 P w K p a EU (c+2+j) f fd e^QC K .sh (W j) e.length
 |0=>c_ (k:=c+1) F S l (λ_ _ _ _ _ _ h=>q (Rs _) (TN (W:=λ_ _ _=>False) F m b (λ_ _ _ h=>h.elim)^F.ok (k:=c) S (λv H Q E h=>h.1) λi A d s H v Q E B h=>by let#[_,_,_,_,_,_,_,_,_,y,_]:=h;exact y.elim) h) λ_ _ _ _ h=>r (λ_ _ _ z _=>absurd rfl z) h
 |j+1=>c_ (k:=c+2+j) F S l (λ_ _ _ _ _ _ h=>q (by lk) (TN F m b (u j)^Kl c F S m b q r u l j) h) λ_ _ _ _ h=>r (j:=j+1) (λ_ _ _ _ h=>h) h
end Dp
namespace K43
open L2 Dp Nt
def top(i:Nat):gJ:=PySem.Challenge.pw_thinnet_k43_whole_steady.main.body.getD i^.Pass #[0,0,0,0]
def aS(s:gJ):gJ:=match s with
 |.ClassDef _ _ _ b _ _ _ _ _ _ _=>b.getD 0^.Pass #[0,0,0,0]
 |_=>.Pass #[0,0,0,0]
abbrev Fo:gJ:=top 15
abbrev KL:gJ:=top 43
abbrev ES:gJ:=top 45
abbrev HN:gJ:=top 47
abbrev KO:gJ:=top 49
abbrev Ej:gJ:=top 53
abbrev Dk:gJ:=top 54
abbrev Ei:gJ:=top 62
abbrev HP:gJ:=top 69
abbrev HQ:gJ:=top 72
abbrev Ik:gJ:=top 76
abbrev CF:gJ:=aS^top 2
structure Txt (K:Frag) (mg:Str->Option Ev):Prop where
 Gak:mg "ValueError"=n_
 Gaq:mg "abs"=n_
 Gaf:mg "all"=n_
 Gap:mg "bool"=n_
 Gal:mg "enumerate"=n_
 Gam:mg "int"=n_
 Gaa:mg "isinstance"=n_
 Gac:mg "len"=n_
 Gag:mg "list"=n_
 Gan:mg "max"=n_
 Gah:mg "min"=n_
 Gae:mg "range"=n_
 Gai:mg "reversed"=n_
 Gad:mg "sorted"=n_
 Gao:mg "str"=n_
 Gab:mg "tuple"=n_
 Gaj:mg "zip"=n_
 x_NoPaper:∃C U,XC K "NoPaper" C U/\mg "NoPaper"=P3 (.ref C)
 x_NoLine:∃C U,XC K "NoLine" C U/\mg "NoLine"=P3 (.ref C)
 x_TooMany:∃C U,XC K "TooMany" C U/\mg "TooMany"=P3 (.ref C)
 x_Twice:∃C U,XC K "Twice" C U/\mg "Twice"=P3 (.ref C)
 x_NoPlace:∃C U,XC K "NoPlace" C U/\mg "NoPlace"=P3 (.ref C)
 x_NoTie:∃C U,XC K "NoTie" C U/\mg "NoTie"=P3 (.ref C)
 x_NoRow:∃C U,XC K "NoRow" C U/\mg "NoRow"=P3 (.ref C)
 x_ThinError:∃U,ZP K U/\mg "ThinError"=P3^.ref U/\nsIn K mainGlobals "ThinError"=P3^P3^.ref U
section
variable {P:Program}{w:World}{K:Frag}{mg:Str->r_ Value}{base:Heap}
def mq:A5 ["_law_feed_here","_law_many","_law_digit","_law_at","_law_cell","_law_first"] ["_law_feed_here","_law_many"]^AK Dk:=#[rfl,rfl,rfl,by decide +kernel,rfl,by decide +kernel,by decide +kernel]
def VM{f:Db}{fd:f_}(F:Fun K "_law_next" "_law_next" Dk f fd)(ml:mg "len"=n_):B8 P w K mg base EU 1 f fd ["_law_feed_here","_law_many"]^QC K .sh Hq 2:=by
 refine F.ok mq (λvs H Q E h=>h.1) λa0 A a1 s H vs Q E hr h=>?_;let#[hl,F0,U,V',M,n,ss,Pd,ra,#[m,rfl,a8,S,hn,hP],q]:=h;let#[a9,fU,uV,vM,a2,T]:=ra;cases T with
 |cons r1 T=>
 cases T with
 |cons r2 T=>
 cases T;let#[#[d,c],e0,hF]:=r1.1;cases e0;let#[v2,e2,Z]:=r2.1;cases e2;cases(show _=V.int m from Z);let#[a,r,u,J,L,hc,a3,a4,b0]:=a2 (d,c) hF
 have N:∀(W r' z:Int) (y:Hp),(∀b o,H b=P3 o->b≠d->y b=P3 o)->y d=P3^.lst [.ref c,.int W,.int r']->0<=W->W<=a+1->0<=z->z<m->Q (.int z) y:=by
  intro W r' z y hk X h0 h1 a5 a6;refine q (.int z) y (.int z) (n - 1) (λb o e=>?_) (λg hg=>?_) rfl (hP z a5 a6)
  .by_cases v:b=d
   .subst v
    exact#[_,X,λnu=>absurd (fU (b,c) hF) nu,λvs z=>by rw[z,J]at e;cases e]
   .exact#[o,hk b o e v,λ_=>rfl,λ_ _=>rfl]
  .have:g=(d,c):=fG^hg.symm.trans hF
   subst this;exact#[W,r',u,X,L,#[hc.1,hk c _ hc.2 L],a3,h0,by lk]
 have hu:(A.deeper^envOfC "_law_next" (AK Dk) s.heap.objs.size f a0).units<cLine:=hr.units0;have l:∀{y:Hp}{xs:q_ V},y d=P3^.lst xs->SqL K y d xs:=λh=>SqL.of h;have R:∀z:Int,0<=z % m/\z % m<m:=λz=>#[Int.emod_nonneg _^by lk,Int.emod_lt_of_pos _^by lk]
 exists _,A6 (O7 (GA Wv (ET ix_list (pv 0) A0 λ_ _=>rfl) A0^B0 _)
   (A6 (ED (i:=2) mq.nd rfl (f9 rfl) (Bq Et (ET ix_list (pv 0) A0 λ_ _=>rfl)^pv 1))
   (A6 (LQ (Bq GD (ET ix_list (pv 0) A0 λ_ _=>rfl)^pv 1)^Nx (pv 0) A0 set_list)
   (Cf^Fp^pv 2))) LP)
  (A6 (ED (i:=3) mq.nd rfl (f9 rfl) (ET ix_list (pv 0) A0 λ_ _=>rfl))
  (A6 (LQ (Bq op_add (pv 3) A0)^Nx (pv 0) A0 set_list)
  (A6 (ED (i:=4) mq.nd rfl (f9 rfl) (Ma (GA (QO hu) (ET ix_list (pv 0) A0 λ_ _=>rfl) (Nz CH)^B0 _)
   (ET ix_list (ET ix_list (pv 0) A0 λ_ _=>rfl) (Bq Et (pv 3) (Dz JY rfl ml PySem.boot_len (BL (ET ix_list (pv 0) A0 λ_ _=>rfl) CH))) λ_ _=>rfl) A0))
  (A6 (O7 (PW.pt^SI (GA Ww (pv 4) (Bq Er A0 A0)^B0 _)^O4^GA op_lt (pv 3) (Dz JY rfl ml PySem.boot_len (BL (ET ix_list (pv 0) A0 λ_ _=>rfl) CH))^B0 _)
   (A6 (LQ (Bq GD (pv 4)^pv 1)^Nx (pv 0) A0 set_list)
   (Cf^Fp^Bq Et (pv 4)^pv 1)) LP)
  (A6 (ED (i:=5) mq.nd rfl (f9 rfl) (Bq Et (Bq op_mul (Bq op_add (Bq op_add (Bq op_add (Bq Et (pv 4) A0)^Bq op_mul (Bq op_mul A0^pv 3)^pv 3)^Bq op_mul A0^pv 3) A0) A0) A0))
  (Cf^Fp^Bq Et (Bq GD (Bq Et (Bq op_mul (Bq op_add (pv 5)^Bq op_mul A0^pv 3) A0) A0) A0)^pv 1))))))
 exists _,rfl,d,_,2,_,rfl,rfl,l J,rfl,_,_,rfl,rfl,_,rfl;refine Ba (λc1=>?_) λc1=>?_
 .exists _,rfl,d,_,2,_,rfl,rfl,l J,rfl,_,rfl,_,_,rfl,rfl,(by show(0:Int)<m;lk)
  exists _,rfl,d,_,2,_,rfl,rfl,l J,rfl,_,rfl,_,_,rfl,rfl,#[(by show(0:Int)<m;lk),S],_,rfl,d,_,2,2,rfl,rfl,J,rfl;exists _,rfl;exact N a _ _ _ (λb o e v=>by rw[AM v];exact e) AR a4 (by lk) (R _).1 (R _).2
 ·-- at=feed[1];feed[1]=at+1
  exists _,rfl,d,_,1,_,rfl,rfl,l J,rfl;exists _,rfl,_,_,rfl,rfl,_,rfl,d,_,1,1,rfl,rfl,J,rfl;generalize Y:Ar H d^.lst^[V.ref c,V.int a,V.int r].set 1^V.int (a+1)=H1;have f1:H1 d=P3^.lst [.ref c,.int (a+1),.int r]:=by rw[←Y];exact AR
  have k1:∀b o,H b=P3 o->b≠d->H1 b=P3 o:=λb o e v=>by rw[←Y,AM v];exact e
  have B:H1 c=P3^.lst^u.map V.int:=k1 c _ hc.2 L
  have D:∀(z:Int) (H2:Hp),(∀b o,H1 b=P3 o->H2 b=P3 o)->
    (QB (Zd (Zk (Rk^Dy (HR λi j=>V.bl (decide (j<=i))) (Bp 4)^Dy (rI RG λi j=>V.int (i ^ j.toNat)) (tC^V.int 10)^tC^V.int 18)^Rk^Dy (HR λi j=>V.bl (decide (i<j))) (Bp 3)^bo (λxs H Q=>∃x n,xs=[x]/\ZC K x H n/\Q (V.int n) H)^Oq (Dy (Xy K) (Bp 0)^tC^V.int 0) Uw) (QB (MP (Dy (rI WP λi j=>V.int (i / j)) (Bp 4)^Bp 1)^aX (Bp 0) (tC^V.int 2) Wi)^Ur^Dy (rI (λ_ j=>0<j) λi j=>V.int (i % j)) (Bp 4)^Bp 1) Wc)^QB (MP (Dy (rI (λ_ j=>0<j) λi j=>V.int (i % j)) (Dy (rI CMul λi j=>V.int (i*j)) (Dy (HR λi j=>V.int (i+j)) (Dy (HR λi j=>V.int (i+j)) (Dy (HR λi j=>V.int (i+j)) (Dy (rI (λ_ j=>0<j) λi j=>V.int (i % j)) (Bp 4)^tC^V.int 1000003)^Dy (rI CMul λi j=>V.int (i*j)) (Dy (rI CMul λi j=>V.int (i*j)) (tC^V.int 41)^Bp 3)^Bp 3)^Dy (rI CMul λi j=>V.int (i*j)) (tC^V.int 17)^Bp 3)^tC^V.int 3)^tC^V.int 51749)^tC^V.int 999917)^Hf 5)^Ur^Dy (rI (λ_ j=>0<j) λi j=>V.int (i % j)) (Dy (rI WP λi j=>V.int (i / j)) (Dy (rI (λ_ j=>0<j) λi j=>V.int (i % j)) (Dy (rI CMul λi j=>V.int (i*j)) (Dy (HR λi j=>V.int (i+j)) (Bp 5)^Dy (rI CMul λi j=>V.int (i*j)) (tC^V.int 8111)^Bp 3)^tC^V.int 39373)^tC^V.int 2097143)^tC^V.int 3)^Bp 1)
     {nx:=λ_ y=>Q .non y,rt:=Q} [P3^.ref d,P3^.int m,n_,P3^.int a,P3^.int z,n_] H2:=by
   intro z H2 k2;have f2:=k2 _ _ f1;have c2:=k2 _ _ B
   have t:∀H3:Hp,H3=H2->(QB (MP (Dy (rI (λ_ j=>0<j) λi j=>V.int (i % j)) (Dy (rI CMul λi j=>V.int (i*j)) (Dy (HR λi j=>V.int (i+j)) (Dy (HR λi j=>V.int (i+j)) (Dy (HR λi j=>V.int (i+j)) (Dy (rI (λ_ j=>0<j) λi j=>V.int (i % j)) (Bp 4)^tC^V.int 1000003)^Dy (rI CMul λi j=>V.int (i*j)) (Dy (rI CMul λi j=>V.int (i*j)) (tC^V.int 41)^Bp 3)^Bp 3)^Dy (rI CMul λi j=>V.int (i*j)) (tC^V.int 17)^Bp 3)^tC^V.int 3)^tC^V.int 51749)^tC^V.int 999917)^Hf 5)^Ur^Dy (rI (λ_ j=>0<j) λi j=>V.int (i % j)) (Dy (rI WP λi j=>V.int (i / j)) (Dy (rI (λ_ j=>0<j) λi j=>V.int (i % j)) (Dy (rI CMul λi j=>V.int (i*j)) (Dy (HR λi j=>V.int (i+j)) (Bp 5)^Dy (rI CMul λi j=>V.int (i*j)) (tC^V.int 8111)^Bp 3)^tC^V.int 39373)^tC^V.int 2097143)^tC^V.int 3)^Bp 1)
     {nx:=λ_ y=>Q .non y,rt:=Q} [P3^.ref d,P3^.int m,n_,P3^.int a,P3^.int z,n_] H3:=by
    intro H3 e3;subst e3;have v:CMul (41*a) a:=.inr #[by lk,by lk];exists _,rfl,_,_,rfl,rfl,(by show(0:Int)<1000003;decide),_,rfl,_,_,rfl,rfl,.inl #[by cbv,by cbv],_,rfl,_,_,rfl,rfl,v,_,_,rfl,rfl,_,rfl,_,_,rfl,rfl,.inl #[by cbv,by cbv],_,_,rfl,rfl,_,_,rfl,rfl,_,_,rfl,rfl,.inr #[by cbv,by cbv],_,_,rfl,rfl,(by show(0:Int)<999917;decide);exists _,rfl,_,rfl,_,_,rfl,rfl,.inl #[by cbv,by cbv],_,_,rfl,rfl,_,_,rfl,rfl,.inr #[by cbv,by cbv],_,_,rfl,rfl,(by show(0:Int)<2097143;decide),_,_,rfl,rfl,#[by cbv,by cbv],_,rfl,_,_,rfl,rfl,(by show(0:Int)<m;lk);exact N (a+1) r _ _ (λb o e v=>k2 b o^k1 b o e v) f2 (by lk) (by lk) (R _).1 (R _).2
   exists _,rfl,_,_,rfl,rfl,#[by cbv,by cbv,by cbv],_,_,rfl,rfl,_,rfl;refine Ba (λc3=>?_) λc3=>?_
   .exists _,rfl,_,rfl,d,_,0,_,rfl,rfl,l f2,rfl,_,_,rfl,.inl #[_,SqL.of c2,rfl],_,_,rfl,rfl,_,rfl
    refine Ba (λc4=>?_) λc4=>t H2 rfl;exists _,rfl,_,rfl,_,_,rfl,rfl,#[(by show(0:Int)<m;lk),S],_,rfl,d,_,2,2,rfl,rfl,f2,rfl;exists _,rfl,_,rfl,_,_,rfl,rfl,(by show(0:Int)<m;lk);exact N (a+1) _ _ _ (λb o e v=>by rw[AM v];exact k2 b o^k1 b o e v) AR (by lk) (by lk) (R _).1 (R _).2
   .refine Ba (λc4=>absurd c4^by simp) λ_=>t H2 rfl
  refine#[_,rfl,d,_,0,_,rfl,rfl,l f1,rfl,(by show 0<=sizeLine;decide),λp hp=>?_];have O:∀b o,H1 b=P3 o->Ar H1 p (.lst []) b=P3 o:=λb o e=>by rw[AM^An e hp];exact e
  exists c,p,_,rfl,rfl,SqL.of^O _ _ B,SqL.of AR,_,rfl;cases u with
  |nil=>exact BJ^D 0 _ O
  | cons G C=>
   refine BS ?_;have a7:(((G::C).map V.int).length:Int)=(C.length:Int)+1:=by simp
   have I:(0:Int)<(((G::C).map V.int).length:Int):=by lk
   obtain⟨z,hz⟩:∃z,atI ((G::C).map V.int) (a % (((G::C).map V.int).length:Int))=P3^.int z:=by
    have h1:=Int.emod_nonneg a (show(((G::C).map V.int).length:Int)≠0 by lk);have Z:=Int.emod_lt_of_pos a I;generalize a % (((G::C).map V.int).length:Int)=j at h1 Z;obtain⟨k,rfl⟩:∃k:Nat,j=(k:Int):=#[j.toNat,by lk];have hk:k<(G::C).length:=by rw[FM]at Z;lk
    refine#[(G::C)[k],AF ?_];rw[fK,On hk];rfl
   exists _,rfl,d,_,0,_,rfl,rfl,l^O _ _ f1,rfl,_,rfl,_,rfl,d,_,0,_,rfl,rfl,l^O _ _ f1,rfl,_,_,rfl,.inl #[_,SqL.of^O _ _ B,rfl],_,_,rfl,rfl,I,c,_,_,_,rfl,rfl,SqL.of^O _ _ B,hz;exact D z _ O
end
end K43
namespace Dp
open L2
section
variable {X:Cx}{x:Str}{pos pos':Pos}{e a b tg iter elt:Expr}{es ifs:q_ Expr}{κ zT zM zR:Kd}{wa wb te:DW}{was:RE}{sc:Scope}{bb:BW}{tt:F4}{src:De}
def B5(i:Nat)(c:X.N.Nodup)(d:DE X e zR wa)(f:X.N[i]?=P3 x:=by rfl)(hx:Loc X.env.scope x:=by first|exact .inl rfl|exact .inr rfl)(g:zR≠.tp:=by intro z;cases z)(h:swapsWith e (P3^.Name x pos') pos.line X.env=pure p_:=by rfl)
  (j:X.fn x=o_\/X.env.scope.names.lookup x=P3 .local:=by first|exact .inl rfl|exact .inr rfl|assumption):DS X κ (.Assign [.Name x pos'] e pos)^Cq i wa:=Yk c f hx d g h j
def L_(i:Nat)(c:X.N.Nodup)(d:DE X e .fr wa)(f:X.N[i]?=P3 x:=by rfl)(hx:Loc X.env.scope x:=by first|exact .inl rfl|exact .inr rfl)(g:swapsWith e (P3^.Name x pos') pos.line X.env=pure p_:=by rfl)
  (h:X.fn x=o_\/X.env.scope.names.lookup x=P3 .local:=by first|exact .inl rfl|exact .inr rfl|assumption):DS X κ (.Assign [.Name x pos'] e pos)^MD i wa:=Vx c f hx d g h
def Bx(i:Nat)(c:X.N.Nodup)(d:X.N[i]?=P3 x:=by rfl)(hx:Loc X.env.scope x:=by first|exact .inl rfl|exact .inr rfl)(e:X.fn x=o_\/X.env.scope.names.lookup x=P3 .local:=by first|exact .inl rfl|exact .inr rfl|assumption):DG X (.Name x pos)^AU i:=EO c d hx e
def Qy{bs:q_ D->q_ Slot->(q_ Slot->Prop)->Prop}{j:Nat}(h:bg X es bs)(d:X.calm=o_:=by rfl)(e:(assignEach es X.env).length=es.length:=by rfl)(c:(assignEach es X.env).findIdx? (·.1)=n_:=by rfl):DG X (.Tuple es j pos)^D8 es.length bs:=Ym d h e c
def BG(h:DE X e κ wa)(c:RJ X es was)(d:κ≠.tp:=by intro z;cases z)(f:starEach (e::es) X.env=(p_,eval e X.env)::starEach es X.env:=by rfl):RJ X (e::es)^AI (AQ wa) was:=AO (az h d) c f
def Ak(i:Nat)(d:RJ X es was)(e:X.N[i]?=P3 x:=by rfl)(f:RB X.env.scope x:=by first|exact f9 rfl|exact g7 (f9 rfl)|exact g7 (g7 rfl))(hd:(x==("__debug__":Str))=p_:=by cbv)(c:(x==("__classdict__":Str))=p_:=by cbv)
  (g:starEach (.Name x pos::es) X.env=(p_,eval (.Name x pos) X.env)::starEach es X.env:=by rfl):RJ X (.Name x pos::es)^AI (AQ^AH i) was:=BG (dv i e f hd c) d (by intro z;cases z) g
def A1(c:DE X a zT wa)(d:DE X b zM wb)(e:L9 b:=by intro _ _;rfl):DE X (.Subscript a b pos) .sh^Ao CA wa wb:=ax YV dL c d e
def Jf(c:q_ Str)(d:q_^r_ Nat)(e:XJ X tg iter src)(f:∀{cl C s H fp},c.Nodup->DG (Aw X sc c cl C s H fp) tg bb)(g:∀{cl C s H fp},ZI (Aw X sc c cl C s H fp) ifs tt)(h:∀{cl C s H fp},DE (Aw X sc c cl C s H fp) elt zR te)
  (i:Gi sc X.env.scope X.N c d=o_:=by kernel_rfl) (j:c.Nodup:=by decide +kernel) (k:X.calm=o_:=by rfl) (l:zR≠.tp:=by intro z;cases z) (m:∀x,foldedSetIterable iter X.env x=pure x:=by intro _;rfl):DE X (.ListComp elt [#[tg,iter,ifs,0]] sc pos) .fr^DF d src bb tt te:=e8 c d e (f j) g h i k l m
def Be{c:CmpOp}{r:R2}{f:D->D->(D->Prop)->Prop}(d:OpR X (compareOp c) r)(e:FE X.K .sh r f)(g:DE X a zT wa)(h:DE X b zM wb)(i:behindInMarks c b=p_:=by first|exact B0 _|with_unfolding_all rfl):DT X (.Compare a [c] [b] j)^Ah^Ao f wa wb:=Yh d e g h i
def OO(c:X.mg "len"=n_)(d:DE X e κ wa)(f:Gl X "len":=by rfl)(he:starEach [e] X.env=[(p_,eval e X.env)]:=by rfl):DE X (.Call (.Name "len" pos') [e] [] pos) .sh^Ea Ln^AL wa Ab:=Av JY bF f c PySem.boot_len (AT d Ac he) (he:=he)
def OM(c:X.mg "tuple"=n_)(d:DE X e κ wa)(f:Gl X "tuple":=by rfl)(he:starEach [e] X.env=[(p_,eval e X.env)]:=by rfl):DE X (.Call (.Name "tuple" pos') [e] [] pos) .sh^Ea BM^AL wa Ab:=FR Jy UD f c boot_tuple (AT d Ac he) (he:=he)
def Jl:=PySem.F.plainAttrs_list
def Nj:=PySem.F.slot_list_append
def Nf:=PySem.F.type_list_append
end
section
variable {P:Program}{w:World}{K:Frag}{mg:Str->r_ Value}{base:Heap}{x:Str}{st:Stmt}{f:Addr}{fd:FuncData}{ps:q_ Str}
def d9{k:Nat}{c:Kd}{W:W2}{e:AW}(F:Fu K x st f fd)(N:q_ Str)
  (g:∀{b:Ev}{A:fb}{a:q_ Env}{s:No}{H:Hp}{E:XK},N.Nodup->Room k^A.deeper^envOfC x (AK st) s.heap.objs.size f b->J7 (DX EU P w K mg base N x (AK st) f b A a s H E).nox c (A7 st) e)
  (h:∀{ss n Pd},W ss n Pd->e {nx:=λn _=>c=.sh/\Pd .non n,rt:=Pd} n (ss++gK (N.length - ps.length) .no)) (S:A5 N ps^AK st:=by constructor <;>first|rfl|decide +kernel) (d:ps.length<=N.length:=by cbv):
  B8 P w K mg base EU (k+1) f fd ps (QC K c W ps.length):=d_ F S (g S.nd) h d
end
end Dp
namespace L2
def VJ{X:Cx}{k:Nat}(i:RoomH k X.A):OpR X (compareOp .In)^U3 p_:=by
 intro o s Z H x y v u Q I j c h;let#[d,l,m,a,e,f,p,q]:=h;let#[r,g]:=RV.reads I m j;have t:=i.un;have w:min (gq l) _<=d.depth:=jN _ _
 rcases a with a|a
 .let#[n,b]:=RV.reads I a c
  exact PySem.SeqAt.in_list_reads b g f e (by lk) #[.bl _,H,I,rfl,q]
 .let#[n,b]:=RV.reads I a c
  exact PySem.SeqAt.in_tuple_reads b g f e (by lk) #[.bl _,H,I,rfl,q]
end L2
namespace Nt
open L2 Dp
abbrev EE(a:D->Nat->Prop):E2:={nx:=λn _=>Kd.sh=.sh/\a .non n,rt:=a}
theorem A8{b:BW}{k:DW}{P:q_ D->Nat->Prop}(g:D->D)(I:q_ Slot->Prop):∀(e a:q_ D) (n:Nat) (c:q_ Slot),
  (∀d∈e,∀(c:q_ Slot) (n:Nat) (l:D->Nat->q_ Slot->Prop),I c->(∀i,I i->l (g d) n i)->b d c λm=>k n m λy p=>l y p m)->I c->P (a++e.map g) n->D4 b LC k P e a n c
 |[],a,n,c,_,_,h=>by rw[List.map_nil,fh]at h;exact h
 |d::e,a,n,c,o,j,h=>o d Re c n _ j λi f=>
  A8 g I e _ n _ (λd q=>o d^Sc _ q) f (by simp_all)
def JM{b:Type}{l:q_ b}{p:b->Bool}{P:D->Prop}(h:P^.bl^l.all p):Vs [.lst^l.map λa=>.bl^p a] P:=
 #[_,_,rfl,FA p l,by simp_all]
def OV{b1 b2:Bool}{P:D->Nat->Prop}{n:Nat}{k:(D->Nat->Prop)->Prop}(a:b1=o_->P (.bl b2) n->k P)(h:P (.bl (b1&&b2)) n):(match (.bl b1:D)with|.bl o_=>k P|.bl p_=>P (.bl p_) n|_=>False):=T5 a h
abbrev Wb(g:D->Bool):W2:=Ws 1 λa=>.bl^g^a.getD 0 .non
def Wb.out{g:D->Bool}{a:q_ Slot}{n:Nat}{P:D->Nat->Prop}(h:Wb g a n P):∃d,a=[.sh d]/\P (.bl^g d) n:=by
 let#[b,c,rfl,h]:=h
 match b,c with
 |[d],_=>simp_all
def RP:D->Bool
 |.int _=>o_
 |_=>p_
def tupleOfB(k:Int):D->Bool
 |.tup a=>((a.length:Int)==k)
 |_=>p_
def UY(d e:D):r_ Bool:=match d,e with
 |.int i,.int j=>P3 (decide (i<j))
 |.str i,.str j=>P3 (decide (cs i<cs j))
 |.tup c,.tup f=>match Hc c,Hc f with
  |some a,P3 b=>if Bz a b then P3^FT a b else n_
  |_,_=>n_
 |_,_=>n_
def Vo{d e:D}{b:Bool}{P:D->Prop}(h:UY d e=P3 b)(p:P^.bl b):NA d e P:=by
 unfold UY at h
 split at h
 .cases h;exact p
 .cases h;exact p
 .split at h
  .rename_i a c f g
   split at h
   .rename_i i
    cases h;exact#[a,c,f,g,i,p]
   .cases h
  .cases h
 .cases h
def WD:q_ D->Bool
 |x::y::r=>(UY x y==P3 o_)&&WD (y::r)
 |_=>o_
abbrev Yx:W2:=Wb RP
abbrev Jd:W2:=λa n P=>∃k d,a=[.sh^.int k,.sh d]/\P (.bl^tupleOfB k d) n
abbrev P4:W2:=λc n P=>∃d a,c=[.sh d]/\EY d=P3 a/\a.length<=200000/\(∀x∈a,∀y∈a,∃b,UY x y=P3 b)/\P (.bl^WD a) n
def NQ:AW:=(Bo^Ea Vs^AL (DF [n_,n_] (Ui^AL (AH 0)^AL (Oi Fx (AH 0) (DD^wC^D.int 1) Bs) Ab) (D8 2^Ai (AU 0)^Ai (AU 1) CN) LC^Ao NA (AH 0)^AH 1) Ab)
section
variable {ss:q_ Slot}{n:Nat}{Pd:D->Nat->Prop}
def T1{b:Type}(a:q_ b):Dp.cutD a (P3 1) n_=a.drop 1:=by
 unfold Dp.cutD;rw[HT.sIx_none,show 1=((1:Nat):Int)from rfl,HT.sIx_nat]
 by_cases h:1<=a.length
 .rw[ia h]
  exact kN^by simp_all
 grind
theorem P0:∀c:q_ D,((C2 c^c.drop 1).all λd=>match d with|.tup [a,b]=>UY a b==P3 o_|_=>p_)=WD c
 |[]=>rfl
 |[x]=>rfl
 |x::y::r=>by
  have e:=P0 (y::r);show((C2 _ (y::r)).all _)=_;unfold C2 WD;rw[List.zipWith_cons_cons,mY]
  congr 1
def Ua{c e:q_ D}{d:D}(h:d∈C2 c e):∃a∈c,∃b∈e,d=.tup [a,b]:=by
 unfold C2 at h;let#[i,f]:=List.getElem?_of_mem h;rw[kY]at f;cases g:c[i]? with
 |none=>simp_all
 | some a=>
  cases j:e[i]? with
  |none=>simp_all
  |some b=>
   rw[g,j]at f;exact#[a,f8 g,b,f8 j,(fG f).symm]
def LO(h:P4 ss n Pd):NQ (EE Pd) n (ss++gK 0 .no):=by
 let#[d,c,rfl,e,A,f,h]:=h
 have i:(C2 c^c.drop 1).length<=10000000/\D4 (D8 2^Ai (AU 0)^Ai (AU 1) CN) LC (Ao NA (AH 0)^AH 1) (λg k=>Vs [.lst g] λz=>Pd z k) (C2 c^c.drop 1) [] n [.no,.no]:=by
  refine#[by unfold C2;rw[lD];lk,?_];refine A8 (λd=>.bl (match d with|.tup [a,b]=>UY a b==P3 o_|_=>p_)) (λj=>∃s t,j=[s,t]) _ _ _ _ ?_ #[_,_,rfl] ?_
  .rintro z l j m o ⟨s,t,rfl⟩ q
   let#[a,u,b,v,rfl]:=Ua l;let#[r,w]:=f a u b^k7 v;exists rfl,rfl;show NA a b λy=>o y m [.sh a,.sh b];refine Vo w ?_
   simp_all
  .rw[fW]
   refine JM (p:=fun(d:D)=>match d with|.tup [a,b]=>UY a b==P3 o_|_=>p_) ?_;rw[P0];exact h
 cases d with
 |lst x=>
  cases e;exact#[_,_,c,c.drop 1,rfl,rfl,by rw[T1];rfl,i]
 |tup x=>
  cases e;exact#[_,_,c,c.drop 1,rfl,rfl,by rw[T1];rfl,i]
 |_=>cases e
end
def strsOf(a:q_ D):q_ Str:=(OX a).getD []
def OW{a:Type}(p:a->Bool)(l:q_ a):(l.map p).all id=l.all p:=by simp_all
def MR{x:Str}(h:∀c∈cs x,c<1114112):PyData.strOk x=o_:=by
 unfold PyData.strOk;rw[←Array.all_toList,iM];intro c a;exact decide_eq_true^h c a
def Mv{x:Str}(h:Qp x):CD^.str x:=#[rfl,MR λc a=>by have:=h.2.2 c a;lk,Uf _]
def Mw{a:q_ Str}(h:∀p∈a,Qp p):CI^a.map .str=o_/\iH^BD^a.map .str=o_/\gq^BD^a.map .str=0:=by
 induction a with
 |nil=>exact#[rfl,rfl,rfl]
 | cons p r b=>
  let#[e,c,f]:=b λq d=>h q^Sc _ d;exists by assumption,?_
  .rw[gD,BD,iH,c,Bool.and_true]
   exact(Mv^h p Re).2.1
  assumption
def Ke{a:q_ Str}(h:∀p∈a,Qp p):CD^.tup^a.map .str:=by
 let#[b,c,d]:=Mw h;exists b,c;show gq _+1<=100
 simp_all
def Pk(x y:Str):Cu (.str x)^.str y=(x==y):=rfl
def DK(a:q_ Str):strsOf^a.map .str=a:=by unfold strsOf;rw[NR];rfl
section
def cM{d:D}(h:tupleOfB 2 d=o_):∃a b,d=.tup [a,b]:=by
 cases d with
 |tup c=>
  have:=eq_of_beq h
  match c,this with
  |[a,b],_=>grind
  |[],h=>cases h
  |[_],h=>cases h
  |_::_::_::r,h=>grind
 |_=>cases h
end
mutual
def fine(B:Nat):D->Prop
 |.int i=>i.natAbs<=B
 |.str x=>∀c∈cs x,c<1114112
 |.tup ds=>Fg B ds
 |.lst ds=>Fg B ds
 |.dic _ _=>False
 |.fdi _ _=>False
 |.dit _ _=>False
 |_=>True
def Fg(B:Nat):q_ D->Prop
 |[]=>True
 |d::ds=>fine B d/\Fg B ds
end
mutual
def Cr:D->Nat
 |.int _=>200
 |.str x=>x.length
 |.tup ds=>By ds
 |.lst ds=>By ds
 |_=>0
def By:q_ D->Nat
 |[]=>0
 |d::ds=>Cr d+1+By ds
end
mutual
def Fz:D->Nat
 |.tup ds=>FP ds+1
 |.lst ds=>FP ds+1
 |_=>0
def FP:q_ D->Nat
 |[]=>0
 |d::ds=>max (Fz d)^FP ds
end
theorem fines_iff{B:Nat}:∀{b:q_ D},Fg B b↔∀d∈b,fine B d
 |[]=>#[(λ_ d h=>by cases h),λ_=>trivial]
 | d::b=>by
  have c:=@fines_iff B b;constructor
  .rintro⟨f,g⟩ e a
   rcases Tk.mp a with rfl|a
   .exact f
   .exact c.mp g e a
  .exact λh=>#[h d Re,c.mpr λe a=>h e^Sc _ a]
theorem dps_le{k:Nat}:∀{a:q_ D},FP a<=k↔∀d∈a,Fz d<=k
 |[]=>#[(λ_ d h=>by cases h),λ_=>Uf _]
 | d::a=>by
  have c:=@dps_le k a;show max (Fz d)^FP a<=k↔_;rw[Nat.max_le,c];constructor
  .rintro⟨f,g⟩ e b
   rcases Tk.mp b with rfl|b
   .exact f
   .exact g e b
  .exact λh=>#[h d Re,λe b=>h e^Sc _ b]
theorem Bn:∀(b a:q_ D),By (b++a)=By b+By a
 |[],a=>by simp[By]
 |d::b,a=>by
  rw[mE];show Cr d+1+By (b++a)=Cr d+1+By b+By a;rw[Bn b a];lk
theorem Ot:∀(a:q_ D),By a.reverse=By a
 |[]=>rfl
 |d::a=>by
  rw[jh,Bn,Ot a];show By a+(Cr d+1+0)=Cr d+1+By a;lk
def MQ(a:q_ D)(k:Nat):By^a.take k<=By a:=by
 have:=Bn (a.take k)^a.drop k
 rw[jA]at this;lk
def Rp(a:q_ D)(k:Nat):By^a.drop k<=By a:=by
 have:=Bn (a.take k)^a.drop k
 rw[jA]at this;lk
def Ou{c:q_ D}{d:D}(h:d∈c):Cr d+1<=By c:=by
 let#[a,b,rfl]:=List.append_of_mem h;rw[Bn];show _<=_+(Cr d+1+By b);lk
theorem C3:∀(a:q_ D),a.length<=By a
 |[]=>Uf _
 |d::a=>by
  have:=C3 a
  show a.length+1<=Cr d+1+By a;lk
def ID(a:q_ D)(b c:r_ Int):By^Dp.cutD a b c<=By a:=fJ (MQ _ _)^Rp _ _
def C7{a:q_ D}{b c:r_ Int}{d:D}(h:d∈Dp.cutD a b c):d∈a:=k7^k8 h
def FL{B C:Nat}(h:B<=C):∀(n:Nat),(∀d:D,sizeOf d<=n->fine B d->fine C d)/\∀a:q_ D,sizeOf a<=n->Fg B a->Fg C a:=by
 intro n
 induction n with
 |zero=>
  refine#[λd e _=>?_,λa e _=>?_]
  .cases d <;>simp at e
  .cases a <;>simp at e
 | succ n f=>
  refine#[λd e c=>?_,λa e c=>?_]
  .cases d with
   |int i=>exact fJ (show i.natAbs<=B from c) h
   |str x=>exact c
   |tup a=>exact f.2 a (by simp at e;lk) c
   |lst a=>exact f.2 a (by simp at e;lk) c
   |dic g a=>exact(show False from c).elim
   |fdi g a=>exact(show False from c).elim
   |dit g a=>exact(show False from c).elim
   |non=>trivial
   |bl b=>trivial
  .cases a with
   |nil=>trivial
   |cons d a=>exact#[f.1 d (by simp at e;lk) c.1,f.2 a (by simp at e;lk) c.2]
def fine.mono{B C:Nat}{d:D}(a:fine B d)(h:B<=C):fine C d:=(FL h _).1 d (Rs _) a
mutual
theorem Pe{B:Nat}(hB:B<10 ^ 45):∀{d:D},fine B d->E3 d=o_/\(toPy d).showable=o_/\(toPy d).canLay0=o_/\(toPy d).depth=Fz d/\(toPy d).leavesShort 60=o_/\(toPy d).weight<=Cr d
 |.non,_=>#[rfl,rfl,rfl,rfl,rfl,Rs _]
 |.bl b,_=>#[rfl,rfl,rfl,rfl,rfl,Rs _]
 | .int i,h=>by
  have h':i.natAbs<=B:=h;have hlt:i.natAbs<10 ^ 45:=jU h' hB;have h2:i.natAbs<2 ^ 150:=l7 hlt^by cbv
  have hl:i.natAbs.log2<150:=by
   by_cases h0:i.natAbs=0
   .rw[h0];decide
   .exact(Nat.log2_lt h0).mpr h2
  refine#[rfl,?_,rfl,rfl,?_,?_]
  .show decide (i.natAbs.log2<1920)=o_
   exact decide_eq_true^by lk
  .show decide ((PyData.shown^.int i).length<=60)=o_
   refine decide_eq_true ?_
   have:=int_text_length_le10 (a:=i) (k:=45) (by cbv) hlt
   show(iJ^toString i).length<=60;rw[PySem.ofString_length];lk
  .show(if i==0 then 0 else i.natAbs.log2+1)<=200
   split <;>lk
 |.str x,h=>by
  have h':∀c∈cs x,c<1114112:=h;refine#[rfl,rfl,MR h',rfl,?_,Rs _];show(x.cps.toList.all λc=>decide (c<16 ^ 8))=o_;rw[iM];intro c hc;exact decide_eq_true^l7 (h' c hc)^by cbv
 |.tup ds,h=>by
  let#[h1,h2,h3,h4,h5,h6]:=JL hB (ds:=ds) h;refine#[h1,h2,h3,?_,h5,h6];show gq^BD ds+1=FP ds+1;rw[h4]
 |.lst ds,h=>by
  let#[h1,h2,h3,h4,h5,h6]:=JL hB (ds:=ds) h;refine#[h1,h2,h3,?_,h5,h6];show gq^BD ds+1=FP ds+1;rw[h4]
 |.dic ks ds,h=>(show False from h).elim
 |.fdi ks ds,h=>(show False from h).elim
 |.dit ks ds,h=>(show False from h).elim
theorem JL{B:Nat}(hB:B<10 ^ 45):∀{ds:q_ D},Fg B ds->CI ds=o_/\PyData.showableAll^BD ds=o_/\iH^BD ds=o_/\gq^BD ds=FP ds/\mS 60^BD ds=o_/\PyData.weightAll^BD ds<=By ds
 |[],_=>#[rfl,rfl,rfl,rfl,rfl,Rs _]
 | d::ds,h=>by
  let#[h1,h2,h3,h4,h5,h6]:=Pe hB (d:=d) h.1;let#[g1,g2,g3,g4,g5,g6]:=JL hB (ds:=ds) h.2;refine#[?_,?_,?_,?_,?_,?_]
  .show(E3 d&&CI ds)=o_
   rw[h1,g1];rfl
  .show((toPy d).showable&&PyData.showableAll^BD ds)=o_
   rw[h2,g2];rfl
  .show((toPy d).canLay0&&iH^BD ds)=o_
   rw[h3,g3];rfl
  .show max (toPy d).depth^gq^BD ds=max (Fz d)^FP ds
   rw[h4,g4]
  .show((toPy d).leavesShort 60&&mS 60^BD ds)=o_
   rw[h5,g5];rfl
  .show(toPy d).weight+1+PyData.weightAll^BD ds<=Cr d+1+By ds
   lk
end
def Br{B:Nat}{d:D}(a:B<10 ^ 45)(h:fine B d)(hd:Fz d<=100):CD d:=by
 let#[b,f,c,e,g,i]:=Pe a h;exact#[b,c,by rw[e];exact hd]
def Q2(b:q_ D)(a:Int)(h:0<=a):By^Dp.cutD b n_^P3 a+By^Dp.cutD b (P3 a)^P3 (a+1)<=By b:=by
 obtain⟨k,rfl⟩:∃k:Nat,a=k:=#[a.toNat,by lk]
 have c:Dp.cutD b n_^P3 k=b.take^min k b.length:=by
  unfold Dp.cutD;rw[HT.sIx_none,HT.sIx_nat,mQ,Nat.sub_zero]
 have d:Dp.cutD b (P3 (k:Int))^P3 ((k:Int)+1)=(b.drop^min k b.length).take (min (k+1) b.length - min k b.length):=by
  unfold Dp.cutD;rw[show((k:Int)+1)=(k+1:Nat) by lk,HT.sIx_nat,HT.sIx_nat]
 rw[c,d];have e:=Bn (b.take^min k b.length)^b.drop^min k b.length;rw[jA]at e;have f:=MQ (b.drop^min k b.length) (min (k+1) b.length - min k b.length);lk
def Lu(b:q_ D)(a:Nat):Dp.cutD b n_^P3 (a:Int)=b.take^min a b.length:=by
 unfold Dp.cutD;rw[HT.sIx_none,HT.sIx_nat,mQ,Nat.sub_zero]
def JU(b:q_ D)(a:Nat):Dp.cutD b (P3 (a:Int)) n_=b.drop^min a b.length:=by
 unfold Dp.cutD;rw[HT.sIx_none];exact kN^by simp_all
def X0{b:q_ D}{a:Nat}(h:a<b.length)(e:D):By (Dp.cutD b n_^P3 (a:Int)++[e]++Dp.cutD b (P3 ((a:Int)+1)) n_)+Cr b[a]=By b+Cr e:=by
 have c:Dp.cutD b (P3 (a+1)) n_=b.drop (a+1):=by
  rw[show((a:Int)+1)=(a+1:Nat) by lk,JU,ia^by lk]
 rw[Lu b a,c,ia^by lk,Bn,Bn];have d:=Bn (b.take a)^b.drop a;rw[jA,gZ h]at d;have f:By (b[a]::b.drop (a+1))=Cr _+1+By _:=rfl;have g:By [e]=Cr e+1+0:=rfl;lk
def item(d:D):Prop:=fine 1000001 d/\Cr d<=450/\Fz d<=1
theorem Ef{k:Nat}:∀{a:q_ D},(∀d∈a,Cr d+1<=k)->By a<=k*a.length
 |[],_=>Uf _
 |d::a,h=>by
  have c:=Ef λe b=>h e^Sc _ b;show Cr d+1+By a<=k*(a.length+1)
  grind
def CK{B:Nat}{a:q_ D}(h:∀d∈a,fine B d):fine B^.tup a:=fines_iff.mpr h
def item_str{x:Str}(b:x.length<=8)(a:∀c∈cs x,c<1114112):item^.str x:=#[a,by show x.length<=450;lk,Uf _]
def CZ{x:Str}(h:Qp x):item^.str x:=item_str h.2.1 λc a=>by have:=h.2.2 c a;lk
def S8{a b:Str}{l:Int}(e:item^.str a)(f:item^.str b)(h:a.length<=8)(i:b.length<=8)(g:l.natAbs<=1000001):item^.tup [.str a,.str b,.int l]:=by
 exists CK λd c=>?_,?_
 .simp at c
  rcases c with rfl|rfl|rfl
  .exact e.1
  .exact f.1
  .exact g
 .show a.length+1+(b.length+1+(200+1+0))<=450
  lk
 .show max 0^max 0^max 0 0+1<=1
  decide
def JD{N:Net}(ok:N.Ok):∀d∈N.ts.map AJ,item d:=λd c=>by
 let#[t,e,rfl]:=TM.mp c;let#[f,g,_,h,i]:=ok.tin t e;have a:=ok.names _ f;have b:=ok.names _ g;exact S8 (CZ a) (CZ b) a.2.1 b.2.1^by lk
def Vb{N:Net}(ok:N.Ok):∀d∈N.ps.map D.str,item d:=λd a=>by
 let#[x,b,rfl]:=TM.mp a;exact CZ^ok.names x b
def Xf{b c:q_ D}(hx:∀d∈b,item d)(e:∀d∈c,item d)(f:b.length<=26)(g:c.length<=80):fine 1000001^.tup [.tup b,.tup c]/\Cr^.tup [.tup b,.tup c]<=48000/\Fz^.tup [.tup b,.tup c]<=3:=by
 have h:=Ef λd a=>jK (hx d a).2.1;have i:=Ef λd a=>jK (e d a).2.1;have j:=dps_le.mpr λd a=>(hx d a).2.2;have k:=dps_le.mpr λd a=>(e d a).2.2;exists CK λd a=>?_,?_
 .simp at a
  rcases a with rfl|rfl
  .exact CK λd a=>(hx d a).1
  .exact CK λd a=>(e d a).1
 .show By b+1+(By c+1+0)<=48000
  lk
 .show max (FP b+1)^max (FP c+1) 0+1<=3
  lk
def Gn{p:D->Prop}{xs:q_ D}(h:∀d∈xs,p d){o:Int}(b:0<=o)(c:o<(xs.length:Int)):∃z,atI xs o=P3 z/\p z:=by
 obtain⟨k,rfl⟩:∃k:Nat,o=k:=#[o.toNat,by lk];have a:k<xs.length:=by lk
 exact#[_,AF^On a,h _^f7 a]
def DB(x:Str):¬cs x<cs x:=iP _
def z1:1<=sizeLine:=by cbv
def z2:2<=sizeLine:=by cbv
def z3:3<=sizeLine:=by cbv
def z4:4<=sizeLine:=by cbv
def z0:0<=sizeLine:=Uf _
def eA:RG 10 6:=#[by cbv,by cbv,by cbv]
def ZZ(s t:AX):Decidable (s=t):=
 if h:s.a=t.a/\s.b=t.b/\s.len=t.len then .isTrue (by let#[a,b,l]:=s;let#[g,i,j]:=t;let#[c,d,f]:=h;simp only at c d f;subst c d f;rfl)else .isFalse λe=>h^by rw[e];exact#[rfl,rfl,rfl]
instance:DecidableEq AX:=ZZ
abbrev EF(a:D->Nat->Prop):E2:={nx:=λn _=>Kd.fr=.sh/\a .non n,rt:=a}
def Bk(t:AX):q_ Key:=[.inl t.len,.inr t.a,.inr t.b]
def CM(a:q_ AX):Prop:=a.Pairwise λs t=>BF (Bk t)^Bk s=p_
def MX:D->D
 |.tup [x,y,z]=>.tup [z,x,y]
 |d=>d
def cw(x:Str×Int):D:=.tup [.str x.1,.int x.2]
abbrev bN:W2:=λa n P=>∃x y z:D,a=[.sh^.tup [x,y,z]]/\P (.tup [z,x,y]) n
def OZ:W2:=λc n P=>∃(d:D) (b:q_ AX),c=[.sh d]/\EY d=P3^b.map AJ/\b.length<64/\∀a:q_ AX,a.Perm b->CM a->P (.lst^a.map AJ) n
def MV{s t:AX}(h:Bk s=Bk t):s=t:=by
 let#[a,b,l]:=s;let#[c,d,e]:=t;unfold Bk at h
 grind
theorem LS{g:Type}{R:g->g->Prop}(c:∀a b,R a b->R b a->a=b):∀{d f:q_ g},d.Perm f->d.Pairwise R->f.Pairwise R->d=f
 |[],f,p,_,_=>(List.nil_perm.mp p).symm
 |a::d,[],p,_,_=>absurd (List.perm_nil.mp p)^g_ _ _
 | a::d,b::f,p,i,j=>by
  have e:a=b:=by
   rcases Tk.mp^p.mem_iff.mp Re with e|h
   .exact e
   .rcases Tk.mp^p.mem_iff.mpr^Re with e|k
    .exact e.symm
    .exact c a b ((gR.mp i).1 b k)^(gR.mp j).1 a h
  subst e;rw[LS c ((List.perm_cons a).mp p) (gR.mp i).2 (gR.mp j).2]
def MW{c d:q_ AX}(p:c.Perm d)(e:CM c)(f:CM d):c=d:=LS (λa b x y=>MV^B3 _ _ y x) p e f
def KC{b:Type}{f:b->D}{g:D->b}(e:∀x,g^f x=x){c:q_ D}{d:q_ b}(h:c.Perm^d.map f):∃a:q_ b,a.Perm d/\c=a.map f:=by
 exists c.map g,?_
 .have:=h.map g
  rw[gY,show g∘f=id from funext e,iT]at this;exact this
 .rw[gY]
  have:∀x∈c,(f∘g) x=x:=λx i=>by
   let#[t,_,rfl]:=TM.mp^h.mem_iff.mp i
   grind
  rw[lF this,List.map_id']
def Tp:D->AX
 |.tup [.str a,.str b,.int l]=>#[a,b,l]
 |_=>#["","",0]
section
def Sf{a:q_ AX}(h:Gu (λx=>CJ^MX x)^a.map AJ):CM a:=by
 unfold Gu at h;rw[jF]at h;exact h.imp λ{s t} z=>z _ _ rfl rfl
def Le{N:Net}(ok:N.Ok){x:Str}{p:Str×Int}(h:p∈Dd N.ts x):p.1∈N.ps/\1<=p.2/\p.2<=1000000/\∃t∈N.ts,t.len=p.2/\((t.a=x/\t.b=p.1)\/(t.b=x/\t.a=p.1)):=by
 let#[t,c,h]:=g9.mp h;let#[g,i,j,d,f]:=ok.tin t c
 rcases ZB.mp h with h|h
 .split at h
  .rename_i e
   rw[Op.mp h];exact#[i,d,f,t,c,rfl,.inl #[e,rfl]]
  .cases h
 .split at h
  .rename_i e
   rw[Op.mp h];exact#[g,d,f,t,c,rfl,.inr #[e,rfl]]
  .cases h
def Qk(s t:AX):FT (Bk s)^Bk t=BF (Bk s)^Bk t:=GU _ _ rfl
def IJ(s t:AX):Cu (AJ s)^AJ t=o_↔s=t:=by
 let#[a,b,l]:=s;let#[c,d,e]:=t;show(a==c&&(b==d&&(l==e&&o_)))=o_↔_
 simp_all
def Kc{a:q_ D}(h:∀d∈a,item d):CD^.lst a:=by
 have c:=dps_le.mpr λd b=>(h d b).2.2;exact Br (by cbv) (fines_iff.mpr λd b=>(h d b).1)^by show FP a+1<=100;lk
theorem HF{a b:Type}(f:a->b):∀(l:q_ a) (i:Nat),(l.map f).eraseIdx i=(l.eraseIdx i).map f
 |[],i=>rfl
 |x::l,0=>rfl
 |x::l,i+1=>by
  show f x::(l.map f).eraseIdx i=f x::(l.eraseIdx i).map f;rw[HF f l i]
def Vu{N:Net}(ok:N.Ok){x o:Str}{s t:AX}(j:s∈N.ts)(k:t∈N.ts)(e:BZ s t)(l:(s.a=x/\s.b=o)\/(s.b=x/\s.a=o))(m:(t.a=x/\t.b=o)\/(t.b=x/\t.a=o)):False:=by
 have i:=(ok.tin s j).2.2.1;have lt:=(ok.tin t k).2.2.1;have c:∀a,¬cs a<cs a:=λa=>iP _
 rcases l with⟨d,f⟩|⟨d,f⟩ <;>rcases m with⟨g,h⟩|⟨g,h⟩ <;>rw[d,f]at i <;>rw[g,h]at lt
 .rcases e with e|⟨_,e⟩
  .rw[d,g]at e;exact c _ e
  grind
 .grind
 .exact c _^kT i lt
 .rcases e with e|⟨_,e⟩
  .rw[f,h]at e;exact c _ e
  grind
def QY{N:Net}(ok:N.Ok)(x:Str):((Dd N.ts x).map (·.1)).Nodup:=by
 have m:∀c:q_ AX,(∀t∈c,t∈N.ts)->c.Pairwise BZ->((Dd c x).map (·.1)).Nodup:=by
  intro c
  induction c with
  |nil=>intro _ _;exact gL
  | cons t c n=>
   intro d l;have k:=n (λs i=>d s^Sc _ i) (gR.mp l).2;have lt:=(ok.tin t^d t Re).2.2.1
   have f:∀y,((t.a=x/\t.b=y)\/(t.b=x/\t.a=y))->y∉(Dd c x).map (·.1):=λy o p=>by
    let#[s,i,h]:=Ld p;exact Vu ok (d t Re) (d s^Sc _ i) ((gR.mp l).1 s i) o h
   have e:Dd (t::c) x=((if t.a=x then [(t.b,t.len)]else [])++(if t.b=x then [(t.a,t.len)]else []))++Dd c x:=by
    unfold Dd;rw[List.flatMap_cons]
   rw[e]
   by_cases j:t.a=x
   .have g:¬t.b=x:=λz=>by rw[j,z]at lt;exact iP _ lt
    rw[if_pos j,if_neg g,fh,kc,gD,fX];exact#[f _^.inl #[j,rfl],k]
   .rw[if_neg j,fW]
    by_cases g:t.b=x
    .rw[if_pos g,kc,gD,fX]
     exact#[f _^.inr #[g,rfl],k]
    .rw[if_neg g,fW]
     exact k
 exact m N.ts (λ_ h=>h) ok.trise
end
def Dq(t:AX):q_ Key:=[.inr t.a,.inr t.b,.inl t.len]
def av(t:AX):q_ Key:=[.inr t.a,.inr t.b]
def Gk(a:q_ AX):Prop:=a.Pairwise λs t=>BF (Dq t)^Dq s=p_
def Oe(N:Net)(d:D):Prop:=∃a:q_ AX,d=.tup [.tup^N.ps.map .str,.tup^a.map AJ]/\(∀t∈a,t∈N.ts)/\a.Pairwise BZ
noncomputable def thinB(N:Net)(d:D):Bool:=@decide (Oe N d)^ii _
def thinB_iff{N:Net}{d:D}:thinB N d=o_↔Oe N d:=by
 unfold thinB
 grind
def TY{N:Net}{d:D}{b:Bool}(h:b=o_↔Oe N d):b=thinB N d:=by
 rw[gf,thinB_iff];exact h
def ZY(N:Net)(d:D):Prop:=∃s∈N.ts,d=AJ s
noncomputable def F8(N:Net)(d:D):Bool:=@decide (ZY N d)^ii _
def tofB_iff{N:Net}{d:D}:F8 N d=o_↔ZY N d:=by
 unfold F8
 grind
def W6{a:Str}{x:D}(h:Cu (.str a) x=o_):x=.str a:=by
 cases x with
 |str b=>
  have h:(a==b)=o_:=h
  grind
 |_=>cases h
def aq{a:Str}{x:D}(h:Cu x^.str a=o_):x=.str a:=by
 cases x with
 |str b=>
  have h:(b==a)=o_:=h
  grind
 |_=>cases h
theorem Hg:∀{a:q_ D}{b:q_ Str},jS (BD a)^BD^b.map .str=o_->a=b.map .str
 |[],[],_=>rfl
 |[],_::_,h=>by cases h
 |_::_,[],h=>by cases h
 |x::a,p::b,h=>by
  have h:(gI _ _&&jS _ _)=o_:=h;rw[fN]at h;rw[aq h.1,Hg h.2];rfl
theorem eqvAll_refl:∀a:q_ Str,jS (BD^a.map .str)^BD^a.map .str=o_
 |[]=>rfl
 |p::a=>by
  show((p==p)&&jS _ _)=o_;rw[beq_self_eq_true,eqvAll_refl a];rfl
def eqD_strs{p:D}{a:q_ Str}:Cu p^.tup^a.map .str=o_↔p=.tup^a.map .str:=by
 constructor
 .intro h
  cases p with
  |tup b=>rw[Hg h]
  |_=>cases h
 .rintro rfl
  exact eqvAll_refl a
def Qw{s:AX}{d:D}(h:Cu (AJ s) d=o_):∃z,d=.tup [.str s.a,.str s.b,z]/\∀i,z=.int i->i=s.len:=by
 cases d with
 | tup c=>
  match c,h with
  |[x,y,z],h=>
   have h:(gI (toPy^.str s.a)^toPy x&&(gI (toPy^.str s.b)^toPy y&&(gI (.int s.len)^toPy z&&o_)))=o_:=h;rw[Bool.and_true,fN,fN]at h;refine#[z,by rw[W6 (a:=s.a) (x:=x) h.1,W6 (a:=s.b) (x:=y) h.2.1],λi e=>?_];subst e;have f:(s.len==i)=o_:=h.2.2
   grind
  |[],h=>cases h
  |[x],h=>exact absurd h^by show ¬((gI (toPy^.str s.a)^toPy x&&p_)=o_);simp
  |[x,y],h=>exact absurd h^by show ¬((gI (toPy^.str s.a)^toPy x&&(gI (toPy^.str s.b)^toPy y&&p_))=o_);simp
  |x::y::z::u::r,h=>exact absurd h^by show ¬((gI (toPy^.str s.a)^toPy x&&(gI (toPy^.str s.b)^toPy y&&(gI (.int s.len)^toPy z&&p_)))=o_);simp
 |_=>cases h
def GY(s:AX):Cu (AJ s)^AJ s=o_:=(IJ s s).mpr rfl
theorem L1{f:AX->D}{k:AX->q_ Key}(d:∀s t,UY (f s)^f t=P3^BF (k s)^k t):∀{ts:q_ AX},WD^ts.map f=o_↔ts.Pairwise λs t=>BF (k s)^k t=o_
 |[]=>#[λ_=>.nil,λ_=>rfl]
 |[t]=>#[λ_=>kL _ _,λ_=>rfl]
 | s::t::r=>by
  show((UY _ _==P3 _)&&WD^(t::r).map f)=o_↔_;rw[fN,L1 d (ts:=t::r),d,gR (a:=s)];constructor
  .rintro⟨b,e⟩
   have b:=fG^eq_of_beq b;refine#[λu c=>?_,e]
   rcases Tk.mp c with rfl|c
   .exact b
   .exact CY _ _ _ b^(gR.mp e).1 u c
  simp_all
def Lf(s t:AX):UY (AJ s)^AJ t=P3^BF (Dq s)^Dq t:=by
 show(if(o_&&(o_&&(o_&&o_)))=o_ then P3^FT (Dq s)^Dq t else n_)=_;rw[if_pos (show(o_&&(o_&&(o_&&o_)))=o_ from rfl),GU _ _ rfl]
def ekey_iff{s t:AX}:BF (av s)^av t=o_↔BZ s t:=by
 show(if iD _=.inr _ then(if iD _=.inr _ then p_ else decide (cs _<cs _))else decide (cs _<cs _))=o_↔(cs _<cs _\/(s.a=t.a/\cs _<cs _))
 by_cases c:s.a=t.a
 .rw[if_pos^by rw[c]]
  by_cases d:s.b=t.b
  .simp_all
  .rw[if_neg λe=>d^iw e,decide_eq_true_eq,c]
   constructor
   .intro h;simp_all
   grind
 simp_all
def Jv(s:AX):¬BZ s s:=by
 rintro(h|⟨_,h⟩) <;>exact DB _ h
def LH{s t:AX}(h:BZ s t):BF (Dq s)^Dq t=o_:=by
 show(if iD _=.inr _ then(if iD _=.inr _ then(if kH _=.inl _ then p_ else decide _)else decide (cs _<cs _))else decide (cs _<cs _))=o_
 rcases h with h|⟨h,c⟩
 .rw[if_neg λe=>DB s.a^by simp_all,decide_eq_true h]
 .rw[if_pos (by rw[h]),if_neg λe=>DB s.b^by grind,decide_eq_true c]
theorem G1:∀{e:q_ AX},e.Pairwise BZ->∀s∈e,∀t∈e,s.a=t.a->s.b=t.b->s=t
 |[],_,s,c,_,_,_,_=>by cases c
 | x::e,h,s,c,t,d,g,i=>by
  have h:=gR.mp h
  rcases Tk.mp c with j|c
  .rcases Tk.mp d with f|d
   .rw[j,f]
   .rcases h.1 t d with h|⟨_,h⟩
    .grind
    grind
  .rcases Tk.mp d with f|d
   .rcases h.1 s c with h|⟨_,h⟩
    .rw[←f,g]at h;exact absurd h^DB _
    grind
   .exact G1 h.2 s c t d g i
def Vt{N:Net}(ok:N.Ok){s t:AX}(f:s∈N.ts)(g:t∈N.ts)(h:BF (Dq s)^Dq t=o_):BZ s t:=by
 have h:(if iD _=.inr _ then(if iD _=.inr _ then(if kH _=.inl _ then p_ else decide _)else decide _)else decide _)=o_:=h
 by_cases c:s.a=t.a
 .rw[if_pos^by rw[c]]at h
  by_cases d:s.b=t.b
  .rw[if_pos (by rw[d]),if_pos^by rw[G1 ok.trise s f t g c d]]at h
   cases h
  .rw[if_neg λe=>d^iw e,decide_eq_true_eq]at h
   exact .inr #[c,h]
 .rw[if_neg λe=>c^iw e,decide_eq_true_eq]at h
  exact .inl h
def A9{a:q_ AX}(h:a.Pairwise BZ):a.Nodup:=h.imp λ{s t} h e=>by rw[e]at h;exact Jv _ h
def sub_len{l m:q_ AX}(a:l.Nodup)(b:m.Nodup)(h:∀t∈l,t∈m):l.length<=m.length:=by
 have:l.Perm (m.filter λt=>decide (t∈l)):=(jD a^b.filter _).mpr λt=>by
  simp_all
 rw[this.length_eq];exact gv _ _
def LI{N:Net}(ok:N.Ok){a:q_ AX}(h:∀t∈a,t∈N.ts)(b:a.Pairwise BZ):Net.Ok #[N.ps,a]:=#[ok.names,ok.rise,λt c=>ok.tin t^h t c,b]
theorem KG{P:AX->Prop}:∀{b:q_ D},(∀d∈b,∃s,P s/\d=AJ s)->∃a:q_ AX,b=a.map AJ/\∀t∈a,P t
 |[],_=>#[[],rfl,λt h=>by cases h]
 |d::b,h=>by
  let#[s,f,rfl]:=h d Re;let#[a,rfl,g]:=KG λe c=>h e^Sc _ c;refine#[s::a,rfl,λt z=>?_]
  grind
def Ic{N:Net}{a:q_ D}(h:a.all^F8 N=o_):∃b:q_ AX,a=b.map AJ/\∀t∈b,t∈N.ts:=
 KG λd c=>by
  let#[s,f,e]:=tofB_iff.mp^iM.mp h d c;exact#[s,f,e]
def QA{N:Net}(ok:N.Ok)(p:D)(b:q_ D):(Cu p^.tup^N.ps.map .str&&(b.all^F8 N&&WD b))=thinB N^.tup [p,.tup b]:=by
 refine TY #[λh=>?_,λh=>?_]
 .rw[fN,fN]at h
  let#[f,rfl,a]:=Ic h.2.1;exists f,by rw[eqD_strs.mp h.1],a
  have:=(L1 Lf).mp h.2.2
  exact this.imp_of_mem λ{s t} g c z=>Vt ok (a s g) (a t c) z
 .let#[f,e,a,i]:=h
  cases e;rw[fN,fN];refine#[eqD_strs.mpr rfl,iM.mpr λd j=>?_,(L1 Lf).mpr^i.imp λ{s t} z=>LH z];let#[t,c,rfl]:=TM.mp j;exact tofB_iff.mpr #[t,a t c,rfl]
def MN{N:Net}{d:D}(h:∀p a,d≠.tup [p,.tup a]):thinB N d=p_:=by
 rw[fj];intro z;let#[b,e,_]:=thinB_iff.mp z;exact h _ _ e
end Nt
namespace L2
open PySem.W
end L2
namespace Dp
open L2
end Dp
namespace Nt
open L2 Dp
def look(a:q_ AX)(x y:Str):r_ Int:=((Dd a x).find? λz=>decide (z.1=y)).map (·.2)
def D5(a:q_ AX):Str->q_ Str->Int->r_ Int
 |_,[],s=>P3 s
 |x,y::r,s=>match look a x y with
  |some l=>D5 a y r (s+l)
  |none=>n_
def Nm:r_ Int->D
 |some i=>.int i
 |none=>.non
def Ct:D->Bool
 |.str _=>o_
 |_=>p_
def OG(N:Net):q_ Str->D
 |x::r=>if x∈N.ps then Nm^D5 N.ts x r 0 else .non
 |[]=>.non
def Ju(N:Net):D->D
 |.tup a=>if a.all Ct then OG N^strsOf a else .non
 |_=>.non
def Dg(d:D):Prop:=fine (10 ^ 40) d/\Cr d<=160000/\Fz d<=50
abbrev dO:W2:=λa n P=>∃(N:Net) (d:D),a=[.sh^enc N,.sh d]/\N.Ok/\N.ps.length<=26/\N.ts.length<=60/\Dg d/\P (Ju N d) n
theorem Ie:∀{b:q_ D},b.all Ct=o_->∃a:q_ Str,b=a.map .str
 |[],_=>#[[],rfl]
 |d::r,h=>by
  rw[mY,fN]at h;let#[a,e]:=Ie h.2;cases d with
  |str x=>exact#[x::a,by grind]
  |_=>cases h.1
def all_strs(a:q_ Str):(a.map D.str).all Ct=o_:=by rw[List.all_map];exact iM.mpr λ_ _=>rfl
theorem LG{g:Str->D}{x:Str}:∀{a:q_ Str},BA (a.map .inr) (a.map g)^.inr x=if x∈a then P3^g x else n_
 |[]=>rfl
 |p::a=>by
  show(if iD p=.inr x then P3 _ else BA _ _ _)=_;rw[LG]
  grind
theorem IC{y:Str}:∀{a:q_ (Str×Int)},BA (a.map λx=>.inr x.1) (a.map λx=>.int x.2)^.inr y=((a.find? λz=>decide (z.1=y)).map (·.2)).map .int
 |[]=>rfl
 |p::b=>by
  show(if iD _=.inr y then P3 _ else BA _ _ _)=_;rw[IC]
  by_cases e:p.1=y
  .simp_all
  simp_all
def Sy{N:Net}(ok:N.Ok){x y:Str}{l:Int}(h:look N.ts x y=P3 l):y∈N.ps/\1<=l/\l<=1000000:=by
 unfold look at h;cases c:(Dd N.ts x).find? λz=>decide (z.1=y)with
 |none=>grind
 |some z=>
  have d:=j7 c;let#[t,b,a]:=g9.mp^iS c;let#[e,f,_,g,i]:=ok.tin t b
  rcases ZB.mp a with a|a
  .simp_all
  simp_all
section
variable {n:Nat}
theorem Mq{N:Net}(ok:N.Ok){d:E2}{e f:Slot}:∀(r:q_ Str) (x:Str) (s:Int) (a b:Slot),x∈N.ps->(match D5 N.ts x r s with|some l=>∀a b,d.nx n [e,f,.sh^EB N,.sh^.int l,a,b]|none=>d.rt .non n)->
  Ae (D8 2^Ai (AU 4)^Ai (AU 5) CN) (BE (CU (Ah^Ao (NC o_) (AH 5)^Ao CQ (AH 2)^AH 4) (Bo^wC D.non) Bm)^WZ 3^Ao CQ (Ao CQ (AH 2)^AH 4)^AH 5) d (C2 ((x::r).map .str)^r.map .str) n [e,f,.sh^EB N,.sh^.int s,a,b]
 |[],x,s,a,b,g,h=>h a b
 | y::r,x,s,a,b,g,h=>by
  have i:BA (N.ps.map .inr) (N.ps.map^Sq N.ts)^.inr x=P3^Sq N.ts x:=by rw[LG,if_pos g]
  exists rfl,rfl;exists _,_,.inr x,_,rfl,rfl,i,_,_,.inr y,rfl,rfl;rw[IC];unfold D5 at h;have j:((Dd N.ts x).find? λz=>decide (z.1=y)).map (·.2)=look N.ts x y:=rfl;rw[j];cases c:look N.ts x y with
  |none=>rw[c]at h;exact BS h
  |some l=>
   rw[c]at h;have k:BA ((Dd N.ts x).map λz=>.inr z.1) ((Dd N.ts x).map λz=>.int z.2)^.inr y=P3^.int l:=by rw[IC,j,c];rfl
   refine BJ #[s,rfl,_,_,.inr x,_,rfl,rfl,i,_,_,.inr y,_,rfl,rfl,k,l,rfl,?_];exact Mq ok r y (s+l) _ _ (Sy ok c).1 h
theorem BY{b:BW}{p:F4}{q:DW}{P:q_ D->Nat->Prop}(c:D->Bool)(g:D->D)(I:q_ Slot->Prop):∀(j e:q_ D) (n:Nat) (f:q_ Slot),
  (∀d∈j,∀(f:q_ Slot) (n:Nat) (r:D->Nat->q_ Slot->Prop) (s:Nat->q_ Slot->Prop),I f->(∀i,I i->c d=o_->r (g d) n i)->(∀i,I i->c d=p_->s n i)->b d f λk=>p n k λc t=>if c=o_ then q t k λy u=>r y u k else s t k)->I f->P (e++(j.filter c).map g) n->D4 b p q P j e n f
 |[],e,n,f,_,_,h=>by rw[List.filter_nil,List.map_nil,fh]at h;exact h
 |d::j,e,n,f,l,m,h=>l d Re f n _ _ m
  (λi a v=>BY c g I j _ n _ (λd o=>l d^Sc _ o) a^by simp_all)
  (λi a v=>BY c g I j _ n _ (λd o=>l d^Sc _ o) a^by grind)
end
def dN:W2:=λa n P=>∃(N:Net) (d:D),a=[.sh^enc N,.sh d]/\N.Ok/\CD d/\P (.bl^F8 N d) n
def XB:W2:=λa n P=>∃(N:Net) (d:D),a=[.sh^enc N,.sh d]/\N.Ok/\N.ps.length<=24/\N.ts.length<=60/\fine (10 ^ 41) d/\Cr d<=200000/\Fz d<=90/\P (.bl^thinB N d) n
def LW{a:q_ AX}(h:Gu CJ^a.map AJ):Gk a:=by
 unfold Gu at h;rw[jF]at h;exact h.imp λ{s t} z=>z _ _ rfl rfl
def BN{N:Net}(ok:N.Ok){ts:q_ AX}(h:∀t∈ts,t∈N.ts):CD^.tup^ts.map AJ/\CD^.lst^ts.map AJ:=by
 have b:∀d∈ts.map AJ,item d:=λd a=>by
  let#[t,c,rfl]:=TM.mp a;exact JD ok _^TM.mpr #[t,h t c,rfl]
 have e:FP^ts.map AJ<=1:=dps_le.mpr λd a=>(b d a).2.2;exact#[Br (B:=1000001) (by cbv) (fines_iff.mpr λd a=>(b d a).1) (by show FP^ts.map AJ+1<=100;lk),Kc b]
def Bt{N:Net}(ok:N.Ok){t:AX}(h:t∈N.ts):CD^AJ t:=by
 have a:=JD ok _^TM.mpr #[t,h,rfl];exact Br (B:=1000001) (by cbv) a.1^by have:=a.2.2;lk
def Gp{ts:q_ AX}{t:AX}:((ts.map AJ).any λy=>Cu y^AJ t)=decide (t∈ts):=by
 rw[gf,kX,decide_eq_true_eq];constructor
 .rintro⟨d,a,e⟩
  let#[s,b,rfl]:=TM.mp a;rw[←(IJ s t).mp e];exact b
 .intro h
  exact#[AJ t,TM.mpr #[t,h,rfl],(IJ t t).mpr rfl]
theorem PU:∀a:q_ D,a.length<=By a
 |[]=>Uf _
 |x::a=>by
  have:=PU a
  show a.length+1<=Cr x+1+By a;lk
theorem Mt:∀c:q_ AX,200*c.length<=By^c.map AJ
 |[]=>Uf _
 |t::c=>by
  have:=Mt c
  show 200*(c.length+1)<=t.a.length+1+(t.b.length+1+(200+1+0))+1+By^c.map AJ;lk
def Rh{s t:AX}(h:Dq s=Dq t):s=t:=by
 let#[a,b,l]:=s;let#[c,d,e]:=t;unfold Dq at h;simp only[List.cons.injEq,Sum.inl.injEq,Sum.inr.injEq,and_true]at h;let#[rfl,rfl,rfl]:=h;rfl
def EA{c d:q_ AX}(p:c.Perm d)(e:Gk c)(f:Gk d):c=d:=LS (λa b x y=>Rh^B3 _ _ y x) p e f
def DY{a:q_ AX}(h:a.Pairwise BZ):Gk a:=h.imp λ{s t} z=>by
 cases e:BF (Dq t)^Dq s with
 |false=>rfl
 |true=>
  have:=CY _ _ _ (LH z) e
  rw[B_]at this;cases this
def IR:W2:=λa n P=>∃l t b x:Int,a=[.sh^.int l,.sh^.tup [.int t,.int b],.sh^.int x]/\1<=b/\b<=1000000/\1<=t/\t<=1000000/\P (.bl (decide (l*b<=x*t))) n
section
def bA{i j:Int}(a:0<=j)(b:j<=1000000):CMul i j:=.inr #[by lk,by lk]
end
def Ed(N:Net)(x y:Str)(l:Int):Prop:=(y,l)∈Dd N.ts x
inductive Wk (N:Net) (s:Str):Str->Int->Prop
 |nil:Wk N s s 0
 |snoc {x y:Str}{d l:Int}:Wk N s x d->Ed N x y l->Wk N s y (d+l)
def Least(N:Net)(s x:Str)(d:Int):Prop:=Wk N s x d/\∀a,Wk N s x a->d<=a
def Ed.pos{N:Net}(ok:N.Ok){x y:Str}{l:Int}(h:Ed N x y l):1<=l/\l<=1000000:=by
 let#[_,a,b,_]:=Le ok h
 simp_all
def Ed.ins{N:Net}(ok:N.Ok){x y:Str}{l:Int}(h:Ed N x y l):y∈N.ps:=(Le ok h).1
def Wk.pos{N:Net}(ok:N.Ok){s x:Str}{d:Int}(h:Wk N s x d):0<=d:=by
 induction h with
 |nil=>lk
 |snoc _ a b=>have:=a.pos ok;lk
def Least.unique{N:Net}{s x:Str}{d a:Int}(h:Least N s x d)(b:Least N s x a):d=a:=by
 have:=h.2 a b.1
 have:=b.2 d h.1
 lk
def Gj{N:Net}{s:Str}{F:Str->r_ Int}(c:∃d,F s=P3 d/\d<=0)(f:∀x d,F x=P3 d->Wk N s x d)(j:∀x d y l,F x=P3 d->Ed N x y l->∃b,F y=P3 b/\b<=d+l):
  (∀x d,F x=P3 d->Least N s x d)/\∀x d,Wk N s x d->F x≠n_:=by
 have a:∀x d,Wk N s x d->∃b,F x=P3 b/\b<=d:=by
  intro x d h
  induction h with
  |nil=>exact c
  |snoc _ k m=>
   grind
 refine#[λx d e=>#[f x d e,λb h=>?_],λx d h e=>?_]
 .let#[g,i,n]:=a x b h
  simp_all
 .let#[g,i,_]:=a x d h
  grind
def FN{N:Net}{t:AX}(c:t∈N.ts):Ed N t.a t.b t.len/\Ed N t.b t.a t.len:=by
 constructor
 .exact g9.mpr #[t,c,gP _^by simp_all]
 .exact g9.mpr #[t,c,fR _^by simp_all]
def Ed.tie{N:Net}(ok:N.Ok){x y:Str}{l:Int}(h:Ed N x y l):∃t∈N.ts,t.len=l/\((t.a=x/\t.b=y)\/(t.b=x/\t.a=y)):=by
 let#[_,_,_,t,c,e,h]:=Le ok h;exact#[t,c,e,h]
structure Dmap (ks:List Key) (ds:List D) (enc:α->D) (F:Str->Option α):Prop where
 len:ks.length=ds.length
 at_:∀x:Str,BA ks ds^.inr x=(F x).map enc
 dom:∀k∈ks,∃x:Str,k=.inr x
 nd:ks.Nodup
def Dmap.mem{c:Type}{b:q_ Key}{ds:q_ D}{enc:c->D}{F:Str->r_ c}(h:Dmap b ds enc F)(x:Str):(.inr x∈b)↔F x≠n_:=by
 constructor
 .intro a e
  let#[z,d]:=Gx h.len a;rw[h.at_,e]at d;cases d
 .intro f
  by_cases a:iD x∈b
  .exact a
  .have:=KA (ds:=ds) a
   rw[h.at_]at this
   simp_all
def Dmap.one{b:Type}{enc:b->D}{s:Str}{a:b}:Dmap [.inr s] [enc a] enc (λx=>if x=s then P3 a else n_):=by
 refine#[rfl,λx=>?_,λk c=>#[s,Op.mp c],fX.mpr #[fH,gL]];show(if iD s=.inr x then P3 _ else n_)=(if x=s then P3 a else n_).map _
 by_cases e:x=s
 .simp_all
 .rw[if_neg e,if_neg λz=>e (iw z).symm];rfl
def G0{b:Type}(F:Str->r_ b)(x:Str)(a:b):Str->r_ b:=λy=>if y=x then P3 a else F y
def BV{b:Type}{F:Str->r_ b}{x:Str}{a:b}:G0 F x a x=P3 a:=if_pos rfl
def BU{b:Type}{F:Str->r_ b}{x y:Str}{a:b}(h:y≠x):G0 F x a y=F y:=if_neg h
def Dmap.put{d:Type}{f:q_ Key}{g:q_ D}{enc:d->D}{F:Str->r_ d}(h:Dmap f g enc F)(x:Str)(a:d):Dmap (Cv f^.inr x) (DL f g (.inr x)^enc a) enc^G0 F x a:=by
 exists O5 h.len,λy=>?_,λk c=>?_
 .rw[RZ h.len]
  unfold G0
  by_cases e:y=x
  .rw[if_pos e,if_pos^by rw[e]];rfl
  .rw[if_neg e,if_neg λz=>e^iw z,h.at_]
 .unfold Cv at c
  split at c
  .exact h.dom k c
  .rcases ZB.mp c with c|c
   .exact h.dom k c
   simp_all
 .unfold Cv
  split
  .exact h.nd
  .rename_i i
   rw[gX];refine#[h.nd,fX.mpr #[fH,gL],λa j b l e=>i^hasK_iff.mpr ?_]
   grind
def Dmap.le{d:Type}{a:q_ Key}{g:q_ D}{enc:d->D}{F:Str->r_ d}(h:Dmap a g enc F){b:q_ Str}(i:∀x,F x≠n_->x∈b):a.length<=b.length:=by
 have:∀(a:q_ Key) (b:q_ Str),a.Nodup->(∀k∈a,∃x:Str,k=.inr x/\x∈b)->a.length<=b.length:=by
  intro a
  induction a with
  |nil=>simp_all
  | cons k a l=>
   intro b c e;let#[x,rfl,n]:=e k Re;have c:=fX.mp c
   have o:=l (b.erase x) c.2 λj m=>by
    let#[y,rfl,p]:=e j^Sc _ m
    grind
   grind
 refine this a b h.nd λk f=>?_;let#[x,rfl]:=h.dom k f;exact#[x,rfl,i x^(h.mem x).mp f]
abbrev K_:=Str->r_ (Int×r_ Str)
structure Dj (N:Net) (s:Str) (F:K_) (Wt:List Str):Prop where
 start:F s=P3 (0,n_)
 ins:∀x,F x≠n_->x∈N.ps
 wk:∀x d p,F x=P3 (d,p)->Wk N s x d
 prev:∀x d p,F x=P3 (d,p)->(p=n_/\x=s)\/∃y dy q l,p=P3 y/\F y=P3 (dy,q)/\y∉Wt/\Ed N y x l/\d=dy+l
 wfound:∀x∈Wt,F x≠n_
 nd:Wt.Nodup
 done:∀x d p y l,F x=P3 (d,p)->x∉Wt->Ed N x y l->∃dy q,F y=P3 (dy,q)/\dy<=d+l
 near:∀x d p y dy q,F x=P3 (d,p)->x∉Wt->F y=P3 (dy,q)->y∈Wt->d<=dy
def Dj.init{N:Net}{s:Str}(c:s∈N.ps):Dj N s (λx=>if x=s then P3 (0,n_)else n_) [s]:=by
 have a:∀x d p,(if x=s then P3 ((0:Int),(n_:r_ Str))else n_)=P3 (d,p)->x=s/\d=0/\p=n_:=λx d p e=>by
  grind
 refine#[if_pos rfl,λx e=>?_,λx d p e=>?_,λx d p e=>?_,λx b=>?_,fX.mpr #[fH,gL],λx d p y l e b=>?_,λx d p y f q e b=>?_]
 .grind
 .let#[rfl,rfl,rfl]:=a x d p e
  exact .nil
 .let#[rfl,rfl,rfl]:=a x d p e
  exact .inl #[rfl,rfl]
 .simp_all
 .exact absurd (Op.mpr (a x d p e).1) b
 .exact absurd (Op.mpr (a x d p e).1) b
structure Dm (N:Net) (s:Str) (F:K_) (Wt:List Str) (v:Str) (dv:Int) (seen:List (Str×Int)):Prop where
 start:F s=P3 (0,n_)
 ins:∀x,F x≠n_->x∈N.ps
 wk:∀x d p,F x=P3 (d,p)->Wk N s x d
 prev:∀x d p,F x=P3 (d,p)->(p=n_/\x=s)\/∃y dy q l,p=P3 y/\F y=P3 (dy,q)/\y∉Wt/\Ed N y x l/\d=dy+l
 wfound:∀x∈Wt,F x≠n_
 nd:Wt.Nodup
 done:∀x d p y l,F x=P3 (d,p)->x∉Wt->x≠v->Ed N x y l->∃dy q,F y=P3 (dy,q)/\dy<=d+l
 near:∀x d p y dy q,F x=P3 (d,p)->x∉Wt->F y=P3 (dy,q)->y∈Wt->d<=dy
 here:∃p,F v=P3 (dv,p)
 out:v∉Wt
 least:∀x d p,F x=P3 (d,p)->x∉Wt->d<=dv
 gone:∀y l,(y,l)∈seen->∃dy q,F y=P3 (dy,q)/\dy<=dv+l
def Dj.take{N:Net}{s:Str}{F:K_}{c:q_ Str}(h:Dj N s F c){v:Str}{dv:Int}{p:r_ Str}(o:v∈c)(e:F v=P3 (dv,p))(i:∀y∈c,∀g q,F y=P3 (g,q)->dv<=g):Dm N s F (c.erase v) v dv []:=by
 have f:∀x,x∈c.erase v->x∈c:=λx b=>List.mem_of_mem_erase b;have m:v∉c.erase v:=λz=>(h.nd.mem_erase_iff.mp z).1 rfl
 have a:∀x,x∉c.erase v->x=v\/x∉c:=λx b=>by
  grind
 refine#[h.start,h.ins,h.wk,λx d q ex=>?_,λx b=>h.wfound x^f x b,h.nd.erase v,λx d q y l ex b r t=>?_,λx d q y g j ex b n k=>?_,#[p,e],m,λx d q ex b=>?_,λy l k=>by cases k]
 .rcases h.prev x d q ex with z|⟨y,g,j,l,u,w,A,B,C⟩
  .exact .inl z
  .exact .inr #[y,g,j,l,u,w,λz=>A^f y z,B,C]
 .rcases a x b with z|z
  .exact absurd z r
  .exact h.done x d q y l ex z t
 .rcases a x b with z|z
  .subst z
   rw[e]at ex;cases ex;exact i y (f y k) g j n
  .exact h.near x d q y g j ex z n^f y k
 .rcases a x b with z|z
  .grind
  .exact h.near x d q v dv p ex z e o
def Dm.finish{N:Net}{s:Str}{F:K_}{b:q_ Str}{v:Str}{dv:Int}{a:q_ (Str×Int)}(h:Dm N s F b v dv a)(f:∀y l,Ed N v y l->(y,l)∈a):Dj N s F b:=by
 refine#[h.start,h.ins,h.wk,h.prev,h.wfound,h.nd,λx d p y l e g c=>?_,h.near]
 by_cases z:x=v
 .subst z
  let#[j,i]:=h.here;rw[i]at e;cases e;exact h.gone y l^f y l c
 .exact h.done x d p y l e g z c
def Dm.find{N:Net}(ok:N.Ok){s:Str}{F:K_}{m:q_ Str}{v:Str}{dv:Int}{j:q_ (Str×Int)}(h:Dm N s F m v dv j){y:Str}{l:Int}(w:Ed N v y l)(K:F y=n_):Dm N s (G0 F y (dv+l,P3 v)) (m++[y]) v dv (j++[(y,l)]):=by
 have L:=(w.pos ok).1;let#[A,B]:=h.here;have C:∀x d p,F x=P3 (d,p)->x≠y:=λx d p e z=>by rw[z,K]at e;cases e
 have f:∀x d p,F x=P3 (d,p)->G0 F y (dv+l,P3 v) x=P3 (d,p):=λx d p e=>by rw[BU^C x d p e];exact e
 have Q:y∉m:=λz=>h.wfound y z K
 have c:∀x d p,G0 F y (dv+l,P3 v) x=P3 (d,p)->(x=y/\d=dv+l/\p=P3 v)\/(x≠y/\F x=P3 (d,p)):=λx d p e=>by
  by_cases z:x=y
  .rw[z,BV]at e;cases e;exact .inl #[z,rfl,rfl]
  .rw[BU z]at e;exact .inr #[z,e]
 have k:∀x,x∉m++[y]->x∉m/\x≠y:=λx g=>#[λz=>g^gP _ z,λz=>g^fR _^by rw[z];exact Op.mpr rfl]
 have M:v∉m++[y]:=λz=>by
  rcases ZB.mp z with z|z
  .exact h.out z
  .exact C v dv A B^Op.mp z
 refine#[f _ _ _ h.start,λx g=>?_,λx d p e=>?_,λx d p e=>?_,λx g=>?_,?_,λx d p z o e g R D=>?_,λx d p z O q e g E i=>?_,#[A,f _ _ _ B],M,λx d p e g=>?_,λz o i=>?_]
 .by_cases z:x=y
  .rw[z];exact w.ins ok
  .rw[BU z]at g;exact h.ins x g
 .rcases c x d p e with⟨rfl,rfl,_⟩|⟨_,e⟩
  .exact .snoc (h.wk v dv A B) w
  .exact h.wk x d p e
 .rcases c x d p e with⟨rfl,rfl,rfl⟩|⟨_,e⟩
  .exact .inr #[v,dv,A,l,rfl,f _ _ _ B,M,w,rfl]
  .rcases h.prev x d p e with z|⟨u,P,q,o,S,G,r,T,U⟩
   .exact .inl z
   .refine .inr #[u,P,q,o,S,f _ _ _ G,λz=>?_,T,U]
    rcases ZB.mp z with z|z
    .exact r z
    .exact C u P q G^Op.mp z
 .rcases ZB.mp g with g|g
  .have:=h.wfound x g
   cases e:F x with
   |none=>exact absurd e this
   |some a=>rw[f x a.1 a.2 e];intro z;cases z
  .rw[Op.mp g,BV];intro z;cases z
 .rw[gX]
  exact#[h.nd,fX.mpr #[fH,gL],λa V b W e=>Q^by rw[←Op.mp W,←e];exact V]
 .let#[n,t]:=k x g
  rcases c x d p e with⟨z,_⟩|⟨_,e⟩
  .exact absurd z t
  .let#[H,I,r,J]:=h.done x d p z o e n R D
   exact#[H,I,f _ _ _ r,J]
 .let#[n,t]:=k x g
  rcases c x d p e with⟨z,_⟩|⟨_,ex⟩
  .exact absurd z t
  .rcases c z O q E with⟨_,G,_⟩|⟨X,E⟩
   .have:=h.least x d p ex n
    lk
   .rcases ZB.mp i with i|i
    .exact h.near x d p z O q ex n E i
    .exact absurd (Op.mp i) X
 .let#[n,t]:=k x g
  rcases c x d p e with⟨z,_⟩|⟨_,e⟩
  .exact absurd z t
  .exact h.least x d p e n
 .rcases ZB.mp i with i|i
  .let#[H,I,r,J]:=h.gone z o i
   exact#[H,I,f _ _ _ r,J]
  .cases Op.mp i
   exact#[_,_,BV,iy _]
def Dm.nearer{N:Net}(ok:N.Ok){s:Str}{F:K_}{k:q_ Str}{v:Str}{dv:Int}{f:q_ (Str×Int)}(h:Dm N s F k v dv f){y:Str}{l A:Int}{J:r_ Str}(o:Ed N v y l)(B:F y=P3 (A,J))(Q:dv+l<A):Dm N s (G0 F y (dv+l,P3 v)) k v dv (f++[(y,l)]):=by
 have K:=(o.pos ok).1;let#[r,t]:=h.here
 have L:y∈k:=by
  by_cases z:y∈k
  .exact z
  .have:=h.least y A J B z
   lk
 have M:v≠y:=λz=>h.out (by rw[z];exact L);have c:∀x,x∉k->G0 F y (dv+l,P3 v) x=F x:=λx b=>BU λz=>b^by rw[z];exact L
 have a:∀x d p,G0 F y (dv+l,P3 v) x=P3 (d,p)->(x=y/\d=dv+l/\p=P3 v)\/(x≠y/\F x=P3 (d,p)):=λx d p e=>by
  by_cases z:x=y
  .rw[z,BV]at e;cases e;exact .inl #[z,rfl,rfl]
  .rw[BU z]at e;exact .inr #[z,e]
 have g:∀x d p,F x=P3 (d,p)->∃O q,G0 F y (dv+l,P3 v) x=P3 (O,q)/\O<=d:=λx d p e=>by
  by_cases z:x=y
  .subst z
   rw[B]at e;cases e;exact#[_,_,BV,by lk]
  .exact#[d,p,by rw[BU z];exact e,iy _]
 have R:s≠y:=λz=>by
  have:=h.start
  rw[z,B]at this;cases this
  have:=(h.wk v dv r t).pos ok
  lk
 refine#[by rw[BU R];exact h.start,λx b=>?_,λx d p e=>?_,λx d p e=>?_,λx b=>?_,h.nd,λx d p z m e b S C=>?_,λx d p z P q e b D i=>?_,#[r,by rw[BU M];exact t],h.out,λx d p e b=>?_,λz m i=>?_]
 .by_cases z:x=y
  .rw[z];exact o.ins ok
  .rw[BU z]at b;exact h.ins x b
 .rcases a x d p e with⟨rfl,rfl,_⟩|⟨_,e⟩
  .exact .snoc (h.wk v dv r t) o
  .exact h.wk x d p e
 .rcases a x d p e with⟨rfl,rfl,rfl⟩|⟨_,e⟩
  .exact .inr #[v,dv,r,l,rfl,by rw[BU M];exact t,h.out,o,rfl]
  .rcases h.prev x d p e with z|⟨u,T,q,m,U,V,j,n,W⟩
   .exact .inl z
   .exact .inr #[u,T,q,m,U,by rw[c u j];exact V,j,n,W]
 .by_cases z:x=y
  .rw[z,BV];intro w;cases w
  .rw[BU z];exact h.wfound x b
 .rw[c x b]at e
  let#[E,G,j,X]:=h.done x d p z m e b S C;let#[H,I,n,Y]:=g z E G j;exact#[H,I,n,by lk]
 .rw[c x b]at e
  rcases a z P q D with⟨rfl,rfl,_⟩|⟨Z,D⟩
  .have:=h.least x d p e b
   lk
  .exact h.near x d p z P q e b D i
 .rw[c x b]at e
  exact h.least x d p e b
 .rcases ZB.mp i with i|i
  .let#[E,G,j,X]:=h.gone z m i
   let#[H,I,n,Y]:=g z E G j;exact#[H,I,n,by lk]
  .cases Op.mp i
   exact#[_,_,BV,iy _]
def Dm.skip{N:Net}{s:Str}{F:K_}{c:q_ Str}{v:Str}{dv:Int}{a:q_ (Str×Int)}(h:Dm N s F c v dv a){y:Str}{l d:Int}{e:r_ Str}(i:F y=P3 (d,e))(f:d<=dv+l):Dm N s F c v dv (a++[(y,l)]):=by
 refine#[h.start,h.ins,h.wk,h.prev,h.wfound,h.nd,h.done,h.near,h.here,h.out,h.least,λz g b=>?_]
 rcases ZB.mp b with b|b
 .exact h.gone z g b
 simp_all
structure Told (N:Net) (s:Str) (F:K_):Prop where
 start:F s=P3 (0,n_)
 ins:∀x,F x≠n_->x∈N.ps
 least:∀x d p,F x=P3 (d,p)->Least N s x d
 all:∀x d,Wk N s x d->F x≠n_
 prev:∀x d p,F x=P3 (d,p)->(p=n_/\x=s)\/∃y dy q l,p=P3 y/\F y=P3 (dy,q)/\Ed N y x l/\d=dy+l
def Dj.told{N:Net}{s:Str}{F:K_}(h:Dj N s F []):Told N s F:=by
 have c:=Gj (N:=N) (s:=s) (F:=λx=>(F x).map (·.1)) #[0,by rw[h.start];rfl,iy _] (λx d e=>by
  let#[#[g,p],a,b]:=fq.mp e;cases b;exact h.wk x _ p a) (λx d y l e i=>by
  let#[#[g,p],a,b]:=fq.mp e;cases b;let#[f,q,j,k]:=h.done x _ p y l a fH i;exact#[f,by rw[j];rfl,k])
 refine#[h.start,h.ins,λx d p e=>c.1 x d (by rw[e];rfl),λx d m e=>c.2 x d m (by rw[e];rfl),λx d p e=>?_]
 rcases h.prev x d p e with z|⟨y,f,q,l,a,b,_,n,o⟩
 .exact .inl z
 simp_all
abbrev Kn:=Str->r_ Int
structure Bf (N:Net) (s:Str) (c:Nat) (K:Kn):Prop where
 start:∃d,K s=P3 d/\d<=0
 ins:∀x,K x≠n_->x∈N.ps
 wk:∀x d,K x=P3 d->Wk N s x d
 top:∀x d,K x=P3 d->d<=1000000*(c:Int)
def big:Nat:=27000001
def wt(K:Kn)(x:Str):Nat:=match K x with
 |some d=>d.toNat
 |none=>big
def RH(a:q_ Str)(K:Kn):Nat:=(a.map^wt K).sum
theorem Ru{f g:Str->Nat}:∀{a:q_ Str},(∀x∈a,f x<=g x)->(a.map f).sum<=(a.map g).sum
 |[],_=>Rs _
 |x::a,h=>by
  have c:=Ru λy b=>h y^Sc _ b
  grind
theorem Rt{f g:Str->Nat}:∀{b:q_ Str},(∀x∈b,f x<=g x)->(∃x∈b,f x<g x)->(b.map f).sum<(b.map g).sum
 |[],_,#[x,c,_]=>by cases c
 | x::b,h,#[y,a,d]=>by
  have i:=h x Re;rw[gD,gD,List.sum_cons,List.sum_cons]
  rcases Tk.mp a with rfl|a
  .have e:=Ru λy a=>h y^Sc _ a
   lk
  .have e:=Rt (λy a=>h y^Sc _ a) #[y,a,d]
   lk
def Bf.put {N:Net} (ok:N.Ok) {s:Str}{c c':Nat}{K:Kn} (h:Bf N s c K) (t:c' ≤ 26) (m:c ≤ c') {x y:Str}{d l:Int} (hx:K x=P3 d) (b:Ed N x y l) (n:K y=n_ → c'=c + 1) (f:∀ a,K y=P3 a → d + l < a):Bf N s c'^G0 K y (d + l) ∧ RH N.ps^G0 K y (d + l) < RH N.ps K:=by
  have u:=b.pos ok;have v:=(h.wk x d hx).pos ok;have o:Wk N s y (d + l):=.snoc (h.wk x d hx) b;have A:=h.top x d hx
  have p : d + l ≤ 1000000 * (c':Int):=by
    cases e:K y with
    | none => rw[n e];have:((c + 1:Nat):Int)=(c:Int) + 1:=by lk
              rw[this,Int.mul_add];lk
    | some a=>
      have B:=f a e;have q:=h.top y a e;have:(1000000:Int) * (c:Int) ≤ 1000000 * (c':Int):=jf (by lk) (by lk);lk
  refine#[#[?_,λz i=>?_,λz g e=>?_,λz g e=>?_],Rt (λz _=>?_) #[y,b.ins ok,?_]]
  · let#[j,k,r]:=h.start
    by_cases z:s=y
    · have:=f j^by rw[←z];exact k
      lk
    .exact#[j,by rw[BU z];exact k,r]
  · by_cases e:z=y
    .rw[e];exact b.ins ok
    .rw[BU e]at i;exact h.ins z i
  · by_cases w:z=y
    .rw[w,BV]at e;cases e;rw[w];exact o
    .rw[BU w]at e;exact h.wk z g e
  · by_cases w:z=y
    .rw[w,BV]at e;cases e;exact p
    · rw[BU w]at e
      have q:=h.top z g e;have:(1000000:Int) * (c:Int) ≤ 1000000 * (c':Int):=jf (by lk) (by lk);lk
  · unfold wt
    by_cases w:z=y
    · rw[w,BV]
      cases e:K y with
      |none=>show(d + l).toNat ≤ big;unfold big;lk
      |some a=>show(d + l).toNat ≤ a.toNat;have:=f a e;lk
    · rw[BU w]
      exact Rs _
  · unfold wt
    rw[BV];cases e:K y with
    |none=>show(d + l).toNat < big;unfold big;lk
    |some a=>show(d + l).toNat < a.toNat;have:=f a e;lk
def Bf.init{N:Net}{s:Str}(b:s∈N.ps):Bf N s 1 (λx=>if x=s then P3 0 else n_):=by
 have a:∀x d,(if x=s then P3 (0:Int)else n_)=P3 d->x=s/\d=0:=λx d e=>by
  grind
 refine#[#[0,if_pos rfl,iy _],λx e=>by grind,λx d e=>?_,λx d e=>?_]
 .let#[rfl,rfl]:=a x d e
  exact .nil
 .let#[rfl,rfl]:=a x d e
  decide
def IZ(K:Kn)(e:Str×Str×Int):Prop:=∀d,K e.1=P3 d->∃a,K e.2.1=P3 a/\a<=d+e.2.2
structure UV (N:Net) (s:Str) (K:Kn):Prop where
 ins:∀x,K x≠n_->x∈N.ps
 least:∀x d,K x=P3 d->Least N s x d
 all:∀x d,Wk N s x d->K x≠n_
 top:∀x d,K x=P3 d->d<=30000000
def Bf.told{N:Net}(ok:N.Ok){s:Str}{c:Nat}{K:Kn}(h:Bf N s c K)(n:c<=26)(f:∀t∈N.ts,IZ K (t.a,t.b,t.len)/\IZ K (t.b,t.a,t.len)):UV N s K:=by
 have g:=Gj h.start h.wk (λx d y l e j=>by
  let#[t,i,k,m]:=j.tie ok;subst k
  rcases m with⟨rfl,rfl⟩|⟨rfl,rfl⟩
  .exact(f t i).1 d e
  .exact(f t i).2 d e)
 exact#[h.ins,g.1,g.2,λx d e=>by have:=h.top x d e;lk]
def walk(N:Net):q_ Str->Int->Prop
 |[],_=>False
 |[_],d=>d=0
 |x::y::r,d=>∃l e,Ed N x y l/\walk N (y::r) e/\d=l+e
def P7{N:Net}{x y:Str}{r:q_ Str}{d l:Int}(a:Ed N x y l)(h:walk N (y::r) d):walk N (x::y::r) (l+d):=#[l,d,a,h,rfl]
def eO(N:Net)(a b:Str):r_ Int->Prop
 |some d=>Least N a b d
 |none=>∀d,¬Wk N a b d
def Told.far{N:Net}{s:Str}{F:K_}(h:Told N s F)(x:Str):eO N s x ((F x).map (·.1)):=by
 cases e:F x with
 |none=>exact λd b=>h.all x d b e
 |some a=>exact h.least x _ _ e
def Way(N:Net)(a b:Str)(o:r_^q_ Str):Prop:=match o with
 |some w=>∃d r,w=a::r/\w.getLast?=P3 b/\walk N w d/\Least N a b d/\w.length<=30/\∀x∈w,x∈N.ps
 |none=>∀d,¬Wk N a b d
def aC:r_ Str->D
 |some y=>.str y
 |none=>.non
def ce:r_ Int->D
 |some y=>.int y
 |none=>.non
def VH:r_^q_ Str->D
 |some w=>.tup^w.map .str
 |none=>.non
def H_(p:Int×r_ Str):D:=.tup [.int p.1,aC p.2]
def okN(N:Net):Prop:=N.Ok/\N.ps.length<=25/\N.ts.length<=60
def bP:W2:=λf n P=>∃(a:q_ Str) (b:q_ Key) (c:q_ D) (F:K_),f=[.br^.lst^a.map .str,.br^.dic b c]/\Dmap b c H_ F/\(∀x∈a,F x≠n_)/\a≠[]/\a.length<=100 /\
 ∀v∈a,(∀y∈a,∀d g e h,F v=P3 (d,g)->F y=P3 (e,h)->d<=e)->P (.str v) n
def Y3:W2:=λc n P=>∃(N:Net) (s:Str),c=[.sh^enc N,.sh^.str s]/\okN N/\s∈N.ps/\∀(a:q_ Key) (b:q_ D) (F:K_),Dmap a b H_ F->Told N s F->P (.dic a b) n
def dM:W2:=λc n P=>∃(N:Net) (a b:Str),c=[.sh^enc N,.sh^.str a,.sh^.str b]/\okN N/\a∈N.ps/\b∈N.ps/\∀o,Way N a b o->P (VH o) n
def dH{i j:Int}{x y:Str}(h:BF [.inl j,.inr y] [.inl i,.inr x]=p_):i<=j:=by
 have h:(if kH j=.inl i then(if iD y=.inr x then p_ else decide _)else decide _)=p_:=h
 grind
section
def Aj(x:Str):keyOf^.str x=P3^.inr x:=rfl
def QZ{N:Net}(ok:N.Ok){a:q_ Str}(h:∀x∈a,x∈N.ps):CD^.lst^a.map .str:=Kc λd b=>by
  let#[x,c,rfl]:=TM.mp b;exact CZ^ok.names x^h x c
def IV{N:Net}{d:q_ Str}(b:d.Nodup)(h:∀x∈d,x∈N.ps):d.length<=N.ps.length:=by
 have:∀(a c:q_ Str),a.Nodup->(∀x∈a,x∈c)->a.length<=c.length:=by
  intro a
  induction a with
  |nil=>grind
  |cons x a g=>
   intro c b f;have k:=f x Re;have b:=fX.mp b;have l:=g (c.erase x) b.2 λj i=>(List.mem_erase_of_ne λe=>b.1^by simp_all).mpr^f j^Sc _ i
   grind
 simp_all
def Io(a:q_ Key)(k:Key):(Cv a k).length=if JI a k=o_ then a.length else a.length+1:=by
 unfold Cv
 split
 .rfl
 simp_all
def Dmap.has{b:Type}{a:q_ Key}{d:q_ D}{enc:b->D}{F:Str->r_ b}(h:Dmap a d enc F){x:Str}:(F x=n_->JI a^.inr x=p_)/\(F x≠n_->JI a^.inr x=o_):=by
 constructor
 .intro e
  cases c:JI a _ with
  |false=>rfl
  |true=>exact absurd e^(h.mem x).mp^hasK_iff.mp c
 .intro e
  exact hasK_iff.mpr^(h.mem x).mpr e
def KI{N:Net}{x:Str}(hx:x∈N.ps):BA (N.ps.map .inr) (N.ps.map^Sq N.ts)^.inr x=P3^Sq N.ts x:=by
 have c:∀a:q_ _,x∈a->BA (a.map .inr) (a.map^Sq N.ts)^.inr x=P3^Sq N.ts x:=by
  intro a
  induction a with
  |nil=>grind
  | cons q a b=>
   intro h;show(if iD q=.inr x then P3 _ else BA _ _ _)=_
   by_cases e:q=x
   .grind
   .rw[if_neg λz=>e^iw z]
    exact b^(Tk.mp h).resolve_left λz=>e z.symm
 simp_all
def UZ(l:q_ (Str×Int)):C2 ((l.map λx=>(.inr x.1:Key)).map W9) (l.map λx=>.int x.2)=l.map cw:=by
 induction l with
 |nil=>rfl
 |cons p l a=>
  show D.tup _::C2 _ _=cw p::l.map _;rw[←a];rfl
end
structure WInv (N:Net) (F:K_) (b:Str) (db:Int) (acc:List Str) (pl:Option Str):Prop where
 st:(acc=[]/\pl=P3 b)\/∃z r dz,acc.reverse=z::r/\F z=P3 (dz,pl)/\walk N acc.reverse (db - dz)/\acc.reverse.getLast?=P3 b
 nd:acc.Nodup
 ins:∀x∈acc,x∈N.ps
 less:∀y dy q,pl=P3 y->F y=P3 (dy,q)->∀x∈acc,∃dx qx,F x=P3 (dx,qx)/\dy<dx
 fnd:∀y,pl=P3 y->F y≠n_
def wm(F:K_):r_ Str->Nat
 |none=>0
 |some y=>((F y).getD (0,n_)).1.toNat+1
def WInv.step{N:Net}(ok:N.Ok){a:Str}{F:K_}(T:Told N a F){b:Str}{k:Int}{K:r_ Str}(eb:F b=P3 (k,K)){m:q_ Str}{y:Str}{g:Int}{f:r_ Str}(h:WInv N F b k m^P3 y)(c:F y=P3 (g,f)):WInv N F b k (m++[y]) f/\wm F f<wm F^P3 y:=by
 have L:=(T.least y g f c).1.pos ok
 have A:∀w o q,f=P3 w->F w=P3 (o,q)->o<g:=λw o q e i=>by
  rcases T.prev y g f c with⟨z,_⟩|⟨B,s,C,l,j,n,t,u⟩
  .rw[e]at z;cases z
  .rw[e]at j
   cases j;rw[i]at n;cases n
   have:=(t.pos ok).1
   lk
 have D:∀w,f=P3 w->F w≠n_:=λw e=>by
  rcases T.prev y g f c with⟨z,_⟩|⟨B,s,C,l,j,n,_⟩
  .rw[e]at z;cases z
  .rw[e]at j
   cases j;rw[n];intro z;cases z
 exists#[.inr ?_,?_,λx d=>?_,λw o q e i x d=>?_,D]
 .rw [List.reverse_append,List.reverse_singleton,kc]
  rcases h.st with⟨rfl,e⟩|⟨z,r,E,j,n,t,u⟩
  .cases e
   rw[eb]at c;cases c;exact#[_,_,_,rfl,eb,(by show k - k=0;lk),rfl]
  .exists y,m.reverse,g,rfl,c,?_
   .rw[j]at t ⊢
    rcases T.prev z E (P3 y) n with⟨w,_⟩|⟨B,s,C,l,M,G,O,Q⟩
    .cases w
    .cases M
     rw[c]at G;cases G
     have:=P7 O t
     rw[show l+(k - E)=k - g by lk]at this;exact this
   .rw[j]at u ⊢
    exact u
 .rw[gX]
  refine#[h.nd,fX.mpr #[fH,gL],λx d z P e=>?_];rw[Op.mp P]at e;let#[H,I,ex,v]:=h.less y g f rfl c x d;rw[e,c]at ex;cases ex;lk
 .rcases ZB.mp d with d|d
  .exact h.ins x d
  .rw[Op.mp d]
   exact T.ins y^by rw[c];intro z;cases z
 .have J:=A w o q e i
  rcases ZB.mp d with d|d
  .let#[H,I,ex,v]:=h.less y g f rfl c x d
   exact#[H,I,ex,by lk]
  .rw[Op.mp d]
   exact#[g,f,c,J]
 .cases f with
  |none=>exact Nat.succ_pos _
  | some w=>
   cases i:F w with
   |none=>exact absurd i (D w rfl)
   |some p=>
    have J:=A w p.1 p.2 rfl i;have R:=(T.least w p.1 p.2 i).1.pos ok;show((F w).getD (0,n_)).1.toNat+1<((F y).getD (0,n_)).1.toNat+1;rw[i,c];show p.1.toNat+1<g.toNat+1;lk
def VZ{w:q_ Str}{b:Str}(h:w.getLast?=P3 b):atI (w.map D.str) (-1)=P3^.str b:=by
 let#[a,rfl]:=List.getLast?_eq_some_iff.mp h;rw[fg];exact T_ _ _
def ends(t:AX):Str×Str:=(t.a,t.b)
def eL(p q:Str×Str):Prop:=cs p.1<cs q.1\/(p.1=q.1/\cs p.2<cs q.2)
def WA{ps:q_ Str}{r:Int}(b:0<=r)(c:r<(ps.length:Int)):∃x∈ps,atI (ps.map D.str) r=P3^.str x:=by
 obtain⟨k,rfl⟩:∃k:Nat,r=k:=#[r.toNat,by lk];have a:k<ps.length:=by lk
 exact#[_,f7 a,AF^by simp_all]
def Vi{a:q_ Key}{b:q_ D}{K:Kn}(M:Dmap a b D.int K)(x:Str):(BA a b^.inr x).getD .non=ce^K x:=by
 rw[M.at_];cases K x <;>rfl
def Rq{N:Net}(a:okN N):fine 1000001^enc N/\Cr^enc N<=48000/\Fz^enc N<=3:=Xf (Vb a.1) (JD a.1) (by rw[FM];have:=a.2.1;lk)^by rw[FM];have:=a.2.2;lk
def sub(N:Net)(kept:q_ AX):Net:=#[N.ps,N.ts.filter λu=>decide (u∈kept)]
def Fd(N:Net)(t b:Int)(u:AX):Prop:=∃d,Least N u.a u.b d/\d*b<=u.len*t
noncomputable def KU(N:Net)(t b:Int)(u:AX):Bool:=@decide (Fd N t b u)^ii _
def nearB_iff{N:Net}{t b:Int}{u:AX}:KU N t b u=o_↔Fd N t b u:=by
 unfold KU
 grind
def Oa:W2:=λc n P=>∃(N:Net) (z:D) (b:q_ AX),c=[.sh^enc N,.br z]/\EY z=P3^b.map AJ/\b.length<64/\∀a:q_ AX,a.Perm b->Gk a->P (enc #[N.ps,a]) n
def Y2:W2:=λc n P=>∃(N:Net) (u:AX) (t b:Int),c=[.sh^enc N,.sh^.tup [.int t,.int b],.sh^AJ u]/\okN N/\u.a∈N.ps/\u.b∈N.ps/\1<=b/\b<=1000000/\1<=t/\t<=1000000/\∀o:r_^q_ Str,(∀w,o=P3 w->Way N u.a u.b^P3 w/\KU N t b u=o_)->(o=n_->KU N t b u=p_)->P (VH o) n
def Gr:W2:=λd n P=>∃(N:Net) (s:Str) (z:D) (a:q_ AX),d=[.br z,.sh^.str s]/\EY z=P3^a.map AJ/\(∀u,u∈a↔u∈N.ts)/\okN N/\s∈N.ps/\∀(b:q_ Key) (c:q_ D) (K:Kn),Dmap b c D.int K->UV N s K->P (.dic b c) n
def sub_mem{N:Net}{kept:q_ AX}{u:AX}:u∈(sub N kept).ts↔u∈N.ts/\u∈kept:=by
 show u∈N.ts.filter _↔_
 simp_all
def Ce{N:Net}(a:okN N)(kept:q_ AX):okN^sub N kept:=#[LI a.1 (λt h=>(sub_mem.mp h).1)^a.1.trise.filter _,a.2.1,fJ (gv _ _) a.2.2]
def Nh{N:Net}(ok:N.Ok){kept a:q_ AX}(d:∀t∈kept,t∈N.ts)(nd:kept.Nodup)(b:a.Perm kept)(c:Gk a):(#[N.ps,a]:Net)=sub N kept:=by
 congr 1
 refine EA ((jD (b.nodup_iff.mpr nd)^(A9 ok.trise).filter _).mpr λt=>?_) c^DY^ok.trise.filter _;rw[b.mem_iff]
 simp_all
def Wk.mono{N a:Net}(h:∀t∈N.ts,t∈a.ts){s x:Str}{d:Int}(b:Wk N s x d):Wk a s x d:=by
 induction b with
 |nil=>exact .nil
 |snoc _ c e=>
  refine .snoc e ?_;let#[t,f,z]:=g9.mp c;exact g9.mpr #[t,h t f,z]
theorem JA{f g:Type}:∀{l:q_ (f×g)},(l.map (·.1)).Nodup->∀{p q:f×g},p∈l->q∈l->p.1=q.1->p=q
 |a::l,d,p,q,h,i,e=>by
  rw[gD,fX]at d
  rcases Tk.mp h with b|b <;>rcases Tk.mp i with c|c
  .rw[b,c]
  .grind
  .exact absurd (TM.mpr #[p,b,by rw[e,c]]) d.1
  .exact JA d.2 b c e
def GR{N:Net}(ok:N.Ok){x y:Str}{l:Int}(h:Ed N x y l):look N.ts x y=P3 l:=by
 unfold look;cases e:(Dd _ x).find? _ with
 |none=>exact absurd (List.find?_eq_none.mp e _ h)^by simp
 |some q=>
  have a:=of_decide_eq_true^j7 (p:=λz=>decide _) e;rw[JA (QY ok x) (iS e) h a];rfl
theorem MB{N:Net}(ok:N.Ok):∀{r:q_ Str}{x:Str}{s d:Int},walk N (x::r) d->D5 N.ts x r s=P3 (s+d)
 |[],x,s,d,h=>by
  have:=h
  subst this;show P3 s=P3 _
  grind
 |y::r,x,s,d,h=>by
  let#[l,e,a,b,rfl]:=h;show(match look _ x y with|some l=>D5 _ y r _|none=>n_)=_;rw[GR ok a];show D5 _ y r _=_;rw[MB ok b,lX]
def VX{N:Net}(ok:N.Ok){x:Str}{r:q_ Str}{d:Int}(hx:x∈N.ps)(a:walk N (x::r) d):Ju N^.tup^(x::r).map .str=.int d:=by
 show(if((x::r).map _).all _ then OG N _ else .non)=_;rw[if_pos^all_strs _,DK];show(if x∈N.ps then Nm _ else .non)=_;rw[if_pos hx,MB ok a,kG];rfl
theorem J8{N:Net}{B:Nat}(ok:N.Ok):∀{w:q_ Str},(∀x∈w,x∈N.ps)->Fg B^w.map .str/\By^w.map .str<=9*w.length/\FP^w.map .str<=0
 |[],_=>#[trivial,Rs _,Rs _]
 | x::r,h=>by
  let#[a,b,c]:=J8 ok λy e=>h y^Sc _ e;have d:=ok.names x^h x Re;exists#[λf g=>by have:=d.2.2 f g;lk,a],?_
  .show x.length+1+By _<=9*(r.length+1)
   have:=d.2.1
   lk
  assumption
def RR{N:Net}(ok:N.Ok){w:q_ Str}(d:w.length<=30)(h:∀x∈w,x∈N.ps):Dg^.tup^w.map .str:=by
 let#[a,b,c]:=J8 ok h;exact#[a,by show By _<=160000;lk,by show FP _+1<=50;lk]
inductive Cn (K:List AX) (x:Str):Str->Prop
 |refl:Cn K x x
 |step {y z:Str}:Cn K x y->(∃t∈K,(t.a=y/\t.b=z)\/(t.b=y/\t.a=z))->Cn K x z
end Nt
namespace Dp
open L2
end Dp
namespace Nt
open L2 Dp
def UQ:W2:=λb n P=>∃m:Nat,b=[.fd,.sh^.int m]/\m<=24/\1<=n/\∀a:q_ Str,a.length=m->(∀x∈a,Qp x)->rising a->P (.tup^a.map .str) (n - 1)
def UR:W2:=λa n P=>∃s:Int,a=[.fd,.sh^.int s]/\0<=s/\1<=n/\∀r:Int,1<=r->r<=1000000->P (.int r) (n - 1)
def Y1:W2:=λd n P=>∃a b:Nat,d=[.fd,.sh^.int a,.sh^.int b]/\2<=a/\a<=24/\3<=b/\b<=60/\130<=n/\∀(N:Net) (c:Nat),N.Ok->2<=N.ps.length->N.ps.length<=a->N.ts.length<=b->n - 130<=c->P (enc N) c
def words24:q_ Str:=["a","ab","aba","b","in","out","place","tie","c","ca","near","z","za","zb","x","xy","y","q","qq","d","e","f","g","h"]
def Dh(i:Nat):Str:=words24.getD i "a"
def NY:∀i,i<24->Qp^Dh i:=by
 have h:∀i∈fo 24,1<=(Dh i).length/\(Dh i).length<=8/\∀c∈cs^Dh i,97<=c/\c<=122:=by decide +kernel
 exact λi a=>h i^gu.mpr a
def P6:∀i j,i<24->j<24->Dh i=Dh j->i=j:=by
 have h:∀i∈fo 24,∀j∈fo 24,cs^Dh i=cs^Dh j->i=j:=by decide +kernel
 exact λi j a b e=>h i (gu.mpr a) j (gu.mpr b)^congrArg cs e
def RN(i:Nat)(h:i<24):(words24.map D.str)[i]?=P3^.str^Dh i:=by
 have a:i<words24.length:=h;unfold Dh
 simp_all
def pairD(p:Str×Str):D:=.tup [.str p.1,.str p.2]
def CO(a:Str)(c:q_ Str):q_ (Str×Str):=(c.filter λb=>decide (cs a<cs b)).map λb=>(a,b)
def pairsOf(b c:q_ Str):q_ (Str×Str):=b.flatMap λa=>CO a c
def UC(a:Str):D->Bool
 |.str b=>decide (cs a<cs b)
 |_=>p_
def UB(a:Str)(b:q_ Str):[]++((b.map D.str).filter^UC a).map (λd=>D.tup [.str a,d])=(CO a b).map pairD:=by
 rw[jb,gY];unfold CO;rw[gY];rfl
def Md{c d:q_ Str}{p:Str×Str}(h:p∈pairsOf c d):p.1∈c/\p.2∈d/\cs p.1<cs p.2:=by
 let#[a,e,h]:=g9.mp h;let#[b,f,rfl]:=TM.mp h
 simp_all
def LV{d f:q_ Str}(g:rising d)(e:rising f):(pairsOf d f).Pairwise eL:=by
 unfold pairsOf;rw[List.pairwise_flatMap];refine#[λa _=>?_,g.imp λ{a b} h x e y i=>?_]
 .unfold CO
  rw[jF];exact(e.filter _).imp λ{b c} h=>.inr #[rfl,h]
 .let#[_,_,rfl]:=TM.mp e
  let#[_,_,rfl]:=TM.mp i;exact .inl h
def Yq(x:Str):¬cs x<cs x:=iP _
def Td{l:q_ (Str×Str)}(h:l.Pairwise eL):l.Nodup:=h.imp λ{p q} h e=>by
 subst e
 rcases h with h|⟨_,h⟩ <;>exact Yq _ h
theorem Eo{c:q_ Str}:∀{b:q_ Str},(pairsOf b c).length<=b.length*c.length
 |[]=>Uf _
 |a::b=>by
  have d:=@Eo c b;show(CO a c++pairsOf _ c).length<=_;rw[XV,fF,Nat.add_mul,Nat.one_mul]
  have:(CO a c).length<=c.length:=by unfold CO;rw[FM];grind
  lk
theorem JN{b:Type}:∀{l:q_ b}{k:Nat}{x:b},l[k]?=P3 x->(x::l.eraseIdx k).Perm l
 |[],k,x,e=>by simp at e
 |a::l,0,x,e=>by simp_all
 |a::l,k+1,x,e=>(List.Perm.swap a x _).trans^(JN (l:=l) e).cons a
def T7{e:q_ AX}(h:Gk e)(nd:(e.map ends).Nodup):e.Pairwise BZ:=by
 refine(h.and^jF.mp nd).imp λ{s t} #[a,b]=>j6 λc=>?_
 by_cases d:BZ t s
 .have:=LH d
  grind
 .refine b ?_
  injection B3 _ _ (by rw[fj];exact λz=>c^ekey_iff.mp z) (by rw[fj];exact λz=>d^ekey_iff.mp z)with f i
  injection i with g _
  injection f with f
  injection g with g
  unfold ends;rw[f,g]
def u0{n k j:Nat}(h:k<=n:=by assumption)(e:lJ j k=o_:=by rfl):j<=n:=fJ (jo e) h
def u1{n k j a:Nat}(h:k<=n:=by assumption)(e:lJ (j+a) k=o_:=by rfl):j<=n - a:=jG^fJ (jo e) h
def u2{n k j a b:Nat}(h:k<=n:=by assumption)(e:lJ (j+b+a) k=o_:=by rfl):j<=n - a - b:=jG^u1 h e
def u3{n k j a b c:Nat}(h:k<=n:=by assumption)(e:lJ (j+c+b+a) k=o_:=by rfl):j<=n - a - b - c:=jG^u2 h e
def u4{n k j a b c d:Nat}(h:k<=n:=by assumption)(e:lJ (j+d+c+b+a) k=o_:=by rfl):j<=n - a - b - c - d:=jG^u3 h e
def u5{n k j a b c d f:Nat}(h:k<=n:=by assumption)(e:lJ (j+f+d+c+b+a) k=o_:=by rfl):j<=n - a - b - c - d - f:=jG^u4 h e
def w0{n k j:Nat}(h:n<=k:=by assumption)(e:lJ k j=o_:=by rfl):n<=j:=fJ h^jo e
def w1{n k j:Nat}(h:n<=k:=by assumption)(e:lJ (k+1) j=o_:=by rfl):n<j:=fJ (jK h)^jo e
def v1{a n m j:Nat}(h:a<=n)(e:n - j<=m):a - j<=m:=fJ (k9 h j) e
def c8{n m j c:Nat}(a:124<=n)(b:n - 2*j<=m)(d:j<c)(e:c<=60):3<=m/\n - 2*(j+1)<=m - 1 - 1:=by lk
def dA{n a m c:Nat}(h:n - 6<=a)(b:a - 2*c<=m)(d:c<=60):n - 130<=m:=by lk
def d8(n:Nat):n - 6<=n - 1 - 1 - 1 - 1 - 1/\n - 6<=n - 1 - 1 - 1 - 1 - 1 - 1:=by lk
def Fn{ts:q_ AX}{z:D}{P:D->Prop}(c:EY z=P3^ts.map AJ)(d:ts.length<64)(p:∀a:q_ AX,a.Perm ts->Gk a->P^.lst^a.map AJ):Ds [z] P:=by
 refine#[z,_,rfl,c,by simp_all,#[λx b=>?_,λx b y e m n f h=>?_],λi j k=>?_]
 .let#[t,_,rfl]:=TM.mp b
  exact#[_,rfl,g_ _ _]
 .let#[t,_,rfl]:=TM.mp b
  let#[u,_,rfl]:=TM.mp e;cases(f);cases(h);rfl
 .let#[a,l,rfl]:=KC (g:=Tp) (λ_=>rfl) j
  exact p _ l^LW k
def N_{b:Type}{a:q_ b}{x:b}{l:q_ b}{k:Nat}(e:l[k]?=P3 x):((a++[x])++l.eraseIdx k).Perm (a++l):=by
 rw[gF];exact(JN e).append_left a
section
theorem Kk{i:E2}{m:Nat}{d:q_ Str}(k:d.length<=24){l:BW}{mk:q_ D->Slot->q_ Slot}(f:AW)
  (g:∀(fr:q_ D) (s:Slot) (a:Str) (nx:Nat->q_ Slot->Prop),fr.length+24<=1000->(∀j,nx m^mk (fr++(CO a d).map pairD) j)->l (.str a) (mk fr s) λn=>f {i with nx:=nx,ct:=nx,bk:=i.nx} m n)
  (h:∀s,i.nx m^mk ((pairsOf d d).map pairD) s):∀(c b:q_ Str) (s:Slot),b++c=d->Ae l f i (c.map .str) m^mk ((pairsOf b d).map pairD) s
 |[],b,s,e=>by
  rw[fh]at e;subst e;exact h s
 |a::c,b,s,e=>by
  have p:=@Eo d b;have o:b.length<=24:=by grind
  have q:b.length*d.length<=24*24:=mT o k;refine g _ s a _ (by grind) λj=>?_;have r:=Kk k f g h c (b++[a]) j (by grind);have t:pairsOf (b++[a]) d=pairsOf b d++CO a d:=by unfold pairsOf;grind
  grind
end
abbrev T9:AW:=(CU (Eb (Ah^Ao (NC p_) (AH 7)^As 2)^Ah^Ao NA (Ao Bw (Ao CQ (As 2)^AH 7)^AH 6)^WU (As 2) (AH 8)^Ao (bz RG λi j=>D.int (i ^ j.toNat)) (wC^D.int 10)^wC^D.int 20) (BE (MF 2 (AH 8)^Ao Bw (Ao CQ (As 2)^AH 7)^AH 6)
 (Cq 3^wC^D.bl o_)) Bm)
def eg:((10:Int) ^ (20:Int).toNat)=100000000000000000000:=by decide +kernel
section
structure fD (N:Net) (ks:List Key) (ds:List D) (F:Str->Option Str):Prop where
 m:Dmap ks ds D.str F
 i:∀x,F x≠n_->x∈N.ps
end
end Nt
namespace L2
end L2
namespace Dp
open L2
end Dp
namespace Nt
open L2 Dp
def Ck(M:Net)(u:AX):Net:=#[M.ps,M.ts.filter λv=>decide (v≠u)]
def EW(t b:Int):Prop:=1<=b/\b<=1000000/\1<=t/\t<=1000000
def Gd{M:Net}(a:okN M)(u:AX):okN^Ck M u:=#[LI a.1 (λt h=>(gS.mp h).1)^a.1.trise.filter _,a.2.1,fJ (gv _ _) a.2.2]
def Ih{N:Net}(ok:N.Ok){b a:q_ AX}(h:b.Pairwise BZ)(c:a.Perm b)(d:Gk a):a=b:=EA c d^DY h
section
def Fl{M:Net}(ok:M.Ok):∀t∈M.ts,Qp t.a/\Qp t.b/\1<=t.len/\t.len<=1000000:=λt d=>by
 let#[a,b,_,c]:=ok.tin t d;exact#[ok.names _ a,ok.names _ b,c]
end
def tj(t:AX)(x y:Str):Prop:=(t.a=x/\t.b=y)\/(t.b=x/\t.a=y)
inductive Us (K:List AX) (x:Str):Str->Nat->Prop
 |nil:Us K x x 0
 |snoc {y z:Str}{n:Nat}{t:AX}:Us K x y n->t∈K->tj t y z->Us K x z (n+1)
theorem Wk.least{N:Net}(ok:N.Ok){s x:Str}:∀(k:Nat) {d:Int},d.toNat<=k->Wk N s x d->∃a,Least N s x a/\a<=d
 | k,d,i,h=>by
  by_cases c:∃b,b<d/\Wk N s x b
  .let#[b,j,e]:=c
   have l:=e.pos ok;cases k with
   |zero=>lk
   |succ k=>
    let#[a,f,m]:=Wk.least ok k (d:=b) (by lk) e;exact#[a,f,by lk]
  .refine#[d,#[h,λa g=>?_],iy _]
   rcases Int.lt_or_le a d with z|z
   .exact absurd #[a,z,g] c
   .exact z
def firm(N:Net)(t b:Int)(L:q_ AX):Prop:=∀a z c,L=a++z::c->¬Fd (sub N a) t b z
structure Kept (N:Net) (t b:Int) (L:List AX):Prop where
 ok:okN N
 firm:firm N t b L
 ins:∀u∈L,u∈N.ts
 up:L.Pairwise λu v=>u.len<=v.len
 b1:1<=b
end Nt
namespace L2
section
variable {prog:Program}{w:World}{A:Around}{E:Value->Shared->Prop}{s:Shared}{x y:Str}{t u:Tok}
def Ra(x y:Str)(i:Nat):Str:=if i=0 then x else y
def Om{i:Nat}{v:Ev}(h:(#[ jH x t,jH y u]:Array Ev)[i]?=P3 v):∃k,v=.str (Ra x y i) k:=by
 match i with
 |0=>exact#[t,(fG h).symm]
 |1=>exact#[u,(fG h).symm]
 |i+2=>simp at h
def Q4:CmpOf prog w A .Lt (λi v=>(#[ jH x t,jH y u]:Array Ev)[i]?=P3 v) (λi j=>decide ((Ra x y i).cps.toList<(Ra x y j).cps.toList)):=λi j f g s Q E c d h=>by
 let#[a,rfl]:=Om c;let#[b,rfl]:=Om d;exact richCompare_gives (op:=.Lt) (kI s _ a) (kI s _ b) PySem.F.slot_str_lt PySem.F.entry_str_lt (PySem.F.args_str_lt_2 _ _) (gives_str_lt _ _ a b) (λe=>nomatch e) h
def Q5:CmpOf prog w A .Gt (λi v=>(#[ jH x t,jH y u]:Array Ev)[i]?=P3 v) (λi j=>decide ((Ra x y j).cps.toList<(Ra x y i).cps.toList)):=λi j f g s Q E c d h=>by
 let#[a,rfl]:=Om c;let#[b,rfl]:=Om d;exact richCompare_gives (op:=.Gt) (kI s _ a) (kI s _ b) PySem.F.slot_str_gt PySem.F.entry_str_gt (PySem.F.args_str_gt_2 _ _) (gives_str_gt _ _ a b) (λe=>nomatch e) h
def Rb{n c:Nat}(h:c∈[n+1,n]):c<n+1+1:=by
 simp only[Tk,fH,or_false]at h;lk
def MI{a:Nat->Nat->Bool}{v:Ev}(h:(#[ jH x t,jH y u]:Array Ev)[argBest a 1]?=P3 v):v=if a 1 0=o_ then .str y u else .str x t:=by
 have e:argBest a 1=if a 1 0=o_ then 1 else 0:=rfl
 rw[e]at h;cases c:a 1 0 with
 |true=>rw[c]at h;exact(fG h).symm
 |false=>rw[c]at h;exact(fG h).symm
def Qc{Q:Ev->No->Prop}(i:A.handled=n_)(h:∀a d,(∀c o,s.heap.get? c=P3 o->a.get? c=P3 o)->Q (if decide (y.cps.toList<x.cps.toList)=o_ then .str y u else .str x t) {s with heap:=a,toks:=d}):
  wpAny (model prog w) A (call (.builtin "min") [.str x t,.str y u]) Q E s:=by
 have f:(s.heap.push {cls:=.type "tuple",data:=.seq #[ .str x t,.str y u]}).IsTuple s.heap.objs.size #[ .str x t,.str y u]:=#[_,UF _ rfl,rfl,0,rfl];refine call_min_two^gm f ?_;have b:(s.heap.push {cls:=.type "tuple",data:=.seq #[ .str x t,.str y u]}).objs.size=s.heap.objs.size+1:=gU ..;refine#[_,[_,s.heap.objs.size],[_],_,_,_,_,rfl,Walks.tuple (A:=A.in1) i _ s.heap.objs.size (by rw[b];exact fQ^jM _) #[ .str x t,.str y u],#[#[_,UF _ rfl,rfl,rfl],f.push _],λc g=>?_,by simp,Q4,λv a d j k=>?_]
 .rw[gU,b];rw[b]at g;exact Rb g
 .rw[MI j]
  refine h a d λc o e=>k c o (λm=>?_)^Go _^Go _ e;have l:=T0 e;rw[Op.mp m,b]at l;exact absurd l^jV.mpr^fu _
def Qe{Q:Ev->No->Prop}(i:A.handled=n_)(h:∀a d,(∀c o,s.heap.get? c=P3 o->a.get? c=P3 o)->Q (if decide (x.cps.toList<y.cps.toList)=o_ then .str y u else .str x t) {s with heap:=a,toks:=d}):
  wpAny (model prog w) A (call (.builtin "max") [.str x t,.str y u]) Q E s:=by
 have f:(s.heap.push {cls:=.type "tuple",data:=.seq #[ .str x t,.str y u]}).IsTuple s.heap.objs.size #[ .str x t,.str y u]:=#[_,UF _ rfl,rfl,0,rfl];refine call_max_two^gm f ?_;have b:(s.heap.push {cls:=.type "tuple",data:=.seq #[ .str x t,.str y u]}).objs.size=s.heap.objs.size+1:=gU ..;refine#[_,[_,s.heap.objs.size],[_],_,_,_,_,rfl,Walks.tuple (A:=A.in1) i _ s.heap.objs.size (by rw[b];exact fQ^jM _) #[ .str x t,.str y u],#[#[_,UF _ rfl,rfl,rfl],f.push _],λc g=>?_,by simp,Q5,λv a d j k=>?_]
 .rw[gU,b];rw[b]at g;exact Rb g
 .rw[MI j]
  refine h a d λc o e=>k c o (λm=>?_)^Go _^Go _ e;have l:=T0 e;rw[Op.mp m,b]at l;exact absurd l^jV.mpr^fu _
end
section
variable {X:Cx}
def Wm:q_ V->Hp->VK->Prop:=λa H Q=>∃x y:Str,a=[.str x,.str y]/\Q (.str (if decide (y.cps.toList<x.cps.toList)=o_ then y else x)) H
def Wo:q_ V->Hp->VK->Prop:=λa H Q=>∃x y:Str,a=[.str x,.str y]/\Q (.str (if decide (x.cps.toList<y.cps.toList)=o_ then y else x)) H
def Ku(a:X.calm=o_):Co X (.builtin "min") Wm:=by
 intro b s Z H c d Q I r h;let#[x,y,rfl,q]:=h;let#[u,e,rfl,#[t,rfl],#[f,rfl]]:=vals2 r;refine Qc (I.ok.hd a) λg i k=>#[_,H,I.kept k,?_,q];cases decide (y.cps.toList<x.cps.toList) <;>exact#[_,rfl]
def Kw(a:X.calm=o_):Co X (.builtin "max") Wo:=by
 intro b s Z H c d Q I r h;let#[x,y,rfl,q]:=h;let#[u,e,rfl,#[t,rfl],#[f,rfl]]:=vals2 r;refine Qe (I.ok.hd a) λg i k=>#[_,H,I.kept k,?_,q];cases decide (x.cps.toList<y.cps.toList) <;>exact#[_,rfl]
end
end L2
namespace Dp
open L2
section
variable {K:Frag}
def TR(a:q_ D)(P:D->Prop):Prop:=∃x y:Str,a=[.str x,.str y]/\P^.str (if decide (y.cps.toList<x.cps.toList)=o_ then y else x)
def TV(a:q_ D)(P:D->Prop):Prop:=∃x y:Str,a=[.str x,.str y]/\P^.str (if decide (x.cps.toList<y.cps.toList)=o_ then y else x)
def MH{U M:Db->Prop}{H:Hp}{x y:Str}{a:q_ V}(b:Paired (λv d=>AtT K U M H d v) a [.str x,.str y]):a=[.str x,.str y]/\x.length<=sizeLine/\y.length<=sizeLine:=by
 cases b with
 | cons c e=>cases e with
  |cons f g=>
   cases g;let#[rfl,h]:=c.str;let#[rfl,i]:=f.str;exact#[rfl,h,i]
def UG:Do K .sh Wm TR:=by
 intro U M H c d P Q a f b w q;let#[x,y,rfl,w]:=w;let#[e,g,h]:=MH b;exact#[x,y,e,q _ H (.str _) .refl #[rfl,by split <;>assumption] w]
def UI:Do K .sh Wo TV:=by
 intro U M H c d P Q a f b w q;let#[x,y,rfl,w]:=w;let#[e,g,h]:=MH b;exact#[x,y,e,q _ H (.str _) .refl #[rfl,by split <;>assumption] w]
end
end Dp
namespace L2
open PySem.W
end L2
namespace Dp
open L2
end Dp
namespace Nt
open L2 Dp
def minus(N:Net)(S:q_ AX):Net:=#[N.ps,N.ts.filter λv=>decide (v∉S)]
def J5(N:Net)(t b:Int)(u:AX)(m:Nat):Prop:=∀S:q_ AX,S.length<=m->Fd (minus N S) t b u
noncomputable def Vg(N:Net)(t b:Int)(u:AX)(m:Nat):Bool:=@decide (J5 N t b u m)^ii _
def hldB_iff{N:Net}{t b:Int}{u:AX}{m:Nat}:Vg N t b u m=o_↔J5 N t b u m:=by
 unfold Vg;exact @decide_eq_true_iff _^ii _
noncomputable def CP(N:Net)(t b:Int)(m:Nat):q_ AX->q_ AX->q_ AX
 |a,[]=>a
 |a,u::r=>if Vg (sub N a) t b u m=o_ then CP N t b m a r else CP N t b m (a++[u]) r
def aD:r_^q_ AX->D
 |some l=>.lst^l.map AJ
 |none=>.non
def fresh(u:AX):Prop:=Qp u.a/\Qp u.b/\1<=u.len/\u.len<=1000000
def Over(c:q_ AX):q_ Str->q_ AX->Prop
 |[_],[]=>True
 |x::y::r,u::d=>u∈c/\((u.a=x/\u.b=y)\/(u.b=x/\u.a=y))/\Over c (y::r) d
 |_,_=>False
def IQ:W2:=λa n P=>∃(M:Net) (z:D) (S:q_ AX),a=[.sh^enc M,.sh z]/\EY z=P3^S.map AJ/\okN M/\(∀v∈S,v∈M.ts)/\P (enc^minus M S) n
def UN:W2:=λb n P=>∃(N:Net) (w:q_ Str) (d:Int),b=[.sh^enc N,.sh^.tup^w.map .str]/\okN N/\walk N w d/\w.length<=200000/\(∀x∈w,x∈N.ps)/\∀a:q_ AX,Over N.ts w a->a.length<w.length->P (.lst^a.map AJ) n
def dI(N:Net)(t b:Int)(u:AX)(m:Nat)(l:q_ AX):Prop:=¬J5 N t b u m/\(∀v∈l,v∈N.ts)/\l.length<=m
def XG(j:Nat):W2:=λc n P=>∃(N:Net) (u:AX) (t b:Int) (m:Nat),c=[.sh^enc N,.sh^.tup [.int t,.int b],.sh^AJ u,.sh^.int (m:Int)]/\(m<=j/\m<=2)/\okN N/\u.a∈N.ps/\u.b∈N.ps/\fresh u/\EW t b/\∀o:r_^q_ AX,(o=n_->J5 N t b u m)->(∀l,o=P3 l->dI N t b u m l)->P (aD o) n
def WF:W2:=λc n P=>∃(N:Net) (t b:Int) (m:Nat),c=[.sh^enc N,.sh^.tup [.int t,.int b],.sh^.int (m:Int)]/\okN N/\EW t b/\m<=2/\∀a:q_ AX,a.Perm N.ts->CM a->P (enc^sub N^CP N t b m [] a) n
def Ys(a:q_ AX)(m:Nat)(L:q_^q_ AX):Prop:=(∀S∈L,S.length<=m/\∀v∈S,v∈a)/\∀S:q_ AX,S.length<=m->∃b∈L,∀v∈a,v∈S↔v∈b
def WK:W2:=λb n P=>∃(z:D) (a:q_ AX) (m:Nat),b=[.br z,.sh^.int (m:Int)]/\z=.lst^a.map AJ/\a.length<=60/\1<=m/\m<=2/\∀L:q_^q_ AX,Ys a m L->P (.lst^L.map λS=>.lst^S.map AJ) n
def Y4:W2:=λb n P=>b=[.fd]/\200<=n/\∀(N:Net) (a:Nat),okN N->2<=N.ps.length->N.ps.length<=6->N.ts.length<=25->n - 200<=a->P (enc N) a
def US:W2:=λa n P=>a=[.fd]/\1<=n/\∀t b:Int,EW t b->b<=t->P (.tup [.int t,.int b]) (n - 1)
def BX{N:Net}(a:okN N)(S:q_ AX):okN^minus N S:=#[LI a.1 (λt h=>(gS.mp h).1)^a.1.trise.filter _,a.2.1,fJ (gv _ _) a.2.2]
def minus_mem{N:Net}{S:q_ AX}{v:AX}:v∈(minus N S).ts↔v∈N.ts/\v∉S:=by
 show v∈N.ts.filter _↔_;rw[gS,decide_eq_true_eq]
def G8(N:Net):minus N []=N:=by
 unfold minus;rw[List.filter_eq_self.mpr λv _=>decide_eq_true fH]
def hld_zero{N:Net}{t b:Int}{u:AX}:J5 N t b u 0↔Fd N t b u:=by
 constructor
 .intro h
  have:=h []^Rs _
  rw[G8]at this;exact this
 .intro h S a
  rw[jQ.mp^Nat.le_zero.mp a,G8];exact h
def QX{N:Net}(ok:N.Ok){t b:Int}(i:1<=b){u:AX}{d:Int}(c:Wk N u.a u.b d)(h:d*b<=u.len*t):Fd N t b u:=by
 let#[e,f,g]:=Wk.least ok _ (Rs _) c
 have:=jc g (show 0<=b by lk)
 exact#[e,f,by lk]
theorem Of{N:Net}:∀{r:q_ Str}{x y:Str}{d:Int},walk N (x::r) d->(x::r).getLast?=P3 y->∀{s:Str}{e:Int},Wk N s x e->Wk N s y (e+d)
 |[],x,y,d,h,a,s,e,b=>by
  have c:d=0:=h
  have:x=y:=by simpa using a
  subst c this;rw[Int.add_zero];exact b
 |z::r,x,y,d,h,a,s,e,b=>by
  let#[l,i,f,g,rfl]:=h
  have:=Of g (by simpa using a)^Wk.snoc b f
  rw[lX]at this;exact this
def M5{N:Net}(j:okN N){t b:Int}(p:1<=b){u:AX}{m:Nat}{r:q_ Str}{g:q_ AX}{d:Int}(w:(u.a::r).getLast?=P3 u.b)(k:d*b<=u.len*t)(l:∀M:Net,(∀v∈g,v∈M.ts)->walk M (u.a::r) d)(n:∀v∈g,v∈N.ts)(h:∀v∈g,J5 (Ck N v) t b u m):J5 N t b u (m+1):=by
 intro S C
 by_cases c:∃v∈g,v∈S
 .let#[v,i,f]:=c
  have e:minus N S=minus (Ck N v) (S.filter λx=>decide (x≠v)):=by
   unfold minus Ck;rw[lQ]
   congr 1
   refine hV λx _=>?_;rw[gf,fN,decide_eq_true_eq,decide_eq_true_eq,decide_eq_true_eq,gS,decide_eq_true_eq];constructor
   .intro z
    exact#[λq=>z q.1,λq=>z^by rw[q];exact f]
   .rintro⟨y,A⟩ q
    exact y #[q,A]
  rw[e];refine h v i _ ?_
  have:(S.filter λx=>decide (x≠v)).length<S.length:=List.length_filter_lt_length_iff_exists.mpr #[v,f,λz=>of_decide_eq_true z rfl]
  lk
 .have B:walk (minus N S) (u.a::r) d:=l (minus N S) λv i=>minus_mem.mpr #[n v i,λz=>c #[v,i,z]]
  have o:=Of B w^Wk.nil (N:=minus N S) (s:=u.a);rw[kG]at o;exact QX (BX j S).1 p o k
def M6{N:Net}{t b:Int}{u:AX}{m:Nat}(h:J5 N t b u m):Fd N t b u:=by
 have:=h []^Uf _
 rw[G8]at this;exact this
def Ri{N:Net}(ok:N.Ok){x y:Str}{l:Int}(e:Ed N x y l):∃t∈N.ts,t.len=l/\((t.a=x/\t.b=y)\/(t.b=x/\t.a=y))/\(if decide (cs y<cs x)=o_ then y else x)=t.a/\(if decide (cs x<cs y)=o_ then y else x)=t.b:=by
 let#[t,c,f,d]:=e.tie ok;have lt:=(ok.tin t c).2.2.1;exists t,c,f,d
 rcases d with⟨rfl,rfl⟩|⟨rfl,rfl⟩
 .have:¬cs t.b<cs t.a:=λz=>iP _^kT lt z
  exact#[by rw[decide_eq_false this,if_neg^by cbv],by rw[decide_eq_true lt,if_pos rfl]]
 .have:¬cs t.b<cs t.a:=λz=>iP _^kT lt z
  exact#[by rw[decide_eq_true lt,if_pos rfl],by rw[decide_eq_false this,if_neg^by cbv]]
def Tc{M:Net}{t:AX}{x y:Str}(c:t∈M.ts)(h:(t.a=x/\t.b=y)\/(t.b=x/\t.a=y)):Ed M x y t.len:=by
 rcases h with⟨rfl,rfl⟩|⟨rfl,rfl⟩
 .exact(FN c).1
 .exact(FN c).2
theorem Over.mem{a:q_ AX}:∀{w:q_ Str}{b:q_ AX},Over a w b->∀u∈b,u∈a
 |[],_,h,_,_=>h.elim
 |[_],[],_,_,c=>nomatch c
 |[_],_::_,h,_,_=>h.elim
 |_::_::_,[],h,_,_=>h.elim
 |_::_::_,_::_,h,v,d=>(Tk.mp d).elim (λe=>e▸h.1)^h.2.2.mem v
theorem Over.walk{N M:Net}(ok:N.Ok):∀{w:q_ Str}{b:q_ AX}{d:Int},Over N.ts w b->walk N w d->(∀u∈b,u∈M.ts)->walk M w d
 |[],_,_,h,_,_=>h.elim
 |[_],[],_,_,c,_=>c
 |[_],_::_,_,h,_,_=>h.elim
 |_::_::_,[],_,h,_,_=>h.elim
 |x::y::r,u::b,d,#[i,f,j],#[l,e,k,c,m],g=>by
  have a:=GR ok k;rw[GR ok^Tc i f]at a;cases a;exact#[u.len,e,Tc (g u Re) f,j.walk ok c λv n=>g v^Sc _ n,m]
def Fy{N:Net}{v:AX}:minus N [v]=Ck N v:=by
 unfold minus Ck
 congr 1
 exact hV λx _=>by simp
def OA{N:Net}{v:AX}{S:q_ AX}:minus (Ck N v) S=minus N (v::S):=by
 unfold minus Ck;rw[lQ]
 congr 1
 refine hV λx _=>?_;rw[gf,fN,decide_eq_true_eq,decide_eq_true_eq,decide_eq_true_eq,Tk];exact#[fun#[z1,z2] q=>q.elim z2 z1,λz=>#[λq=>z^.inr q,λq=>z^.inl q]]
def M7{N:Net}{t b:Int}{u v:AX}{m:Nat}(h:J5 N t b u (m+1)):J5 (Ck N v) t b u m:=λS a=>by
 rw[OA];exact h (v::S)^jK a
section
def EN{N:Net}{t b:Int}{m:Nat}{kept r:q_ AX}{u:AX}:CP N t b m kept (u::r)=if Vg (sub N kept) t b u m=o_ then CP N t b m kept r else CP N t b m (kept++[u]) r:=rfl
end
def NE(S:q_ AX):D:=.lst^S.map AJ
def Dr:AX:=#["","",0]
def EG(a:q_ AX)(k:Nat):q_^q_ AX:=(fo k).flatMap λi=>(fo i).map λj=>[a.getD i Dr,a.getD j Dr]
def C4(a:q_ AX):q_^q_ AX:=[]::a.map λt=>[t]
def HS(a:q_ AX)(k:Nat):EG a (k+1)=EG a k++(fo k).map λj=>[a.getD k Dr,a.getD j Dr]:=by
 unfold EG;rw[List.range_succ,List.flatMap_append,List.flatMap_singleton]
theorem Ir(a:q_ AX):∀k,(EG a k).length<=k*k
 |0=>Rs _
 |k+1=>by
  have:=Ir a k
  rw[HS,XV,FM,jj]
  have:(k+1)*(k+1)=k*k+k+k+1:=by rw[Nat.add_mul,Nat.mul_add];lk
  lk
def GX{a:q_ AX}{i:Nat}(h:i<a.length):a[i]?=P3^a.getD i Dr:=by
 rw[fw,On h];rfl
def Ki{a:q_ AX}{i:Nat}(h:i<a.length):a.getD i Dr∈a:=f8^GX h
def N0{a:q_ AX}{k:Nat}{S:q_ AX}(h:S∈EG a k)(e:k<=a.length):S.length<=2/\∀v∈S,v∈a:=by
 let#[i,b,h]:=g9.mp h;let#[j,c,rfl]:=TM.mp h;have b:=gu.mp b;have c:=gu.mp c;refine#[Rs _,λv d=>?_];simp only[Tk,fH,or_false]at d
 rcases d with rfl|rfl
 .exact Ki^by lk
 .exact Ki^by lk
def HM{b:q_ AX}{S:q_ AX}(h:S∈C4 b):S.length<=1/\∀v∈S,v∈b:=by
 rcases Tk.mp h with rfl|h
 .exact#[Uf _,λv a=>by cases a]
 .let#[t,c,rfl]:=TM.mp h
  exact#[Rs _,λv a=>by rw[Op.mp a];exact c]
def DC{a:q_ AX}{L:q_^q_ AX}(b:∀S∈C4 a,S∈L)(S:q_ AX)(d:S.length<=1):∃e∈L,∀v∈a,v∈S↔v∈e:=by
 match S,d with
 |[],_=>exact#[[],b _ Re,λv _=>Iff.rfl]
 |[x],_=>
  by_cases c:x∈a
  .exact#[[x],b _^Sc _^TM.mpr #[x,c,rfl],λv _=>Iff.rfl]
  .exact#[[],b _ Re,λv f=>#[λz=>absurd (by rw[←Op.mp z];exact f) c,λz=>by cases z]]
 |_::_::_,h=>exact absurd h^by rw[fF,fF];lk
def Q3{a:q_ AX}{L:q_^q_ AX}(e:∀S∈C4 a,S∈L)(w:∀S∈EG a a.length,S∈L)(S:q_ AX)(A:S.length<=2):∃b∈L,∀v∈a,v∈S↔v∈b:=by
 match S,A with
 |[],_=>exact DC e []^Uf _
 |[x],_=>exact DC e [x]^Rs _
 | [x,y],_=>
  by_cases n:x∈a
  .by_cases o:y∈a
   .let#[i,r]:=h9.mp n
    let#[j,s]:=h9.mp o;have t:=(eq.mp r).1;have u:=(eq.mp s).1;have k:a.getD i Dr=x:=by have:=GX t;rw[r]at this;exact(fG this).symm
    have l:a.getD j Dr=y:=by have:=GX u;rw[s]at this;exact(fG this).symm
    have mk:∀p q:Nat,p<a.length->q<p->[a.getD p Dr,a.getD q Dr]∈L:=λp q B C=>w _^g9.mpr #[p,gu.mpr B,TM.mpr #[q,gu.mpr C,rfl]]
    rcases Nat.lt_trichotomy i j with c|c|c
    .refine#[_,mk j i u c,λv _=>?_]
     rw[k,l];simp only[Tk,fH,or_false];exact Or.comm
    .have m:x=y:=by rw[←k,←l,c]
     let#[b,f,g]:=DC e [x]^Rs _;refine#[b,f,λv d=>?_];rw[←g v d,←m];simp
    .refine#[_,mk i j t c,λv _=>?_]
     rw[k,l]
   .let#[b,f,g]:=DC e [x]^Rs _
    refine#[b,f,λv d=>?_];rw[←g v d];simp only[Tk,fH,or_false];exact#[λz=>z.elim id λz=>absurd (by rw[←z];exact d) o,.inl]
  .let#[b,f,g]:=DC e [y]^Rs _
   refine#[b,f,λv d=>?_];rw[←g v d];simp only[Tk,fH,or_false];exact#[λz=>z.elim (λz=>absurd (by rw[←z];exact d) n) id,.inr]
 |_::_::_::_,h=>exact absurd h^by simp only[fF];lk
def zn(i:Nat):(0+(i:Int)).toNat=i:=by rw[kG];rfl
def DP{a S:q_ AX}:(a.map AJ).filter (λd=>!((S.map AJ).any λy=>Cu y d))=(a.filter λv=>decide (v∉S)).map AJ:=by
 rw[jb]
 congr 1
 refine hV λv _=>?_;show(!((S.map AJ).any λy=>Cu y^AJ v))=decide (v∉S);rw[Gp,decide_not]
section
variable {ss:q_ Slot}{n:Nat}
def Hr:W2:=λss n P=>∃(N:Net) (c:q_ AX) (u:AX) (t b:Int) (m:Nat),ss=[.br^.lst^c.map AJ,.sh^.tup [.int t,.int b],.sh^AJ u,.sh^.int (m:Int)]/\okN N/\(∀v∈c,v∈N.ts)/\c.length<=60/\u.a∈N.ps/\EW t b/\1<=m/\m<=2/\∀o:r_^q_ AX,(∀l,o=P3 l->(∀v∈l,v∈c)/\l.length<=m)->P (aD o) n
def aP:AW:=(BE (Cq 5^WV (Au Gr^AI (D_^DF [P3 4,n_] (Bb^As 0) (AU 1) (Ah^Ao (NB o_) (AH 1)^AH 0)^AH 1)^AI (AQ^Ao CA (AH 2)^wC^D.int 0) Ay)^Ao CA (AH 2)^wC^D.int 1)
 (CU (LD (Ah^Ao (HE p_) (AH 5)^wC D.non)^HL^Ah^Au IR^AI (AQ^AH 5)^AI (AQ^AH 1)^AI (AQ^Ao CA (AH 2)^wC^D.int 2) Ay) (Bo^AH 4) Bm))
end
def Ow{c:q_ Str}{a b:q_ D}{d:D}(h:c.map D.str=a++d::b):d=.str^c.getD a.length ""/\a.length<c.length:=by
 have f:=congrArg jw h;rw[FM,XV,fF]at f;have e:(c.map D.str)[a.length]?=P3 d:=by rw[h,iL^Rs _,Nat.sub_self];rfl
 rw[fK,getD_at^by lk]at e;exact#[(fG e).symm,by lk]
def U2{b:q_ Str}(h:rising b){i j:Nat}(d:i<b.length)(e:j<b.length)(a:cs^b.getD i ""<cs^b.getD j ""):i<j:=by
 rcases Nat.lt_trichotomy i j with c|c|c
 .exact c
 .rw[c]at a;exact absurd a^DB _
 .exact absurd (kT a^IF h c d)^DB _
def thn(N:Net)(a:q_ AX):Prop:=(∀t∈a,t∈N.ts)/\a.Pairwise BZ
abbrev Df(w:q_ Str):D:=.tup^w.map .str
def cN(t b:Int):Prop:=1<=b/\b<=1000000/\1<=t/\t<=1000000
def Uh(k:Nat)(M:Net)(a b:Str)(w:q_ Str)(d:Int):Prop:=(∃r,w=a::r)/\w.getLast?=P3 b/\walk M w d/\w.length<=k/\∀x∈w,x∈M.ps
def WC(N:Net)(a:q_ AX)(t b:Int):Prop:=∀u∈N.ts,Fd #[N.ps,a] t b u
theorem thn.okN{N:Net}(a:okN N){b:q_ AX}(h:thn N b):okN #[N.ps,b]:=#[LI a.1 h.1 h.2,a.2.1,by
 have:=sub_len (A9 h.2) (A9 a.1.trise) h.1
 have:=a.2.2
 grind]
theorem thn.thinB{N:Net}{a:q_ AX}(h:thn N a):thinB N^enc #[N.ps,a]=o_:=thinB_iff.mpr #[a,rfl,h.1,h.2]
theorem GV{N:Net}(ok:N.Ok){s x:Str}:∀(k:Nat) (d:Int),d.toNat<=k->Wk N s x d->∃e,Least N s x e/\e<=d
 | k,d,g,h=>by
  by_cases c:∃a,Wk N s x a/\a<d
  .let#[a,b,lt]:=c
   have i:=b.pos ok
   match k with
   |0=>lk
   |k+1=>
    let#[e,j,f]:=GV ok k a (by lk) b
    grind
  .exact#[d,#[h,λa b=>j6 λz=>c #[a,b,by lk]],iy _]
def Sn{N:Net}(d:okN N){c:q_ AX}(h:thn N c){t b:Int}(j:b<=t)(m:1<=b){u:AX}(k:u∈c):Fd #[N.ps,c] t b u:=by
 have a:=h.okN d;have g:=(FN (N:=#[N.ps,c]) k).1;have i:Wk _ _ _ _:=.snoc .nil g;rw[kG]at i;let#[e,l,f]:=GV a.1 _ _ (Rs _) i;have n:=(g.pos a.1).1;exists e,l;have o:e*b<=u.len*b:=jc f (by lk);have p:u.len*b<=u.len*t:=jf j (by lk);lk
section
def Wk.cons{N:Net}{x y z:Str}{l d:Int}(e:Ed N x y l)(h:Wk N y z d):Wk N x z (l+d):=by
 induction h with
 |nil=>rw[Int.add_comm];exact .snoc .nil e
 |snoc h f a=>rw[←lX];exact .snoc a f
theorem FG{N:Net}(ok:N.Ok){b:Str}:∀{w:q_ Str}{d:Int},walk N w d->w.getLast?=P3 b->∀x∈w,∃e,Wk N x b e/\e<=d
 |[],_,h,_,_,_=>h.elim
 |[y],d,h,a,x,c=>by
  cases a;rw[Op.mp c,show d=0 from h];exact#[0,.nil,iy _]
 | y::z::r,d,h,a,x,c=>by
  let#[l,f,g,i,rfl]:=h;rw[List.getLast?_cons_cons]at a
  have:=(g.pos ok).1
  rcases Tk.mp c with rfl|c
  .let#[e,j,k]:=FG ok i a z Re
   exact#[l+e,Wk.cons g j,by lk]
  .let#[e,j,k]:=FG ok i a x c
   grind
theorem Mu{N:Net}(ok:N.Ok){b:Str}:∀{r:q_ Str}{a:Str}{d:Int},walk N (a::r) d->(a::r).getLast?=P3 b->(∀c,Wk N a b c->d<=c)->(a::r).Nodup
 |[],a,d,_,_,_=>fX.mpr #[by simp,gL]
 | z::r,a,d,h,g,i=>by
  let#[l,f,j,k,rfl]:=h;refine fX.mpr #[λm=>?_,Mu ok k g λc n=>?_]
  .let#[e,o,p]:=FG ok k g a m
   have:=i e o
   have:=(j.pos ok).1
   lk
  .have:=i _^Wk.cons j n
   lk
def IE{N:Net}(a:okN N){b:q_ AX}(h:b.Sublist N.ts):thn N b:=#[λt c=>h.subset c,a.1.trise.sublist h]
end
end Nt
namespace L2
open PySem.AutoSeq1 (wpAny_loadPart')
def Uo{prog:fT}{w:fY}{A:fb}{R:Result->No->Prop}{s:No}(t:Db)(items:Array Ev)(n:Nat)(x:Ev)(e:Ev->Bool)(j:Nat)(hj:j<items.size)(hit:e items[j]=o_)(hno:∀m (hm:m<items.size),m<j->e items[m]=p_)
  (hl:s.heap.get? t=P3 {cls:=.type "tuple",dict:=n_,data:=.seq items n,slots:=#[]}) (he:∀y,y∈items->PySem.SeqAt.EqAt A.in1 s y x^e y)
  (h:R (.ok^.ret^.int (j:Int) s.toks) {s with toks:=s.toks+1}):
  wpAny (model prog w) A.in1 (h8.«tuple.index» #[[.ref t,x],[]]) (λfin s'=>match fin with|.done f=>R (.ok f) s'|.again c'=>c'.quiet=o_/\codeAny (model prog w) A c' R s') (λe s'=>R (.error e) s') s:=by
 let#[hp,g,d,tk,os]:=s
 wp_walk using gg hl
 have go:∀(Q:r_ _×Unit->No->Prop) (E:Ev->No->Prop),(∀r,Q (P3 r,()) #[hp,g,d,tk+1,os]\/True)->∀(k i:Nat),i<=j->i+k=items.size->
   (∀r:Fin,r=.done^.ret^.int (j:Int) tk->Q (P3 r,()) #[hp,g,d,tk+1,os])->
   wpAny (model prog w) A.in1 (forIn (List.range' i k 1) ((n_:r_ Fin),()) (fun(i:Nat) __s=>match items[i]? with
      | some y=>do
       let __do_lift ←eqBool y x
       if __do_lift=o_ then do
         let __do_lift ←retInt (i:Int)
         pure (ForInStep.done (P3 __do_lift,()))
        else pure^iY (n_,())
      |x=>pure^iY (n_,()))) Q E #[hp,g,d,tk,os]:=by
  intro Q E _ k
  induction k with
  |zero=>intro i h1 h2;lk
  | succ k ih=>
   intro i h1 h2 hQ;have hlt:i<items.size:=by lk
   rw[List.range'_succ,j1];have hi:items[i]?=P3 items[i]:=iR hlt;simp only[hi];refine Ch^Ch^he _ (lc hlt) prog w _ _ ?_
   by_cases c:i=j
   .subst c
    rw[hit]
    wp_walk
    exact hQ _ rfl
   .rw[hno i hlt^by lk]
    wp_walk
    exact ih (i+1) (by lk) (by lk) hQ
 show wpAny (model prog w) A.in1 (forIn [:min items.size items.size] ((n_:r_ Fin),()) _) _ _ _;rw[Std.Legacy.Range.forIn_eq_forIn_range']
 have er:List.range' (Std.Legacy.Range.start [:min items.size items.size]) (mU [:min items.size items.size])^Std.Legacy.Range.step [:min items.size items.size]=List.range' 0 items.size 1:=by
  simp[mU]
 rw[er];refine go _ _ (λ_=>.inr trivial) items.size 0 (Uf _) (k6 _) λr er=>?_;subst er;exact TW h
section
variable {X:Cx}
def Zn:V->q_ V->Hp->VK->Prop:=λx g H Q=>∃(a:Db) (c:q_ V) (y:V) (b:q_ jX) (d:jX) (j:Nat),x=.ref a/\g=[y]/\H a=P3^.tup c/\RVs H b c/\RV H d y/\iH b=o_/\d.canLay0=o_/\d.depth<=100 /\
 (∃e,b[j]?=P3 e/\gI e d=o_)/\(∀m f,m<j->b[m]?=P3 f->gI f d=p_)/\Q (.int (j:Int)) H
def YI{k:Nat}(O:Room k X.A):XH X "tuple.index" Zn:=by
 intro P s Z H x vs v us Q I S T h;let#[l,U,y,b,d,j,rfl,rfl,V,f,W,C,Y,dd,#[dj,hj,a0],g,q]:=h;cases S;let#[u,rfl,ru]:=T.one;let#[z,a,r,#[#[a1,dt,D,sl],e,E,n,G,J,K]]:=(show ObjOk X.prog X.w H s.heap l^.tup U from I.hok l _ V);simp only at E G J K;subst E G J K;let#[as,ra]:=RVs.reads I f r;let#[bs,rb]:=RV.reads I W ru;have L:=PySem.SeqAt.readsAll_map b a as C ra;have M:b.length=a.length:=by rw[←L,FM]
 have hu:=O.un;have N:min (gq b) d.depth<=d.depth:=jN _ _
 have i:∀m o,b[m]?=P3 o->∀(h:m<a.toArray.size),PySem.SeqAt.readOf s.heap a.toArray[m]=o:=λm o e h=>by
  rw[←L,fK]at e;have h':m<a.length:=by simpa using h
  simp_all
 have a2:j<a.length:=by grind
 have p:=Uo (prog:=X.prog) (w:=X.w) (A:=X.A) (R:=wants (EP X P Z Q) X.xe) l a.toArray n u (λy=>gI (PySem.SeqAt.readOf s.heap y) d) j (by lk) (by simp_all) (λm t B=>by
  have c:m<b.length:=by simp_all
  rw[i m b[m] (On c) t];exact g m b[m] B (On c)) e (PySem.SeqAt.items_eqAt (vs:=a.toArray) (by lk) rb C Y^by lk) #[.int j,H,I.tok _,#[_,rfl],q]
 exact iK^iZ PySem.F.slot_tuple_index.plain PySem.F.entry_tuple_index^PySem.F.slot_tuple_index.check _ _ _ _ _ _ _ _ #[_,e,rfl] (PySem.F.args_tuple_index_2 _ _) p
def cR(r:V->q_ V->Hp->VK->Prop)(d:TE)(t:TA):TE:=λZ H Q=>d Z H λx c=>(∃a b,x=.ref a/\c a=P3^.tup b)/\t Z c λb H2=>r x b H2 Q
def X8{o e:fZ}{f:q_ fZ}{u:TE}{t:TA}{name:Str}{d c:Pos}{l:String}{r:V->q_ V->Hp->VK->Prop}(j:Slot "tuple" name l)(p:typeOf^.builtin l=pure^.type "method_descriptor")(B:XH X l r)(C:PE X o u)(D:PA X (e::f) t)
  (g:attributeBase o name X.env^eval o X.env=eval o X.env:=by rfl)
  (k:((backTo c^starEach (e::f) X.env).all (λx=>!x.1)&&(backToKw c^keywordEach [] X.env).all (λx=>x.1.isSome)
   && decide ((e::f).length+([]:q_ iO).length+(if([]:q_ iO).isEmpty then 0 else 1)<30))=o_:=by rfl)
  (i:(d.endLine==c.line)=o_:=by rfl) (E:starEach (e::f) X.env=(p_,eval e X.env)::starEach f X.env:=by rfl) (m:(backTo c^starEach f X.env).any (·.1)=p_:=by rfl):
  PE X (.Call (.Attribute o name d) (e::f) [] c) (cR r u t):=by
 intro q s Z H Q I h;refine wpAny_Call_method_late g k i rfl (thn (C q s Z H _ I h) λv G zz=>?_);let#[x,J,w,y,#[a,xs,ex,K],L]:=zz;subst ex;have M:v=fI a:=y;subst M;let#[z,N,_,o,O,P,n,e3,e4,e5]:=(w.hok a _ K);refine#["tuple",l,PySem.F.plainAttrs_tuple,j,p,#[o,O,P],λb eb=>by simp_all,?_];have A:=D c q G Z J _ w L;rw[E]at A ⊢;refine iu (by grind)^jq ?_;refine thn A λR S zz=>?_;let#[T,H2,U,W,Y]:=zz;exact B q S Z H2 (.ref a) T (.ref a) R Q U y W Y
end
end L2
namespace Dp
open L2
section
variable {X:Cx}{zT:Kd}{a e:Expr}{es:q_ Expr}{wa:DW}{ws:De}
def ac(d:D)(c:q_ D)(P:D->Prop):Prop:=∃(b:q_ D) (y:D) (j:Nat),d=.tup b/\c=[y]/\CD^.tup b/\CD y/\(∃x,b[j]?=P3 x/\Cu x y=o_)/\(∀m x,m<j->b[m]?=P3 x->Cu x y=p_)/\P^.int (j:Int)
def cD(c:DW)(ws:De):DW:=λn b P=>c n b λd e=>(∃f,d=.tup f)/\ws e b λg h=>ac d g λz=>P z h
def bC{K:Frag}:dX K .sh "tuple" Zn ac:=by
 intro U M H d F x G P Q k I l n w q;let#[h,y,j,rfl,rfl,#[o,r,_],#[s,t,u],#[J,b,c],f,w]:=w;let#[v,rfl,z]:=Ep n;let#[a,A,rfl,B,C]:=l.tup
 have g:∀(m:Nat) (p:jX),(BD h)[m]?=P3 p->∃x,h[m]?=P3 x/\p=toPy x:=λm p e=>by
  rw[B9,fK]at e;let#[x,i,rfl]:=fq.mp e
  grind
 refine#[a,A,v,_,_,j,rfl,rfl,B,C.rv o,z.rv s,r,t,u,#[_,by rw[B9,fK,b];rfl,c],λm p D e=>?_,q _ H (.int j) .refl rfl w];let#[E,i,rfl]:=g m p e;exact f m E D i
def Tq{k:Nat}{f b:Pos}(E:Room k X.A)(G:DE X a zT wa)(I:WO X (e::es) ws)
  (h:attributeBase a "index" X.env^eval a X.env=eval a X.env:=by rfl)
  (j:((backTo b^starEach (e::es) X.env).all (λx=>!x.1)&&(backToKw b^keywordEach [] X.env).all (λx=>x.1.isSome)
   && decide ((e::es).length+([]:q_ iO).length+(if([]:q_ iO).isEmpty then 0 else 1)<30))=o_:=by rfl)
  (i:(f.endLine==b.line)=o_:=by rfl) (s:starEach (e::es) X.env=(p_,eval e X.env)::starEach es X.env:=by rfl) (c:(backTo b^starEach es X.env).any (·.1)=p_:=by rfl):
  DE X (.Call (.Attribute a "index" f) (e::es) [] b) .sh (cD wa ws):=by
 let#[t,J,K]:=G;let#[u,L,N]:=I;refine#[_,X8 PySem.F.slot_tuple_index PySem.F.type_tuple_index (YI E) J L h j i s c,λC M H n y Z P Q R w q=>?_];refine K C M H n y Z _ _ R w λx O d S o T U p=>?_;have r:=R.step o T;have B:=U.tpOf R.dom R.vM;let#[#[W,rfl],p]:=p;refine#[by let#[a,Y,rfl,hn,s]:=B.tup;exact#[a,Y,rfl,hn],?_];refine N C M O S y Z _ _ r p λvs H2 ds n2 l D r2 p2=>?_;have m:=r.step l D;refine bC C.V M H2 (.tup W) ds x vs _ _ m.dom m.vM (B.pres (r.pres l) l R.uV) r2 p2 λv H3 z g vr pz=>?_;exact q v H3 z n2 ((o.trans l).trans g.ext) (D.grow g) (VR.back (o.trans l) vr) pz
end
end Dp
namespace Nt
open L2 Dp
def TQ:D->Bool
 |.int i=>decide (0<=i)
 |_=>p_
def ZJ(N:Net):D->Bool
 |.tup a=>((a.length:Int)==(N.ps.length:Int))&&a.all TQ
 |_=>p_
def cf:D->Int
 |.int i=>i
 |_=>0
def IH(N:Net)(b:q_ D)(a:Str):Int:=cf^(BA (N.ps.map .inr) b^.inr a).getD .non
def Jb(i:Int):Int:=if i<0 then -i else i
def Ko(N:Net):D->Bool
 |.tup c=>ZJ N^.tup c&&N.ts.all λt=>decide (Jb (IH N c t.a - IH N c t.b)<=t.len)
 |_=>p_
def NJ(m:Int):r_ Int->Int
 |some d=>if d<m then d else m
 |none=>m
def WG:W2:=λa n P=>∃(N:Net) (d:D),a=[.sh^enc N,.sh d]/\okN N/\P (.bl^ZJ N d) n
def dP:W2:=λd n P=>∃(N:Net) (c:q_ D) (a b:Str),d=[.sh^enc N,.sh^.tup c,.sh^.str a,.sh^.str b]/\okN N/\c.length=N.ps.length/\(∀x∈c,TQ x=o_)/\a∈N.ps/\b∈N.ps/\P (.int^Jb (IH N c a - IH N c b)) n
def bR:W2:=λa n P=>∃(N:Net) (d:D),a=[.sh^enc N,.sh d]/\okN N/\P (.bl^Ko N d) n
def Y0:W2:=λa n P=>∃(N:Net) (s:Str) (m:Int),a=[.sh^enc N,.sh^.str s,.sh^.int m]/\okN N/\s∈N.ps/\∀F:K_,Told N s F->P (.tup (N.ps.map λx=>.int (NJ m ((F x).map (·.1))))) n
theorem Ol:∀{b:q_ Key}{a:q_ D}{k:Key}{z:D},BA b a k=P3 z->z∈a
 |[],_,k,z,h=>by cases h
 |_::_,[],k,z,h=>by cases h
 |e::b,d::a,k,z,h=>by
  have c:(if e=k then P3 d else BA b a k)=P3 z:=h
  split at c
  .grind
  .exact Sc _^Ol c
theorem RY:∀{b:q_ Str}{c:q_ D}{j:Nat}{a:Str},b.Nodup->b[j]?=P3 a->BA (b.map .inr) c^.inr a=c[j]?
 |[],c,j,a,_,h=>by simp at h
 |p::b,[],j,a,_,h=>by rfl
 | p::b,x::c,j,a,d,h=>by
  rw[fX]at d;show(if iD p=.inr a then P3 x else BA _ c _)=_;cases j with
  |zero=>
   grind
  |succ j=>
   rw[if_neg λz=>d.1 (by rw[iw z];exact f8 h),RY d.2 h];simp
def ge_int{d:D}(h:TQ d=o_):∃i,d=.int i/\0<=i:=by
 cases d with
 |int i=>exact#[i,rfl,of_decide_eq_true h]
 |_=>cases h
def U1{c:q_ Str}(h:rising c):c.Nodup:=List.Pairwise.imp (λ{a b} z e=>by grind) h
def cK{N:Net}{b:q_ D}(f:b.length=N.ps.length)(d:∀x∈b,TQ x=o_){a:Str}(e:a∈N.ps):BA (N.ps.map .inr) b^.inr a=P3^.int^IH N b a:=by
 let#[z,c]:=Gx (ds:=b) (by grind)^TM.mpr #[a,e,rfl];let#[i,rfl,_]:=ge_int^d z^Ol c;unfold IH;rw[c];rfl
section
def W0{N:Net}(b:okN N){d:q_ D}(k:d.length=N.ps.length)(l:∀x∈d,TQ x=o_){a:Str}(f:a∈N.ps):∃j:Nat,d[j]?=P3^.int^IH N d a/\CD^.tup^N.ps.map .str/\CD^.str a/\(∃x,(N.ps.map D.str)[j]?=P3 x/\Cu x^.str a=o_)/\∀(m:Nat) (x:D),m<j->(N.ps.map D.str)[m]?=P3 x->Cu x^.str a=p_:=by
 have g:=U1 b.1.rise;let#[j,h]:=h9.mp f;refine#[j,by rw[←RY g h,cK k l f],Ke b.1.names,?_,#[.str a,by simp_all,by rw[Pk,beq_self_eq_true]],λm x r i=>?_]
 .exact Br (B:=0) (by cbv) (λc n=>by have:=(b.1.names a f).2.2 c n;lk)^Uf _
 .rw[fK]at i
  let#[y,o,rfl]:=fq.mp i;rw[Pk,beq_eq_false_iff_ne];intro e;subst e;let#[s,p]:=eq.mp o;let#[t,q]:=eq.mp h
  have:=(List.getElem_inj g).mp^p.trans q.symm
  lk
end
def Yp{m:Int}(a:0<=m){o:r_ Int}(b:∀d,o=P3 d->0<=d):0<=NJ m o/\NJ m o<=m:=by
 cases o with
 |none=>exact#[a,iy _]
 |some d=>
  show 0<=(if d<m then d else m)/\(if d<m then d else m)<=m
  grind
end Nt
namespace Dp
open L2
mutual
def flat:D->Bool
 |.tup ds=>JJ ds
 |.lst _=>p_
 |.dic _ _=>p_
 |.fdi _ _=>p_
 |.dit _ _=>p_
 |_=>o_
def JJ:q_ D->Bool
 |[]=>o_
 |d::ds=>flat d&&JJ ds
end
section
variable {K:Frag}{M M':Addr->Prop}{H:Hp}
mutual
theorem Vk:∀(d:D) {v:V},flat d=o_->At K M H d v->At K M' H d v
 |.non,_,_,h=>h
 |.bl _,_,_,h=>h
 |.int _,_,_,h=>h
 |.str _,_,_,h=>h
 |.tup ds,_,f,#[a,vs,e,n,h]=>#[a,vs,e,n,JK ds f h]
 |.lst _,_,f,_=>by cases f
 |.dic _ _,_,f,_=>by cases f
 |.fdi _ _,_,f,_=>by cases f
 |.dit _ _,_,f,_=>by cases f
theorem JK:∀(ds:q_ D) {vs:q_ V},JJ ds=o_->Ats K M H ds vs->Ats K M' H ds vs
 |[],_,_,h=>h
 |d::ds,_,f,#[v,r,e,h,hs]=>#[v,r,e,Vk d (fN _ _▸f:_/\_).1 h,JK ds (fN _ _▸f:_/\_).2 hs]
end
end
end Dp
set_option maxHeartbeats 400000
namespace Dp
open L2
end Dp
namespace Nt
open L2 Dp
abbrev Dx(t b:Int):D:=.tup [.int t,.int b]
def NV:W2:=λa n P=>∃(M:Net) (u:AX),a=[.sh^enc M,.sh^AJ u]/\okN M/\P (enc #[M.ps,M.ts.filter λv=>BF (Bk v)^Bk u]) n
def RA:W2:=λa n P=>∃t b l:Int,a=[.sh^Dx t b,.sh^.int l]/\cN t b/\P (.int (l*t / b+1)) n
def C9{N:Net}(a:okN N)(S:q_ AX):thn N (sub N S).ts:=IE a jO
def Vm{M:Net}{a:q_ D}(h:Ko M^.tup a=o_):a.length=M.ps.length/\∀x∈a,TQ x=o_:=by
 have h:=(fN _ _▸h).1;have h:=fN _ _▸h
 grind
def RO{M:Net}(ok:M.Ok){x y:Str}{d:Int}(h:Wk M x y d):Wk M y x d:=by
 induction h with
 |nil=>exact .nil
 |snoc _ a b=>
  let#[t,c,rfl,e]:=a.tie ok;let#[f,g]:=FN c;rw[Int.add_comm];refine Wk.cons ?_ b
  grind
def Vl{M:Net}(ok:M.Ok){s x:Str}{o:r_ Int}(h:eO M s x o):∀d,o=P3 d->0<=d:=λd e=>by
 rw[e]at h;exact(h).1.pos ok
end Nt
set_option maxRecDepth 10000
namespace St
open PySem.SetTable
def st(t:lK)(p:Probe):Nat->Probe
 |0=>p
 |n+1=>t.advance^st t p n
structure Ok (t:lK) (p:Probe):Prop where
 more:p.more<=9
 i:p.i<=t.mask
 j:p.j+p.more<=t.mask
 per:p.perturb<2 ^ 64
def it(m:Nat)(i:Nat):Nat->Nat
 |0=>i
 |n+1=>(it m i n*5+1) % (m+1)
def fB(m:Nat):Prop:=∀a,a<=m->∀b,b<=m->∃n,n<=m/\it m a n=b
def Up(c:Array Nat):Prop:=∀i k:Nat,i<k->∀a b:Nat,c[i]?=P3 a->c[k]?=P3 b->a<b
def In(t:lK)(j:Nat):Prop:=∃i:Nat,t.place[i]?=P3 j
structure Tab (t:lK) (hs:Nat->Option Int):Prop where
 cov:fB t.mask
 dum:t.dummies=#[]
 up:Up t.place
 le:∀i j:Nat,t.place[i]?=P3 j->j<=t.mask
 few:t.place.size<=t.mask
 has:∀i j:Nat,t.place[i]?=P3 j->∃x,hs i=P3 x/\∃k:Nat,(st t (t.probeStart x) k).j=j/\∀k':Nat,k'<k->In t (st t (t.probeStart x) k').j
structure Lay (t:lK) (done:List Int) (o:Array^Option Nat):Prop where
 size:o.size=t.mask+1
 own:∀j q:Nat,o[j]?=P3^P3 q->∃x,done[q]?=P3 x/\∃k:Nat,(st t (t.probeStart x) k).j=j/\∀k':Nat,k'<k->∃q':Nat,o[(st t (t.probeStart x) k').j]?=P3 (P3 q')
 all:∀q:Nat,q<done.length->∃j:Nat,o[j]?=P3 (P3 q)
 inj:∀j j' q:Nat,o[j]?=P3^P3 q->o[j']?=P3^P3 q->j=j'
end St
set_option maxRecDepth 10000
set_option maxHeartbeats 1000000
namespace St
open PySem.SetTable
section
variable {prog:Program}{w:World}{K:Type}[DecidableEq K](knd:KeyKind prog w K)
def Holds(h:fO)(e:Int×Ev)(k:q_ K):Prop:=e.1=tupleKeyHash knd k/\∃b,e.2=.ref b/\IsTupleKey knd h k b
inductive WM (h:fO):List (Int×Ev)->List^List K->Prop
 |nil:WM h [] []
 |cons {e:Int×Ev}{k:List K}{es:List (Int×Ev)}{ks:List^List K}:Holds knd h e k->WM h es ks->WM h (e::es) (k::ks)
variable {knd}
variable (knd)
structure eJ (B h:fO) (a:Db) (ks:List^List K) (o:Obj) (es:Array (Int×Ev)) (ep:Nat) (t:lK):Prop where
 sub:∀b o,B.get? b=P3 o->h.get? b=P3 o
 out:B.get? a=n_
 obj:h.get? a=P3 o
 ex:o.ExactSet
 dat:o.data=.set es ep t
 tab:Tab t (λi=>es[i]?.map (·.1))
 size:t.place.size=es.size
 mask:(t.mask=7/\es.size<=4)\/t.mask=31
 few:es.size<=18
 ents:∃kk,WM knd B es.toList kk/\List.Perm kk ks
 nd:ks.Nodup
 plain:es.size=0\/t.plain=p_
 led:t.led=!(w.params.followText "set-order")
variable {knd}
end
end St
set_option maxHeartbeats 4000000
namespace St
open PySem.SetTable
section
variable {w:World}
variable {o:Obj}{es:Array (Int×Value)}{ep:Nat}{t:SetTable}
structure Rw (w:fY) (o:Obj) (es:Array (Int×Ev)) (ep:Nat) (t:lK):Prop where
 ex:o.ExactSet
 dat:o.data=.set es ep t
 fit:t.fits es.size=o_
 up:Up t.place
 size:t.place.size=es.size
 few:es.size<=sizeLine
 led:w.params.followText "set-order"=p_->t.led=o_
end
end St
namespace L2
open PySem.W
structure dS (keys:List^List Key) (js:List Nat):Prop where
 lt:∀j∈js,j<keys.length
 nd:(js.map λj=>keys.getD j []).Nodup
 all:∀x∈keys,x∈js.map λj=>keys.getD j []
 ord:∀i j,i<=j->j<js.length->BF (keys.getD (js.getD j 0) [])^keys.getD (js.getD i 0) []=p_
end L2
namespace Dp
open L2
end Dp
namespace L2
open PySem.W
end L2
namespace Dp
open L2
end Dp
namespace L2
open PySem.W
end L2
namespace Dp
open L2
end Dp
namespace Nt
open L2 Dp
structure eG (N:Net) (s:Str) (F:K_) (c:Nat) (T:List AX):Prop where
 ins:∀t∈T,t∈N.ts
 nd:T.Nodup
 many:T.length+1=c
 wk:∀x d q,F x=P3 (d,q)->Wk (sub N T) s x d
end Nt
namespace L2
end L2
namespace Dp
open L2
end Dp
namespace L2
open AutoSeq1 (wpAny_loadPart')
def QS:typeLookup (.type "tuple") "__reversed__"=pure n_:=by rw[ic,gw];kernel_rfl
def item_tup:typeLookup (.type "tuple") "__getitem__"=pure^P3^.builtin "tuple.__getitem__":=by rw[ic,gw];kernel_rfl
def ML:isSubtype (.type "tuple")^.type "dict"=pure p_:=by rw[jn];kernel_rfl
def Ji:Slot "reversed" "__init__" "object.__init__":=
 .of (owner:="object") (n:="__init__") (by rw[ic,gw];kernel_rfl) (by decide +kernel) (by decide +kernel) (by decide +kernel)
  (by first|exact .inl (by decide +kernel)|exact .inr^by decide +kernel) (by rw[jn];kernel_rfl)
def called_reversed:TypeCalled "reversed" "reversed.__new__" "object.__init__":=
 #[by decide +kernel,F.create_reversed,#[_,_,F.mro_reversed],F.made_reversed,k_,F.sub_reversed_self,Ji]
def slot_rev_next:Slot "reversed" "__next__" "reversed.__next__":=
 .of (owner:="reversed") (n:="__next__") (by rw[ic,gw];kernel_rfl) (by decide +kernel) (by decide +kernel) (by decide +kernel)
  (by first|exact .inl (by decide +kernel)|exact .inr^by decide +kernel) (by rw[jn];kernel_rfl)
def E5:entryFor table "reversed.__next__"=P3 h8.«reversed.__next__»:=entryFor_of_tree^by kernel_rfl
def G4:Manifest.owners.lookup^String.ofList ['d','e','s','r','e','v','e','r'].reverse=P3 Manifest.sig_reversed:=by kernel_rfl
def Fj(a:Ev):argsOk "reversed.__next__" #[[a],[]]:=by
 unfold argsOk;rw[signature?_of (id:="reversed.__next__") (n:=['_','_','t','x','e','n','_','_']) (o:=['d','e','s','r','e','v','e','r']) (by kernel_rfl) G4];kernel_rfl
def FZ:Slot "reversed" "__iter__" "reversed.__iter__":=
 .of (owner:="reversed") (n:="__iter__") (by rw[ic,gw];kernel_rfl) (by decide +kernel) (by decide +kernel) (by decide +kernel)
  (by first|exact .inl (by decide +kernel)|exact .inr^by decide +kernel) (by rw[jn];kernel_rfl)
def J0(a:Ev):argsOk "reversed.__iter__" #[[a],[]]:=by
 unfold argsOk;rw[signature?_of (id:="reversed.__iter__") (n:=['_','_','r','e','t','i','_','_']) (o:=['d','e','s','r','e','v','e','r']) (by kernel_rfl) G4];kernel_rfl
def JO:entryFor table "reversed.__iter__"=P3 h8.«dict_keyiterator.__iter__»:=
 entryFor_alias (id':="dict_keyiterator.__iter__") (by kernel_rfl) (by first|rfl|decide +kernel|(unfold String.splitOn;simp +decide [String.splitOnAux])) (by decide +kernel) (by kernel_rfl)
def QT:typeLookup (.type "reversed") "__len__"=pure n_:=by rw[ic,gw];kernel_rfl
def TJ:typeLookup (.type "reversed") "__length_hint__"=pure^P3^.builtin "reversed.__length_hint__":=by rw[ic,gw];kernel_rfl
def Ox(l:Db)(i:Int):Obj:={cls:=.type "reversed",data:=.fields #[ .ref l,rawInt i]}
def IsRt(h:fO)(a l:Db)(i:Int):Prop:=∃o,h.get? a=P3 o/\o.cls=.type "reversed"/\o.data=.fields #[ .ref l,rawInt i]
section
variable {prog:Program}{w:World}{A:Around}{E:Value->Shared->Prop}{s:Shared}
def Lw{l:Db}{c:Array Ev}{d:Ev->No->Prop}(g:kO s.heap l c)(e:(c.size:Int)<2 ^ 63)
  (h:∀i,d (.ref s.heap.objs.size) {s with heap:=s.heap.push^Ox l ((c.size:Int) - 1),toks:=i}):
  codeAny (model prog w) A (.call (.builtin "reversed.__new__") #[[.type "reversed",.ref l],[]]) (wants d E) s:=by
 refine ki ?_;show wpAny _ A.in1 (do checkBuiltinCall "reversed.__new__" #[[.type "reversed",.ref l],[]];again^.builtin "reversed.__new__" #[[.type "reversed",.ref l],[]]) _ _ s;refine Ch^iB (F.newCall_reversed_1 _)^TW #[iC k_ _,gy F.entry_reversed_new ?_];rw[iF k_ _];have f:s.TypeIs (.ref l) "tuple":=by let#[o,j,k,_]:=g;exact#[o,j,k]
 unfold h8.«reversed.__new__»;refine Ch^iB (newClass_reversed _) ?_
 try dsimp only
 refine Ch^iB (a:=()) (by first|rfl|kernel_rfl) ?_;refine Ch^iB (a:=()) (by first|rfl|kernel_rfl) ?_
 try dsimp only
 refine Ch^iX f QS ?_
 try dsimp only
 refine Ch^Ch^jt (b:=p_) f ML ?_;simp only[gQ,if_false];refine Ch^iX f item_tup ?_;show wpAny _ _ (if ["tuple.__getitem__","str.__getitem__","bytes.__getitem__","bytearray.__getitem__","memoryview.__getitem__","numpy.ndarray.__getitem__","sqlite3.Row.__getitem__"].contains "tuple.__getitem__"=o_ then pure o_ else _) _ _ _;rw[if_pos^by decide +kernel];refine TW ?_;simp only[Bool.not_true,gQ,if_false];refine Ch^len_tuple g e ?_;refine Ch^TW ?_;show wpAny _ _ (newObj (.type "reversed")^.fields [fI l,rawInt ((c.size:Int) - 1)].toArray >>=_) _ _ _;exact Ch^gi^TW^h _
def Lz{l:Db}{a:Array Ev}{Q:Ev->No->Prop}(g:kO s.heap l a)(e:(a.size:Int)<2 ^ 63)
  (h:∀f,Q (.ref s.heap.objs.size) {s with heap:=s.heap.push^Ox l ((a.size:Int) - 1),toks:=f}):wpAny (model prog w) A (call (.type "reversed") [.ref l]) Q E s:=by
 refine callType_codes (Q₁:=λd b=>b.TypeIs d "reversed"/\Q d b) called_reversed (F.typeCall_reversed_1 _) F.entry_object_init
  (Lw g e λf=>#[#[_,UF _ rfl,rfl],h f]) λd b c=>?_
 exact#[c.1,kz d _,object_init_meets called_reversed.init.lookup called_reversed.made (by cbv) prog w A.in1 _ b #[c.1,rfl,c.2]]
def IsRt.typeIs{a l:Db}{i:Int}(x:IsRt s.heap a l i):s.TypeIs (.ref a) "reversed":=let #[o,b,c,_]:=x;#[o,b,c]
def IsRt.at{h b:fO}{a l:Db}{i:Int}(x:IsRt h a l i)(e:∀o,h.get? a=P3 o->b.get? a=P3 o):IsRt b a l i:=let #[o,c,r]:=x;#[o,e _ c,r]
def VO{g l:Db}{i:Nat}{b:Array Ev}{x:Ev}{Q:r_ Ev->No->Prop}(d:IsRt s.heap g l (i:Int))(p:kO s.heap l b)(hx:b[i]?=P3 x)(q:(i:Int)<2 ^ 63)
  (r:∀m t,IsRt m g l ((i:Int) - 1)->iz g s.heap m->Q (P3 x) {s with heap:=m,toks:=t}):wpAny (model prog w) A (pyNext^.ref g) Q E s:=by
 let#[o,e,n,k]:=id d;have u:s.TypeIs (.ref l) "tuple":=by let#[o,e,n,_]:=p;exact#[o,e,n]
 have v:i<b.size:=by
  rcases Nat.lt_or_ge i b.size with h|h
  .exact h
  .rw[mO h]at hx;cases hx
 unfold pyNext
 refine Ch (ig (gl (name:=iJ "__next__") d.typeIs slot_rev_next
  (g8 slot_rev_next d.typeIs E5 ?_^Fj _)))
 unfold h8.«reversed.__next__»;refine Ch (iB (a:=(fI g,[])) rfl ?_)
 try dsimp only
 refine Ch (f6 e k (x:=.ref l) rfl ?_);refine Ch (f6 e k (x:=rawInt (i:Int)) rfl ?_);show wpAny _ _ (if(i:Int)<0 then _ else _) _ _ s;rw[if_neg^by lk];refine Ch^iX u item_tup ?_;simp only[Option.isNone_some,gQ,if_false];refine Ch^wpAny_mkInt ?_;refine Ch^ig^getItem_tuple (s:={s with toks:=s.toks+1}) (j:=i) p (by lk) q (by unfold seqIndex?;simp;lk) hx ?_;refine Ch (f6 e k (x:=rawInt (i:Int)) rfl ?_);show wpAny _ _ (setField (.ref g) 1^rawInt ((i:Int) - 1) >>=_) _ _ _;refine Ch^ip e k (by simp) ?_;refine TW #[x,rfl,TW^r _ _ ?_ (lC ..)]
 exact#[_,gA _ e^jm^h_ k _,(Obj.cls_mapFields ..).trans n,by
  rw[h_ k];simp]
def Mj{f l:Db}{Q:r_ Ev->No->Prop}(j:A.handled=n_)(d:IsRt s.heap f l (-1))
  (p:∀k,mM f s.heap k->Q n_ {s with heap:=k}):wpAny (model prog w) A (pyNext^.ref f) Q E s:=by
 let#[o,h,r,g]:=id d;unfold pyNext
 refine Ch (ig (gl (name:=iJ "__next__") d.typeIs slot_rev_next
  (g8 slot_rev_next d.typeIs E5 ?_^Fj _)))
 unfold h8.«reversed.__next__»;refine Ch (iB (a:=(fI f,[])) rfl ?_)
 try dsimp only
 refine Ch (f6 h g (x:=.ref l) rfl ?_);refine Ch (f6 h g (x:=rawInt (-1)) rfl ?_);show wpAny _ _ (if(-1:Int)<0 then _ else _) _ _ s;rw[if_pos^by cbv];refine Ch^jr ?_;refine Ch ?_;show wpAny _ _ (setField (.ref f) 1^rawInt (-1) >>=λ_=>setField (.ref f) 0 .none) _ _ _;refine Ch^ip h g (by simp) ?_;have i:=gA (ie λq=>q.set! 1^rawInt (-1)) h^jm^h_ g _;refine ip i (h_ g _) (by simp) ?_;refine Ch ?_;show wpAny _ _ (newExc (.type "StopIteration") [] >>=_) _ _ _;refine Ch ?_;simp only[newExc,newTuple];refine Ch (gi ?_^by size_fits);refine Ch (m:=firstArgMember _ _)^iB (a:=fm) (by first|rfl|(simp only[firstArgMember];rfl)) ?_;refine gi ?_ (by size_fits);simp only[raiseNew];refine Ch^wpAny_handled ?_
 first|rw[show A.in1.handled=n_ from j]|rw[j]
 refine Ch^TW^wpAny_throw ?_;refine Ch^jt (T:="StopIteration") (b:=o_) #[_,UF _ rfl,rfl] isSubtype_stop ?_;refine TW^p _ ?_;refine mn (mn ?_ _) _;intro b t n e;rw[jx _ _ _ _ n,jx _ _ _ _ n];exact e
def Va{it l:Db}{i:Int}{Q:Ev->No->Prop}(a:IsRt s.heap it l i)(h:Q (.ref it) s):wpAny (model prog w) A (pyIter^.ref it) Q E s:=by
 refine wpAny_pyIter_slot a.typeIs FZ^g8 FZ a.typeIs JO ?_^J0 _;show wpAny _ _ (ret^.ref it) _ _ s;exact TW #[_,rfl,"reversed",_,a.typeIs,slot_rev_next.lookup,h]
end
def RS{g:fT}{w:fY}{A:fb}(z:A.handled=n_)(I l:Db)(m:l≠I)(a:Array Ev)(F:(a.size:Int)<2 ^ 63):
  Walks g w A I [I,l] [I] a.size (λi v=>a[a.size - 1 - i]?=P3 v) (λi h=>i<=a.size/\IsRt h I l ((a.size:Int) - 1 - (i:Int))/\kO h l a) where
 sub:=λb f=>by simp at f;simp[f]
 frame:=λ_ _ _ x u=>#[x.1,x.2.1.at λo e=>u I (by simp) o e,let #[o,n,r]:=x.2.2;#[o,u l (by simp) o n,r]]
 item:=λi s Q E B x j=>by
  have e:(a.size:Int) - 1 - (i:Int)=((a.size - 1 - i:Nat):Int):=by lk
  have c:=x.2.1;rw[e]at c;have y:a[a.size - 1 - i]?=P3 (a[a.size - 1 - i]'(by lk)):=iR (by lk);refine VO c x.2.2 y (by lk) λp C d k=>?_;have D:((a.size - 1 - i:Nat):Int) - 1=(a.size:Int) - 1 - ((i+1:Nat):Int):=by lk
  rw[D]at d;exact j _ p C y #[B,d,let #[o,n,r]:=x.2.2;#[o,(k.2 l m).trans n,r]] λb o f q=>k.extBut b o (λh=>f^by simp[h]) q
 done:=λs Q E x j=>by
  have e:(a.size:Int) - 1 - (a.size:Int)=-1:=by lk
  have c:=x.2.1;rw[e]at c;exact Mj z c λp t=>j p s.toks λb o f q=>t b o (λh=>f^by simp[h]) q
 self:=λ_ _ _ _ x j=>Va x.2.1 j
def slot_rev_hint:Slot "reversed" "__length_hint__" "reversed.__length_hint__":=
 .of (owner:="reversed") (n:="__length_hint__") (by rw[ic,gw];kernel_rfl) (by decide +kernel) (by decide +kernel) (by decide +kernel)
  (by first|exact .inl (by decide +kernel)|exact .inr^by decide +kernel) (by rw[jn];kernel_rfl)
def JP:entryFor table "reversed.__length_hint__"=P3 h8.«reversed.__length_hint__»:=entryFor_of_tree^by kernel_rfl
def J1(a:Ev):argsOk "reversed.__length_hint__" #[[a],[]]:=by
 unfold argsOk;rw[signature?_of (id:="reversed.__length_hint__") (n:=['_','_','t','n','i','h','_','h','t','g','n','e','l','_','_']) (o:=['d','e','s','r','e','v','e','r']) (by kernel_rfl) G4];kernel_rfl
def Uz{e:fT}{w:fY}{A:fb}{E:Ev->No->Prop}{s:No}{I l:Db}{c:Array Ev}{Q:Bool->No->Prop}(d:IsRt s.heap I l ((c.size:Int) - 1))(j:kO s.heap l c)(p:c.size<=sizeLine)
  (k:∀b g,s.toks<=g->Q b {s with toks:=g}):wpAny (model e w) A (i9^.ref I) Q E s:=by
 have n:=fz;let#[o,h,q,i]:=id d;unfold i9;refine Ch^iX d.typeIs QT ?_;show wpAny _ A (specialOf (fI I)^iJ "__length_hint__" >>=_) _ _ _;refine Ch (iX d.typeIs TJ ?_)
 (generalize f:("reversed.__length_hint__":String)=id0;wp_delta;rw[show splitId id0=P3 ("reversed","__length_hint__")from by subst f;decide +kernel];subst f)
 refine Ch^jt (b:=o_) d.typeIs F.sub_reversed_self ?_;simp only[Bool.not_true,gQ,if_false];rw[if_neg^by decide +kernel];refine Ch^jr ?_;refine Ch^iB (slot_rev_hint.bind _) ?_;refine Ch^ig^g8 slot_rev_hint d.typeIs JP ?_^J1 _;unfold h8.«reversed.__length_hint__»;refine Ch (iB (a:=fI I) rfl ?_);refine Ch (f6 h i (x:=.ref l) rfl ?_);show wpAny _ _ (if(fI l==fm)=o_ then _ else _) _ _ _;rw[if_neg (show ¬((fI l==fm)=o_)from fV)];refine Ch^len_tuple j (by lk) ?_;refine Ch^TW ?_;refine Ch (f6 h i (x:=rawInt ((c.size:Int) - 1)) rfl ?_);show wpAny _ _ (if(c.size:Int)<((c.size:Int) - 1)+1 then _ else _) _ _ _;rw[if_neg^by lk];refine Ch^wpAny_mkInt^TW #[_,rfl,?_];refine Ch^TW ?_;show wpAny _ _ (if(!Builtin.List.listFitsIndex ((c.size:Int) - 1+1))=o_ then _ else _) _ _ _;rw[if_neg (by unfold Builtin.List.listFitsIndex;simp;lk),if_neg^by lk,if_neg^by unfold jL;simp;lk];exact TW^k _ _^fJ (fJ (fu _)^fu _)^fu _
section
variable {X:Cx}{e:Expr}{te:TE}{p1 p2 q1 q2:Pos}
def Rj(K:Frag)(te:TE):TE:=Rl (λl a H=>SqT K H l a) te
def Ny(x:X.calm=o_)(y:PE X e te)(f:Gl X "tuple")(g:X.mg "tuple"=n_)(j:Gl X "reversed")(m:X.mg "reversed"=n_)(z:starEach [ja (.Name "reversed" p2) [e] [] q2] X.env=[(p_,eval (ja (.Name "reversed" p2) [e] [] q2) X.env)]:=by rfl)
  (B:starEach [e] X.env=[(p_,eval e X.env)]:=by rfl):PE X (.Call (.Name "tuple" p1) [.Call (.Name "reversed" p2) [e] [] q2] [] q1)^Rj X.K te:=by
 refine PC (λ{G Z H n l I} u p=>?_) y f g j m z B;let#[a,v,C,w]:=u.tuple p;have c:=v.length;have q:kO n.heap l a.toArray:=C;have d:l<n.heap.objs.size:=by let#[_,e,_]:=id q;exact T0 e
 have s:a.toArray.size<=sizeLine:=by rw[fM,←c];exact w
 have b:((a.toArray.size:Nat):Int)<2 ^ 63:=by have:=fz;lk
 refine#[a,v,w,d,λ{A E Q} k=>Lz q b λt=>k (Ox l ((a.toArray.size:Int) - 1)) t "reversed" _ rfl (by cbv) (RS (A:=X.A.in1.in1.in1) (u.ok.hd x) n.heap.objs.size l (fQ d) a.toArray b).toS (λi D s=>s.2.1.typeIs) (λ_ _ D _ h p=>Uz (by have:=h.2.1;rw[show((a.toArray.size:Nat):Int) - 1 - ((0:Nat):Int)=((a.toArray.size:Nat):Int) - 1 by lk]at this;exact this) h.2.2 s p) #[Uf _,#[_,UF _ rfl,rfl,by show Data.fields _=_;simp[Ox]],let #[o,F,r]:=q;#[o,Go _ F,r]]]
end
end L2
namespace Dp
open L2
def MC(b:DW):DW:=λn c P=>b n c λd e=>∃a,d=.tup a/\P (.tup a.reverse) e
section
variable {X:Cx}{a:Expr}{zT:Kd}{wa:DW}{p1 p2 q1 q2:Pos}
def OQ(m:X.calm=o_)(o:DE X a zT wa)(b:Gl X "tuple")(c:X.mg "tuple"=n_)(e:Gl X "reversed")(f:X.mg "reversed"=n_)(s:starEach [ja (.Name "reversed" p2) [a] [] q2] X.env=[(p_,eval (ja (.Name "reversed" p2) [a] [] q2) X.env)]:=by rfl)
  (u:starEach [a] X.env=[(p_,eval a X.env)]:=by rfl):DE X (.Call (.Name "tuple" p1) [.Call (.Name "reversed" p2) [a] [] q2] [] q1) .sh^MC wa:=by
 let#[t,x,y]:=o;refine#[_,Ny m x b c e f s u,λC M H n z Z P Q R w q=>?_];refine y C M H n z Z _ _ R w λv h d A i j B p=>?_;let#[D,rfl,p]:=p;have E:=R.step i j;let#[F,k,rfl,G,I]:=(B.tpOf R.dom R.vM).tup;refine#[F,k,rfl,G.sq,λr l=>?_];have g:Grow h^Ar h r^.tup k.reverse:=Aq l;exact q _ _ (.tup D.reverse) A (i.trans g.ext) (j.grow g) (Cj E.dom l^I.reverse) p
end
end Dp
namespace Nt
open L2 Dp
def e9(N:Net)(s x:Str):Prop:=∃d,Wk N s x d
structure eN (N:Net) (s:Str) (ks:List Key):Prop where
 nd:ks.Nodup
 dom:∀k∈ks,∃x:Str,k=.inr x
 mem:∀x:Str,.inr x∈ks↔e9 N s x
def Ob:W2:=λa n P=>a=[.fd]/\1<=n/\∀(e:D),fine (10 ^ 35) e->Cr e<=250->Fz e<=2->P e (n - 1)
inductive RC:D->Prop
 |n:RC .non
 |s (x:Str):RC^.str x
 |i (k:Int):RC^.int k
 |t (xs:List D) (h:∀x,x∈xs->RC x):RC^.tup xs
def UT(j:Nat):W2:=λc n P=>∃(d:D) (a:q_ Str) (i:Nat),c=[.fd,.sh d,.sh^.tup^a.map .str,.sh^.int i]/\i<=j/\RC d/\fine (10 ^ 34) d/\a≠[]/\a.length<=24/\(∀x∈a,Qp x)/\Cr d<=70000/\3*j+3<=n/\∀(e:D) (b:Nat),fine (10 ^ 35) e->Cr e<=2*Cr d+500->Fz e<=Fz d+3->n - (3*j+3)<=b->P e b
section
section
variable {ts:q_ AX}
def JC(ts:q_ AX):Keyed CJ^ts.map AJ:=by
 refine#[λx a=>?_,λx a y b c d e f=>?_]
 .let#[t,_,rfl]:=TM.mp a
  exact#[Dq t,rfl,g_ _ _]
 .let#[t,_,rfl]:=TM.mp a
  let#[u,_,rfl]:=TM.mp b;cases(show P3^Dq t=P3 c from e);cases(show P3^Dq u=P3 d from f);rfl
end
end
end Nt
namespace L2
end L2
namespace Dp
open L2
end Dp
namespace Nt
open L2 Dp
def Bj(N M:Net):Prop:=M.ps=N.ps/\thn N M.ts
def IW{N:Net}{a c:Str}{w:q_ Str}(h:Way N a c^P3 w):∃l,Uh 30 N a c w l/\Least N a c l:=by
 let#[d,r,e,b,f,g,i,j]:=h;exact#[d,#[#[r,e],b,f,i,j],g]
end Nt
namespace L2
section
variable {X:Cx}
def Zv(K:Frag):V->q_ V->Hp->VK->Prop:=λx g H Q=>∃(a:Db) (c:q_ V) (y:V) (b:q_ jX) (d:jX) (j:Nat),x=.ref a/\g=[y]/\SqL K H a c/\RVs H b c/\RV H d y/\iH b=o_/\d.canLay0=o_/\d.depth<=100 /\
 (∃e,b[j]?=P3 e/\gI e d=o_)/\(∀m f,m<j->b[m]?=P3 f->gI f d=p_)/\Q (.int (j:Int)) H
def YJ{k:Nat}(N:Room k X.A):XH X "list.index"^Zv X.K:=by
 intro O s Z H x vs v us Q I P R h;let#[l,xs,y,b,d,j,rfl,rfl,S,f,T,C,U,dd,#[dj,hj,V],g,q]:=h;cases P;let#[u,rfl,W]:=R.one;let#[a,r,Y,z]:=I.list S;let#[as,ra]:=RVs.reads I f r;let#[bs,rb]:=RV.reads I T W;have hm:=PySem.SeqAt.readsAll_map b a as C ra;have D:b.length=a.length:=by grind
 have hu:=N.un;have E:min (gq b) d.depth<=d.depth:=jN _ _
 have i:∀m o,b[m]?=P3 o->∀(h:m<a.toArray.size),PySem.SeqAt.readOf s.heap a.toArray[m]=o:=λm o e h=>by
  rw[←hm,fK]at e;have h':m<a.length:=by simpa using h
  simp_all
 have a0:j<a.length:=by grind
 have hz:=r.length;have a1:=PySem.sizeLine_eq;let#[#[a2,dt,G,sl],n,e,J,L,M]:=Y;simp only at J M L;subst J M L;have p:=PySem.SeqAt.list_indexAt l a.toArray n n_ sl u _ j (by lk) (by lk) (by simp_all) (λm t B=>?_) X.prog X.w X.A (wants (EP X O Z Q) X.xe) s #[e,PySem.SeqAt.items_eqAt (vs:=a.toArray) (by lk) rb C U^by lk,#[.int j,H,I.tok _,#[_,rfl],q]]
 .exact iK^iZ PySem.F.slot_list_index.plain PySem.F.entry_list_index^PySem.F.slot_list_index.check _ _ _ _ _ _ _ _ #[_,e,rfl] (PySem.F.args_list_index_2 _ _) p
 have c:m<b.length:=by simp_all
 rw[i m b[m] (On c) t];exact g m b[m] B (On c)
end
end L2
namespace Dp
open L2
def ah(d:D)(b:q_ D)(P:D->Prop):Prop:=∃(a:q_ D) (y:D) (j:Nat),d=.lst a/\b=[y]/\CD^.tup a/\CD y/\(∃x,a[j]?=P3 x/\Cu x y=o_)/\(∀m x,m<j->a[m]?=P3 x->Cu x y=p_)/\P^.int (j:Int)
def bE{K:Frag}:dX K .sh "list" (Zv K) ah:=by
 intro U M H d F x G P Q k I l n w q;let#[h,y,j,rfl,rfl,#[o,r,_],#[s,t,u],#[J,b,c],f,w]:=w;let#[v,rfl,z]:=Ep n;let#[a,A,rfl,_,B,C]:=l
 have g:∀(m:Nat) (p:jX),(BD h)[m]?=P3 p->∃x,h[m]?=P3 x/\p=toPy x:=λm p e=>by
  rw[B9,fK]at e;let#[x,i,rfl]:=fq.mp e
  grind
 refine#[a,A,v,_,_,j,rfl,rfl,.inl B,C.rv o,z.rv s,r,t,u,#[_,by rw[B9,fK,b];rfl,c],λm p D e=>?_,q _ H (.int j) .refl rfl w];let#[E,i,rfl]:=g m p e;exact f m E D i
def WY:AW:=λa n b=>a.ct n b
def Vz{X:Cx}{a:Kd}{pos:Pos}:DS X a (.Continue pos) WY:=#[_,MY,λC M H n b Z c E R L w=>L.ct M H n b Z R w]
def Rel.setNo{K:Frag}{C:Fm}{M:Db->Prop}{H:Hp}{n:Nat}{f:q_ Slot}{Z:L2.St}(R:Rel K C M H n f Z){i:Nat}{o:r_ V}:Rel K C M H n (f.set i .no)^Z.set i o:=by
 have b:∀(j:Nat) (s:Slot),(f.set i .no)[j]?=P3 s->s≠.no->f[j]?=P3 s/\((Z.set i o)[j]?).getD n_=(Z[j]?).getD n_:=λj s q g=>by
  rcases Cs q with⟨_,_,rfl⟩|⟨v,q⟩
  .exact absurd rfl g
  .exact#[q,Eh v]
 have ow:∀{s:Slot},s.owns=o_->s≠.no:=λh z=>by rw[z]at h;cases h
 refine#[by rw[gp,gp];exact R.len,R.sub,R.dom,R.ext,R.fU,R.uV,R.vM,R.feed,λj s q=>?_,R.pin,λj d a q z=>?_,λj s a q h z=>?_,λj k s t a x r y u A B=>?_,λp D=>?_]
 .by_cases g:s=.no
  .subst g;trivial
  .let#[c,e]:=b j s q g
   rw[e];exact R.sl j s c
 .let#[c,e]:=b j _ q^by intro w;cases w
  exact R.br0 j d a c (e▸z)
 .let#[c,e]:=b j _ q^ow h
  exact R.new j s a c h (e▸z)
 .let#[c,e]:=b j _ x^ow r
  let#[l,m]:=b k _ y^ow u;exact R.two j k s t a c r l u (e▸A) (m▸B)
 .let#[c,e,l,m]:=R.kept p D
  refine#[c,e,l,λj d q z=>?_];let#[E,F]:=b j _ q (by intro w;cases w);exact m j d E (F▸z)
section
variable {X:Cx}{κ zX:Kd}{i j r:Nat}{x y:Str}{e1 e2:Expr}{rest:q_ Stmt}{w1:DW}{w2:De}{wr:AW}{p3 p4 q0 q3 q5 q6:Pos}
def di(i j r:Nat)(w1:DW)(w2:De)(wr:AW):AW:=λc n a=>∃d b,a[i]?=P3^.ow d/\a[r]?=P3^.ow^.lst b/\b.length<sizeLine/\w1 n (a.set i^.sh d) λz e=>w2 e ((a.set i^.sh d).set j^.sh z) λf g=>∃v,f=[v]/\flat v=o_/\wr c g^(a.set j .no).set r^.ow^.lst (b++[v])
def Yi(i j r:Nat)(hN:X.N.Nodup)(hj:X.N[j]?=P3 x)(hx:Loc X.env.scope x)(h1:DE X e1 zX w1)(hv:PE X (.Name y q0)^Bp r)(h2:WN X [e2] w2)(g:J7 X κ rest wr)(hk:zX≠.tp:=by intro z;cases z)(s:j≠r:=by cbv)
  (I:swapsWith e1 (P3^.Name x p3) p4.line X.env=pure p_:=by rfl) (t:X.fn x=o_\/X.env.scope.names.lookup x=P3 .local:=by first|exact .inl rfl|exact .inr rfl|assumption)
  (p:((backTo q5^starEach [e2] X.env).all (λx=>!x.1)&&(backToKw q5^keywordEach [] X.env).all (λx=>x.1.isSome)&&decide (([e2]:q_ fZ).length+([]:q_ iO).length+(if([]:q_ iO).isEmpty then 0 else 1)<30))=o_:=by rfl)
  (h:(q3.endLine==q5.line)=o_:=by rfl) (J:starEach [e2] X.env=(p_,eval e2 X.env)::starEach [] X.env:=by rfl) (O:swapsWith (.Call (.Attribute (.Name y q0) "append" q3) [e2] [] q5) n_ q6.line X.env=pure p_:=by rfl):
  J7 X κ (.Assign [.Name x p3] e1 p4::.Expr (.Call (.Attribute (.Name y q0) "append" q3) [e2] [] q5) q6::rest) (di i j r w1 w2 wr):=by
 let#[t1,a1,b1]:=h1;let#[W,a2,b2]:=h2;let#[tr,ar,br]:=g;refine#[_,A6 (ED hN hj hx a1 I t)^A6 (O8 (PF PySem.F.plainAttrs_list PySem.F.slot_list_append PySem.F.type_list_append A2 hv a2 rfl p h J rfl) O) ar,λC M H n Y Z D2 E R L zz=>?_];let#[d,A,hi,hr,hl,w]:=zz;let#[a,e1,m,nv,tp]:=R.sl i _ hi;have P:=R.freeze hi e1
 have c:∀{B:Hp}{D:Nat},FeedC X.K C.F (λb=>M b/\b≠a) B D->FeedC X.K C.F M B D:=λG f t=>by
  let#[x,r,k,g1,g2,g3,g4]:=G f t;let#[_,_,_,_,_,o3,_]:=R.feed f t;exact#[x,r,k,g1,g2,#[o3.1,g3.2],g4]
 refine b1 C _ H n _ Z _ _ P w λv B z D x1 G r1 w=>?_;have Q:=(P.step x1 G).set (i:=j)^r1.shOf P.dom hk;have R1:=(R.step x1^c G).setNo (i:=j) (o:=P3 v);have l:(Y.set j .no)[r]?=P3^.ow^.lst A:=by rw[jp s];exact hr
 let#[b,S,mb,nb,tb]:=R1.sl r _ l;exists .ref b,getD_some S,Li (d:=.lst A) (T:="list") rfl (tb.att nb);refine b2 C _ B D _ _ _ _ Q w λvs H2 ys s x2 f2 r2 zz=>?_;let#[u,hy,fl,w]:=zz;subst hy;have R2:=R1.step x2^c f2;let#[b',q,U,a0,V]:=R2.sl r _ l;rw[S]at q;cases q;exact C1 M H2 b (.lst A) [u] vs (λe _=>wr D2 s^(Y.set j .no).set r^.ow e) _ U V (JK [u] (by unfold JJ JJ;rw[fl];rfl) r2) #[A,u,rfl,rfl,hl,w] λo d' z v W hz pp=>br C M _ s _ _ D2 E (R2.mut l S W) L pp
end
end Dp
namespace Nt
open L2 Dp
def Jg:D->q_ Str
 |.tup a=>strsOf a
 |_=>[]
def ZK(M:Net)(a b:Str)(d:D):D:=match Ju M d with
 |.int l=>if((Jg d).head?==P3 a&&(Jg d).getLast?==P3 b)=o_ then .int l else .non
 |_=>.non
def Ug(M:Net)(t b:Int)(u:AX)(d:D):D:=match ZK M u.a u.b d with
 |.int l=>if l*b<=u.len*t then .non else .str "far"
 |_=>.str "way"
def bQ:W2:=λc n P=>∃(M:Net) (a b:Str) (d:D),c=[.sh^enc M,.sh^.str a,.sh^.str b,.sh d]/\okN M/\Dg d/\P (ZK M a b d) n
def bM:W2:=λa n P=>∃(M:Net) (t b:Int) (u:AX) (d:D),a=[.sh^enc M,.sh^.tup [.int t,.int b],.sh^AJ u,.sh d]/\okN M/\cN t b/\Dg d/\P (Ug M t b u d) n
def G9(M:Net)(d:D):Ju M d=.non\/∃(x:Str) (r:q_ Str) (l:Int),d=Df (x::r)/\Ju M d=.int l:=by
 cases d with
 | tup g=>
  by_cases b:g.all Ct=o_
  .let#[a,rfl]:=Ie b
   have e:Ju M^.tup^a.map .str=OG M a:=by
    show(if(a.map D.str).all Ct then OG M^strsOf^a.map .str else .non)=_;rw[if_pos b,DK]
   rw[e];cases a with
   |nil=>exact .inl rfl
   | cons x r=>
    show(if x∈M.ps then Nt.Nm^D5 M.ts x r 0 else .non)=.non\/_
    by_cases f:x∈M.ps
    .rw[if_pos f]
     cases c:D5 M.ts x r 0 with
     |none=>exact .inl rfl
     |some l=>exact .inr #[x,r,l,rfl,by show(if x∈M.ps then Nt.Nm^D5 M.ts x r 0 else .non)=_;rw[if_pos f,c];rfl]
    simp_all
  .exact .inl^if_neg b
 |_=>exact .inl rfl
def Ql(M:Net)(a b:Str)(d:D):ZK M a b d=.non\/∃l,ZK M a b d=.int l:=by
 unfold ZK
 split
 .split
  .grind
  grind
 grind
def C5{a:q_ D}(h:Dg^.tup a){d:D}(hd:d∈a):Dg d:=by
 have b:By a<=160000:=h.2.1;have c:FP a+1<=50:=h.2.2
 have:=Ou hd
 have:=dps_le.mp (Rs _) d hd
 exact#[fines_iff.mp h.1 d hd,by lk,by lk]
section
def aM(d e:D):ir ("word":Str)^(["word","number"]:q_ Str).zip [d,e]=P3 d:=rfl
def aL(d e:D):ir ("number":Str)^(["word","number"]:q_ Str).zip [d,e]=P3 e:=by simp[ir];rw[show(("number":Str)=="word")=p_ by cbv]
end
def UA{M:Net}(ok:M.Ok){a x:Str}{K:Kn}(T:UV M a K){c:Int}(e:K x=P3 c)(h:x≠a):∃y b l,K y=P3 b/\look M.ts y x=P3 l/\b+l=c:=by
 let#[i,j]:=T.least x c e;cases i with
 |nil=>exact absurd rfl h
 | @snoc y _ d l w f=>
  have k:=T.all y d w;cases g:K y with
  |none=>exact absurd g k
  |some b=>
   let#[m,n]:=T.least y b g;exists y,b,l,g,GR ok f
   have:=n d w
   have:=j _^.snoc m f
   lk
structure e_ (M:Net) (K:Kn) (acc:List Str) (x:Str):Prop where
 lst:acc.getLast?=P3 x
 nd:acc.Nodup
 ins:∀u∈acc,u∈M.ps
 far:∀dx,K x=P3 dx->∀u∈acc,∃du,K u=P3 du/\dx<=du
def WH:W2:=λd n P=>∃(N:Net) (a c:Str) (z:D) (b:q_ AX),d=[.br z,.sh^.str a,.sh^.str c]/\EY z=P3^b.map AJ/\(∀u,u∈b↔u∈N.ts)/\okN N/\a∈N.ps/\c∈N.ps/\∀o,Way N a c o->P (VH o) n
def Yz:W2:=λb n P=>∃(a:Db) (w:Str) (k:Int),b=[.ex a "NoPaper" ["word","number"] [.str w,.int k]]/\P (.tup [.str w,.int k]) n
def Oc:W2:=λd n P=>∃(M:Net) (b:q_ Str) (a:Str) (m:Int) (z q:D) (c:q_ AX),d=[.sh^.tup [.tup^b.map .str,q],.br z,.sh^.str a,.sh^.int m]/\EY z=P3^c.map AJ/\(∀u,u∈c↔u∈M.ts)/\okN M/\M.ps=b/\a∈b/\30000000<=m/\m<=10 ^ 33/\∀l:q_ Int,l.length=b.length->(∀i∈l,0<=i/\i<=m)->P (.tup^l.map .int) n
def Su:AW:=(BE (Cq 8^bi (Ah^Ao (Ph p_) (AH 5)^Ao CA (As 4)^wC^D.int 0) (AH 6)^bi (Ah^Ao (Ph p_) (AH 6)^Ao CA (As 4)^wC^D.int 0) (AH 5)^wC D.non)
 (CU (Eb (Ah^Ao (HE o_) (AH 8)^wC D.non)^Eb (Ah^Ao (NC p_) (AH 8)^AH 3)^Ah^Ao (Ph p_) (Ao Bw (Ao CQ (AH 3)^AH 8)^AH 7)^Ao CQ (AH 3)^Ao CA (As 4)^wC^D.int 0) (BE (LF 4 "list" Ye^AL (wC^D.int 0)^AL (AH 8) Ab)
 Nb) Bm))
def Im(K:Kn)(x:Str)(d:Int)(t:AX):Prop:=(t.a=x/\∃c,K t.b=P3 c/\c+t.len=d)\/(t.a≠x/\t.b=x/\∃c,K t.a=P3 c/\c+t.len=d)
structure WI39 (N:Net) (K:Kn) (c:Str) (dc:Int) (x:Str) (r:List Str) (dx:Int):Prop where
 lst:(x::r).getLast?=P3 c
 wk:∃e,walk N (x::r) e/\dx+e=dc
 at_:K x=P3 dx
 nd:(x::r).Nodup
 far:∀y∈x::r,y∈N.ps/\∃dy,K y=P3 dy/\dx<=dy
def WI39.step{N:Net}{K:Kn}{c x y:Str}{f g a l:Int}{r:q_ Str}(I:WI39 N K c f x r g)(j:K y=P3 a)(k:y∈N.ps)(o:1<=l)(e:a+l=g)(m:Ed N y x l):WI39 N K c f y (x::r) a:=by
 refine#[by exact I.lst,?_,j,fX.mpr #[λh=>?_,I.nd],λz b=>?_]
 .let#[n,d,i]:=I.wk
  exact#[_,#[l,n,m,d,rfl],by lk]
 .let#[_,d',d,i]:=I.far y h
  grind
 .rcases Tk.mp b with rfl|b
  .grind
  .let#[p,d',d,i]:=I.far z b
   grind
def OH{d:D}(h:Dg d):CD d:=Br (by cbv) h.1^by have:=h.2.2;lk
theorem Ka{M:Net}(ok:M.Ok):∀{r:q_ Str}{x:Str}{s l:Int},D5 M.ts x r s=P3 l->∃d,walk M (x::r) d/\l=s+d
 |[],x,s,l,h=>#[0,rfl,by have:s=l:=fG h;lk]
 | y::r,x,s,l,h=>by
  have h:(match look M.ts x y with|some l=>D5 M.ts y r (s+l)|none=>n_)=P3 l:=h;cases e:look M.ts x y with
  |none=>grind
  | some a=>
   rw[e]at h;let#[d,b,j]:=Ka ok h
   have f:Ed M x y a:=by
    unfold look at e;cases c:(Dd M.ts x).find? λz=>decide (z.1=y)with
    |none=>grind
    |some q=>
     rw[c]at e;have g:q.1=y:=of_decide_eq_true^j7 (p:=λz:Str×Int=>decide (z.1=y)) c;have i:q.2=a:=fG e;rw[←g,←i];exact iS c
   exact#[a+d,#[a,d,f,b,rfl],by lk]
def Um{d:D}(h:tupleOfB 3 d=o_):∃e x y,d=.tup [e,x,y]:=by
 cases d with
 | tup b=>
  match b,h with
  |[e,x,y],_=>grind
  |[],a=>cases a
  |[_],a=>cases a
  |[_,_],a=>cases a
  |_::_::_::_::r,a=>
   have:=eq_of_beq a
   grind
 |_=>cases h
def Oo{d:D}(h:tupleOfB 2 d=o_):∃x y,d=.tup [x,y]:=by
 cases d with
 | tup b=>
  match b,h with
  |[x,y],_=>grind
  |[],a=>cases a
  |[_],a=>cases a
  |_::_::_::r,a=>
   have:=eq_of_beq a
   grind
 |_=>cases h
def ZW{k:Nat}{d:D}(h:tupleOfB (k:Int) d=o_):∃a,d=.tup a/\a.length=k:=by
 cases d with
 |tup b=>have:=eq_of_beq h;grind
 |_=>cases h
def MM{a:q_ Str}:RC^.tup^a.map .str:=.t _ λx b=>by let#[y,_,rfl]:=TM.mp b;exact .s y
def Rf{l:q_ Int}:RC^.tup^l.map .int:=.t _ λx a=>by let#[y,_,rfl]:=TM.mp a;exact .i y
def Ov{N:Net}(ok:N.Ok){w:q_ Str}(h:∀x∈w,x∈N.ps):fine (10 ^ 34)^Df w/\Cr^Df w<=9*w.length/\Fz^Df w<=1:=by
 have c:By _<=9*(w.map D.str).length:=Ef λd a=>by
  let#[x,b,rfl]:=TM.mp a
  have:=(ok.names x^h x b).2.1
  show x.length+1<=9;lk
 rw[FM]at c;exists CK λd a=>?_,c
 .let#[x,b,rfl]:=TM.mp a
  exact(CZ^ok.names x^h x b).1.mono^by cbv
 .have:FP^w.map D.str<=0:=dps_le.mpr λd a=>by
   let#[x,b,rfl]:=TM.mp a;exact Rs _
  show FP _+1<=1;lk
def Vd{l:q_ Int}(h:∀i∈l,0<=i/\i<=10 ^ 33):fine (10 ^ 34)^.tup^l.map .int/\Cr^.tup^l.map .int<=201*l.length/\Fz^.tup^l.map .int<=1:=by
 have c:By _<=201*(l.map D.int).length:=Ef λd a=>by
  let#[x,b,rfl]:=TM.mp a;exact Rs _
 rw[FM]at c;exists CK λd a=>?_,c
 .let#[x,b,rfl]:=TM.mp a
  have:=h x b
  show x.natAbs<=10 ^ 34;lk
 .have:FP^l.map D.int<=0:=dps_le.mpr λd a=>by
   let#[x,b,rfl]:=TM.mp a;exact Rs _
  show FP _+1<=1;lk
def Tz{M:Net}(b:okN M){a:Str}{F:K_}(T:Told M a F){m:Int}(c:0<=m)(e:m<=10 ^ 33):(M.ps.map λx=>D.int (NJ m ((F x).map (·.1))))=(M.ps.map λx=>NJ m ((F x).map (·.1))).map .int/\∀i∈M.ps.map λx=>NJ m ((F x).map (·.1)),0<=i/\i<=10 ^ 33:=by
 refine#[by simp_all,λi d=>?_];let#[y,_,rfl]:=TM.mp d
 have:=Yp c^Vl b.1^T.far y
 lk
def Wk.trans{N:Net}{x y z:Str}{d e:Int}(h:Wk N x y d)(g:Wk N y z e):Wk N x z (d+e):=by
 induction g with
 |nil=>grind
 |snoc _ f a=>rw[←lX];exact .snoc a f
def XX(N M:Net)(t b:Int):Prop:=∀{x y:Str}{d:Int},Wk N x y d->∃a,Wk M x y a/\a*b<=d*t
def VS{x y z:Int}(h:x<=y)(a:0<=z):x*z<=y*z:=jc h a
def Ud{N:Net}{c:q_ AX}{t b:Int}(a:okN N)(j:thn N c)(h:WC N c t b):XX N #[N.ps,c] t b:=by
 intro x y d f
 induction f with
 |nil=>exact#[0,.nil,by lk]
 | snoc f e k=>
  rename_i y z d l
  let#[s,m,v]:=k;let#[u,n,w,o]:=e.tie a.1;let#[p,#[q,_],A]:=h u n
  have r:Wk #[N.ps,c] y z p:=by
   rcases o with⟨g,i⟩|⟨g,i⟩
   .grind
   .rw[←g,←i];exact RO (j.okN a).1 q
  exists _,m.trans r
  grind
theorem Oj:∀{a:q_ Key}{b:q_ D},a.length=b.length->a.Nodup->(∀k∈a,∀z,BA a b k=P3 z->E3 z=o_)->CI b=o_
 |[],[],_,_,_=>rfl
 |k::a,d::b,c,f,h=>by
  rw[fX]at f;show(E3 d&&CI b)=o_;rw[h k Re d (if_pos rfl),Oj (Nat.succ.inj c) f.2 λj g z i=>h j (Sc _ g) z^(if_neg λe=>f.1^by grind).trans i];rfl
 |[],_::_,c,_,_=>by cases c
 |_::_,[],c,_,_=>by cases c
def Pb{d:q_ Key}{b:q_ D}{K:Kn}(M:Dmap d b D.int K):CI b=o_:=Oj M.len M.nd λk e z c=>by
 let#[x,rfl]:=M.dom k e;rw[M.at_]at c;let#[a,_,rfl]:=fq.mp c;rfl
abbrev Ja(M:Net)(u:AX):Net:=#[M.ps,M.ts.filter λv=>BF (Bk v)^Bk u]
def X6(M:Net)(t b:Int)(u:AX)(d:D):D:=if Ko M d=o_ then(match d with
 |.tup c=>if Jb (IH M c u.a - IH M c u.b)*b<=u.len*t then .str "near" else .non
 |_=>.non)else .str "fair"
def QK(M:Net)(t b:Int)(u:AX)(d:D):X6 M t b u d=.non\/∃w,X6 M t b u d=.str w:=by
 unfold X6
 split
 .split
  .split
   .grind
   simp_all
  simp_all
 grind
section
variable {N M A:Net}{t b:Int}{u:AX}{ts:q_ AX}
def Yb(ok:A.Ok){a:q_ D}(f:Ko A^.tup a=o_){x y:Str}{d:Int}(h:Wk A x y d):Jb (IH A a x - IH A a y)<=d:=by
 induction h with
 |nil=>rw[Int.sub_self];decide
 |snoc _ g c=>
  let#[v,l,rfl,m]:=g.tie ok;have e:=of_decide_eq_true^iM.mp (fN _ _▸f).2 v l
  rcases m with⟨rfl,rfl⟩|⟨rfl,rfl⟩ <;>revert c e <;>generalize IH A a _=i <;>generalize IH A a _=j <;>generalize IH A a x=k <;>unfold Jb <;>intro c e <;>split <;>split at c <;>split at e <;>lk
def Yc(ok:A.Ok)(g:1<=b){y:D}(h:X6 A t b u y=.non):KU A t b u=p_:=by
 unfold X6 at h
 split at h
 .rename_i c
  cases y with
  | tup i=>
   have h:(if Jb _*b<=u.len*t then D.str _ else .non)=.non:=h
   split at h
   .cases h
   .rename_i e
    refine fj.mpr λz=>e ?_;let#[d,f,a]:=nearB_iff.mp z;exact lA (VS (Yb ok c f.1)^by lk) a
  |_=>cases c
 .cases h
theorem PV(ok:M.Ok):∀{r:q_ Str}{x:Str}{s l:Int},D5 M.ts x r s=P3 l->∃d,walk M (x::r) d/\l=s+d
 |[],x,s,l,h=>#[0,rfl,by have:s=l:=fG h;lk]
 | y::r,x,s,l,h=>by
  have h:(match look M.ts x y with|some l=>D5 M.ts y r (s+l)|none=>n_)=P3 l:=h;cases e:look M.ts x y with
  |none=>grind
  | some a=>
   rw[e]at h;let#[d,f,k]:=PV ok h
   have g:Ed M x y a:=by
    unfold look at e;cases c:(Dd M.ts x).find? λz=>decide (z.1=y)with
    |none=>grind
    |some q=>
     rw[c]at e;have i:q.1=y:=of_decide_eq_true^j7 (p:=λz:Str×Int=>decide (z.1=y)) c;have j:q.2=a:=fG e;rw[←i,←j];exact iS c
   exact#[a+d,#[a,d,g,f,rfl],by lk]
def Rv(w:q_ Str):Jg^Df w=w:=DK w
def VQ(ok:A.Ok)(E:1<=b){y:D}(h:Ug A t b u y=.non):Fd A t b u:=by
 unfold Ug at h
 split at h
 .rename_i l c
  split at h
  .rename_i f
   have c:(match Ju A y with|.int l=>if((Jg y).head?==P3 u.a&&(Jg y).getLast?==P3 u.b)=o_ then D.int l else .non|_=>.non)=.int l:=c
   rcases G9 A y with e|⟨x,r,q,rfl,e⟩
   .rw[e]at c;cases c
   .rw [e]at c
    have o:Jg^Df (x::r)=x::r:=Rv _;rw[o]at c;have c:(if((x::r).head?==P3 u.a&&(x::r).getLast?==P3 u.b)=o_ then D.int q else .non)=.int l:=c
    split at c
    .rename_i s
     cases c;let#[g,i]:=(fN _ _▸s:_/\_);have g:x=u.a:=fG^eq_of_beq g;have i:=eq_of_beq i
     have j:Ju A^Df (x::r)=if x∈A.ps then Nm^D5 A.ts x r 0 else .non:=by
      show(if((x::r).map D.str).all Ct then OG A^strsOf^(x::r).map D.str else D.non)=_;rw[all_strs,if_pos rfl,show strsOf^(x::r).map D.str=x::r from o];rfl
     rw[j]at e
     split at e
     .cases n:D5 A.ts x r 0 with
      |none=>rw[n]at e;cases e
      |some v=>
       rw[n]at e;have e:v=l:=by injection e
       let#[d,w,F]:=PV ok n;let#[k,z,B]:=FG ok w i x Re;let#[m,p,C]:=GV ok k.toNat k (Rs _) z;rw[g]at p;exact#[m,p,lA (VS (show m<=l by lk)^by lk) f]
     .cases e
    .cases c
  .cases h
 .cases h
def Ib(a:okN N)(c:thn N ts):ts=N.ts.filter λv=>decide (v∈ts):=
 EA ((jD (A9 c.2)^(A9 a.1.trise).filter _).mpr λv=>by simpa using c.1 v) (DY c.2) (DY^a.1.trise.filter _)
end
end Nt
namespace Dp
open L2
section
variable {K:Frag}{C:Fm}{M:Addr->Prop}{H:Hp}{n:Nat}{ρ:q_ Slot}{Z:L2.St}{a0 a1 a2:Addr}{A B:q_ D}
structure dU (K:Frag) (C:Fm) (M:Db->Prop) (H:Hp) (n:Nat) (ρ:List Slot) (Z:L2.St) (a0 a1 a2:Db) (A B:List D):Prop where
 r:Rel K C M H n (ρ++[.ow^.lst A,.ow^.lst B]) (Z++[P3^.ref a1,P3^.ref a2])
 l:ρ.length=Z.length
 o:H a0=P3 (.lst [.ref a1,.ref a2])
 m:¬M a0
variable (h:dU K C M H n ρ Z a0 a1 a2 A B)
include h
end
end Dp
namespace Nt
open L2 Dp
def bO:W2:=λc n P=>∃(M:Net) (t b:Int) (u:AX) (d:D),c=[.sh^enc M,.sh^Dx t b,.sh^AJ u,.sh d]/\okN M/\cN t b/\u.a∈M.ps/\u.b∈M.ps/\P (X6 M t b u d) n
end Nt
namespace L2
section
variable {X:Cx}{a b e1 e2:Expr}{te:RI}{tb t u:TE}{pos p2:Pos}
def cV(te:RI)(t u:TE):RI:=λR Z H Q=>te R Z H λv c=>∃k,v=.bl k/\if k=o_ then t Z c Q else u Z c Q
def VB{f:CmpOp}{r:R2}(m:OpR X (compareOp f) r)(n:bX X a te)(o:PE X b tb)(p:behindInMarks f b=p_)(q:PE X e1 t)(A:PE X e2 u):bX X (.IfExp (.Compare a [f] [b] pos) e1 e2 p2)^cV (cS r te tb) t u:=by
 intro d s Z H Q R I h
 refine wpAny_IfExp (wpAny_isTrue_Compare1 (thn (n d s Z H _ R I h) λv B #[x,C,D,E,F]=>thn (Xi^o d B Z C _ D F) λw G #[y,H2,J,K,L]=>
  thn (Xi^m d G Z H2 x y v w _ J E K L) λc g #[z,i,j,M,k,e,l]=>?_) p)
 subst e;cases M;refine iG ?_;cases k with
 |true=>exact Xi^q d g Z i Q j l
 |false=>exact Xi^A d g Z i Q j l
end
end L2
namespace Dp
open L2
section
variable {X:Cx}{κ zM:Kd}{a b e1 e2:Expr}{pos p2:Pos}{wb u v:DW}
def cI(w:Nat->q_ Slot->(D->Nat->Prop)->PX->Prop)(u v:DW):Nat->q_ Slot->(D->Nat->Prop)->PX->Prop:=λn c P f=>w n c (λd e=>match d with
 |.bl k=>if k=o_ then u e c P else v e c P
 |_=>False) f
def V4{h:CmpOp}{r:R2}{f:D->D->(D->Prop)->Prop}{w:Nat->q_ Slot->(D->Nat->Prop)->PX->Prop}(L:OpR X (compareOp h) r)(N:FE X.K .sh r f)(O:cB X a .sh w)(S:DE X b zM wb)(T:behindInMarks h b=p_)(U:DE X e1 κ u)(W:DE X e2 κ v):cB X (.IfExp (.Compare a [h] [b] pos) e1 e2 p2) κ^cI (cE f w wb) u v:=by
 let#[t,Y,a2]:=O;let#[tb,b1,b2]:=S;let#[t1,c1,c2]:=U;let#[t2,d1,i]:=W;refine#[_,VB L Y b1 T c1 d1,λC M H n g Z P Q R Pr c l w q=>?_];refine a2 C M H n g Z _ _ R Pr c l w λv H1 d n1 e1 f1 r1 p=>?_;have e:=c.step e1 f1;refine b2 C M H1 n1 g Z _ _ e p λu H2 d2 F e2 G r2 p2=>?_;have R2:=e.step e2 G;refine N C.V M H2 d d2 v u _ _ R2.dom R2.vM ((r1.tpOf c.dom c.vM).pres (e.pres e2) e2 c.uV) (r2.tpOf e.dom e.vM) p2 λz I y j r3 m=>?_;have J:=R2.step j.ext^G.grow j;have ex:=(e1.trans e2).trans j.ext;cases y with
 |bl k=>
  exists k,F9 r3;cases k with
  |true=>exact c2 C M I F g Z P Q J m λv o d s x A B E=>q v o d s (ex.trans x) A (VR.back ex B) E
  |false=>exact i C M I F g Z P Q J m λv o d s x A B E=>q v o d s (ex.trans x) A (VR.back ex B) E
 |_=>exact m.elim
end
end Dp
namespace Nt
open L2 Dp
noncomputable def AV(N:Net)(t b:Int)(m:Nat)(a:q_ AX):Net:=sub N^CP N t b m [] a
def tiesAre(A:Net)(a:q_ AX):Prop:=(∀v,v∈a↔v∈A.ts)/\a.Nodup/\a.length<=60
def bS(m:Nat)(d:D):Prop:=RC d/\fine (10 ^ 34) d/\Cr d<=70*6 ^ m/\Fz d<=2*m+2
def Ek(d:D):Prop:=RC d/\fine (10 ^ 34) d/\Cr d<=2600/\Fz d<=8
def Il(N:Net)(a:q_ D):Prop:=a.length=N.ts.length/\∀r∈a,Ek r
def WJ(j:Nat):W2:=λc n P=>∃(N:Net) (u:AX) (t b:Int) (m:Nat),c=[.sh^enc N,.sh^AJ u,.sh^.int (m:Int)]/\m<=j/\okN N/\N.ps.length<=6/\u.a∈N.ps/\u.b∈N.ps/\J5 N t b u m/\∀d,bS m d->P d n
def NU:W2:=λd n P=>∃(A:Net) (t b:Int) (u:AX) (m:Nat),d=[.sh^enc A,.sh^Dx t b,.sh^AJ u,.sh^.int (m:Int)]/\okN A/\A.ps.length<=6/\EW t b/\u.a∈A.ps/\u.b∈A.ps/\fresh u/\m<=2/\∀c,Ek c->P c n
def NT:W2:=λc n P=>∃(N:Net) (t b:Int) (m:Nat),c=[.sh^enc N,.sh^Dx t b,.sh^.int (m:Int)]/\okN N/\N.ps.length<=6/\EW t b/\m<=2/\∀a:q_ D,Il N a->P (.tup a) n
def Q_:W2:=λa n P=>∃(A:Net) (m:Nat) (d:D),a=[.sh^enc A,.sh^.int (m:Int),.sh d]/\okN A/\Dg d/\∀r:Bool,(r=o_->∃S:q_ AX,d=.tup^S.map AJ/\(∀v∈S,v∈A.ts)/\S.length<=m)->P (.bl r) n
def Yy:W2:=λc n P=>∃(A:Net) (t b:Int) (u:AX) (m:Nat) (e x y:D),c=[.sh^enc A,.sh^Dx t b,.sh^AJ u,.sh^.int (m:Int),.sh^.tup [e,x,y]]/\okN A/\EW t b/\u.a∈A.ps/\u.b∈A.ps/\Dg x/\∀r:Bool,(r=o_->¬J5 A t b u m)->P (.bl r) n
def Q9(j:Nat):W2:=λa n P=>∃(N:Net) (t b:Int) (u:AX) (m:Nat) (d:D),a=[.sh^enc N,.sh^Dx t b,.sh^AJ u,.sh^.int (m:Int),.sh d]/\m<=j/\okN N/\EW t b/\Dg d/\∀r:Bool,(r=o_->J5 N t b u m)->P (.bl r) n
def K7:W2:=λc n P=>∃(N:Net) (a:q_ AX) (t b:Int) (u:AX) (m:Nat) (d:D),c=[.sh^enc #[N.ps,a],.sh^Dx t b,.sh^AJ u,.sh^.int (m:Int),.sh d]/\okN N/\thn N a/\EW t b/\u∈N.ts/\m<=2/\Dg d/\((u∈a↔¬J5 (Ja #[N.ps,a] u) t b u m)->P .non n)/\∀w:Str,(w="word"\/w="in"\/w="out")->P (.str w) n
def UX(N:Net)(c:q_ AX)(t b:Int)(m:Nat):Prop:=∀a:q_ AX,a.Perm N.ts->CM a->c=(AV N t b m a).ts
def WI:WX:=λc n P e=>∃(N:Net) (a:q_ AX) (t b:Int) (m:Nat) (d:D),c=[.sh^enc N,.sh^Dx t b,.sh^.int (m:Int),.sh^enc #[N.ps,a],.sh d]/\okN N/\N.ps.length<=24/\thn N a/\EW t b/\m<=2/\Dg d/\(UX N a t b m->P (.bl o_) n)/\∀(w:Str) (k:Nat),Dg^.tup [.str w,.int (k:Int)]->e "NoPaper" ["word","number"] [.str w,.int (k:Int)] n
def Od:W2:=λc n P=>∃(N:Net) (a:q_ AX) (t b:Int) (m:Nat) (d:D),c=[.sh^enc N,.sh^Dx t b,.sh^.int (m:Int),.sh^enc #[N.ps,a],.sh d]/\okN N/\N.ps.length<=24/\thn N a/\EW t b/\m<=2/\Dg d/\(UX N a t b m->P .non n)/\∀(w:Str) (k:Int),Dg^.tup [.str w,.int k]->P (.tup [.str w,.int k]) n
def UO:W2:=λc n P=>∃(A:Net) (b:q_ AX) (w:q_ Str) (l:Int),c=[.sh^.lst^b.map AJ,.sh^Df w]/\tiesAre A b/\okN A/\walk A w l/\w.length<=30/\∀a:q_ AX,Over A.ts w a->a.length<w.length->P (.lst^a.map AJ) n
def Je(j:Nat):W2:=λe n P=>∃(A:Net) (c:q_ AX) (u:AX) (m:Nat),e=[.sh^.lst^c.map AJ,.sh^AJ u,.sh^.int (m:Int)]/\m<=j/\tiesAre A c/\okN A/\A.ps.length<=6/\u.a∈A.ps/\u.b∈A.ps/\∀d,bS m d->P d n
def L8:W2:=λd n P=>∃(N:Net) (a:q_ AX) (t b:Int) (m k:Nat),d=[.sh^enc N,.sh^Dx t b,.sh^.int (m:Int),.sh^enc #[N.ps,a],.sh^.int (k:Int)]/\okN N/\N.ps.length<=6/\thn N a/\EW t b/\1<=m/\m<=2/\k<3/\∀c:q_ D,Il N c->P (.tup c) n
def XD:W2:=λc n P=>∃(N:Net) (t b:Int) (m:Nat) (a:q_ AX),c=[.sh^enc N,.sh^Dx t b,.sh^.int (m:Int),.sh^enc^AV N t b m a]/\okN N/\EW t b/\b<=t/\1<=m/\m<=2/\a.Perm N.ts/\P (.bl o_) n
def NS:W2:=λe n P=>∃(N:Net) (t b:Int) (m:Nat),e=[.fd,.sh^enc N,.sh^Dx t b,.sh^.int (m:Int)]/\okN N/\EW t b/\1<=m/\m<=2/\100<=n/\∀(a:q_ AX) (c:q_ Net) (d:Nat),a.Perm N.ts->CM a->2<=c.length->c.length<=5->(∀M∈c,Bj N M)->n - 100<=d->P (.lst^(AV N t b m a::c).map enc) d
def aT(a:W2):AW:=(CU (HL^Ah^Au a^AI (AQ^Au IQ^AI (AQ^AH 0)^AI (AQ^FS^AL (AH 6) Ab) Ay)^AI (AQ^AH 1)^AI (AQ^AH 2)^AI (AQ^Ao Kp (AH 3)^wC^D.int 1)^AI (AQ^AH 7) Ay) (Bo^wC^D.bl p_) Bm)
def aK(a:PX):AW:=(BE (Cq 7^Au K7^AI (AQ^AH 3)^AI (AQ^AH 1)^AI (AQ^AH 6)^AI (AQ^AH 2)^AI (AQ^Ao CA (AH 4)^AH 5) Ay)
 (CU (Ah^Ao (HE o_) (AH 7)^wC D.non) (λb=>(Na "NoPaper" ["word","number"]^AL (AH 7)^AL (AH 5) Ab) b a) Bm))
def Gm(a:PX):AW:=(BE (CU (LD (HL^Ah^Au XB^AI (AQ^AH 0)^AI (AQ^AH 3) Ay)^HL^Ah^Au Jd^AI (AQ^Ea Ln^AL (Ao CA (AH 0)^wC^D.int 1) Ab)^AI (AQ^AH 4) Ay) (λb=>(Na "NoPaper" ["word","number"]^AL (wC^D.str "shape")^AL (wC^D.int 0) Ab) b a) Bm)
 (BE (F5 (WW^Au OZ^AI (AQ^Ao CA (AH 0)^wC^D.int 1) Ay) (D8 2^Ai (AU 5)^Ai (AU 6) CN)^aK a)
 (Bo^wC^D.bl o_)))
def cj:AW:=(LF 2 "list" al^AL (DF [P3 3,P3 4,n_] (Bb^AH 0) (AU 2) (Eb (Ah^Ao (Ph p_) (Ao CA (AH 2)^wC^D.int 0)^Ea TR^AL (AH 0)^AL (AH 1) Ab)^Ah^Ao (Ph p_) (Ao CA (AH 2)^wC^D.int 1)^Ea TV^AL (AH 0)^AL (AH 1) Ab)^AH 2) Ab)
def cm(a:W2):AW:=(LF 4 "list" FV^AL (Au a^AI (AQ^DF [P3 5,n_] (Bb^AH 0) (AU 1) (Ah^Ao M_ (AH 1)^AH 0)^AH 1)^AI (AQ^AH 1)^AI (AQ^Ao Kp (AH 2)^wC^D.int 1) Ay) Ab)
def aI:AW:=(BE (Cq 10^Au Hr^AI (D_^As 6)^AI (AQ^AH 1)^AI (AQ^AH 8)^AI (AQ^AH 2) Ay)
 (BE (Cq 10^bi (Ah^Ao (HE p_) (AH 10)^wC D.non) (FS Ab)^AH 10)
 (BE (Cq 11^DF [P3 10,n_] (Bb^As 6) (AU 1) (Ah^Ao (NB o_) (AH 1)^AH 0)^AH 1)
 (BE (LF 5 "list" FV^AL (Dv^AL (wC^D.str "in")^AL (Ea BM^AL (Ea Ds^AL (AH 10) Ab) Ab)^AL (Au Oc^AI (AQ^AH 0)^AI (D_^AH 11)^AI (AQ^Ao CA (AH 8)^wC^D.int 0)^AI (AQ^Ao (bz RG λi j=>D.int (i ^ j.toNat)) (wC^D.int 10)^wC^D.int 31) Ay) Ab) Ab)
 (LF 6 "list" FV^AL (AH 8) Ab)))))
def aJ:AW:=(di 6 9 5 (Ao CA (FS^AL (AH 6)^AL (Ea Lm^AL (Ao CA (AH 3)^wC^D.int 1) Ab)^AL (Oi Fx (AH 7) Bs^DD^dh "list" ah (AH 7)^AL (AH 8) Ab) Ab)^AH 4) (AL (Dv^AL (wC^D.str "out")^AL (Au (Je 2)^AI (AQ^AH 9)^AI (AQ^AH 8)^AI (AQ^AH 2) Ay) Ab) Ab)
 WY)
def Sz:AW:=(BE (CU (Ah^Ao (NB o_) (AH 8)^Ao CA (AH 3)^wC^D.int 1) aJ Bm)
 aI)
def aR:AW:=(CU (LD (Ah^Ao (NC o_) (AH 10)^AH 9)^HL^Ah^Au IR^AI (AQ^Ao CQ (AH 9)^AH 10)^AI (AQ^AH 1)^AI (AQ^Ao CQ (AH 8)^AH 10) Ay) (Bo^wC^D.bl p_) Bm)
def Wz:AW:=(BE (Cq 8^RW^Au Gr^AI (D_^AH 5)^AI (AQ^AH 7) Ay)
 (BE (Cq 9^RW^Au Gr^AI (D_^AH 6)^AI (AQ^AH 7) Ay)
 (F5 (WS^AH 8) (AU 10) aR)))
def YY:AW:=(BE (Cq 5^DF [P3 4,n_] (Bb^Ao CA (AH 0)^wC^D.int 1) (AU 1) (Ah^Ao (NB o_) (AH 1)^AH 0)^AH 1)
 (BE (Cq 6^DF [P3 4,n_] (Bb^Ao CA (AH 3)^wC^D.int 1) (AU 1) (Ah^Ao (NB o_) (AH 1)^AH 0)^AH 1)
 (F5 (Bb^Ao CA (AH 0)^wC^D.int 0) (AU 7) Wz)))
def Ro:AW:=(BE (CU (Ah^Ao M_ (Ao CA (Ao CA (As 4)^wC^D.int 0)^wC^D.int 1)^Dv Ab) (BE (Cq 6^Au Hq^AI (Dw 0)^AI (AQ^Ea Ln^AL (Ao CA (Ao CA (As 4)^wC^D.int 0)^wC^D.int 1) Ab) Ay)
 (LF 4 "list" FV^AL (Dv^AL (Ao CA (AH 1)^wC^D.int 0)^AL (Ao Bw (Oi Fx (Ao CA (Ao CA (As 4)^wC^D.int 0)^wC^D.int 1) Bs^DD^AH 6)^Oi Fx (Ao CA (Ao CA (As 4)^wC^D.int 0)^wC^D.int 1) (DD^Ao Bw (AH 6)^wC^D.int 1) Bs) Ab) Ab)) Bm)
 (ME 4))
def Wd:AW:=(BE (Cq 5^DF [P3 4,n_] (Bb^Ao CA (AH 1)^wC^D.int 1) (AU 1) (Ah^Ao (NB o_) (AH 1)^Ao CA (Ao CA (As 0)^wC^D.int 0)^wC^D.int 1)^AH 1)
 (BE (CU (Ah^Ao M_ (AH 5)^FS Ab) (LF 4 "list" FV^AL (Dv^AL (Ao CA (AH 1)^wC^D.int 0)^AL (Ea BM^AL (Ea Ds^AL (Ao Bw (Ao CA (Ao CA (As 4)^wC^D.int 0)^wC^D.int 1)^Dv^AL (Ao CA (AH 5)^Au Hq^AI (Dw 0)^AI (AQ^Ea Ln^AL (AH 5) Ab) Ay) Ab) Ab) Ab) Ab) Ab) Bm)
 Ro))
def YK:AW:=(BE (Cq 11^Au Od^AI (AQ^AH 2)^AI (AQ^AH 3)^AI (AQ^AH 4)^AI (AQ^AH 7)^AI (AQ^AH 10) Ay)
 (CU (LD (Ah^Ao Vr (AH 11)^wC^D.str "other")^Eb (Ah^Ao (HE p_) (AH 11)^wC D.non)^Ah^Ao M_ (AH 7)^Ao CA (As 5)^wC^D.int 0) (Bo^wC^D.bl p_) Bm))
def Ss:AW:=(BE (Cq 11^Au Od^AI (AQ^AH 2)^AI (AQ^AH 3)^AI (AQ^AH 4)^AI (AQ^AH 7)^AI (AQ^Au L8^AI (AQ^AH 2)^AI (AQ^AH 3)^AI (AQ^AH 4)^AI (AQ^AH 7)^AI (AQ^AH 13) Ay) Ay)
 (CU (LD (Ah^Ao Vr (AH 11)^wC^D.str "other")^Eb (Ah^Ao (HE p_) (AH 11)^wC D.non)^Ah^Ao M_ (AH 7)^Ao CA (As 5)^wC^D.int 0) (Bo^wC^D.bl p_) Bm))
def aH:AW:=(LF 5 "list" FV^AL (Dv^AL (Ao CA (AH 2)^wC^D.int 0)^AL (Ea BM^AL (DF [P3 12,n_] (Bb^Ao CA (Ao CA (As 5)^wC^D.int 0)^wC^D.int 1) (AU 1) (Ah^Ao M_ (AH 1)^AH 0)^AH 1) Ab) Ab) Ab)
def VY:AW:=(BE (J9 5 (AU 7)^F5 (Bb^FS^AL (wC^D.int 1)^AL (wC^D.int 2) Ab) (AU 13) Ss)
 (Bo^wC^D.bl o_))
def YM:AW:=(BE (F5 (Bb^Ao CA (Ao CA (As 5)^wC^D.int 0)^wC^D.int 1) (AU 12) aH)
 VY)
def aO:AW:=(BE (J9 6 (AU 10)^J9 5 (AU 7) YK)
 YM)
def YN:AW:=(BE (CU (HL^Ah^Au XD^AI (AQ^AH 2)^AI (AQ^AH 3)^AI (AQ^AH 4)^AI (AQ^Ao CA (As 5)^wC^D.int 0) Ay) (Bo^wC^D.bl p_) Bm)
 aO)
def YO:AW:=(BE (F5 (RU^AL (wC^D.int 3) Ab) (AU 9)^LF 6 "list" FV^AL (Au (UT 6)^AI (Dw 1)^AI (AQ^Ao CA (As 6)^AH 9)^AI (AQ^Ao CA (AH 2)^wC^D.int 0)^AI (AQ^wC^D.int 6) Ay) Ab)
 YN)
def S2:AW:=(BE (Cq 8^Au Hq^AI (Dw 1)^AI (AQ^Ao Bw (Ea Ln^AL (Ao CA (AH 2)^wC^D.int 1) Ab)^wC^D.int 1) Ay)
 (BE (LF 6 "list" FV^AL (Ao Bw (Oi Fx (Ao CA (As 6)^wC^D.int 0) Bs^DD^AH 8)^Oi Fx (Ao CA (As 6)^wC^D.int 2) (DD^AH 8) Bs) Ab)
 YO))
def Wx:AW:=(BE (J9 5 (AU 7)^LF 6 "list" FV^AL (Au L8^AI (AQ^AH 2)^AI (AQ^AH 3)^AI (AQ^AH 4)^AI (AQ^AH 7)^AI (AQ^wC^D.int 0) Ay) Ab)
 S2)
def S3:AW:=(BE (MD 5^Au NS^AI (Dw 1)^AI (AQ^AH 2)^AI (AQ^AH 3)^AI (AQ^AH 4) Ay)
 (BE (MD 6^FS^AL (Au NT^AI (AQ^AH 2)^AI (AQ^AH 3)^AI (AQ^AH 4) Ay) Ab)
 Wx))
def Wy:AW:=(BE (Cq 3^Au US^AI (Dw 1) Ay)
 (BE (Cq 4^Ao Bw (wC^D.int 1)^Au Hq^AI (Dw 1)^AI (AQ^wC^D.int 2) Ay)
 S3))
theorem DA{N:Net}{t b:Int}{m:Nat}:∀{c a:q_ AX},(∀u∈a,u∈CP N t b m a c)/\∀u∈CP N t b m a c,u∈a\/u∈c
 |[],a=>#[λu h=>h,λu h=>.inl h]
 | v::r,a=>by
  rw[EN]
  split
  .exact#[DA.1,λu h=>(DA.2 u h).imp id^Sc _]
  .refine#[λu h=>DA.1 u^gP _ h,λu h=>?_]
   rcases DA.2 u h with h|h
   .rcases ZB.mp h with h|h
    .exact .inl h
    .exact .inr (Op.mp h▸Re)
   .exact .inr^Sc _ h
def RQ{N:Net}(b:okN N){a c:Str}{w:q_ Str}(h:Way N a c^P3 w):w.length<=N.ps.length:=by
 let#[d,r,rfl,e,f,g,_,i]:=h;exact IV (Mu b.1 f e g.2) i
def T8{N:Net}(ok:N.Ok)(g:N.ps.length<=6){w:q_ Str}(h:w.length<=N.ps.length)(e:∀x∈w,x∈N.ps){m:Nat}{bs:q_ D}(bl:bs.length<=5)(b:∀d∈bs,bS m d):bS (m+1)^.tup [Df w,.tup bs]:=by
 let#[f,i,j]:=Ov ok e;have z:By bs<=(70*6 ^ m+1)*bs.length:=Ef λd a=>by have:=(b d a).2.2.1;lk
 have k:=Nat.mul_le_mul_left (70*6 ^ m+1) bl;have l:FP bs<=2*m+2:=dps_le.mpr λd a=>(b d a).2.2.2;exists .t _ λx c=>?_,#[f,CK λd a=>(b d a).2.1,trivial],?_
 .simp only[Tk,fH,or_false]at c
  rcases c with rfl|rfl
  .exact MM
  .exact .t _ λd a=>(b d a).1
 .show Cr^Df w+1+(By bs+1+0)<=70*6 ^ (m+1)
  rw[Nat.pow_succ]
  have:1<=6 ^ m:=Nat.one_le_pow _ _^by cbv
  lk
 .show max (Fz^Df w)^max (FP bs+1) 0+1<=2*(m+1)+2
  lk
def Pw{N:Net}(ok:N.Ok)(f:N.ps.length<=6){w:q_ Str}(g:w.length<=N.ps.length)(b:∀x∈w,x∈N.ps):bS 0^.tup [Df w,.tup []]:=by
 let#[c,h,i]:=Ov ok b;exists .t _ λx a=>?_,#[c,trivial,trivial],?_
 .simp only[Tk,fH,or_false]at a
  rcases a with rfl|rfl
  .exact MM
  .exact .t _ λd e=>nomatch e
 .show Cr^Df w+1+(0+1+0)<=70
  lk
 .show max (Fz^Df w)^max 1 0+1<=2
  lk
def Oy{m:Nat}(b:m<=2){d:D}(h:bS m d):Ek^.tup [.str "out",d]:=by
 let#[e,f,g,i]:=h;exists .t _ λx a=>?_,#[by show ∀c∈cs "out",c<1114112;decide +kernel,f,trivial],?_
 .simp only[Tk,fH,or_false]at a
  rcases a with rfl|rfl
  .exact .s _
  .exact e
 .have:6 ^ m<=6 ^ 2:=Nat.pow_le_pow_right (by cbv) b
  show 3+1+(Cr d+1+0)<=2600;lk
 .show max 0^max (Fz d) 0+1<=8
  lk
def R6{A:Net}(ok:A.Ok)(p:A.ps.length<=6){S:q_ AX}(k:∀v∈S,v∈A.ts)(q:S.length<=2){l:q_ Int}(m:∀i∈l,0<=i/\i<=10 ^ 33)(r:l.length=A.ps.length):Ek^.tup [.str "in",.tup^S.map AJ,.tup^l.map .int]:=by
 let#[n,u,w]:=Vd m
 have g:∀d∈S.map AJ,RC d/\fine (10 ^ 34) d/\Cr d+1<=220/\Fz d<=1:=λd e=>by
  let#[v,o,rfl]:=TM.mp e;let#[h,j,y,B]:=Fl ok v^k v o;refine#[.t _ λx f=>?_,#[(CZ h).1.mono^by cbv,(CZ j).1.mono^by cbv,by show v.len.natAbs<=10 ^ 34;lk,trivial],?_,Rs _]
  .simp only[Tk,fH,or_false]at f
   rcases f with rfl|rfl|rfl
   .exact .s _
   .exact .s _
   .exact .i _
  .show v.a.length+1+(v.b.length+1+(200+1+0))+1<=220
   have:=h.2.1
   have:=j.2.1
   lk
 have z:By^S.map AJ<=220*(S.map AJ).length:=Ef λd e=>(g d e).2.2.1;rw[FM]at z;have C:FP^S.map AJ<=1:=dps_le.mpr λd e=>(g d e).2.2.2;exists .t _ λx f=>?_,#[by show ∀c∈cs "in",c<1114112;decide +kernel,CK λd e=>(g d e).2.1,n,trivial],?_
 .simp only[Tk,fH,or_false]at f
  rcases f with rfl|rfl|rfl
  .exact .s _
  .exact .t _ λd e=>(g d e).1
  .exact Rf
 .show 2+1+(By^S.map AJ+1+(Cr^.tup^l.map .int+1+0))<=2600
  lk
 .show max 0^max (FP^S.map AJ+1)^max (Fz^.tup^l.map .int) 0+1<=8
  lk
def FH{N:Net}(c:N.ts.length<=25){a:q_ D}(e:a.length<=25)(h:∀r∈a,Ek r):RC^.tup a/\fine (10 ^ 34)^.tup a/\Cr^.tup a<=65025/\Fz^.tup a<=9:=by
 have z:By a<=2601*a.length:=Ef λd b=>by have:=(h d b).2.2.1;lk
 have f:FP a<=8:=dps_le.mpr λd b=>(h d b).2.2.2;exact#[.t _ λd b=>(h d b).1,CK λd b=>(h d b).2.1,by show By a<=65025;lk,by show FP a+1<=9;lk]
theorem Oh{N:Net}(ok:N.Ok):∀{r:q_ Str}{x:Str}{d:Int},walk N (x::r) d->x∈N.ps->∀y∈x::r,y∈N.ps
 |[],_,_,_,b,y,a=>Op.mp a▸b
 |_::_,_,_,#[_,_,c,f,_],b,y,a=>(Tk.mp a).elim (λe=>e▸b) λa=>Oh ok f (c.ins ok) y a
def NZ(A:Net)(t b:Int)(u:AX)(y:D):Ug A t b u y=.non\/∃w,Ug A t b u y=.str w:=by
 unfold Ug
 split
 .split
  .exact .inl rfl
  .exact .inr #[_,rfl]
 .exact .inr #[_,rfl]
def Ue{A:Net}(ok:A.Ok){t b:Int}{u:AX}{y:D}(h:Ug A t b u y=.non):∃r l,y=Df (u.a::r)/\(u.a::r).getLast?=P3 u.b/\walk A (u.a::r) l/\l*b<=u.len*t/\∀x∈u.a::r,x∈A.ps:=by
 unfold Ug at h
 split at h
 .rename_i l c
  split at h
  .rename_i f
   have c:(match Ju A y with|.int l=>if((Jg y).head?==P3 u.a&&(Jg y).getLast?==P3 u.b)=o_ then D.int l else .non|_=>.non)=.int l:=c
   rcases G9 A y with e|⟨x,r,n,rfl,e⟩
   .rw[e]at c;cases c
   .rw [e]at c
    have j:Jg^Df (x::r)=x::r:=Rv _;rw[j]at c;have c:(if((x::r).head?==P3 u.a&&(x::r).getLast?==P3 u.b)=o_ then D.int n else .non)=.int l:=c
    split at c
    .rename_i o
     cases c;let#[p,q]:=(fN _ _▸o:_/\_);obtain rfl:x=u.a:=fG^eq_of_beq p
     have g:Ju A^Df (u.a::r)=if u.a∈A.ps then Nm^D5 A.ts u.a r 0 else .non:=by
      show(if((u.a::r).map D.str).all Ct then OG A^strsOf^(u.a::r).map D.str else D.non)=_;rw[all_strs,if_pos rfl,show strsOf^(u.a::r).map D.str=u.a::r from j];rfl
     rw[g]at e
     split at e
     .rename_i s
      cases i:D5 A.ts u.a r 0 with
      |none=>rw[i]at e;cases e
      |some k=>
       rw[i]at e;obtain rfl:k=l:=by injection e
       let#[d,m,v]:=Ka ok i;obtain rfl:d=k:=by lk
       exact#[r,d,rfl,eq_of_beq q,m,f,Oh ok m s]
     .cases e
    .cases c
  .cases h
 .cases h
def Ti{done a:q_ AX}{u v:AX}(nd:(done++u::a).Nodup)(d:CM (done++u::a))(b:v∈done++u::a):v∈done↔BF (Bk v)^Bk u=o_:=by
 let#[_,j,f]:=gX.mp nd;let#[_,g,i]:=ku.mp d;constructor
 .intro c
  cases e:BF (Bk v)^Bk u with
  |true=>rfl
  |false=>exact absurd (MV^B3 _ _ e^i v c u Re)^f v c u Re
 .intro h
  rcases ZB.mp b with b|b
  .exact b
  .rcases Tk.mp b with rfl|b
   .rw[B_]at h;cases h
   .rw[(gR.mp g).1 v b]at h;cases h
def bB{N:Net}{g a:q_ AX}{t b:Int}{m:Nat}(i:okN N)(p:thn N g)(l:a.Perm N.ts)(w:CM a)(k:∀u∈a,(u∈g↔¬J5 (Ja #[N.ps,g] u) t b u m)):g=(AV N t b m a).ts:=by
 have x:a.Nodup:=l.nodup_iff.mpr^A9 i.1.trise
 have y:∀(f done d:q_ AX),done++f=a->(∀v,v∈d↔v∈done/\v∈g)->∀v,v∈CP N t b m d f↔v∈a/\v∈g:=by
  intro f
  induction f with
  |nil=>intro done d e j v;rw[fh]at e;subst e;exact j v
  | cons u f q=>
   intro done d e j v;have r:u∈a:=by rw[←e];exact fR _ Re
   have A:sub N d=Ja #[N.ps,g] u:=by
    show(#[N.ps,_]:Net)=#[N.ps,g.filter _]
    congr 1
    rw[Ib i p,lQ];refine hV λv n=>?_;have B:v∈a:=l.mem_iff.mpr n;subst e;rw[gf,fN,decide_eq_true_eq,decide_eq_true_eq,j v,Ti x w B]
   rw[EN,A];have s:(done++[u])++f=a:=by rw[gF];exact e
   split
   .rename_i c
    have o:u∉g:=λz=>(k u r).mp z^hldB_iff.mp c;refine q (done++[u]) d s (λv=>?_) v;rw[j v,ZB,Op];exact#[λh=>#[.inl h.1,h.2],λh=>h.1.elim (λz=>#[z,h.2]) λz=>absurd (z▸h.2) o]
   .rename_i c
    have o:u∈g:=(k u r).mpr λz=>c^hldB_iff.mpr z;refine q (done++[u]) (d++[u]) s (λv=>?_) v;rw[ZB,ZB,j v,Op];exact#[λh=>h.elim (λz=>#[.inl z.1,z.2]) λz=>#[.inr z,z▸o],λh=>h.1.elim (λz=>.inl #[z,h.2]) .inr]
 have j:=y a [] [] rfl (λv=>#[(λz=>absurd z fH),(λz=>absurd z.1 fH)]);rw[Ib i p];refine hV λv n=>?_;rw[decide_eq_decide,j v];exact#[λh=>#[l.mem_iff.mpr n,h],And.right]
def Iz{w:Str}{k:Nat}(a:w="shape"\/w="word"\/w="in"\/w="out")(b:k<=1000):Dg^.tup [.str w,.int (k:Int)]:=by
 have h:fine (10 ^ 40)^.str w/\w.length<=10:=by rcases a with rfl|rfl|rfl|rfl <;>exact#[by show ∀c∈cs _,c<1114112;decide +kernel,by cbv]
 refine#[#[h.1,by show(k:Int).natAbs<=10 ^ 40;lk,trivial],?_,by show 1<=50;decide];show w.length+1+(200+1+0)<=160000;lk
def tiesAre.drop{A:Net}{a:q_ AX}(h:tiesAre A a)(v:AX):tiesAre (Ck A v) (a.filter λx=>decide (x≠v)):=#[λx=>by
 show x∈a.filter _↔x∈A.ts.filter _;rw[gS,gS,h.1 x],h.2.1.filter _,fJ (gv _ _) h.2.2]
def Rg{d:D}(h:RC d):flat d=o_:=by
 have c:∀{a:q_ D},(∀x∈a,flat x=o_)->JJ a=o_:=λ{a}=>by
  induction a with
  |nil=>intro _;rfl
  |cons x a b=>
   intro h;show(flat x&&JJ a)=o_;rw[h x Re,b λy e=>h y^Sc _ e];rfl
 induction h with
 |n=>rfl
 |s x=>rfl
 |i k=>rfl
 |t a h b=>exact c b
section
def PP{a:q_ AX}{v:AX}:(a.map AJ).filter (λd=>!Cu d (AJ v))=(a.filter λx=>decide (x≠v)).map AJ:=by
 rw[jb]
 congr 1
 refine hV λx _=>?_
 have:=Gp (ts:=[x]) (t:=v)
 show(!Cu (AJ x) (AJ v))=_;rw[decide_not,←show decide (v∈[x])=decide (x=v)from decide_eq_decide.mpr #[λh=>(Op.mp h).symm,λh=>Op.mpr h.symm],←this];show _=!(Cu (AJ x)^AJ v||false);rw[Bool.or_false]
end
theorem Ft{N:Net}{t b:Int}{m:Nat}:∀{a kept:q_ AX}{u:AX},u∈a->u∈CP N t b m kept a\/∃d,(∀v∈d,v∈CP N t b m kept a)/\J5 (sub N d) t b u m
 | v::r,kept,u,h=>by
  rw[EN]
  rcases Tk.mp h with rfl|h
  .split
   .rename_i c
    exact .inr #[kept,DA.1,hldB_iff.mp c]
   .exact .inl^DA.1 u^fR _ Re
  .split
   .exact Ft h
   .exact Ft h
def MS{N:Net}(c:okN N){t b:Int}{m:Nat}(p:1<=b)(q:b<=t){a:q_ AX}(r:a.Perm N.ts){S:q_ AX}(s:S.length<=m){x y:Str}{d:Int}(w:Wk (minus N S) x y d):∃n,Wk (minus (AV N t b m a) S) x y n/\n*b<=d*t:=by
 have f:=BX c S;have g:=BX (N:=AV N t b m a) (Ce c _) S
 have i:∀v,v∈(minus (AV N t b m a) S).ts↔(v∈N.ts/\v∈CP N t b m [] a)/\v∉S:=λv=>by
  rw[minus_mem];exact and_congr_left λ_=>sub_mem
 have o:thn (minus N S) (minus (AV N t b m a) S).ts:=#[λv j=>minus_mem.mpr #[((i v).mp j).1.1,((i v).mp j).2],g.1.trise];refine Ud f o (t:=t) (b:=b) (λu k=>?_) w;let#[k,z]:=minus_mem.mp k
 rcases Ft (N:=N) (t:=t) (b:=b) (m:=m) (kept:=[])^r.mem_iff.mpr k with h|⟨J,A,B⟩
 .exact Sn f o q p^(i u).mpr #[#[k,h],z]
 .let#[d,C,l]:=B S s
  let#[e,D,E]:=GV g.1 _ d (Rs _) (C.1.mono λv j=>by
   let#[F,G]:=minus_mem.mp j;let#[H,I]:=sub_mem.mp F;exact(i v).mpr #[#[H,A v I],G])
  exact#[e,D,lA (VS E^by lk) l]
def TZ(N:Net):Cu (enc N)^enc N=o_:=by
 have b:Cu (.tup^N.ps.map .str)^.tup^N.ps.map .str=o_:=eqD_strs.mpr rfl
 have c:∀S:q_ AX,jS (BD^S.map AJ)^BD^S.map AJ=o_:=λS=>by
  induction S with
  |nil=>rfl
  |cons x a d=>
   show(Cu (AJ x)^AJ x&&jS (BD^a.map AJ)^BD^a.map AJ)=o_;rw[d,GY];rfl
 show(Cu (.tup^N.ps.map .str)^.tup^N.ps.map .str&&(jS (BD^N.ts.map AJ)^BD^N.ts.map AJ&&o_))=o_;rw[b,c];rfl
abbrev D0:E2:={nx:=λ_ _=>False,rt:=λd _=>d=.bl o_}
def DJ{N M:Net}(h:Bj N M):enc M=enc #[N.ps,M.ts]:=by rw[←h.1]
def EC{N:Net}(a:N.ts.length<=25){b:q_ D}(h:Il N b):Dg^.tup b:=by
 let#[_,c,d,e]:=FH a (by rw[h.1];exact a) h.2;exact#[(FL (by cbv) _).1 _ (Rs _) c,by lk,by lk]
def Kb:CD^.str "other":=Br (B:=10 ^ 40) (by cbv) (by show ∀c∈cs "other",c<1114112;decide +kernel)^by cbv
section
variable {N:Net}{t b:Int}{m:Nat}{ord:q_ AX}{n:Nat}
def L4(c:ord.Perm N.ts)(d:CM ord){M:Net}(e:Bj N M)(a:UX N M.ts t b m):enc M=enc^AV N t b m ord:=by
 rw[DJ e,a ord c d];rfl
def Gy{h:E2}{M:Net}{r:D}{c:q_ Slot}(d:okN N)(x:Bj N M)(p:(r=.non/\enc M=enc^AV N t b m ord)\/(∃(w:Str) (k:Int),r=.tup [.str w,.int k]/\Dg r)){ds:q_ D}(q:c[7]?=P3^.sh^enc M)(f:c[11]?=P3^.sh r){a:Db}(s:c[5]?=P3^.lt a^.lst ds)(u:ds[0]?=P3^enc^AV N t b m ord)(i:h.nx n c):
  CU (LD (Ah^Ao Vr (AH 11)^wC^D.str "other")^Eb (Ah^Ao (HE p_) (AH 11)^wC D.non)^Ah^Ao M_ (AH 7)^Ao CA (As 5)^wC^D.int 0) (Bo^wC^D.bl p_) Bm h n c:=by
 have g:okN^AV N t b m ord:=Ce d _;unfold CU LD Eb Ah Ao AH As wC;rw[f]
 rcases p with⟨rfl,e⟩|⟨w,k,rfl,v⟩
 .exists Br (B:=10 ^ 40) (by cbv) trivial (by cbv),Kb,rfl
  rw[q]
  dsimp only
  rw[s];exists _,AF (j:=0) u;rw[e];have l:=Rq g;have o:CD^enc^AV N t b m ord:=Br (B:=1000001) (by cbv) l.1 (by have:=l.2.2;lk);exists o,o;show if(!Cu (enc^AV N t b m ord) (enc^AV N t b m ord))=o_ then _ else _
  rw[TZ];exact BJ i
 .exact#[OH v,Kb,rfl,BJ i]
def au(g:okN N)(H:N.ps.length<=6)(u:N.ts.length<=25)(A:EW t b)(I:1<=m)(B:m<=2)(J:ord.Perm N.ts)(K:CM ord){l:q_ Net}(v:∀M∈AV N t b m ord::l,Bj N M){C j E F o d p f:Slot}:
  VY D0 n [.no,.fd,.sh^enc N,.sh^Dx t b,.sh^.int (m:Int),.ow^.lst^(AV N t b m ord::l).map enc,C,j,E,F,o,d,p,f]:=by
 unfold VY;refine#[_,rfl,λa=>?_]
 have O:∀(e:q_ Net) (q:E2) (j d f:Slot),(∀M∈e,Bj N M)->(∀j d f,q.nx n [.no,.fd,.sh^enc N,.sh^Dx t b,.sh^.int (m:Int),.lt a^.lst^(AV N t b m ord::l).map enc,C,j,E,F,o,d,p,f])->
   Ae (AU 7) (F5 (Bb^FS^AL (wC^D.int 1)^AL (wC^D.int 2) Ab) (AU 13) Ss) q (e.map enc) n [.no,.fd,.sh^enc N,.sh^Dx t b,.sh^.int (m:Int),.lt a^.lst^(AV N t b m ord::l).map enc,C,j,E,F,o,d,p,f]:=by
  intro e
  induction e with
  |nil=>intro q j d f _ h;exact h _ _ _
  | cons M e P=>
   intro q j d f L h;have i:=L M Re;have next:=λj d f=>P q j d f (λx Q=>L x^Sc _ Q) h
   have z:∀d:Slot,Ae (AU 13) Ss {q with nx:=Ae (AU 7) (F5 (Bb^FS^AL (wC^D.int 1)^AL (wC^D.int 2) Ab) (AU 13) Ss) q^e.map enc,ct:=Ae (AU 7) (F5 (Bb^FS^AL (wC^D.int 1)^AL (wC^D.int 2) Ab) (AU 13) Ss) q^e.map enc,bk:=q.nx} [.int 2] n [.no,.fd,.sh^enc N,.sh^Dx t b,.sh^.int (m:Int),.lt a^.lst^(AV N t b m ord::l).map enc,C,.sh^enc M,E,F,o,d,p,.sh^.int 1]:=λd=>by
    refine#[N,M.ts,t,b,m,2,by rw[DJ i];rfl,g,H,i.2,A,I,B,by cbv,λR r=>?_];refine#[N,M.ts,t,b,m,_,by rw[DJ i],g,by lk,i.2,A,B,EC u r,λs=>?_,λw k G=>?_]
    .dsimp only
     refine Gy (ds:=(AV N t b m ord::l).map enc) (t:=t) (b:=b) (m:=m) (ord:=ord) g i (.inl #[rfl,L4 J K i s]) rfl rfl rfl rfl ?_;exact next _ _ _
    .dsimp only
     refine Gy (ds:=(AV N t b m ord::l).map enc) (t:=t) (b:=b) (m:=m) (ord:=ord) g i (.inr #[w,k,rfl,G]) rfl rfl rfl rfl ?_;exact next _ _ _
   refine#[z2,N,M.ts,t,b,m,1,by rw[DJ i];rfl,g,H,i.2,A,I,B,by cbv,λR r=>?_];refine#[N,M.ts,t,b,m,_,by rw[DJ i],g,by lk,i.2,A,B,EC u r,λs=>?_,λw k G=>?_]
   .dsimp only
    refine Gy (ds:=(AV N t b m ord::l).map enc) (t:=t) (b:=b) (m:=m) (ord:=ord) g i (.inl #[rfl,L4 J K i s]) rfl rfl rfl rfl ?_;exact z _
   .dsimp only
    refine Gy (ds:=(AV N t b m ord::l).map enc) (t:=t) (b:=b) (m:=m) (ord:=ord) g i (.inr #[w,k,rfl,G]) rfl rfl rfl rfl ?_;exact z _
 exact O _ _ _ _ _ v λj d f=>#[rfl,rfl]
def aG(f:okN N)(G:N.ps.length<=6)(w:N.ts.length<=25)(H:EW t b)(I:1<=m)(J:m<=2)(K:ord.Perm N.ts)(L:CM ord){g:q_ Net}(V:g.length<=5)(o:∀M∈g,Bj N M){A B C D p q i r:Slot}:
  YM D0 n [.no,.fd,.sh^enc N,.sh^Dx t b,.sh^.int (m:Int),.ow^.lst^(AV N t b m ord::g).map enc,A,B,C,D,p,q,i,r]:=by
 have O:=PySem.sizeLine_eq;have k:Bj N^AV N t b m ord:=#[rfl,C9 f _];have W:(AV N t b m ord).ts.length<=60:=(Ce f _).2.2;unfold YM;exists _,AF (j:=0) rfl,_,AF (j:=1) rfl
 have P:∀(a:q_ AX) (g:q_ Net) (i:Slot),(∀v∈a,v∈(AV N t b m ord).ts)->g.length+a.length<=65->(∀M∈g,Bj N M)->
   Ae (AU 12) aH {D0 with nx:=VY D0} (a.map AJ) n [.no,.fd,.sh^enc N,.sh^Dx t b,.sh^.int (m:Int),.ow^.lst^(AV N t b m ord::g).map enc,A,B,C,D,p,q,i,r]:=by
  intro a
  induction a with
  |nil=>intro g i _ _ y;exact au f G w H I J K L λM h=>(Tk.mp h).elim (λe=>e▸k)^y M
  | cons v a Q=>
   intro g i E R y;rw[fF]at R;have z:=E v Re;refine#[_,rfl,rfl,_,AF (j:=0) rfl,_,AF (j:=0) rfl,_,AF (j:=1) rfl,by show((AV N t b m ord).ts.map AJ).length<=10000000;rw[FM];lk,?_];refine BY (λd=>!Cu d (AJ v)) id (λF=>∃s,F=[.sh^AJ v,s]) _ _ _ _ ?_ #[_,rfl] ?_
   .rintro d S F m nx X ⟨s,rfl⟩ T U
    let#[x,u,rfl]:=TM.mp S;exact#[Bt f.1^k.2.1 x u,Bt f.1^k.2.1 v z,Ba (λc=>T _ #[_,rfl] c) λc=>U _ #[_,rfl]^fj.mpr c]
   rw[fW,iT,PP];exists z2,_,_,rfl,rfl,by rw[FM,fF];lk
   have:=Q (g++[#[N.ps,(AV N t b m ord).ts.filter λx=>decide (x≠v)]]) (.sh^AJ v) (λx u=>E x^Sc _ u) (by rw[XV,fS];lk) λM h=>(ZB.mp h).elim (y M) λh=>by rw[Op.mp h];exact#[rfl,λx u=>k.2.1 x (gS.mp u).1,k.2.2.filter _]
   rw[←mE,fg]at this;exact this
 exact P _ g _ (λ_ h=>h) (by lk) o
def aN(o:okN N)(U:N.ps.length<=6)(C:N.ts.length<=25)(E:EW t b)(V:b<=t)(P:1<=m)(F:m<=2)(G:ord.Perm N.ts)(Q:CM ord){r:q_ Net}(W:r.length<=5)(s:∀M∈r,Bj N M){u:q_ D}(X:∀d∈u,Dg d){g v y i c p q:Slot}:
  YN D0 n [.no,.fd,.sh^enc N,.sh^Dx t b,.sh^.int (m:Int),.ow^.lst^(AV N t b m ord::r).map enc,.ow^.lst u,g,v,y,i,c,p,q]:=by
 have H:Bj N^AV N t b m ord:=#[rfl,C9 o _];unfold YN;refine#[_,AF (j:=0) rfl,N,t,b,m,ord,rfl,o,E,V,P,F,G,BJ ?_];unfold aO;refine#[_,rfl,λa=>?_]
 have Y:∀(l:q_ D) (z:E2) (g i c:Slot),(∀d∈l,Dg d)->(∀g i c,z.nx n [.no,.fd,.sh^enc N,.sh^Dx t b,.sh^.int (m:Int),.ow^.lst^(AV N t b m ord::r).map enc,.lt a^.lst u,g,v,y,i,c,p,q])->
   Ae (AU 10) (J9 5 (AU 7) YK) z l n [.no,.fd,.sh^enc N,.sh^Dx t b,.sh^.int (m:Int),.ow^.lst^(AV N t b m ord::r).map enc,.lt a^.lst u,g,v,y,i,c,p,q]:=by
  intro l
  induction l with
  |nil=>intro z g i c _ h;exact h _ _ _
  | cons d l Z=>
   intro z g i c R h;have I:=R d Re;refine#[_,rfl,λS=>?_]
   have J:∀(f:q_ Net) (A:E2) (g c:Slot),(∀M∈f,Bj N M)->(∀g c,A.nx n [.no,.fd,.sh^enc N,.sh^Dx t b,.sh^.int (m:Int),.lt S^.lst^(AV N t b m ord::r).map enc,.lt a^.lst u,g,v,y,.sh d,c,p,q])->
     Ae (AU 7) YK A (f.map enc) n [.no,.fd,.sh^enc N,.sh^Dx t b,.sh^.int (m:Int),.lt S^.lst^(AV N t b m ord::r).map enc,.lt a^.lst u,g,v,y,.sh d,c,p,q]:=by
    intro f
    induction f with
    |nil=>intro A g c _ h;exact h _ _
    | cons M f K=>
     intro A g c T h;have B:=T M Re;have next:=λg c=>K A g c (λx L=>T x^Sc _ L) h;refine#[N,M.ts,t,b,m,d,by rw[DJ B],o,by lk,B.2,E,F,I,λO=>?_,λw k hf=>?_]
     .dsimp only
      refine Gy (ds:=(AV N t b m ord::r).map enc) (t:=t) (b:=b) (m:=m) (ord:=ord) o B (.inl #[rfl,L4 G Q B O]) rfl rfl rfl rfl ?_;exact next _ _
     .dsimp only
      refine Gy (ds:=(AV N t b m ord::r).map enc) (t:=t) (b:=b) (m:=m) (ord:=ord) o B (.inr #[w,k,rfl,hf]) rfl rfl rfl rfl ?_;exact next _ _
   refine J _ _ _ _ (λM h=>(Tk.mp h).elim (λe=>e▸H)^s M) λg c=>#[rfl,?_];exact Z z _ _ _ (λx L=>R x^Sc _ L) h
 exact Y _ _ _ _ _ X λg i c=>#[rfl,aG o U C E P F G Q W s]
end
def E_{d e:D}(a:Cr d<=65025)(b:Fz d<=9)(f:fine (10 ^ 35) e)(s:Cr e<=2*Cr d+500)(p:Fz e<=Fz d+3):Dg e:=#[(FL (by cbv) _).1 _ (Rs _) f,by lk,by lk]
end Nt
namespace K43
open L2 Dp Nt
section
variable (P:Program)(w:World)(K:Frag)(mg:Str->r_ Value)(base:Heap)
abbrev IA:Prop:=ZE P w K mg base "lets_breaking" 9 ["net","times","many","thin","paper"] .sh WI
abbrev Jc:Prop:=ZF P w K mg base "_law_refused" 1 ["_law_e"] .sh Yz
end
def eB{d:f_}{b:q_ Str}{n:Nat}(c:∀f:Nat->Ev,bindArgs d #[(fo n).map f,[]]=pure^b.zip^(fo n).map f)(a:q_ Ev)(h:a.length=n):bindArgs d #[a,[]]=pure^b.zip a:=by
 have e:a=(fo n).map λi=>a.getD i .none:=by
  apply List.ext_getElem <;>simp_all
 rw[e];exact c _
local macro_rules|`(tactic|walk_at "L")=>`(tactic|(intro _ _ _ h;repeat (first|(obtain⟨e,_⟩:=h;subst e;rfl)|(obtain⟨_,h⟩:=h))))
local macro_rules|`(tactic|walk_at "B")=>`(tactic|(intro _ _ _ _ _ _;exact eB λ_=>rfl))
def Ht(K:Frag)(x:Str)(st:gJ):Prop:=∃(f:Db) (b:Ev) (c d:r_ Db) (e:Array^r_ Ev) (kV g h a i:Ev),nsIn K mainGlobals x=P3^P3^.ref f/\K.lookup f=P3 #[b,c,.func^fnOf x x (Bv st) (A7 st) (AK st) .none kV g h d a i,e]/\codeIn K a x=o_/\keepIn K^.ref f=o_
def Hn(K:Frag)(x:Str):Prop:=nsIn K mainGlobals x=P3 n_
def Ht.mk{K:Frag}{x:Str}{st:gJ}{f:Db}{d:Ev}{e g:r_ Db}{h:Array^r_ Ev}{kV i j b m:Ev}(a:nsIn K mainGlobals x=P3^P3^.ref f)(l:K.lookup f=P3 #[d,e,.func^fnOf x x (Bv st) (A7 st) (AK st) .none kV i j g b m,h])(c:codeIn K b x=o_)(k:keepIn K^.ref f=o_):Ht K x st:=#[f,d,e,g,h,kV,i,j,b,m,a,l,c,k]
def Hn.mk{K:Frag}{x:Str}(a:nsIn K mainGlobals x=P3 n_):Hn K x:=a
def xc_mk{K:Frag}{i q k:Str}{C U N l:Db}{bs c sub a:q_ Ev}{m d:q_ Str}{n e f:Bool}{g b:r_ Bool}{p h:r_ Db}{r s t v w x y z A B:r_ Ev}(at_:nsIn K mainGlobals i=P3^P3^.ref C)(j:nsIn K mainGlobals "ThinError"=P3^P3^.ref U)
  (o:K.lookup C=P3^excClassObj i q C N bs (.ref U::[.type "ValueError",.type "Exception",.type "BaseException",.type "object"]) o_ m sub n g p r s t v w "ValueError.__new__")
  (u:K.lookup U=P3^excClassObj "ThinError" k U l c [.type "ValueError",.type "Exception",.type "BaseException",.type "object"] f d a e b h x y z A B "ValueError.__new__")
  (D:keepIn K^.ref C=o_) (E:PySem.W.findIn K (.ref C) "__getattribute__"=P3^P3^.builtin "BaseException.__getattribute__") (F:PySem.W.findIn K (.ref C) "__getattr__"=P3 n_) (G:PySem.W.findIn K (.ref C) "__setattr__"=P3^P3^.builtin "object.__setattr__") (H:PySem.W.findIn K (.ref C) "__class__"=P3^P3^.builtin "object.__class__")
  (I:PySem.W.findIn K (.ref C) "word"=P3 n_) (J:PySem.W.findIn K (.ref C) "number"=P3 n_) (L:PySem.W.findIn K (.ref C) "row"=P3 n_):XC K i C U:=
 #[#[q,N,bs,m,sub,n,g,p,r,s,t,v,w,o],#[k,l,c,d,a,e,b,h,x,y,z,A,B,f,u],D,E,F,G,at_,j,H,I,J,L]
def Hx(K:Frag)(a:Str):Prop:=∃C U,XC K a C U
def Hx.mk{K:Frag}{a:Str}{C U:Db}(c:XC K a C U):Hx K a:=#[C,U,c]
def H2(K:Frag)(c a:Str)(st:gJ):Prop:=∃C U,XC K c C U/\∃(f:Db) (d:Ev) (e g:r_ Db) (h:Array^r_ Ev) (kV i j b k:Ev),PySem.W.findIn K (.ref C) "__init__"=P3^P3^.ref f/\PySem.W.typeIn K^.ref f=P3^.type "function"/\K.lookup f=P3 #[d,e,.func^fnOf "__init__" a (Bv st) (A7 st) (AK st) .none kV i j g b k,h]/\codeIn K b a=o_/\keepIn K^.ref f=o_
def H2.mk{K:Frag}{d a:Str}{st:gJ}{C U f:Db}{e:Ev}{g h:r_ Db}{j:Array^r_ Ev}{kV m n b o:Ev}(c:XC K d C U)(i:PySem.W.findIn K (.ref C) "__init__"=P3^P3^.ref f)(ty:PySem.W.typeIn K^.ref f=P3^.type "function")
  (l:K.lookup f=P3 #[e,g,.func^fnOf "__init__" a (Bv st) (A7 st) (AK st) .none kV m n h b o,j]) (p:codeIn K b a=o_) (k:keepIn K^.ref f=o_):H2 K d a st:=#[C,U,c,f,e,g,h,j,kV,m,n,b,o,i,ty,l,p,k]
structure C0 (K:Frag) (mg:Str->Option Ev) (h:fO):Prop where
 X:K.In h
 G:h.Ns mainGlobals mg
 h00:Ht K "is_whole" (top 10)
 h01:Ht K "is_tuple_of" (top 11)
 h02:Ht K "is_rising" (top 12)
 h03:Ht K "rank_of" (top 13)
 h04:Ht K "order_of" (top 14)
 h05:Ht K "steps_of" Fo
 h06:Ht K "only" (top 16)
 h07:Ht K "is_tie_of" (top 17)
 h08:Ht K "is_thin" (top 18)
 h09:Ht K "ahead_of" (top 19)
 h0a:Ht K "without" (top 20)
 h0b:Ht K "length_of" (top 22)
 h0c:Ht K "length_between" (top 23)
 h0d:Ht K "ties_over" (top 24)
 h0e:Ht K "nearest_of" (top 25)
 h0f:Ht K "least_ways" (top 26)
 h0g:Ht K "way_of" (top 27)
 h0h:Ht K "are_prices" (top 29)
 h0i:Ht K "price_gap" (top 30)
 h0j:Ht K "is_fair" (top 31)
 h0k:Ht K "prices_from" (top 32)
 h0l:Ht K "is_within" (top 34)
 h0m:Ht K "least_beyond" (top 35)
 h0n:Ht K "near_way" (top 36)
 h0o:Ht K "way_fault" (top 38)
 h0p:Ht K "prices_fault" (top 39)
 h0q:Ht K "are_broken" (top 41)
 h0r:Ht K "shows_in" (top 42)
 h0s:Ht K "is_bush" KL
 h0t:Ht K "breaking_fault" (top 44)
 h0u:Ht K "lets_breaking" ES
 h0v:Ht K "broken_of" HN
 h0w:Ht K "steady_thinned" (top 48)
 h0x:Ht K "bush_of" KO
 h0y:Ht K "breaking_entry" (top 50)
 h0z:Ht K "breaking_paper" (top 51)
 h10:Ht K "_law_feed" Ej
 h11:Ht K "_law_next" Dk
 h12:Ht K "_law_names" (top 55)
 h13:Ht K "_law_length" (top 56)
 h14:Ht K "_law_net" (top 57)
 h15:Ht K "_law_order" (top 58)
 h16:Ht K "_law_lengths" (top 59)
 h17:Ht K "_law_within" (top 60)
 h18:Ht K "_law_way" (top 61)
 h19:Ht K "_law_refused" Ei
 h1a:Ht K "_law_breaks" (top 63)
 h1b:Ht K "_law_breaking" (top 64)
 h1c:Ht K "_law_dense" (top 65)
 h1d:Ht K "_law_broad" (top 66)
 h1e:Ht K "_law_step_ties" (top 67)
 h1f:Ht K "_law_prices" (top 68)
 h1g:Ht K "_law_bush" HP
 h1h:Ht K "_law_own_paper" (top 70)
 h1i:Ht K "_law_odd" (top 71)
 h1j:Ht K "_law_bent" HQ
 h1k:Ht K "_law_let" (top 73)
 h1l:Ht K "_law_is_so" (top 74)
 h1m:Ht K "_law_thins" (top 75)
 h1n:Ht K "law" Ik
 z0:Hn K "ValueError"
 z1:Hn K "abs"
 z2:Hn K "all"
 z3:Hn K "bool"
 z4:Hn K "enumerate"
 z5:Hn K "int"
 z6:Hn K "isinstance"
 z7:Hn K "len"
 z8:Hn K "list"
 z9:Hn K "max"
 z10:Hn K "min"
 z11:Hn K "range"
 z12:Hn K "reversed"
 z13:Hn K "sorted"
 z14:Hn K "str"
 z15:Hn K "tuple"
 z16:Hn K "zip"
 y0:H2 K "NoPaper" "NoPaper.__init__" CF
 y1:Hx K "NoLine"
 y2:Hx K "TooMany"
 y3:Hx K "Twice"
 y4:Hx K "NoPlace"
 y5:Hx K "NoTie"
 y6:Hx K "NoRow"
def Ctx(P:fT)(w:fY)(K:Frag)(b:Str->r_ Ev)(a h:fO):Prop:=C0 K b h
abbrev Ctx.Y{P:fT}{w:fY}{K:Frag}{b:Str->r_ Ev}{a h:fO}(A:Ctx P w K b a h)(x:Str)(k:Nat)(c:q_ Str)(d:Kd)(W:W2):Prop:=Got P w K b a x k c d W
section
variable {P:Program}{w:World}{K:Frag}{mg:Str->r_ Value}{h base:Heap}{x:Str}{st:Stmt}
def Ht.fn(X:K.In h)(G:h.Ns mainGlobals mg)(H:Ht K x st):∃f fd,mg x=P3^.ref f/\Fun K x x st f fd:=by
 let#[f,b,d,e,g,i,j,m,n,o,a,l,c,k]:=H;exact#[f,_,mg_of X G a,OL (st:=st) l c k]
def Hx.xm{a:Str}(X:K.In h)(G:h.Ns mainGlobals mg)(H:Hx K a):∃C U,XC K a C U/\mg a=P3^.ref C:=let #[C,U,c]:=H;#[C,U,c,mg_of X G c.at_]
def H2.u{b a:Str}(X:K.In h)(G:h.Ns mainGlobals mg)(H:H2 K b a st):∃U,ZP K U/\mg "ThinError"=P3^.ref U/\nsIn K mainGlobals "ThinError"=P3^P3^.ref U:=let #[C,U,c,_]:=H;#[U,c.isU,mg_of X G c.atU,c.atU]
def H2.hx{b a:Str}(H:H2 K b a st):Hx K b:=let #[C,U,c,_]:=H;#[C,U,c]
def C0.T(A:C0 K mg h):Txt K mg:=#[mg_none_of A.X A.G A.z0,mg_none_of A.X A.G A.z1,mg_none_of A.X A.G A.z2,mg_none_of A.X A.G A.z3,mg_none_of A.X A.G A.z4,mg_none_of A.X A.G A.z5,mg_none_of A.X A.G A.z6,mg_none_of A.X A.G A.z7,mg_none_of A.X A.G A.z8,mg_none_of A.X A.G A.z9,mg_none_of A.X A.G A.z10,mg_none_of A.X A.G A.z11,mg_none_of A.X A.G A.z12,mg_none_of A.X A.G A.z13,mg_none_of A.X A.G A.z14,mg_none_of A.X A.G A.z15,mg_none_of A.X A.G A.z16,A.y0.hx.xm A.X A.G,A.y1.xm A.X A.G,A.y2.xm A.X A.G,A.y3.xm A.X A.G,A.y4.xm A.X A.G,A.y5.xm A.X A.G,A.y6.xm A.X A.G,A.y0.u A.X A.G]
def Ctx.got{k:Nat}{a:q_ Str}{e:Kd}{W:W2}(A:Ctx P w K mg base h)(H:Ht K x st)
  (ok:∀{f:Db}{fd:f_},Txt K mg->Fun K x x st f fd->mg x=P3^.ref f->Binds K fd a []->B8 P w K mg base EU k f fd a^QC K e W a.length)
  (j:∀g n P,W g n P->g.length=a.length:=by walk_at "L") (i:∀(kV b l:Ev) (o:r_ Db) (c p:Ev) (d:q_ Ev),d.length=a.length->bindArgs (fnOf x x (Bv st) (A7 st) (AK st) .none kV b l o c p) #[d,[]]=pure^a.zip d:=by walk_at "B"):Got P w K mg base x k a e W:=by
 let#[f,fd,m,F]:=H.fn A.X A.G;exact#[f,fd,ok A.T F m^F.binds i,m,F.kp,F.binds i,j]
def Ctx.gk{k:Nat}{b:q_ Str}{e:Kd}{W:W2}{l:AW}(A:Ctx P w K mg base h)(H:Ht K x st)(N:q_ Str)
  (m:∀{f:Db}{a:Ev}{A:fb}{c:q_ Env}{s:No}{H:Hp}{E:XK},Txt K mg->N.Nodup->Room k^A.deeper^envOfC x (AK st) s.heap.objs.size f a->J7 (DX EU P w K mg base N x (AK st) f a A c s H E).nox e (A7 st) l)
  (o:∀{d n Pd},W d n Pd->l {nx:=λn _=>e=.sh/\Pd .non n,rt:=Pd} n (d++gK (N.length - b.length) .no)) (S:A5 N b^AK st:=by constructor <;>first|rfl|decide +kernel) (g:b.length<=N.length:=by cbv) (p:∀d n P,W d n P->d.length=b.length:=by walk_at "L") (q:∀(kV i r:Ev) (t:r_ Db) (a u:Ev) (j:q_ Ev),j.length=b.length->bindArgs (fnOf x x (Bv st) (A7 st) (AK st) .none kV i r t a u) #[j,[]]=pure^b.zip j:=by walk_at "B"):Got P w K mg base x (k+1) b e W:=
 A.got H (λT F _ _=>d_ F S (m T S.nd) o g) p q
def Ctx.gotH{k:Nat}{a:q_ Str}{e:Kd}{W:W2}(A:Ctx P w K mg base h)(H:Ht K x st)
  (ok:∀{f:Db}{fd:f_},Txt K mg->Fun K x x st f fd->NW P w K mg base k f fd a^QC K e W a.length)
  (i:∀g n P,W g n P->g.length=a.length:=by walk_at "L") (j:∀(kV b l:Ev) (o:r_ Db) (c p:Ev) (d:q_ Ev),d.length=a.length->bindArgs (fnOf x x (Bv st) (A7 st) (AK st) .none kV b l o c p) #[d,[]]=pure^a.zip d:=by walk_at "B"):ZF P w K mg base x k a e W:=by
 let#[f,fd,m,F]:=H.fn A.X A.G;exact#[f,fd,ok A.T F,m,F.kp,F.binds j,i]
def Ctx.gotR{k:Nat}{a:q_ Str}{e:Kd}{W:WX}(A:Ctx P w K mg base h)(H:Ht K x st)
  (ok:∀{f:Db}{fd:f_},Txt K mg->Fun K x x st f fd->B8 P w K mg base (RF P w) k f fd a^cZ K e W a.length) (i:∀g n P j,W g n P j->g.length=a.length) (l:∀(kV b o:Ev) (p:r_ Db) (c q:Ev) (d:q_ Ev),d.length=a.length->bindArgs (fnOf x x (Bv st) (A7 st) (AK st) .none kV b o p c q) #[d,[]]=pure^a.zip d:=by walk_at "B"):ZE P w K mg base x k a e W:=by
 let#[f,fd,m,F]:=H.fn A.X A.G;exact#[f,fd,ok A.T F,m,F.kp,F.binds l,i]
end
section
variable {P:Program}{w:World}{K:Frag}{mg:Str->r_ Value}{base:Heap}
variable {f:Addr}{fd:FuncData}
def Hs:A5 ["self","word","number"] ["self","word","number"]^AK CF:=by constructor <;>first|rfl|decide +kernel
def Hy{f C U:Db}{fd:f_}(c:XC K "NoPaper" C U)(F:Fun K "__init__" "NoPaper.__init__" CF f fd):B8 P w K mg base EU 1 f fd ["self","word","number"]^Ig C "word" "number":=by
 refine F.ok Hs (λj H Q E h=>by let#[a,b,g,rfl,_]:=h;rfl) λk A i s H j Q E o h=>?_;let#[a,b,g,rfl,l,m]:=h;exists _,A6 (Z9 c c.nw (pv 0) (pv 1) rfl)^Cf (Z8 c c.nn (pv 0) (pv 2) rfl);refine#[b,rfl,V.ref a,rfl,a,rfl,l,λd n e=>#[g,rfl,V.ref a,rfl,a,d,[(("word":Str),b)],rfl,AR,?_,(by cbv:1<1000),?_]]
 .rw[AM e,AR]
 .rw[show EZ "number" g [(("word":Str),b)]=[(("word":Str),b),(("number":Str),g)]from by unfold EZ;rw[if_neg^by cbv];rfl]
  exact m d n e
def OK{P:fT}{w:fY}{K:Frag}{mg:Str->r_ Ev}{h base:fO}(A:Ctx P w K mg base h):bd P w K mg base "NoPaper" ["word","number"] 1:=by
 have H:=A.y0;let#[C,U,c,f,b,d,e,g,j,m,n,o,p,i,ty,l,a,k]:=H;have F:=OL (st:=CF) l a k;exact#[C,U,c,mg_of A.X A.G c.at_,.inr #[_,_,f,_,_,_,_,rfl,i,ty,Hy c F,F.binds^by walk_at "B"]]
variable {h:Heap}(A:Ctx P w K mg base h)
include A
def HU:A.Y "is_whole" 1 ["thing"] .sh Yx:=A.got A.h00 (λT F m b=>d9 F ["thing"] (λ_ a=>(AD^AN^EQ (Dt PZ (dv 0) rfl T.Gaa rfl T.Gam (by decide +kernel))^E7^Ts (Dt S4 (dv 0) rfl T.Gaa rfl T.Gap (by decide +kernel)))) (@λc n e h=>by
 let#[d,rfl,q]:=h.out;cases d <;>exact q)) λ_ _ _ h=>QG h
def BK:A.Y "is_tuple_of" 1 ["count","thing"] .sh Jd:=A.gk A.h01 ["count","thing"] (λT _ a=>(AD^AN^EQ (Dt kit_tuple (dv 1) rfl T.Gaa rfl T.Gab (by decide +kernel))^E7^Du Ci FD (OO T.Gac^dv 1) (dv 0)^B0 _)) (@λb n c h=>by
 let#[k,d,rfl,h]:=h;cases d with
 |tup e=>exact#[_,_,rfl,rfl,h]
 |_=>exact h)
def GJ:A.Y "is_rising" 1 ["things"] .sh P4:=A.gk A.h02 ["things"] (λT _ b=>(AD^AN (Av (D7 rfl) K6 rfl T.Gaf iQ (AT (Jf ["ahead","behind"] [n_,n_] (Pn rfl T.Gaj (AT (dv 0)^AT (CS EX CT (dv 0) (BH AB) BO) Ac)) (λa=>Qy^Ad (Bx 0 a)^Ad (Bx 1 a) Bu) BP^Du (Eu b) Ho (dv 0) (dv 1)^B0 _) Ac)))) LO
def Fq:A.Y "rank_of" 1 ["tie"] .sh bN:=A.gk A.h03 ["tie"] (λ_ _ a=>(AD^AN^Aa^AA (A1 (dv 0) AB)^AA (A1 (dv 0) AB)^AA (A1 (dv 0) AB) AG)) (@λb n c h=>by
 let#[x,y,z,rfl,p]:=h;exact#[_,AF rfl,_,AF rfl,_,AF rfl,z3,p])
def Ex:A.Y "order_of" 4 ["ties"] .fr OZ:=A.gk A.h04 ["ties"] (λT _ e=>(AD^AN (Tr (Fq A) (e.mono^by cbv) rfl T.Gad rfl (dv 0)))) (@λC n D h=>by
 let#[d,i,rfl,j,b,p]:=h;refine#[i.map AJ,MX,j,by rw[FM];exact b,λx a Q k=>?_,#[λx a=>?_,λx a y l m o q r=>?_],λs v z=>?_]
 .let#[t,_,rfl]:=TM.mp a
  exact#[_,_,_,rfl,k]
 .let#[t,_,rfl]:=TM.mp a
  exact#[Bk t,rfl,g_ _ _]
 .let#[t,_,rfl]:=TM.mp a
  let#[u,_,rfl]:=TM.mp l;cases(show P3^Bk t=P3 m from q);cases(show P3^Bk u=P3 o from r);rfl
 .let#[c,B,rfl]:=KC (g:=Tp) (λ_=>rfl) v
  exact p c B^Sf z)
omit A in
def mr:A5 ["net","steps","place","a","b","length"] ["net"]^AK Fo:=#[rfl,rfl,rfl,by decide +kernel,rfl,by decide +kernel,by decide +kernel]
omit A in
def eh{f:Db}{fd:f_}(F:Fun K "steps_of" "steps_of" Fo f fd):B8 P w K mg base EU 1 f fd ["net"]^QC K .sh UP 1:=by
 refine F.ok (k:=0) mr (λvs H Q E h=>h.1) λcdv A outer s H vs Q E hr h=>?_;let#[hl,F0,U,V',M,n,ss,Pd,ra,#[N,rfl,ok,lp,lt,p],q]:=h;let#[dom,fU,uV,vM,fd0,pa]:=ra;cases pa with
 |cons r1 pa=>
 cases pa;let#[v,e1,h1]:=r1.1;cases e1;let#[an,vs,rfl,hn,v1,r,rfl,hp,v2,r2,rfl,ht,e2]:=h1;cases(show r2=[]from e2);let#[ap,us,rfl,hpn,hps]:=hp;let#[at_,ws,rfl,htn,hts]:=ht;have nd:=mr.nd;have hu:=JH hr;have szl:=PySem.sizeLine_eq;have lus:us.length=N.ps.length:=by rw[hps.length,FM]
 have lws:ws.length=N.ts.length:=by rw[hts.length,FM]
 refine#[_,A6 (ED (i:=1) nd rfl (f9 rfl) Mb)
  (A6 (G3 fP rfl (SU^ET ix_tup (pv 0) A0 λ_ _=>rfl) (GC (i:=2) nd rfl (f9 rfl)) (Cf (IG hu (pv 1) (pv 2) Mb rfl)))
  (A6 (G3 fP rfl (SU^ET ix_tup (pv 0) A0 λ_ _=>rfl) (SW rfl (GB (GC (i:=3) nd rfl (f9 rfl))^GB (GC (i:=4) nd rfl (f9 rfl))^GB (GC (i:=5) nd rfl (f9 rfl)) PB))
   (A6 (IG hu (LU hu (pv 1) (pv 3) λ_ _=>rfl) (pv 4) (pv 5) rfl)^Cf (IG hu (LU hu (pv 1) (pv 4) λ_ _=>rfl) (pv 3) (pv 5) rfl)))
  (Cf^Fp^Sa^pv 1))),?_]
 refine λd hd=>?_;have old0:∀b o,H b=P3 o->Ar H d (.dK []) b=P3 o:=λb o e=>by rw[AM^An e hd];exact e
 have SqN:∀H':Hp,(∀b o,H b=P3 o->H' b=P3 o)->SqT K H' an [.ref ap,.ref at_]:=λH' o=>SqT.of^o _ _ hn;have SqP:∀H':Hp,(∀b o,H b=P3 o->H' b=P3 o)->SqT K H' ap us:=λH' o=>SqT.of^o _ _ hpn;have SqW:∀H':Hp,(∀b o,H b=P3 o->H' b=P3 o)->SqT K H' at_ ws:=λH' o=>SqT.of^o _ _ htn;refine#[_,rfl,an,_,0,_,rfl,rfl,SqN _ old0,rfl,ap,rfl,#[_,SqP _ old0],?_];refine Pc (xs:=us) (λi Z H'=>∃(as:q_ (Str×Db)) (x2 x3 x4 x5:r_ V),Z=[P3^.ref an,P3^.ref d,x2,x3,x4,x5]/\as.map (·.1)=N.ps.take i/\Stp H d as (λ_=>[]) H') ?_ (λi Z H' hi #[as,x2,x3,x4,x5,e,hm,st]=>SqP _ st.old) ?_ ?_
 .exact#[[],_,_,_,_,rfl,rfl,old0,hd,AR,(λx hx=>by cases hx),gL,gL]
 .rintro i x Z H' hx ⟨as,x2,x3,x4,x5,rfl,hm,st⟩
  have hi:i<N.ps.length:=by rw[←lus];exact(eq.mp hx).1
  let#[x',hx',hAt]:=hps.get (i:=i) (d:=.str N.ps[i]) (by rw[fK,On hi];rfl);rw[hx]at hx';cases hx';let#[rfl,_]:=hAt;intro q hq;have las:as.length<=i:=by have:=congrArg jw hm;rw[FM,im]at this;lk
  have nq:d≠q:=λe=>by rw[←e,st.top]at hq;cases hq
  have las2:(as.map λx=>((.inr x.1:Key),V.ref x.2)).length=as.length:=FM ..;refine#[_,rfl,_,rfl,d,_,rfl,DPut.k (k:=.inr N.ps[i]) (by rw[AM nq];exact st.top)^by lk,?_];refine#[as++[(N.ps[i],q)],_,_,_,_,rfl,?_,st.more hq ?_ rfl]
  .rw[fg,hm,List.take_succ,On hi];rfl
  .rw[hm];exact N9 (LN ok.rise) hi
 .rintro Z H' ⟨as,x2,x3,x4,x5,rfl,hm,st⟩
  rw[lus,l_]at hm;refine#[_,rfl,an,_,1,_,rfl,rfl,SqN _ st.old,rfl,at_,rfl,#[_,SqW _ st.old],?_];refine Pc (xs:=ws) (λi Z H'=>∃(x2 x3 x4 x5:r_ V),Z=[P3^.ref an,P3^.ref d,x2,x3,x4,x5]/\Stp H d as (λp=>(Dd (N.ts.take i) p).map kv) H') #[_,_,_,_,rfl,st] (λi Z H' hi #[x2,x3,x4,x5,e,st]=>SqW _ st.old) ?_ ?_
  .rintro i x Z H' hx ⟨x2,x3,x4,x5,rfl,st⟩
   have hi:i<N.ts.length:=by rw[←lws];exact(eq.mp hx).1
   let#[x',hx',hAt]:=hts.get (i:=i) (d:=AJ N.ts[i]) (by rw[fK,On hi];rfl);rw[hx]at hx';cases hx';have hmem:N.ts[i]∈N.ts:=f7 hi;have hsnoc:N.ts.take (i+1)=N.ts.take i++[N.ts[i]]:=by rw[List.take_succ,On hi];rfl
   have hpre:(N.ts.take (i+1)).Pairwise BZ:=ok.trise.sublist^List.take_sublist _ _;have hlt2:∀s∈N.ts.take (i+1),cs s.a<cs s.b:=λs hs=>(ok.tin s^k8 hs).2.2.1;rw[hsnoc]at hpre hlt2;have new:=Tb hpre hlt2;have ltk:(N.ts.take i).length<=1000:=by rw[im];lk
   generalize N.ts[i]=t at hAt hmem hsnoc new;generalize N.ts.take i=ts at hsnoc new st ltk;let#[m1,m2,m3,_]:=ok.tin t hmem;have hab:t.a≠t.b:=λe=>by rw[e]at m3;exact iP _ m3
   let#[ta,tb,tl]:=t;let#[tt,us3,rfl,htt,hit]:=hAt;let#[va,r3,rfl,#[rfl,_],vb,r4,rfl,#[rfl,_],vl,r5,rfl,rfl,e5]:=hit;cases(show r5=[]from e5);rw[←hm]at m1 m2;let#[#[xa,pa],ha,ea]:=TM.mp m1;let#[#[xb,pb],hb,eb]:=TM.mp m2;have ea':ta=xa:=ea.symm;have eb':tb=xb:=eb.symm;subst ea' eb';clear ea eb;replace hab:ta≠tb:=hab;replace new:tb∉(Dd ts ta).map (·.1)/\ta∉(Dd ts tb).map (·.1):=new;have ga:=DGet.k (k:=.inr ta) st.top;rw[IB st.nms ha]at ga;have l1:=PQ ts ta;refine#[tt,_,rfl,SqT.of^st.old _ _ htt,rfl,_,_,rfl,_,_,rfl,_,_,rfl,rfl,?_];refine#[_,rfl,_,rfl,_,rfl,d,_,rfl,ga,_,rfl,pa,_,rfl,DPut.k (k:=.inr tb) (st.inn _ ha).2.2 (by show((Dd ts ta).map kv).length<sizeLine;rw[FM];lk),?_];have st1:=st.put (tb2:=λp=>(Dd ts p++if ta=p then [(tb,tl)]else []).map kv) ha (kvs:=putK ((Dd ts ta).map kv) (.inr tb)^.int tl) (by rw[O6 new.1,if_pos rfl]) (λq hq=>by rw[if_neg^gE hq,fh]);have gb:=DGet.k (k:=.inr tb) st1.top;rw[IB st1.nms hb]at gb;have l2:=PQ ts tb;have ib:=(st1.inn _ hb).2.2;simp only[if_neg hab,fh]at ib;refine#[_,rfl,_,rfl,_,rfl,d,_,rfl,gb,_,rfl,pb,_,rfl,DPut.k (k:=.inr ta) ib (by rw[FM];lk),?_];refine#[_,_,_,_,rfl,st1.put hb ?_ λq hq=>?_]
   .show(Dd (N.ts.take (i+1)) tb).map kv=_
    rw[hsnoc,Ml,O6 new.2];show((Dd ts tb++((if ta=tb then [(tb,tl)]else [])++if tb=tb then [(ta,tl)]else [])).map kv)=_;rw[if_neg hab,if_pos rfl];rfl
   .show(Dd (N.ts.take (i+1)) q).map kv=_
    rw[hsnoc,Ml];show((Dd ts q++((if ta=q then [(tb,tl)]else [])++if tb=q then [(ta,tl)]else [])).map kv)=_;rw[if_neg^gE hq,fh]
  .rintro Z H' ⟨x2,x3,x4,x5,rfl,st⟩
   rw[lws,l_]at st
   have old:∀(f:Db->Obj) b o,H b=P3 o->FU H' (as.map (·.2)) f b=P3 o:=λf b o e=>by
    rw[DR λhm=>by let#[x,hx,e2]:=TM.mp hm;have:=(st.inn x hx).1;rw[e2,e]at this;cases this];exact st.old b o e
   refine#[_,rfl,(as.map fun(x:Str×Db)=>x.2),λb hb=>?_,λf=>q (.ref d) (FU H' (as.map fun(x:Str×Db)=>x.2) f) (EB N) n (λb o e=>#[o,old f b o e,λ_=>rfl,λ_ _=>rfl]) (λg hg=>?_) (show At K M (FU H' (as.map fun(x:Str×Db)=>x.2) f) (EB N)^.ref d from st.at_ dom hm f) p]
   .let#[x,hx,rfl]:=TM.mp hb
    exact#[_,(st.inn x hx).2.2]
   .let#[a,r,cells,hf,hcf,hc,rest]:=fd0 g hg
    exact#[a,r,cells,old f _ _ hf,hcf,#[hc.1,old f _ _ hc.2],rest]
def Ew:A.Y "steps_of" 1 ["net"] .sh UP:=A.got A.h05 λ_ F _ _=>eh F
def II:A.Y "only" 1 ["net","ties"] .sh Oa:=A.gk A.h06 ["net","ties"] (λT _ v=>(AD^AN^Aa^AA (A1 (dv 0) AB)^AA (OM T.Gab (Av B6 ER rfl T.Gad jI (AT (Cp 1) Ac))) AG)) (@λB n C h=>by
 let#[N,z,D,rfl,c,d,p]:=h;refine#[_,AF (j:=0) rfl,z,_,rfl,c,by simp_all,#[λx a=>?_,λx a y e i k l m=>?_],λo q r=>?_]
 .let#[t,_,rfl]:=TM.mp a
  exact#[Dq t,rfl,g_ _ _]
 .let#[t,_,rfl]:=TM.mp a
  let#[u,_,rfl]:=TM.mp e;cases(show P3^Dq t=P3 i from l);cases(show P3^Dq u=P3 k from m);rfl
 .let#[b,s,rfl]:=KC (g:=Tp) (λ_=>rfl) q
  exact#[z2,p b s^LW r])
def GI:A.Y "is_tie_of" 2 ["net","thing"] .sh dN:=A.gk A.h07 ["net","thing"] (λ_ _ k=>(AD^AN^EQ (Du (Si k) Fk (dv 1) (A1 (dv 0) AB)^by with_unfolding_all rfl)^E7^cg k (HU A)^BG (A1 (dv 1) AB) AE)) (@λx n B h=>by
 let#[N,d,rfl,ok,m,p]:=h;exists _,AF (j:=1) rfl,m,(BN ok λ_ h=>h).1,_,rfl;cases c:(N.ts.map AJ).any λy=>Cu y d with
 | false=>
  have:F8 N d=p_:=by
   rw[fj];intro z;let#[s,g,rfl]:=tofB_iff.mp z;rw[Gp,decide_eq_true g]at c;cases c
  rw[this]at p;exact p
 | true=>
  let#[e,o,q]:=kX.mp c;let#[s,g,rfl]:=TM.mp o;let#[z,rfl,r]:=Qw q;exists _,AF (j:=2) rfl,[z],rfl,rfl
  have:F8 N^.tup [.str s.a,.str s.b,z]=RP z:=by
   rw[gf,tofB_iff];constructor
   .rintro⟨t,_,e⟩
    have e:z=.int t.len:=by injection e with e;injection e with _ e;injection e with _ e;injection e
    rw[e];rfl
   .intro u
    cases z with
    |int i=>exact#[s,g,by rw[r i rfl];rfl]
    |_=>cases u
  rw[this]at p;exact p)
def N5:A.Y "is_thin" 3 ["net","thing"] .sh XB:=A.gk A.h08 ["net","thing"] (λT _ g=>(AC (Am (DTW.dt^Cy (Bg^A_^cg g (BK A)^BG AB^Ak 1 AE)^B4^Bg^A_ (Dt kit_tuple (A1 (dv 1) AB) rfl T.Gaa rfl T.Gab (by decide +kernel))) (AD^AN CC) AS)
 (AD^AN^EQ (Du (LX g) P1 (A1 (dv 1) AB) (A1 (dv 0) AB)^B0 _)^EQ (Av (D7 rfl) K6 rfl T.Gaf iQ (AT (Jf ["net","tie"] [P3 0,n_] (A4^A1 (dv 1) AB) (λC=>Bx 1 C) BP^cg g (GI A)^Ak 0^Ak 1 AE) Ac))^E7^cg g (GJ A)^BG (A1 (dv 1) AB) AE))) (@λQ n r h=>by
 let#[N,d,rfl,ok,R,S,u,D,E,p]:=h;exists 2,d,rfl;cases i:tupleOfB 2 d with
 |false=>
  rw[MN λp c e=>by rw[e]at i;cases i]at p;exact BS p
 | true=>
  let#[x,y,rfl]:=cM i;refine BJ #[_,AF (j:=1) rfl,?_];cases y with
  | tup c=>
   rw[←QA ok]at p;have F:fine (10 ^ 41) x:=u.1;have G:Fg (10 ^ 41) c:=u.2.1;have H:max (Fz x)^max (FP c+1) 0+1<=90:=E;have I:Cr x+1+(By c+1+0)<=200000:=D;refine BJ #[_,AF (j:=0) rfl,_,AF (j:=0) rfl,Br (B:=10 ^ 41) (by cbv) F^by lk,Ke ok.names,?_];refine OV (b1:=Cu x^.tup^N.ps.map .str) (b2:=c.all^F8 N&&WD c) (P:=r) (n:=n) (k:=λP=>_) (λ_ l=>?_) p;refine#[_,AF (j:=1) rfl,by show c.length<=10000000;have:=PU c;lk,?_];refine A8 (λd=>.bl^F8 N d) (λv=>∃s,v=[.sh^enc N,s]) _ _ _ _ ?_ #[_,rfl] ?_
   .rintro e z v m U ⟨s,rfl⟩ o
    have J:FP c<=88:=by lk
    exact#[N,e,rfl,ok,Br (B:=10 ^ 41) (by cbv) (fines_iff.mp G e z) (by have:=dps_le.mp J e z;lk),o _ #[_,rfl]]
   rw[fW];exists _,_,rfl,FA (F8 N) c;rw[OW];refine OV (b1:=c.all^F8 N) (b2:=WD c) (P:=r) (n:=n) (k:=λP=>_) (λq l=>?_) l;let#[L,rfl,M]:=Ic q
   have:=Mt L
   refine#[_,AF (j:=1) rfl,_,_,rfl,rfl,by rw[FM];lk,λa q b O=>?_,l];let#[s,_,rfl]:=TM.mp q;let#[t,_,rfl]:=TM.mp O;exact#[_,Lf s t]
  |_=>
   rw[MN λp c e=>by cases e]at p;exact BS p)
def HV:A.Y "ahead_of" 2 ["net","tie"] .sh NV:=A.gk A.h09 ["net","tie"] (λ_ _ b=>(AD^AN^cg b (II A)^Ak 0^AO (Cz^Jf ["tie","other"] [P3 1,n_] (A4^A1 (dv 0) AB) (λk=>Bx 1 k) (CL^Be (Eu b) Ho (cg b (Fq A)^Ak 1 AE)^cg b (Fq A)^Ak 0 AE)^dv 1) AE)) (@λD n E h=>by
 let#[M,u,rfl,a,p]:=h;have ok:=a.1;have o:=a.2.2;refine#[_,AF (j:=1) rfl,by show(M.ts.map AJ).length<=10000000;rw[FM];lk,?_];refine BY (λd=>match d with|.tup [.str x,.str y,.int l]=>BF [.inl l,.inr x,.inr y]^Bk u|_=>p_) id (λi=>∃s,i=[.sh^AJ u,s]) _ _ _ _ ?_ #[_,rfl] ?_
 .rintro d q i m F G ⟨s,rfl⟩ r t
  let#[v,H,rfl]:=TM.mp q;exists _,_,_,rfl,_,_,_,rfl,Bk v,Bk u,rfl,rfl,rfl;rw[Qk];show if BF (Bk v) (Bk u)=o_ then _ else _
  exact Ba (λc=>r _ #[_,rfl] c) λc=>t _ #[_,rfl]^fj.mpr c
 .rw[fW,iT]
  have e:(M.ts.map AJ).filter (λd=>match d with|.tup [.str x,.str y,.int l]=>BF [.inl l,.inr x,.inr y]^Bk u|_=>p_)=(M.ts.filter λv=>BF (Bk v)^Bk u).map AJ:=by
   rw[jb];rfl
  rw[e];have g:=IE a^jO (l:=M.ts) (p:=λv=>BF (Bk v)^Bk u);refine#[M,_,M.ts.filter λv=>BF (Bk v)^Bk u,rfl,rfl,by have:=gv (λv=>BF (Bk v)^Bk u) M.ts;lk,λz B C=>?_];rw[EA B C^DY g.2];exact p)
def DN:A.Y "without" 2 ["net","ties"] .sh IQ:=A.gk A.h0a ["net","ties"] (λ_ _ i=>(AD^AN^cg i (II A)^Ak 0^AO (Cz^Jf ["ties","tie"] [P3 1,n_] (A4^A1 (dv 0) AB) (λo=>Bx 1 o) (CL^Be (CV i) Fk (dv 1)^dv 0)^dv 1) AE)) (@λG n H h=>by
 let#[M,z,S,rfl,g,a,k,p]:=h;have ok:=a.1;have q:=a.2.2
 have r:CD z:=by
  cases z with
  |tup u=>cases g;exact(BN ok k).1
  |lst u=>cases g;exact(BN ok k).2
  |_=>cases g
 refine#[_,AF (j:=1) rfl,by show(M.ts.map AJ).length<=10000000;rw[FM];lk,?_];refine BY (λd=>!((S.map AJ).any λy=>Cu y d)) id (λl=>∃s,l=[.sh z,s]) _ _ _ _ ?_ #[_,rfl] ?_
 .rintro d v l m I J ⟨s,rfl⟩ x B
  let#[t,C,rfl]:=TM.mp v;exists Bt ok C,r,_,g;exact Ba (λc=>x _ #[_,rfl] c) λc=>B _ #[_,rfl]^fj.mpr c
 .rw[fW,iT]
  have e:(M.ts.map AJ).filter (λd=>!((S.map AJ).any λy=>Cu y d))=(minus M S).ts.map AJ:=by
   rw[jb]
   congr 1
   refine hV λt _=>?_;show(!((S.map AJ).any λy=>Cu y^AJ t))=decide (t∉S);rw[Gp,decide_not]
  rw[e];have b:=BX a S;refine#[M,_,(minus M S).ts,rfl,rfl,by have:=b.2.2;lk,λD E F=>?_];rw[Ih b.1 b.1.trise E F];exact p)
def GG:A.Y "length_of" 2 ["net","thing"] .sh dO:=A.gk A.h0b ["net","thing","steps","length","here","there"] (λT o b=>(AC (Am (DTW.dt^Cy (Bg^A_ (Dt kit_tuple (dv 1) rfl T.Gaa rfl T.Gab (by decide +kernel)))^B4^Be Ci FD (OO T.Gac^dv 1) AB) (AD^AN Ap) AS)
 (AC (Am (Bg^A_ (Av (D7 rfl) K6 rfl T.Gaf iQ (AT (Jf ["place"] [n_] (A4^dv 1) (λC=>Bx 0 C) BP (Dt PY (dv 0) rfl T.Gaa rfl T.Gao (by decide +kernel))) Ac))) (AD^AN Ap) AS)
 (AC (B5 2 o^cg b (Ew A)^Ak 0 AE)
 (AC (Am (Be (C_ b) D9 (A1 (dv 1) AB)^dv 2) (AD^AN Ap) AS)
 (AC (B5 3 o AB)
 (AC (BR fP rfl (OP rfl T.Gaj (AA (dv 1)^AA (CS EX CT (dv 1) (BH AB) BO) AG)) (Qy^Ad (Bx 4 o)^Ad (Bx 5 o) Bu) (AC (Am (Be (C_ b) D9 (dv 5)^BQ b (dv 2)^dv 4) (AD^AN Ap) AS)
 (AD (V0 (i:=3) o rfl (f9 rfl) (BQ b (BQ b (dv 2)^dv 4)^dv 5)))))
 (AD^AN^dv 3)))))))) (@λG n z E=>by
 let#[N,d,rfl,ok,H,lt,fd,p]:=E;cases d with
 | tup g=>
  have I:=C3 g;have J:By g<=160000:=fd.2.1;have k:z (if g.all Ct then OG N^strsOf g else .non) n:=p;exists _,_,rfl,rfl;show if((g.length:Int)==0)=o_ then _ else _
  cases g with
  |nil=>exact BS k
  | cons q t=>
   rw[show(((q::t).length:Int)==0)=p_ from beq_eq_false_iff_ne.mpr^by rw[fF];lk];refine BJ #[by lk,?_];refine A8 (λd=>.bl^Ct d) (λB=>∃s,B=[s]) _ _ _ _ ?_ #[_,rfl] ?_
   .rintro d L B m M ⟨s,rfl⟩ u
    have:=u [.sh d] #[_,rfl]
    cases d <;>exact this
   rw[fW];exists _,_,rfl,FA Ct (q::t);rw[OW];show if(!(q::t).all Ct)=o_ then _ else _
   cases v:(q::t).all Ct with
   |false=>rw[v]at k;exact BS k
   | true=>
    rw[v]at k;let#[F,e]:=Ie v;rw[e,DK]at k;cases F with
    |nil=>cases e
    | cons y r=>
     rw[gD]at e;cases e;refine BJ #[N,rfl,ok,by lk,by lk,?_];exists .str y,AF (j:=0) rfl,_,_,.inr y,rfl,rfl;show if(!(BA (N.ps.map .inr) (N.ps.map^Sq N.ts)^.inr y).isSome)=o_ then _ else _
     rw[LG];have a:z (if y∈N.ps then Nm^D5 N.ts y r 0 else .non) n:=k
     by_cases x:y∈N.ps
     .rw[if_pos x]at a ⊢
      refine BJ #[_,_,(y::r).map .str,r.map .str,rfl,rfl,by show P3^Dp.cutD (D.str y::r.map .str) (P3 1) n_=_;rw[T1];rfl,?_];refine Mq ok r y 0 _ _ x ?_;cases c:D5 N.ts y r 0 with
      |none=>rw[c]at a;exact a
      |some l=>rw[c]at a;exact λ_ _=>a
     .rw[if_neg x]at a ⊢
      exact BS a
 |_=>exact p)
def GH:A.Y "length_between" 3 ["net","a","b","thing"] .sh bQ:=A.gk A.h0c ["net","a","b","thing","length"] (λ_ m o=>(AC (B5 4 m^cg o (GG A)^Ak 0^Ak 3 AE)
 (AC (Am (DTW.dt^Cy (Be DM FC (dv 4) Ap)^Cy (Be Sh Yu (A1 (dv 3) AB)^dv 1)^B4^Be Sh Yu (A1 (dv 3)^Tt AB)^dv 2) (AD^AN Ap) AS)
 (AD^AN^dv 4)))) (@λu n q h=>by
 let#[M,a,b,d,rfl,c,s,p]:=h;exists M,d,rfl,c.1,by have:=c.2.1;lk,c.2.2,s;unfold ZK at p
 rcases G9 M d with e|⟨x,r,l,rfl,e⟩
 .rw[e]at p ⊢
  exact#[rfl,p]
 .rw[e]at p ⊢
  have t:Jg^Df (x::r)=x::r:=DK _;simp only[t]at p;obtain⟨y,g⟩:∃y,(x::r).getLast?=P3 y:=#[_,List.getLast?_eq_some_getLast^by simp];exists rfl,.str x,AF (j:=0) rfl;show if(!(x==a))=o_ then _ else _
  rw[g]at p;have p:q (if(P3 x==P3 a&&P3 y==P3 b)=o_ then .int l else .non) n:=p;rw[mW,mW]at p;cases i:x==a with
  |false=>rw[i]at p;exact BS p
  |true=>
   rw[i]at p;refine BJ #[1,rfl,.str y,VZ g,?_];show if(!(y==b))=o_ then _ else _
   cases k:y==b with
   |false=>rw[k]at p;exact BS p
   |true=>rw[k]at p;exact BJ p)
def EI:A.Y "ties_over" 2 ["net","way"] .fr UN:=A.gk A.h0d ["net","way","steps"] (λT B i=>(AC (B5 2 B^cg i (Ew A)^Ak 0 AE)
 (AD^AN^Jf ["steps","here","there"] [P3 2,n_,n_] (Pn rfl T.Gaj (AT (dv 1)^AT (CS EX CT (dv 1) (BH AB) BO) Ac)) (λq=>Qy^Ad (Bx 1 q)^Ad (Bx 2 q) Bu) BP^Aa^AA (Av (Ku rfl) UG rfl T.Gah boot_min (AT (dv 1)^AT (dv 2) Ac))^AA (Av (Kw rfl) UI rfl T.Gan boot_max (AT (dv 1)^AT (dv 2) Ac))^AA (BQ i (BQ i (dv 0)^dv 1)^dv 2) AG))) (@λU n s h=>by
 let#[N,w,d,rfl,c,g,C,b,p]:=h;have ok:=c.1;exists N,rfl,ok,by have:=c.2.1;lk,by have:=c.2.2;lk
 have E:∀(r:q_ Str) (x:Str) (d:Int) (a:q_ AX) (j k:Slot),walk N (x::r) d->(∀y∈x::r,y∈N.ps)->
   (∀e:q_ AX,Over N.ts (x::r) e->e.length=r.length->s (.lst^(a++e).map AJ) n)->
   D4 (D8 2^Ai (AU 1)^Ai (AU 2) CN) LC (Dv^AL (Ea TR^AL (AH 1)^AL (AH 2) Ab)^AL (Ea TV^AL (AH 1)^AL (AH 2) Ab)^AL (Ao CQ (Ao CQ (AH 0)^AH 1)^AH 2) Ab) (λa F=>s (.lst a) F) (C2 ((x::r).map .str)^r.map .str) (a.map AJ) n [.sh^EB N,j,k]:=by
  intro r
  induction r with
  |nil=>
   intro x d a j k g b h
   have:=h [] trivial rfl
   rw[fh]at this;exact this
  | cons y r G=>
   intro x d a j k g b h;let#[l,H,u,m,rfl]:=g;let#[t,I,J,L,M,O]:=Ri ok u;subst J;have Q:=b x Re;exists rfl,rfl,x,y,rfl,x,y,rfl,_,_,_,Sq N.ts x,rfl,Aj x,KI Q,_,_,_,.int t.len,rfl,Aj y,?_,z3
   .show BA ((Dd N.ts x).map λz=>.inr z.1) ((Dd N.ts x).map λz=>.int z.2)^.inr y=_
    rw[IC]
    have:=GR ok u
    unfold look at this;rw[this];rfl
   have R:D.tup [.str (if decide (y.cps.toList<x.cps.toList)=o_ then y else x),.str (if decide (x.cps.toList<y.cps.toList)=o_ then y else x),.int t.len]=AJ t:=by
    show D.tup [.str (if decide (cs y<cs x)=o_ then y else x),.str (if decide (cs x<cs y)=o_ then y else x),.int t.len]=AJ t;rw[M,O];rfl
   rw[R]
   have:=G y H (a++[t]) (.sh^.str x) (.sh^.str y) m (λz S=>b z^Sc _ S) λe o v=>by
    have:=h (t::e) #[I,L,o]^by rw[fF,fF,v]
    rw[gF];exact this
   rw[fg]at this;exact this
 cases w with
 |nil=>exact g.elim
 | cons x r=>
  rw[fF]at C;exists _,_,(x::r).map .str,r.map .str,rfl,rfl,by show P3^Dp.cutD (D.str x::r.map .str) (P3 1) n_=_;rw[T1];rfl,?_
  .unfold C2
   rw[lD,FM,FM];lk
  .refine E r x d [] _ _ g b λe o v=>?_
   rw[fW];exact p e o^by rw[fF];lk)
def Jm:A.Y "nearest_of" 1 ["waiting","found"] .sh bP:=A.gk A.h0e ["waiting","found"] (λT _ o=>(AD^AN^A1 (Av (Q6 o) Yv rfl T.Gah boot_min (AT (Jf ["found","place"] [P3 1,n_] (A4^Cp 0) (λG=>Bx 1 G) BP^Aa^AA (A1 (BQ o (Cp 0)^dv 1) AB)^AA (dv 1) AG) Ac)) AB)) (@λW n X h=>by
 let#[i,B,C,F,rfl,M,H,k,Z,p]:=h;exists by show(i.map D.str).length<=10000000;rw[FM];lk
 have c:∀x∈i,∃d q,F x=P3 (d,q):=λx b=>by
  cases e:F x with
  |none=>exact absurd e^H x b
  |some a=>exact#[a.1,a.2,rfl]
 refine A8 (λd=>match d with|.str x=>.tup [.int ((F x).getD (0,n_)).1,.str x]|d=>d) (λE=>∃s,E=[.br^.dic B C,s]) _ _ _ _ ?_ #[_,rfl] ?_
 .rintro d I E m nx ⟨s,rfl⟩ J
  let#[x,b,rfl]:=TM.mp I;let#[L,q,ex]:=c x b;exists B,C,_,H_ (L,q),rfl,rfl,by rw[M.at_,ex];rfl,_,AF (j:=0) rfl,(by cbv:2<=sizeLine)
  grind
 rw[fW,gY];refine#[_,rfl,?_,#[λx b=>?_,λx b y l N O Q R=>?_],λx b g=>?_]
 .rw[FM]
  cases i with
  |nil=>exact absurd rfl k
  |cons a r=>exact Nat.succ_pos _
 .let#[z,_,rfl]:=TM.mp b
  exact#[_,rfl,g_ _ _]
 .let#[z,_,rfl]:=TM.mp b
  let#[u,_,rfl]:=TM.mp l;cases(show P3 [kH _,iD _]=P3 N from Q);cases(show P3 [kH _,iD _]=P3 O from R);rfl
 .let#[v,S,rfl]:=TM.mp b
  refine#[_,AF (j:=1) rfl,p v S λy l dv pv dy py U V=>?_]
  have:=dH (g _ (TM.mpr #[y,l,rfl]) _ _ rfl rfl)
  rw[U,V]at this;exact this)
def Fa:A.Y "least_ways" 2 ["net","start"] .fr Y3:=A.gk A.h0f ["net","start","steps","found","waiting","place","other","step","length"] (λ_ O H=>(AC (B5 2 O^cg H (Ew A)^Ak 0 AE)
 (AC (L_ 3 O^NH (dv 1)^Aa^AA AB^AA Ap AG)
 (AC (L_ 4 O^Al^AA (dv 1) AG)
 (AC (Ga fP (Yg^Cp 4) (AC (B5 5 O^cg H (Jm A)^AO (Cz^Cp 4)^AO (Cz^Cp 3) AE)
 (AC (CB 4 Jl PySem.F.slot_list_remove PySem.F.type_list_remove (Qa H) bD (pv 4)^AA (dv 5) AG)
 (AD (BR fP rfl (Tl^BQ H (dv 2)^dv 5) (Qy^Ad (Bx 6 O)^Ad (Bx 7 O) Bu) (AC (B5 8 O^AZ Af Ax (A1 (BQ H (Cp 3)^dv 5) AB)^dv 7)
 (AD (Am (Be (C_ H) D9 (dv 6)^Cp 3) (AC (CB 4 Jl Nj Nf A2 C1 (pv 4)^AA (dv 6) AG)
 (AD^Lq (i:=3) H (pv 3) (dv 6)^Aa^AA (dv 8)^AA (dv 5) AG))^AD^Am (Be (Eu H) Ho (dv 8)^A1 (BQ H (Cp 3)^dv 6) AB) (AD^Lq (i:=3) H (pv 3) (dv 6)^Aa^AA (dv 8)^AA (dv 5) AG) AS))))))))
 (AD^Gc 3^pv 3)))))) (@λss n Pd h=>by
 let#[N,s,rfl,#[ok,lp,lt],hs,p]:=h;have a7:=PySem.sizeLine_eq;refine#[N,rfl,ok,by lk,by lk,?_];exists(by cbv:2<=sizeLine),_,Aj s,(by cbv:1<=sizeLine);refine Gv (λm X ρ=>X=n/\∃(C:q_ Str) (o:q_ Key) (r:q_ D) (F:K_) (s5 S T U:Slot),ρ=[.sh^enc N,.sh^.str s,.sh^EB N,.ow^.dic o r,.ow^.lst^C.map .str,s5,S,T,U]/\Dmap o r H_ F/\Dj N s F C/\m+o.length=N.ps.length+C.length) (N.ps.length) #[rfl,[s],[.inr s],[H_ (0,n_)],_,_,_,_,_,rfl,Dmap.one,Dj.init hs,rfl] ?_ ?_
 .rintro m X ρ N' ⟨rfl,C,o,r,F,s5,S,T,U,rfl,M,J,hm⟩ hN
  cases C with
  |nil=>
   exact#[p_,rfl,_,rfl,p o r F M J.told]
  | cons E G=>
   exists o_,rfl;have B:∀x∈E::G,x∈N.ps:=λx V=>J.ins x^J.wfound x V;have wl:=IV J.nd B;refine#[E::G,o,r,F,rfl,M,J.wfound,g_ _ _,by lk,λv W Z=>?_]
   obtain⟨dv,pv,ev⟩:∃d q,F v=P3 (d,q):=by
    cases e:F v with
    |none=>exact absurd e^J.wfound v W
    |some a=>exact#[a.1,a.2,rfl]
   have D0:=J.take W ev λy hy dy q I=>Z y hy dv pv dy q ev I;have a0:=B v W;have a1:(E::G).idxOf v<(E::G).length:=List.idxOf_lt_length_of_mem W;have a2:(E::G)[(E::G).idxOf v]?=P3 v:=by rw[On a1,List.getElem_idxOf]
   have ee:((E::G).map D.str).eraseIdx^(E::G).idxOf v=((E::G).erase v).map D.str:=by
    rw[List.erase_eq_eraseIdx_of_idxOf (rfl:(E::G).idxOf v=_),HF]
   exists _,rfl,rfl,_,_,(E::G).idxOf v,rfl,rfl,QZ ok B,Mv^ok.names v a0,#[.str v,by rw[fK,a2];rfl,by show(v==v)=o_;exact beq_self_eq_true v],λk x hk V=>?_
   .rw[fK]at V
    let#[t,ht,rfl]:=fq.mp V;have a8:k<(E::G).length:=(eq.mp ht).1;have hh:=List.not_of_lt_findIdx (p:=λy=>y==v) (xs:=E::G) hk;have e2:(E::G)[k]=t:=(eq.mp ht).2;have h3:((E::G)[k]==v)=p_:=hh;rw[e2]at h3;exact h3
   rw[ee];exists _,_,_,Sq N.ts v,rfl,Aj v,KI a0,_,_,rfl,λk hk=>?_
   .let#[q,hq,rfl]:=TM.mp hk
    have:=(ok.names _ (Le ok hq).1).2.1
    show q.1.length<=sizeLine;lk
   rw[UZ];have el:=List.length_erase_of_mem W
   have R:∀(u g:q_ (Str×Int)) (C:q_ Str) (o:q_ Key) (r:q_ D) (F:K_) (S T U:Slot),g++u=Dd N.ts v->Dmap o r H_ F->Dm N s F C v dv g->m+o.length=N.ps.length+C.length+1->
     Ae (D8 2^Ai (AU 6)^Ai (AU 7) CN) (BE (Cq 8^Ao Bw (Ao CA (Ao CQ (As 3)^AH 5)^wC^D.int 0)^AH 7)
 (CU (Ah^Ao (NC o_) (AH 6)^As 3) (BE (LF 4 "list" FV^AL (AH 6) Ab)
 (MF 3 (AH 6)^Dv^AL (AH 8)^AL (AH 5) Ab))^CU (Ah^Ao NA (AH 8)^Ao CA (Ao CQ (As 3)^AH 6)^wC^D.int 0) (MF 3 (AH 6)^Dv^AL (AH 8)^AL (AH 5) Ab) Bm)) {EF Pd with nx:=N',ct:=N',bk:=ME 3^EF Pd} (u.map cw) X [.sh^enc N,.sh^.str s,.sh^EB N,.ow^.dic o r,.ow^.lst^C.map .str,.sh^.str v,S,T,U]:=by
    intro u
    induction u with
    |nil=>
     intro g C o r F S T U e M D0 hm;rw[fh]at e;exact hN (m - 1) X _ (by have:=M.le D0.ins;lk) #[rfl,C,o,r,F,_,_,_,_,rfl,M,D0.finish λy l hy=>by rw[e];exact hy,by have:=M.le D0.ins;lk]
    | cons q u ih=>
     intro g C o r F S T U e M D0 hm;let#[y,l]:=q;have he:Ed N v y l:=by show(y,l)∈Dd N.ts v;rw[←e];exact fR _ Re
     have e':(g++[(y,l)])++u=Dd N.ts v:=by rw[gF];exact e
     let#[pv,ev]:=D0.here;have kl:=M.le D0.ins;have a9:=he.ins ok;have B:∀x∈C,x∈N.ps:=λx V=>D0.ins x^D0.wfound x V;have wl:=IV D0.nd B;exists rfl,rfl;exists o,r,_,H_ (dv,pv),rfl,Aj v,by rw[M.at_,ev];rfl,_,AF (j:=0) rfl;exists o,r,_,rfl,Aj y;show if(!(BA o r^.inr y).isSome)=o_ then _ else _
     cases I:F y with
     |none=>
      have a5:=(M.has (x:=y)).1 I;rw[M.at_,I];refine BS #[_,rfl,rfl,_,_,rfl,rfl,by rw[FM];lk,?_];exists o,r,rfl,(by cbv:2<=sizeLine),_,Aj y,by lk
      have:=ih (g++[(y,l)]) (C++[y]) (Cv o^.inr y) (DL o r (.inr y)^H_ (dv+l,P3 v)) _ (.sh^.str y) (.sh^.int l) (.sh^.int (dv+l)) e' (M.put y (dv+l,P3 v)) (D0.find ok he I)^by rw[Io,if_neg (by rw[a5];decide),XV,fS];lk
      rw[fg]at this;exact this
     | some a=>
      let#[dy,qy]:=a;have a3:=(M.has (x:=y)).2 (by rw[I];intro z;cases z);rw[M.at_,I];refine BJ #[o,r,_,H_ (dy,qy),rfl,Aj y,by rw[M.at_,I];rfl,_,AF (j:=0) rfl,?_];show if decide (dv+l<dy)=o_ then _ else _
      by_cases c:dv+l<dy
      .rw[decide_eq_true c]
       refine BS #[o,r,rfl,(by cbv:2<=sizeLine),_,Aj y,by lk,?_];exact ih (g++[(y,l)]) C (Cv o^.inr y) (DL o r (.inr y)^H_ (dv+l,P3 v)) _ (.sh^.str y) (.sh^.int l) (.sh^.int (dv+l)) e' (M.put y (dv+l,P3 v)) (D0.nearer ok he I c)^by rw[Io,if_pos a3];lk
      .rw[decide_eq_false c]
       exact BJ^ih (g++[(y,l)]) C o r F (.sh^.str y) (.sh^.int l) (.sh^.int (dv+l)) e' M (D0.skip I^by lk) hm
   exact R (Dd N.ts v) [] ((E::G).erase v) o r F _ _ _ rfl M D0 (by have:=List.length_pos_of_mem W;lk)
 .rintro X ρ P Q a6 h
  unfold ZS As at h ⊢
  split at h
  all_goals first
   |exact h.elim
   |(let#[c,hc,h]:=h;exact#[c,hc,a6 _ _ h]))
def KR:A.Y "way_of" 3 ["net","a","b"] .sh dM:=A.gk A.h0g ["net","a","b","found","way","place"] (λT t B=>(AC (B5 3 t^cg B (Fa A)^Ak 0^Ak 1 AE)
 (AC (Am (Be (C_ B) D9 (dv 2)^dv 3) (AD^AN Ap) AS)
 (AC (L_ 4 t^Al AG)
 (AC (B5 5 t^dv 2)
 (AC (Ga fP (Be FI HH (dv 5) Ap) (AC (CB 4 Jl Nj Nf A2 C1 (pv 4)^AA (dv 5) AG)
 (AD^B5 5 t^A1 (BQ B (dv 3)^dv 5) AB)))
 (AD^AN (Qz rfl (Cp 4) rfl T.Gab rfl T.Gai)))))))) (@λss n Pd h=>by
 let#[N,a,b,rfl,g,O,hb,p]:=h;have R:=PySem.sizeLine_eq;have ok:=g.1;refine#[N,a,rfl,g,O,λu v F M T=>?_];exists u,v,_,rfl,Aj b;show if(!(BA u v^.inr b).isSome)=o_ then _ else _
 have d:=T.far b;cases i:F b with
 |none=>
  rw[M.at_,i];rw[i]at d;exact BS^p n_ d
 | some x=>
  let#[k,S]:=x;rw[M.at_,i];refine BJ #[z0,?_];refine Gv (λm C D=>C=n/\∃(c:q_ Str) (o:r_ Str),D=[.sh^enc N,.sh^.str a,.sh^.str b,.sh^.dic u v,.ow^.lst^c.map .str,.sh^aC o]/\WInv N F b k c o/\m=wm F o) (wm F^P3 b) #[rfl,[],P3 b,rfl,#[.inl #[rfl,rfl],gL,(λx s=>by cases s),(λ_ _ _ _ _ x s=>by cases s),λy e=>by cases e;rw[i];intro z;cases z],rfl] ?_ ?_
  .rintro m C D N' ⟨rfl,c,o,rfl,J,rfl⟩ U
   have wl:=IV J.nd J.ins;have V:=g.2.1;cases o with
   | none=>
    exists rfl,_,rfl
    rcases J.st with⟨_,e⟩|⟨z,r,W,X,E,Z,e4⟩
    .cases e
    .have hz:z=a:=by
      rcases T.prev z W n_ E with⟨_,w⟩|⟨w',a0,q',l,k1,_⟩
      .exact w
      .cases k1
     subst hz;rw[T.start]at E;cases E;rw[←List.map_reverse];refine p (P3 c.reverse) #[k - 0,r,X,e4,Z,?_,by rw[lE];lk,λx s=>J.ins x^List.mem_reverse.mp s];rw[show k - 0=k by lk];exact T.least b k S i
   | some y=>
    cases G:F y with
    |none=>exact absurd G (J.fnd y rfl)
    |some q=>
     let#[dy,H]:=q;let#[J2,I]:=J.step ok T i G;exists rfl;refine#[_,rfl,rfl,_,_,rfl,rfl,by rw[FM];lk,?_];exists u,v,_,H_ (dy,H),rfl,Aj y,by rw[M.at_,G];rfl,_,AF (j:=1) rfl;refine U (wm F H) _ _ I #[rfl,c++[y],H,?_,J2,rfl];rw[fg];rfl
  .rintro C D P Q L h
   unfold Ah Ao AH wC HE at h ⊢
   split at h
   .exact#[h.1,L _ _ h.2]
   .exact h.elim)
def Jn:A.Y "are_prices" 2 ["net","thing"] .sh WG:=A.gk A.h0h ["net","thing"] (λT _ e=>(AD^AN^EQ (cg e (BK A)^BG (OO T.Gac^A1 (dv 0) AB)^Ak 1 AE)^E7 (Av (D7 rfl) K6 rfl T.Gaf iQ (AT (Jf ["price"] [n_] (A4^dv 1) (λl=>Bx 0 l) BP^EQ (cg e (HU A)^Ak 0 AE)^E7^Du YE bJ (dv 0) AB^B0 _) Ac)))) (@λu n g h=>by
 let#[N,d,rfl,c,p]:=h;have o:=c.2.1;exists _,AF (j:=0) rfl,_,_,rfl,rfl,_,d,rfl;cases d with
 | tup a=>
  have q:g (.bl (((a.length:Int)==(N.ps.length:Int))&&a.all TQ)) n:=p;rw[FM];refine OV (b1:=((a.length:Int)==(N.ps.length:Int))) (λr t=>?_) q;have v:a.length=N.ps.length:=by have:=beq_iff_eq.mp r;lk
  refine#[by show a.length<=10000000;lk,?_];refine A8 (λd=>.bl^TQ d) (λk=>∃s,k=[s]) _ _ _ _ ?_ #[_,rfl] ?_
  .rintro d x k m y ⟨s,rfl⟩ b
   exists[d],rfl,rfl;cases d with
   |int i=>exact b _ #[_,rfl]
   |_=>exact b _ #[_,rfl]
  .rw[fW]
   exact JM (p:=TQ) (P:=λz=>g z n) t
 |_=>exact p)
def GF:A.Y "price_gap" 1 ["net","prices","a","b"] .sh dP:=A.gk A.h0i ["net","prices","a","b"] (λT _ e=>(AD^AN (Av T6 bK rfl T.Gaq boot_abs (AT (AZ Bc B7 (A1 (dv 1)^Tq e (A1 (dv 0) AB)^AT (dv 2) Ac)^A1 (dv 1)^Tq e (A1 (dv 0) AB)^AT (dv 3) Ac) Ac)))) (@λy n z h=>by
 let#[N,B,a,b,rfl,d,g,k,l,m,p]:=h;let#[i,o,c,q,r,s]:=W0 d g k l;let#[j,t,_,u,v,x]:=W0 d g k m;exact#[_,AF rfl,#[_,rfl],_,_,i,rfl,rfl,c,q,r,s,_,AF o,_,AF rfl,#[_,rfl],_,_,j,rfl,rfl,c,u,v,x,_,AF t,p])
def N6:A.Y "is_fair" 3 ["net","thing"] .sh bR:=A.gk A.h0j ["net","thing"] (λT _ q=>(AC (Am (Bg^A_^cg q (Jn A)^Ak 0^Ak 1 AE) (AD^AN CC) AS)
 (AD^AN (Av (D7 rfl) K6 rfl T.Gaf iQ (AT (Jf ["net","thing","a","b","length"] [P3 0,P3 1,n_,n_,n_] (A4^A1 (dv 0) AB) (λk=>Qy^Ad (Bx 2 k)^Ad (Bx 3 k)^Ad (Bx 4 k) Bu) BP^Du N1 UJ (cg q (GF A)^Ak 0^Ak 1^Ak 2^Ak 3 AE) (dv 4)^B0 _) Ac))))) (@λJ n r h=>by
 let#[N,d,rfl,e,p]:=h;have ok:=e.1;have C:=e.2.2;exists N,d,rfl,e;show if(!(ZJ N d))=o_ then _ else _
 cases i:ZJ N d with
 | false=>
  have:Ko N d=p_:=by
   cases d with
   |tup c=>show(ZJ N^.tup c&&_)=p_;rw[i];rfl
   |_=>rfl
  rw[this]at p;exact BS p
 | true=>
  cases d with
  | tup c=>
   have g:(((c.length:Int)==(N.ps.length:Int))&&c.all TQ)=o_:=i;rw[fN]at g;have D:c.length=N.ps.length:=by have:=beq_iff_eq.mp g.1;lk
   have E:∀x∈c,TQ x=o_:=iM.mp g.2;have s:r (.bl (ZJ N^.tup c&&N.ts.all λt=>decide (Jb (IH N c t.a - IH N c t.b)<=t.len))) n:=p;rw[i,Bool.true_and]at s;refine BJ #[_,AF (j:=1) rfl,by show(N.ts.map AJ).length<=10000000;rw[FM];lk,?_];refine A8 (λd=>match d with|.tup [.str a,.str b,.int l]=>.bl (decide (Jb (IH N c a - IH N c b)<=l))|_=>.non) (λu=>∃v y B,u=[.sh^enc N,.sh^.tup c,v,y,B]) _ _ _ _ ?_ #[_,_,_,rfl] ?_
   .rintro d F u m L ⟨v,y,B,rfl⟩ o
    let#[t,G,rfl]:=TM.mp F;let#[H,I,_]:=ok.tin t G;exact#[rfl,rfl,N,c,t.a,t.b,rfl,e,D,E,H,I,o _ #[_,_,_,rfl]]
   .rw[fW,gY]
    exact JM (p:=λt:AX=>decide (Jb (IH N c t.a - IH N c t.b)<=t.len)) (P:=λz=>r z n) s
  |_=>cases i)
def Iv:A.Y "prices_from" 3 ["net","place","most"] .sh Y0:=A.gk A.h0k ["net","place","most","found"] (λT l g=>(AC (B5 3 l^cg g (Fa A)^Ak 0^Ak 1 AE)
 (AD^AN^OM T.Gab^Jf ["most","found","other"] [P3 2,P3 3,n_] (A4^A1 (dv 0) AB) (λo=>Bx 2 o) BP^Gg (Be (N3 g) UM (dv 2)^dv 1) (Av (Kv rfl) UH rfl T.Gah boot_min (AT (dv 0)^AT (A1 (BQ g (dv 1)^dv 2) AB) Ac))^dv 0))) (@λz n B h=>by
 let#[N,s,m,rfl,b,r,p]:=h;have t:=b.2.1;refine#[N,s,rfl,b,r,λc e F M T=>?_];refine#[_,AF (j:=0) rfl,by grind,?_];refine A8 (λd=>match d with|.str x=>.int (NJ m ((F x).map (·.1)))|_=>.non) (λi=>∃k,i=[.sh^.int m,.sh^.dic c e,k]) _ _ _ _ ?_ #[_,rfl] ?_
 .rintro d u i v y ⟨k,rfl⟩ a
  let#[x,C,rfl]:=TM.mp u;exists c,e,_,rfl,Aj x;show if((BA c e^.inr x).isSome)=o_ then _ else _
  have a:y (.int (NJ m ((F x).map (·.1)))) v [.sh^.int m,.sh^.dic c e,.sh^.str x]:=a _ #[.sh^.str x,rfl];rw[M.at_];cases ex:F x with
  |none=>
   rw[ex]at a;exact BJ a
  |some q=>
   rw[ex]at a;exact BS #[c,e,_,H_ q,rfl,Aj x,by rw[M.at_,ex];rfl,_,AF (j:=0) rfl,a]
 .rw[fW,gY]
  exact p F T)
def EJ:A.Y "is_within" 1 ["length","times","number"] .sh IR:=A.gk A.h0l ["length","times","number"] (λ_ _ d=>(AD^AN^Du N1 UJ (AZ FJ HI (dv 0)^A1 (dv 1) AB) (AZ FJ HI (dv 2)^A1 (dv 1) AB)^B0 _)) (@λe n g h=>by
 let#[l,t,b,x,rfl,i,a,j,c,p]:=h;exact#[_,AF rfl,bA (by lk) a,_,AF rfl,bA (by lk) c,p])
def Hv:A.Y "least_beyond" 1 ["times","number"] .sh RA:=A.gk A.h0m ["times","number"] (λ_ _ a=>(AD^AN^AZ Af Ax (AZ GD DZ (AZ FJ HI (dv 1)^A1 (dv 0) AB)^A1 (dv 0) AB) AB)) (@λc n d h=>by
 let#[t,b,l,rfl,#[e,g,i,j],p]:=h;exact#[_,AF rfl,.inr^by lk,_,AF rfl,#[by lk,by lk],p])
def Mf:A.Y "near_way" 4 ["net","times","tie"] .sh Y2:=A.gk A.h0n ["net","times","tie","way"] (λ_ y m=>(AC (B5 3 y^cg m (KR A)^Ak 0^BG (A1 (dv 2) AB)^BG (A1 (dv 2) AB) AE)
 (AC (Am (DTW.dt^Cy (Be DM FC (dv 3) Ap)^B4^Bg^A_^cg m (EJ A)^BG (cg m (GG A)^Ak 0^Ak 3 AE)^Ak 1^BG (A1 (dv 2) AB) AE) (AD^AN Ap) AS)
 (AD^AN^dv 3)))) (@λI n J h=>by
 let#[N,u,t,b,rfl,g,B,C,D,E,F,G,p]:=h;refine#[_,AF (j:=0) rfl,_,AF (j:=1) rfl,N,u.a,u.b,rfl,g,B,C,λo q=>#[rfl,?_]];cases o with
 |none=>
  refine p n_ (λw e=>by cases e) λ_=>?_;rw[fj];intro z;let#[d,l,_]:=nearB_iff.mp z;exact q d l.1
 | some w=>
  have s:=q;let#[d,r,rfl,L,H,l,v,k]:=s
  have i:KU N t b u=decide (d*b<=u.len*t):=by
   rw[gf,nearB_iff,decide_eq_true_eq];exact#[fun#[d',hd',x]=>by rw[Least.unique l hd'];exact x,λx=>#[d,l,x]]
  exists N,.tup^(u.a::r).map .str,rfl,g.1,by have:=g.2.1;lk,g.2.2,RR g.1 v k;rw[VX g.1 (k _ Re) H];exists _,AF (j:=2) rfl,d,t,b,u.len,rfl,D,E,F,G
  by_cases c:d*b<=u.len*t
  .rw[decide_eq_true c]
   exact p (P3 _) (λw e=>by cases e;exact#[q,by rw[i];exact decide_eq_true c]) λe=>by cases e
  .rw[decide_eq_false c]
   exact p n_ (λw e=>by cases e) λ_=>by rw[i];exact decide_eq_false c)
def LY:A.Y "way_fault" 4 ["net","times","tie","thing"] .sh bM:=A.gk A.h0o ["net","times","tie","thing","length"] (λ_ k i=>(AC (B5 4 k^cg i (GH A)^Ak 0^BG (A1 (dv 2) AB)^BG (A1 (dv 2) AB)^Ak 3 AE)
 (AC (Am (Be DM FC (dv 4) Ap) (AD^AN AY) AS)
 (AD^AN^Gg (A_^cg i (EJ A)^Ak 4^Ak 1^BG (A1 (dv 2) AB) AE) Ap AY)))) (@λx n m h=>by
 let#[M,t,b,u,d,rfl,g,#[o,q,r,s],v,p]:=h;unfold Ug at p;exists _,AF (j:=0) rfl,_,AF (j:=1) rfl,M,u.a,u.b,d,rfl,g,v
 rcases Ql M u.a u.b d with e|⟨l,e⟩
 .rw[e]at p ⊢
  exact#[rfl,p]
 .rw[e]at p ⊢
  exists rfl,_,AF (j:=2) rfl,l,t,b,u.len,rfl,o,q,r,s;have p:m (if l*b<=u.len*t then .non else .str "far") n:=p;show if decide (l*b<=u.len*t)=o_ then _ else _
  by_cases c:l*b<=u.len*t
  .rw[if_pos c]at p;rw[decide_eq_true c];exact BS p
  .rw[if_neg c]at p;rw[decide_eq_false c];exact BJ p)
def Hu:A.Y "prices_fault" 4 ["net","times","tie","thing"] .sh bO:=A.gk A.h0p ["net","times","tie","thing"] (λ_ _ k=>(AC (Am (Bg^A_^cg k (N6 A)^Ak 0^Ak 3 AE) (AD^AN AY) AS)
 (AD^AN^Gg (A_^cg k (EJ A)^BG (cg k (GF A)^Ak 0^Ak 3^BG (A1 (dv 2) AB)^BG (A1 (dv 2) AB) AE)^Ak 1^BG (A1 (dv 2) AB) AE) AY Ap))) (@λz n l h=>by
 let#[M,t,b,u,d,rfl,e,#[m,o,q,r],s,v,p]:=h;exists M,_,rfl,e;unfold X6 at p;cases g:Ko M d with
 |false=>rw[g,if_neg fV]at p;exact BS p
 | true=>
  rw[g,if_pos rfl]at p;cases d with
  |tup i=>
   let#[x,y]:=Vm g;refine BJ #[_,AF (j:=0) rfl,_,AF (j:=1) rfl,M,_,u.a,u.b,rfl,e,x,y,s,v,_,AF (j:=2) rfl,_,t,b,u.len,rfl,m,o,q,r,?_];have p:l (if Jb (IH M i u.a - IH M i u.b)*b<=u.len*t then .str "near" else .non) n:=p
   by_cases c:Jb (IH M i u.a - IH M i u.b)*b<=u.len*t
   .rw[if_pos c]at p;rw[decide_eq_true c];exact BS p
   .rw[if_neg c]at p;rw[decide_eq_false c];exact BJ p
  |_=>cases g)
def Jo:A.Y "are_broken" 3 ["ahead","many","thing"] .sh Q_:=A.gk A.h0q ["ahead","many","thing"] (λT _ l=>(AC (Am (DTW.dt^Cy (Bg^A_ (Dt kit_tuple (dv 2) rfl T.Gaa rfl T.Gab (by decide +kernel)))^B4^Be EH Gq (OO T.Gac^dv 2)^dv 1) (AD^AN CC) AS)
 (AD^AN^EQ (Av (D7 rfl) K6 rfl T.Gaf iQ (AT (Jf ["ahead","tie"] [P3 0,n_] (A4^dv 2) (λv=>Bx 1 v) BP^cg l (GI A)^Ak 0^Ak 1 AE) Ac))^E7^cg l (GJ A)^Ak 2 AE))) (@λD n E h=>by
 let#[A,m,d,rfl,i,o,p]:=h;have no:=p p_ λz=>by cases z
 cases d with
 | tup g=>
  exists _,_,rfl,rfl;show if decide ((m:Int)<(g.length:Int))=o_ then _ else _
  refine Ba (λ_=>no) λc=>?_
  have q:g.length<=m:=by
   have:¬(m:Int)<(g.length:Int):=λz=>c^decide_eq_true z
   lk
  have len:=C3 g;have F:By g<=160000:=o.2.1;refine#[by show g.length<=10000000;lk,?_];refine A8 (λd=>.bl^F8 A d) (λr=>∃s,r=[.sh^enc A,s]) _ _ _ _ ?_ #[_,rfl] ?_
  .rintro e x r G H ⟨s,rfl⟩ j
   have u:=C5 o x;exact#[A,e,rfl,i.1,Br (B:=10 ^ 40) (by cbv) u.1 (by have:=u.2.2;lk),j _ #[_,rfl]]
  rw[fW];exists _,_,rfl,FA (F8 A) g;rw[OW];cases k:g.all^F8 A with
  |false=>exact no
  |true=>
   let#[S,rfl,y]:=Ic k;refine#[_,_,rfl,rfl,by lk,λa k b C=>?_,p _ λ_=>#[S,rfl,y,by rw[FM]at q;exact q]];let#[s,_,rfl]:=TM.mp k;let#[t,_,rfl]:=TM.mp C;exact#[_,Lf s t]
 |_=>exact no)
def Me:A.Y "shows_in" 5 ["ahead","times","tie","many","entry"] .sh Yy:=A.gk A.h0r ["ahead","times","tie","many","entry"] (λ_ _ c=>(AD^AN^EQ (cg c (Jo A)^Ak 0^Ak 3^BG (A1 (dv 4) AB) AE)^E7^Du DM FC (cg c (Hu A)^BG (cg c (DN A)^Ak 0^BG (A1 (dv 4) AB) AE)^Ak 1^Ak 2^BG (A1 (dv 4) AB) AE) Ap^B0 _)) (@λv n B h=>by
 let#[A,t,b,u,m,e,x,y,rfl,a,g,i,k,l,p]:=h;have no:=p p_ λz=>by cases z
 refine#[_,AF (j:=1) rfl,A,m,x,rfl,a,l,λr c=>?_];cases r with
 |false=>exact no
 | true=>
  let#[S,rfl,o,q]:=c rfl;exists _,AF (j:=1) rfl,A,_,S,rfl,rfl,a,o,_,AF (j:=2) rfl,minus A S,t,b,u,y,rfl,BX a S,g,i,k,rfl
  rcases QK (minus A S) t b u y with d|⟨w,d⟩
  .rw[d]
   refine p o_ λ_ s=>?_
   have:=nearB_iff.mpr^s S q
   rw[Yc (BX a S).1 g.1 d]at this;cases this
  .rw[d];exact no)
omit A in
def mw:A5 ["net","times","tie","many","thing","steps","step","bush"] ["net","times","tie","many","thing"]^AK KL:=by walk_at "s"
def N7:A.Y "is_bush" 7 ["net","times","tie","many","thing"] .sh^(Q9 2):=A.got A.h0s λT F m b=>Kl 3 F mw m b (λhk mx k=>(AC (Am (DTW.dt^Cy (Bg^A_ (Ag (BK A) (k.mono^by lk) rfl (BG AB^Ak 4 AE)))^B4^Be FI HH (Ag (LY A) (k.mono^by lk) rfl (Ak 0^Ak 1^Ak 2^BG (A1 (dv 4) AB) AE)) Ap) (AD^AN CC) AS)
 (AC (B5 5 mw.nd^Gg (Be EH Gq (dv 3) AB) (DE.sh (Ag (EI A) (k.mono^by lk) rfl (Ak 0^BG (A1 (dv 4) AB) AE)))^DE.sh^Al AG)
 (AC (Am (Bg^A_ (Ag (BK A) (k.mono^by lk) rfl (BG (OO T.Gac^dv 5)^BG (A1 (dv 4) AB) AE))) (AD^AN CC) AS)
 (AC (BR fP rfl (OP rfl T.Gaj (AA (dv 5)^AA (A1 (dv 4) AB) AG)) (Qy^Ad (Bx 6 mw.nd)^Ad (Bx 7 mw.nd) Bu) (AD^Am (Bg^A_ (Ag mx (k.mono^Rs _) rfl (BG (Ag (DN A) (k.mono^by lk) rfl (Ak 0^BG (Al^AA (dv 6) AG) AE))^Ak 1^Ak 2^BG (AZ Bc B7 (dv 3) AB)^Ak 7 AE))) (AD^AN CC) AS))
 (AD^AN CC)))))) (@λWr j ss n Q H h=>by
 let#[N,t,b,u,m,d,rfl,hm,g,R,hf,p]:=h;have no:=p p_ λz=>by cases z
 exists 2,d,rfl;show if(!tupleOfB 2 d)=o_ then _ else _
 cases e2:tupleOfB 2 d with
 |false=>exact BS no
 | true=>
  let#[x,y,rfl]:=Oo e2;have fx:=C5 hf^Re (a:=x);have fy:=C5 hf^Sc x^Re (a:=y);refine BJ #[_,AF (j:=0) rfl,N,t,b,u,x,rfl,g,R,fx,rfl,?_]
  rcases NZ N t b u x with I|⟨w,I⟩
  rotate_left
  .rw[I];exact BS no
  rw[I];let#[r,l,rfl,S,hw,W,X]:=Ue g.1 I;have J:=VQ g.1 R.1 I
  have wl:(u.a::r).length<=160000:=by
   have:=C3^(u.a::r).map D.str
   have h2:By^(u.a::r).map D.str<=160000:=fx.2.1;rw[FM]at this;lk
  have L:∀(i:q_ AX),(∀v∈i,v∈N.ts)->((m=0/\i=[])\/(m≠0/\((∀v∈i,J5 (Ck N v) t b u (m - 1))->J5 N t b u m)))->∀Z C E:Slot,(Z=.sh^.lst^i.map AJ)->BE (CU (HL^Ah^Au Jd^AI (AQ^Ea Ln^AL (AH 5) Ab)^AI (AQ^Ao CA (AH 4)^wC^D.int 1) Ay) (Bo^wC^D.bl p_) Bm)
    (BE (F5 (Ui^AL (AH 5)^AL (Ao CA (AH 4)^wC^D.int 1) Ab) (D8 2^Ai (AU 6)^Ai (AU 7) CN)^aT Wr)^Bo^wC^D.bl o_) (EE Q) n [.sh^enc N,.sh^Dx t b,.sh^AJ u,.sh^.int (m:Int),.sh^.tup [Df (u.a::r),y],Z,C,E]:=by
   rintro i a1 hc Z C E rfl;exists _,_,rfl,rfl,_,AF (j:=1) rfl,_,_,rfl;show if(!tupleOfB ((i.map AJ).length:Int) y)=o_ then _ else _
   rw[FM];cases e3:tupleOfB (i.length:Int) y with
   |false=>exact BS no
   | true=>
    let#[bs,rfl,a2]:=ZW e3;refine BJ #[_,AF (j:=1) rfl,_,_,_,_,rfl,rfl,rfl,?_]
    have go:∀(o:q_ AX) (q:q_ D) (C E:Slot),o.length=q.length->(∀v∈o,v∈N.ts)->(∀d∈q,Dg d)->(o≠[]->m≠0)->((∀v∈o,J5 (Ck N v) t b u (m - 1))->Q (.bl o_) n)->
      Ae (D8 2^Ai (AU 6)^Ai (AU 7) CN) (aT Wr) {EE Q with nx:=Bo (wC^D.bl o_)^EE Q} (C2 (o.map AJ) q) n [.sh^enc N,.sh^Dx t b,.sh^AJ u,.sh^.int (m:Int),.sh^.tup [Df (u.a::r),.tup bs],.sh^.lst^i.map AJ,C,E]:=by
     intro o
     induction o with
     |nil=>intro q C E _ _ _ _ hp;exact hp λv G=>nomatch G
     | cons v o ih=>
      intro q C E S G V a3 hp;cases q with
      |nil=>cases S
      |cons d q=>
       have h1:=G v Re;have m0:=a3^g_ _ _;exists rfl,rfl,z1,N,_,[v],rfl,rfl,g,λx s=>Op.mp s▸h1;rw[Fy];refine H _ _ _ (by lk) #[Ck N v,t,b,u,m - 1,d,by rw[show((m - 1:Nat):Int)=(m:Int) - 1 by lk],by lk,Gd g v,R,V d Re,λr k=>?_];cases r with
       |false=>exact BS no
       |true=>exact BJ^ih q _ _ (Nat.succ.inj S) (λx s=>G x^Sc _ s) (λx s=>V x^Sc _ s) (λ_=>m0) λO=>hp λx s=>(Tk.mp s).elim (λe=>e▸k rfl)^O x
    refine go i bs _ _ a2.symm a1 (λd V=>C5 fy V) (λz=>hc.elim (λh=>absurd h.2 z) And.left) λO=>p o_ λ_=>?_
    rcases hc with⟨rfl,_⟩|⟨_,h⟩
    .exact hld_zero.mpr J
    .exact h O
  cases m with
  |zero=>exact#[z0,L [] (λv G=>nomatch G) (.inl #[rfl,rfl]) _ _ _ rfl]
  |succ m=>
   refine BJ^Ba (λ_=>?_) λc=>absurd (decide_eq_true (by lk:(0:Int)<((m+1:Nat):Int))) c;refine#[_,AF (j:=0) rfl,N,u.a::r,l,rfl,g,hw,by lk,X,λi B _=>?_];exact L i B.mem (.inr #[by lk,λO=>M5 g R.1 S W (λM hM=>B.walk g.1 hw hM) B.mem O]) _ _ _ rfl) (λ_ _ _ _ h=>by let#[_,_,_,_,_,_,e,_]:=h;rw[e];rfl) (by cbv) 2
def GN:A.Y "breaking_fault" 8 ["thin","times","tie","many","entry"] .sh K7:=A.gk A.h0t ["thin","times","tie","many","entry","ahead"] (λ_ I i=>(AC (B5 5 I^cg i (HV A)^Ak 0^Ak 2 AE)
 (AC (Am (Be (Si i) Fk (dv 2)^A1 (dv 0) AB) (AC (Am (DTW.dt^Cy (Bg^A_^cg i (BK A)^BG AB^Ak 4 AE)^B4^Be (Es i) Hm (A1 (dv 4) AB) AY) (AD^AN AY) AS)
 (AD^AN^Gg (A_^cg i (Me A)^Ak 5^Ak 1^Ak 2^Ak 3^Ak 4 AE) Ap AY)) AS)
 (AC (Am (DTW.dt^Cy (Bg^A_^cg i (BK A)^BG AB^Ak 4 AE)^B4^Be (Es i) Hm (A1 (dv 4) AB) AY) (AD^AN AY) AS)
 (AD^AN^Gg (A_^cg i (N7 A)^Ak 5^Ak 1^Ak 2^Ak 3^BG (A1 (dv 4) AB) AE) Ap AY))))) (@λR n S h=>by
 let#[N,ts,t,b,u,m,d,rfl,l,J,F,G,L,D,p,q]:=h;have ok:=l.1;have k:=J.okN l;let#[M,O,_]:=ok.tin u G;have o:okN^Ja #[N.ps,ts] u:=(IE k jO).okN k;have g:=q "word" (.inl rfl);have H:∀s:Str,(s="in"\/s="out")->CD^.str s:=λs Q=>Br (B:=10) (by cbv) (by show ∀c∈cs s,c<1114112;rcases Q with rfl|rfl <;>decide +kernel)^Uf _;exists _,u,rfl,k;exists _,AF (j:=1) rfl,Bt ok G,(BN k.1 (ts:=ts) λv h=>h).1,_,rfl;show if((ts.map AJ).any λy=>Cu y^AJ u)=o_ then _ else _
 rw[Gp]
 by_cases c:u∈ts
 .rw[decide_eq_true c]
  refine BS #[3,d,rfl,?_];show if(!tupleOfB 3 d)=o_ then _ else _
  cases E:tupleOfB 3 d with
  |false=>exact BS g
  |true=>
   let#[e,x,y,rfl]:=Um E;have C:=C5 D^Re (a:=e);refine BJ #[_,AF (j:=0) rfl,Br (B:=10 ^ 40) (by cbv) C.1 (by have:=C.2.2;lk),H _ (.inl rfl),?_];refine Ba (λ_=>g) λ_=>?_;refine#[_,t,b,u,m,e,x,y,rfl,o,F,M,O,C5 D^Sc _ Re,λr i=>?_];cases r with
   |false=>exact BJ^q "in"^.inr (.inl rfl)
   |true=>exact BS^p #[λ_=>i rfl,λ_=>c]
 .rw[decide_eq_false c]
  refine BJ #[2,d,rfl,?_];show if(!tupleOfB 2 d)=o_ then _ else _
  cases E:tupleOfB 2 d with
  |false=>exact BS g
  |true=>
   let#[e,x,rfl]:=Oo E;have C:=C5 D^Re (a:=e);refine BJ #[_,AF (j:=0) rfl,Br (B:=10 ^ 40) (by cbv) C.1 (by have:=C.2.2;lk),H _ (.inr rfl),?_];refine Ba (λ_=>g) λ_=>?_;refine#[_,AF (j:=1) rfl,_,t,b,u,m,x,rfl,L,o,F,C5 D^Sc _ Re,λr i=>?_];cases r with
   |false=>exact BJ^q "out"^.inr (.inr rfl)
   |true=>exact BS^p #[λz=>absurd z c,λz=>absurd (i rfl) z])
omit A in
def my:A5 ["net","times","many","thin","paper","number","tie","fault"] ["net","times","many","thin","paper"]^AK ES:=by walk_at "s"
def G5:IA P w K mg base:=A.gotR A.h0u (λT F=>have mz:=GN A;have m6:=N5 A;have m7:=BK A;have m8:=Ex A;have GX_NoPaper:=OK A;by
 exact fnX (wb:=λo=>Gm o) F my (by cbv) (λa0 A x s H E o F0 U M l g=>(HG (Tg (DTW.dt^Cy (Bg^A_ (Ag m6 (g.mono^by cbv) rfl (Ak 0^Ak 3 AE)))^B4^Bg^A_ (Ag m7 (g.mono^by cbv) rfl (BG (OO T.Gac^A1 (dv 0) AB)^Ak 4 AE))) (GZ^JQ Mc l (λ_ h=>h) (Ks GX_NoPaper (g.mono^by cbv) rfl (AA AY^AA AB AG)))^Pl AS)
 (HG (Vw (λ_ _ h=>h) VG rfl (V2 rfl T.Gal (Ag m8 (g.mono^by cbv) rfl (BG (A1 (dv 0) AB) AE))) (Qy^Ad (Bx 5 my.nd)^Ad (Bx 6 my.nd) Bu) (HG (Tf^B5 7 my.nd (Ag mz (g.mono^by cbv) rfl (Ak 3^Ak 1^Ak 6^Ak 2^BG (A1 (dv 4)^dv 5) AE)))
 (GZ^Tg (Be FI HH (dv 7) Ap) (GZ^JQ Mc l (λ_ h=>h) (Ks GX_NoPaper (g.mono^by cbv) rfl (AA (dv 7)^AA (dv 5) AG)))^Pl AS)))
 (GZ^Tf^AN CC)))) (λss n W o _ h=>by
 let#[N,i,t,b,m,d,rfl,c,y,r,tm,hm,hf,p,q]:=h;have z:=r.okN c;have B:=c.2.2;have C:=Rq z;have a1:=PySem.sizeLine_eq;refine#[N,enc #[N.ps,i],rfl,c.1,y,B,(FL (by cbv) _).1 _ (Rs _) C.1,by have:=C.2.1;lk,by have:=C.2.2;lk,?_];rw[r.thinB];refine BJ #[_,AF (j:=1) rfl,_,_,rfl,rfl,_,_,rfl,?_];show if(!tupleOfB ((N.ts.map AJ).length:Int) d)=o_ then _ else _
 rw[FM];cases e1:tupleOfB (N.ts.length:Int) d with
 |false=>exact BS^.inr #[rfl,rfl,q "shape" 0^Iz (.inl rfl)^by cbv]
 | true=>
  let#[G,rfl,hl]:=ZW e1;refine BJ #[_,AF (j:=1) rfl,_,N.ts,rfl,rfl,by lk,λX I p2=>#[_,rfl,?_]];have ol:=I.length_eq
  have go:∀(a done:q_ AX) (J L O:Slot),done++a=X->(∀u∈done,(u∈i↔¬J5 (Ja #[N.ps,i] u) t b u m))->
    Ae (D8 2^Ai (AU 5)^Ai (AU 6) CN) (aK o) {EE W with nx:=Bo (wC^D.bl o_)^EE W} (Fh done.length (a.map AJ)) n [.sh^enc N,.sh^Dx t b,.sh^.int (m:Int),.sh^enc #[N.ps,i],.sh^.tup G,J,L,O]:=by
   intro a
   induction a with
   |nil=>
    intro done J L O e Q;rw[fh]at e;subst e;refine p λa2 Y Z=>?_;obtain rfl:=MW (Y.trans I.symm) Z p2;exact bB c r Y Z Q
   |cons u a ih=>
    intro done J L O e Q;have hk:done.length<G.length:=by rw[hl,←ol,←e,XV,fF];lk
    have g:=On hk;have R:u∈N.ts:=I.mem_iff.mp (by rw[←e];exact fR _ Re);refine#[rfl,rfl,_,AF g,N,i,t,b,u,m,G[done.length],rfl,c,r,tm,R,hm,C5 hf^f7 hk,λS=>#[rfl,BJ ?_],λw hw=>#[rfl,BS^.inr #[rfl,rfl,q w done.length (Iz (.inr hw)^by lk)]]]
    have:=ih (done++[u]) (.sh^.int (done.length:Int)) (.sh^AJ u) (.sh .non) (by rw[gF];exact e) λv V=>(ZB.mp V).elim (Q v) λV=>by rw[Op.mp V];exact S
    rw[XV,fS]at this;exact this
  exact go X [] _ _ _ rfl λu R=>nomatch R)) (λ_ _ _ _ h=>by let#[_,_,_,_,_,_,e,_]:=h;rw[e];rfl)
omit A in
def m9:A5 ["net","times","tie","many","way","step","broken"] ["net","times","tie","many"]^AK HN:=by walk_at "s"
def GK:A.Y "broken_of" 7 ["net","times","tie","many"] .sh^(XG 2):=A.got A.h0v λT F m b=>Kl 3 F m9 m b (λhk m_ G=>(AC (B5 4 m9.nd (Ag (Mf A) (G.mono^by lk) rfl (Ak 0^Ak 1^Ak 2 AE)))
 (AC (Am (Be DM FC (dv 4) Ap) (AD^AN^DE.sh^Al AG) AS)
 (AC (Am (Be Ci FD (dv 3) AB) (AD^AN Ap) AS)
 (AC (BR fP rfl (Cb (Ag (EI A) (G.mono^by lk) rfl (Ak 0^Ak 4 AE))) (Bx 5 m9.nd) (AC (B5 6 m9.nd (Ag m_ (G.mono^Rs _) rfl (BG (Ag (DN A) (G.mono^by lk) rfl (Ak 0^BG (Al^AA (dv 5) AG) AE))^Ak 1^Ak 2^BG (AZ Bc B7 (dv 3) AB) AE)))
 (AD^Am (Be FI HH (dv 6) Ap) (AD^AN^AZ Af Ax (Al^AA (dv 5) AG)^dv 6) AS)))
 (AD^AN Ap)))))) (@λWr j ss n Pd s h=>by
 let#[N,u,t,b,m,rfl,#[hm,a0],i,ha,hb,hu,#[J,b2,t1,t2],p]:=h;have ok:=i.1;refine#[N,u,t,b,rfl,i,ha,hb,J,b2,t1,t2,λo h1 h2=>#[rfl,?_]];cases o with
 |none=>
  refine#[z0,p (P3 []) (λe=>by cases e) λl e=>?_];cases e;refine#[λz=>?_,nofun,Uf _]
  have:=nearB_iff.mpr^M6 z
  rw[h2 rfl]at this;cases this
 | some w=>
  let#[L,H]:=h1 w rfl;have H:=nearB_iff.mp H;refine Ba (λc=>absurd (show p_=o_ from c) fV) λ_=>?_;refine Ba (λc=>?_) λc=>?_
  .have c:m=0:=by
    have c:(m:Int)=0:=beq_iff_eq.mp c;lk
   subst c;exact p n_ (λ_=>hld_zero.mpr H) λl e=>by cases e
  .have a1:m≠0:=λz=>c^by rw[z];exact beq_self_eq_true _
   have y:=L;let#[d,r,rfl,hl,B,O,Q,R]:=y;refine#[N,u.a::r,d,rfl,i,B,fJ Q^by cbv,R,λC E a2=>?_];have q:=E.mem;have S:∀M:Net,(∀v∈C,v∈M.ts)->walk M (u.a::r) d:=λM S=>E.walk ok B S
   have go:∀(g done:q_ AX) (U V:Slot),done++g=C->(∀v∈done,J5 (Ck N v) t b u (m - 1))->
     Ae (AU 5) (BE (Cq 6^Au Wr^AI (AQ^Au IQ^AI (AQ^AH 0)^AI (AQ^FS^AL (AH 5) Ab) Ay)^AI (AQ^AH 1)^AI (AQ^AH 2)^AI (AQ^Ao Kp (AH 3)^wC^D.int 1) Ay)
 (CU (Ah^Ao (HE o_) (AH 6)^wC D.non) (Bo^Ao Bw (FS^AL (AH 5) Ab)^AH 6) Bm)) {EE Pd with nx:=Bo (wC D.non)^EE Pd} (g.map AJ) n [.sh^enc N,.sh^.tup [.int t,.int b],.sh^AJ u,.sh^.int (m:Int),.sh^VH^P3 (u.a::r),U,V]:=by
    intro g
    induction g with
    |nil=>
     intro done U V e W;rw[fh]at e;subst e;refine p n_ (λ_=>?_) λl e=>by cases e
     let#[d',X,Z]:=H;obtain rfl:=O.unique X
     have:=M5 i J hl Z S q W
     rw[show m - 1+1=m by lk]at this;exact this
    | cons v g ih=>
     intro done U V e W;have I:v∈C:=by rw[←e];exact fR _ Re
     have e':(done++[v])++g=C:=by rw[gF];exact e
     exists z1,N,_,[v],rfl,rfl,i,λx k=>Op.mp k▸q v I;rw[Fy];refine s _ _ _ ((by first|exact u0|exact u1|exact u2|exact w0|exact w1|lk)) #[Ck N v,u,t,b,m - 1,by rw[show((m - 1:Nat):Int)=(m:Int) - 1 by lk],#[(by first|exact u0|exact u1|exact u2|exact w0|exact w1|lk),(by first|exact u0|exact u1|exact u2|exact w0|exact w1|lk)],Gd i v,ha,hb,hu,#[J,b2,t1,t2],λo2 g1 g2=>#[rfl,?_]];cases o2 with
     |none=>
      refine ih (done++[v]) _ _ e' λx k=>?_
      rcases ZB.mp k with k|k
      .exact W x k
      .rw[Op.mp k];exact g1 rfl
     |some l=>
      let#[g3,g4,g5]:=g2 l rfl;refine#[z1,by rw[FM];show 1+l.length<=sizeLine;rw[PySem.sizeLine_eq];lk,p (P3 (v::l)) (λe=>by cases e) λl' e=>?_];cases e;exact#[λz=>g3 (M7^by rw[show m - 1+1=m by lk];exact z),λx k=>(Tk.mp k).elim (λe=>e▸q v I) λk=>(gS.mp^g4 x k).1,by rw[fF];lk]
   exact go C [] _ _ rfl λv I=>by cases I) (λ_ _ _ _ h=>by let#[_,_,_,_,_,e,_]:=h;rw[e];rfl) (by cbv) 2
def Dl:A.Y "steady_thinned" 8 ["net","times","many"] .sh WF:=A.gk A.h0w ["net","times","many","kept","tie"] (λ_ O E=>(AC (L_ 3 O^Al AG)
 (AC (BR fP rfl (Cb^cg E (Ex A)^BG (A1 (dv 0) AB) AE) (Bx 4 O) (AD^Am (Be FI HH (cg E (GK A)^BG (cg E (II A)^Ak 0^AO (Cz^Cp 3) AE)^Ak 1^Ak 4^Ak 2 AE) Ap) (AD^CB 3 Jl Nj Nf A2 C1 (pv 3)^AA (dv 4) AG) AS))
 (AD^AN^cg E (II A)^Ak 0^AO (Cz^Cp 3) AE)))) (@λss n Q h=>by
 let#[N,t,b,m,rfl,k,U,R,p]:=h;have ok:=k.1;have V:=k.2.2;have W:=PySem.sizeLine_eq;refine#[z0,_,AF (j:=1) rfl,_,N.ts,rfl,rfl,(by first|exact u0|exact u1|exact u2|exact w0|exact w1|lk),λd s X=>?_];have Z:=s.length_eq;have C:d.Nodup:=s.nodup_iff.mpr^A9 ok.trise
 have go:∀(c done a:q_ AX) (G:Slot),done++c=d->(∀u∈a,u∈done)->a.Nodup->CP N t b m a c=CP N t b m [] d->
   Ae (AU 4) (CU (Ah^Ao (HE o_) (Au (XG 2)^AI (AQ^Au Oa^AI (AQ^AH 0)^AI (D_^As 3) Ay)^AI (AQ^AH 1)^AI (AQ^AH 4)^AI (AQ^AH 2) Ay)^wC D.non) (LF 3 "list" FV^AL (AH 4) Ab) Bm) {EE Q with nx:=Bo (Au Oa^AI (AQ^AH 0)^AI (D_^As 3) Ay)^EE Q} (c.map AJ) n [.sh^enc N,.sh^.tup [.int t,.int b],.sh^.int (m:Int),.ow^.lst^a.map AJ,G]:=by
  intro c
  induction c with
  |nil=>
   intro done a G e B q r;rw[fh]at e;subst e;have g:∀u∈a,u∈N.ts:=λu F=>s.mem_iff.mp^B u F;have H:=sub_len q (A9 ok.trise) g;refine#[N,_,a,rfl,rfl,(by first|exact u0|exact u1|exact u2|exact w0|exact w1|lk),λI J L=>?_];rw[Nh ok g q J L,show a=CP N t b m [] done from r];exact p done s X
  | cons u c S=>
   intro done a G e B q r;have g:∀v∈a,v∈N.ts:=λv i=>s.mem_iff.mp (by rw[←e];exact gP _^B v i);have H:=sub_len q (A9 ok.trise) g;have F:u∈N.ts:=s.mem_iff.mp^by rw[←e];exact fR _ Re
   have M:u∉done:=by
    rw[←e,gX]at C;exact λz=>C.2.2 u z u Re rfl
   have T:(done++[u])++c=d:=by rw[gF];exact e
   let#[m1,m2,_]:=ok.tin u F;refine#[N,_,a,rfl,rfl,(by first|exact u0|exact u1|exact u2|exact w0|exact w1|lk),λI J L=>?_];rw[Nh ok g q J L];refine#[sub N a,u,t,b,m,rfl,#[R,R],Ce k a,m1,m2,Fl ok u F,U,λo hs hn=>#[rfl,?_]];rw[EN]at r;cases o with
   |none=>
    rw[hldB_iff.mpr (hs rfl),if_pos rfl]at r;exact S (done++[u]) a _ T (λv i=>gP _^B v i) q r
   | some l=>
    rw[if_neg λz=>(hn l rfl).1 (hldB_iff.mp z)]at r;exists _,rfl,rfl,_,_,rfl,rfl,by rw[FM];lk
    have:=S (done++[u]) (a++[u]) (.sh^AJ u) T (λv i=>by
     rcases ZB.mp i with i|i
     .exact gP _^B v i
     .exact fR _ i) (by
     rw[gX];exact#[q,fX.mpr #[fH,gL],λx hx y hy z=>M^by rw[←Op.mp hy,←z];exact B x hx]) r
    rw[fg]at this;exact this
 exact go d [] [] _ rfl (λu h=>by cases h) gL rfl)
omit A in
def nA:A5 ["net","tie","many","way","bushes"] ["net","tie","many"]^AK KO:=by walk_at "s"
def N8:A.Y "bush_of" 6 ["net","tie","many"] .sh^(WJ 2):=A.got A.h0x λT F m b=>Kl 2 F nA m b (λhk W r=>(AC (B5 3 nA.nd (Ag (KR A) (r.mono^by lk) rfl (Ak 0^BG (A1 (dv 1) AB)^BG (A1 (dv 1) AB) AE)))
 (AC (Am (Be Ci FD (dv 2) AB) (AD^AN^Aa^AA (dv 3)^AA (Aa AG) AG) AS)
 (AC (Gb (i:=4) nA.nd rfl (f9 rfl) rfl [("tie":Str),("net":Str),("many":Str),("step":Str)] [P3 1,P3 0,P3 2,n_] (A4 (Ag (EI A) (r.mono^by lk) rfl (Ak 0^Ak 3 AE))) (λ_ _ _ _ _=>(EO (i:=3) (show lB [("tie":Str),("net":Str),("many":Str),("step":Str)] by decide +kernel) rfl (f9 rfl))) (λ_ _ _ _ _=>BP) (λ_ _ _ _ _=>(Ag W (r.mono^Rs _) rfl (BG (Ag (DN A) (r.mono^by lk) rfl (Ak 1^BG (Al^AA (dv 3) AG) AE))^Ak 0^BG (AZ Bc B7 (dv 2) AB) AE))) (by kernel_rfl))
 (AD^AN^Aa^AA (dv 3)^AA (OM T.Gab^dv 4) AG))))) (@λX j ss n Pd y h=>by
 let#[N,u,t,b,m,rfl,hm,g,G,S,E,U,p]:=h;refine#[_,AF (j:=0) rfl,_,AF (j:=1) rfl,N,u.a,u.b,rfl,g,S,E,λo H=>?_];let#[Z,I,a0]:=M6 U;cases o with
 |none=>exact absurd I.1^H Z
 | some w=>
  have V:=RQ g H;let#[l,z,hl]:=IW H;cases m with
  |zero=>exact#[z0,z2,p _^Pw g.1 G V z.2.2.2.2]
  | succ m=>
   refine#[N,w,l,rfl,g,z.2.2.1,fJ z.2.2.2.1^by cbv,z.2.2.2.2,λB J a1=>#[by show(B.map AJ).length<=10000000;rw[FM];lk,?_]]
   have go:∀(Q:q_ D->Nat->Prop),(∀k:q_ D,k.length=B.length->(∀d∈k,bS m d)->Q k n)->∀(c:q_ AX) (k:q_ D) (s:Slot),k.length+c.length=B.length->(∀v∈c,v∈B)->(∀d∈k,bS m d)->
     D4 (AU 3) LC (Au X^AI (AQ^Au IQ^AI (AQ^AH 1)^AI (AQ^FS^AL (AH 3) Ab) Ay)^AI (AQ^AH 0)^AI (AQ^Ao Kp (AH 2)^wC^D.int 1) Ay) Q (c.map AJ) k n [.sh^AJ u,.sh^enc N,.sh^.int ((m+1:Nat):Int),s]:=by
    intro Q hQ c
    induction c with
    |nil=>intro k s e _ E;exact hQ k e E
    |cons v c ih=>
     intro k s e r L;exists z1,N,_,[v],rfl,rfl,g,λx M=>Op.mp M▸J.mem v (r v Re);rw[Fy];refine y _ _ _ (by lk) #[Ck N v,u,t,b,m,by rw[show(m:Int)=((m+1:Nat):Int) - 1 by lk],by lk,Gd g v,G,S,E,M7 U,λd O=>?_];refine ih (k++[d]) _ (by rw[XV];rw[fF]at e;show k.length+1+_=_;lk) (λx M=>r x^Sc _ M) λq C=>?_
     rcases ZB.mp C with C|C
     .exact L q C
     .rw[Op.mp C];exact O
   exact go _ (λk bl R=>#[z2,p _^T8 g.1 G V z.2.2.2.2 (by lk) R]) B [] _ (k6 _) (λ_ h=>h) λd O=>nomatch O) (λ_ _ _ _ h=>by let#[_,_,_,_,_,e,_]:=h;rw[e];rfl) (by cbv) 2
def GO:A.Y "breaking_entry" 8 ["ahead","times","tie","many"] .sh NU:=A.gk A.h0y ["ahead","times","tie","many","broken","prices"] (λT B g=>(AC (B5 4 B^cg g (GK A)^Ak 0^Ak 1^Ak 2^Ak 3 AE)
 (AC (Am (Be DM FC (dv 4) Ap) (AD^AN^Aa^AA AY^AA (cg g (N8 A)^Ak 0^Ak 2^Ak 3 AE) AG) AS)
 (AC (B5 5 B^cg g (Iv A)^BG (cg g (DN A)^Ak 0^Ak 4 AE)^BG (A1 (dv 2) AB)^BG (cg g (Hv A)^Ak 1^BG (A1 (dv 2) AB) AE) AE)
 (AD^AN^Aa^AA AY^AA (OM T.Gab (Av B6 ER rfl T.Gad jI (AT (dv 4) Ac)))^AA (dv 5) AG))))) (@λW n M h=>by
 let#[A,t,b,u,m,rfl,c,C,N,r,E,s,k,p]:=h;let#[G,H,I,x]:=N;refine#[A,u,t,b,m,rfl,#[k,k],c,r,E,s,#[G,H,I,x],λo O Q=>#[rfl,?_]];cases o with
 |none=>exact BS #[A,u,t,b,m,rfl,k,c,C,r,E,O rfl,λd R=>#[z2,p _^Oy k R]]
 |some l=>
  have q:=Q l rfl;refine BJ #[A,_,l,rfl,rfl,c,q.2.1,_,AF (j:=0) rfl,_,AF (j:=2) rfl,t,b,u.len,rfl,#[G,H,I,x],?_];have i:=BX c l;have J:=Int.mul_nonneg (show 0<=u.len by have:=s.2.2.1;lk) (show 0<=t by lk);have X:u.len*t<=1000000*1000000:=Int.mul_le_mul s.2.2.2 x (by lk) (by cbv);have Z:=Int.ediv_nonneg J (show 0<=b by lk);have m1:=Int.ediv_le_self b J;refine#[minus A l,u.a,_,rfl,i,r,λF T=>?_];let#[e,U]:=Tz i T (m:=u.len*t / b+1) (by lk) (by lk);rw[e];show Ds [D.lst^l.map AJ] λz=>BM [z] λy=>3<=sizeLine/\M (.tup [.str "in",y,.tup _]) n;refine Fn (ts:=l) rfl (by have:=q.2.2;lk) λS L p2=>#[z3,p _^R6 c.1 C (λv V=>q.2.1 v^L.mem_iff.mp V) (by rw[L.length_eq];have:=q.2.2;lk) U (FM ..)])
def GL:A.Y "breaking_paper" 9 ["net","times","many"] .sh NT:=A.gk A.h0z ["net","times","many","thin"] (λT G g=>(AC (B5 3 G^cg g (Dl A)^Ak 0^Ak 1^Ak 2 AE)
 (AD^AN^OM T.Gab^Jf ["times","many","thin","tie"] [P3 1,P3 2,P3 3,n_] (A4^cg g (Ex A)^BG (A1 (dv 0) AB) AE) (λH=>Bx 3 H) BP^cg g (GO A)^BG (cg g (HV A)^Ak 2^Ak 3 AE)^Ak 0^Ak 3^Ak 1 AE))) (@λX n Z h=>by
 let#[N,t,b,m,rfl,d,I,z,B,p]:=h;have ok:=d.1;have J:=d.2.2;refine#[N,t,b,m,rfl,d,z,B,λk o1 o2=>?_];refine#[_,AF (j:=1) rfl,_,N.ts,rfl,rfl,by lk,λC E p2=>?_];have L:=E.length_eq;exists by show(C.map AJ).length<=10000000;rw[FM];lk
 have M:∀(Q:q_ D->Nat->Prop),(∀c:q_ D,Il N c->Q c n)->∀(a:q_ AX) (c:q_ D) (s:Slot),c.length+a.length=N.ts.length->(∀v∈a,v∈N.ts)->(∀r∈c,Ek r)->
   D4 (AU 3) LC (Au NU^AI (AQ^Au NV^AI (AQ^AH 2)^AI (AQ^AH 3) Ay)^AI (AQ^AH 0)^AI (AQ^AH 3)^AI (AQ^AH 1) Ay) Q (a.map AJ) c n [.sh^Dx t b,.sh^.int (m:Int),.sh^enc^sub N^CP N t b m [] k,s]:=by
  intro Q O a
  induction a with
  |nil=>intro c s e _ o;exact O c #[e,o]
  |cons u a R=>
   intro c s e g o;have F:=g u Re;let#[S,U,_]:=ok.tin u F;have i:=Ce d^CP N t b m [] k;exists _,u,rfl,i;refine#[_,t,b,u,m,rfl,(IE i jO).okN i,I,z,S,U,Fl ok u F,B,λq l=>?_];refine R (c++[q]) _ (by rw[XV];rw[fF]at e;show c.length+1+_=_;lk) (λx V=>g x^Sc _ V) λr y=>?_
   rcases ZB.mp y with h|h
   .exact o r h
   .rw[Op.mp h];exact l
 exact M _ (λc h=>p c h) C [] _ (by rw[L];exact k6 _) (λv W=>E.mem_iff.mp W) λr h=>nomatch h)
def BB:A.Y "_law_next" 1 ["_law_feed_here","_law_many"] .sh Hq:=A.got A.h11 λT F _ _=>VM F T.Gac
def Fb:A.Y "_law_names" 2 ["_law_feed_here","_law_many"] .sh UQ:=A.gk A.h12 ["_law_feed_here","_law_many","_law_some","_law_first"] (λT a r=>(AC (B5 2 a^Al^AA AY^AA AY^AA AY^AA AY^AA AY^AA AY^AA AY^AA AY^AA AY^AA AY^AA AY^AA AY AG)
 (AC (B5 2 a^AZ Af Ax (dv 2)^Al^AA AY^AA AY^AA AY^AA AY^AA AY^AA AY^AA AY^AA AY^AA AY^AA AY^AA AY^AA AY AG)
 (AC (B5 3 a^cg r (BB A)^AO (A3 0)^BG AB AE)
 (AD^AN^OM T.Gab (Av OT WE rfl T.Gad jI (AT (Jf ["_law_some","_law_first","_law_k"] [P3 2,P3 3,n_] (DI.c (D6 rfl T.Gae (AT (dv 1) Ac))) (λt=>Bx 2 t) BP^A1 (dv 0)^AZ Et DZ (AZ Af Ax (dv 1)^dv 2) AB) Ac))))))) (@λE n F h=>by
 let#[m,rfl,u,v,p]:=h;exists(by cbv:12<=sizeLine),(by cbv:12<=sizeLine),(by cbv:24<=sizeLine);refine#[24,rfl,by cbv,by cbv,v,λfirst G H=>?_];obtain⟨f,rfl⟩:∃f:Nat,first=(f:Int):=#[first.toNat,(by first|exact u0|exact u1|exact u2|exact w0|exact w1|lk)]
 refine#[(m:Int),rfl,#[(by first|exact u0|exact u1|exact u2|exact w0|exact w1|lk),(by first|exact u0|exact u1|exact u2|exact w0|exact w1|lk)],by rw[El];lk,?_];refine A8 (λd=>match d with|.int k=>.str^Dh ((f+k.toNat) % 24)|_=>.non) (λo=>∃s,o=[.sh^.lst^words24.map .str,.sh^.int f,s]) _ _ _ _ ?_ #[_,rfl] ?_
 .rintro d x o I J ⟨s,rfl⟩ b
  let#[k,q,rfl]:=MU x;have g:(f+k) % 24<24:=mX _ (by cbv);exists by show(0:Int)<24;decide,.str^Dh ((f+k) % 24),?_
  .rw[show((f:Int)+(0+(k:Int))) % 24=(((f+k) % 24:Nat):Int) by lk]
   exact AF^RN _ g
  .have:=b [.sh^.lst^words24.map .str,.sh^.int f,.sh^.int (0+(k:Int))] #[_,rfl]
   rw[show(0+(k:Int))=k by lk]at this ⊢;exact this
 .have e:[]++(Em 0 ((m:Int)).toNat).map (λd=>match d with|.int k=>D.str^Dh ((f+k.toNat) % 24)|_=>.non)=((fo m).map λk:Nat=>Dh ((f+k) % 24)).map .str:=by
   unfold Em;rw[fW,gY,gY,jg];refine lF λk _=>?_
   have:(0+(k:Int)).toNat=k:=by lk
   simp only[Function.comp,this]
  rw[e];refine#[_,_,rfl,NR _,by rw[FM,jj];lk,λi l z=>p i ?_ ?_ ?_]
  .rw[l.length_eq,FM,jj]
  .intro y B
   let#[k,_,rfl]:=TM.mp^l.mem_iff.mp B;exact NY _^mX _^by cbv
  .refine Jh z^l.nodup_iff.mpr^KS List.nodup_range λj C k q e=>?_
   exact VT u (gu.mp C) (gu.mp q)^P6 _ _ (mX _^by cbv) (mX _^by cbv) e)
def Iy:A.Y "_law_length" 2 ["_law_feed_here","_law_way_here"] .sh UR:=have b:=BB A;A.gk A.h13 ["_law_feed_here","_law_way_here"] (λ_ _ a=>(AC (Am (Be (Eu a) Ho (dv 1) AB) (AD^AN^AZ Af Ax AB^cg a b^AO (A3 0)^BG (A1 (Al^AA AB^AA AB^AA AB AG)^dv 1) AE) AS)
 (AC (Am (Be Ci FD (dv 1) AB) (AD^AN^AZ Af Ax AB^cg a b^AO (A3 0)^BG AB AE) AS)
 (AD^AN^AZ Bc B7 (AZ Er DZ AB AB)^cg a b^AO (A3 0)^BG AB AE)))) (@λl n m h=>by
 let#[s,rfl,j,e,p]:=h;have o:((10:Int) ^ (6:Int).toNat)=1000000:=by cbv
 refine Ba (λc=>?_) λ_=>?_
 .have c:s<3:=of_decide_eq_true c
  let#[z,k,w,rfl,q]:=Gn (p:=λd=>∃w:Int,d=.int w/\1<=w/\w<=9) (xs:=[D.int 2,D.int 4,D.int 9]) (λd t=>by
   grind) j^by lk
  exact#[(by cbv:3<=sizeLine),_,k,w,rfl,(by grind),(by grind),e,λr g i=>p _ ((by lk))^(by lk)]
 refine Ba (λ_=>#[60,rfl,by cbv,by cbv,e,λr g i=>p _ ((by lk))^(by grind)]) λ_=>?_;exact#[#[by cbv,by cbv,by cbv],3,rfl,by cbv,by cbv,e,λr g i=>p _ (by lk)^by lk])
def Mh:A.Y "_law_net" 3 ["_law_feed_here","_law_most","_law_ties"] .sh Y1:=have Z:=BB A;A.gk A.h14 ["_law_feed_here","_law_most","_law_ties","_law_places","_law_free","_law_a","_law_way_here","_law_many","_law_found","_law_k","_law_b"] (λT C B=>(AC (B5 3 C^cg B (Fb A)^AO (A3 0)^BG (AZ Af Ax AB^cg B Z^AO (A3 0)^BG (AZ Bc B7 (dv 1) AB) AE) AE)
 (AC (L_ 4 C^Al AG)
 (AC (BR fP rfl (Cb^dv 3) (Bx 5 C) (AD^CB 4 Jl PySem.F.slot_list_extend PySem.F.type_list_extend G7 UL (pv 4)^AA (Jf ["_law_a","_law_b"] [P3 5,n_] (A4^dv 3) (λnq=>Bx 1 nq) (CL^Be (Eu B) Ho (dv 0)^dv 1)^Aa^AA (dv 0)^AA (dv 1) AG) AG))
 (AC (B5 6 C^cg B Z^AO (A3 0)^BG AB AE)
 (AC (B5 7 C^AZ Bc B7 (dv 2)^cg B Z^AO (A3 0)^BG (AZ Af Ax (AZ GD DZ (dv 2) AB) AB) AE)
 (AC (Am (Be Ci FD (cg B Z^AO (A3 0)^BG AB AE) AB) (AD^B5 7 C^cg B Z^AO (A3 0)^BG AB AE) AS)
 (AC (L_ 8 C^Al AG)
 (AC (BR fP rfl (D6 rfl T.Gae (AT (Av (Kv rfl) UH rfl T.Gah boot_min (AT (dv 7)^AT (OO T.Gac^Cp 4) Ac)) Ac)) (Bx 9 C) (AC (Vy (i:=4) (pv 4) (cg B Z^AO (A3 0)^BG (OO T.Gac^Cp 4) AE)^Qy^Ad (Bx 5 C)^Ad (Bx 10 C) Bu)
 (AD^CB 8 Jl Nj Nf A2 C1 (pv 8)^AA (Aa^AA (dv 5)^AA (dv 10)^AA (cg B (Iy A)^AO (A3 0)^Ak 6 AE) AG) AG)))
 (AD^AN^Aa^AA (dv 3)^AA (OM T.Gab (Av B6 ER rfl T.Gad jI (AT (Cp 8) Ac))) AG)))))))))) (@λss n Pd h=>by
 let#[x,o,rfl,a4,a5,a6,b7,hn,p]:=h;have a7:=PySem.sizeLine_eq;refine#[_,rfl,by lk,by lk,u0,λr r0 r1=>?_];refine#[(2+r).toNat,by rw[show(((2+r).toNat:Nat):Int)=2+r by lk],by lk,by lk,λg hl hx B=>#[(by cbv:0<=sizeLine),?_]];have G:g.length<=24:=by lk
 have a8:2<=g.length:=by lk
 have a9:g.length<=x:=by lk
 clear hl r0 r1;refine Kk (m:=n - 1 - 1) G (mk:=λfr s=>[.fd,.sh^.int x,.sh^.int o,.sh^.tup^g.map .str,.ow^.lst fr,s,.no,.no,.no,.no,.no]) _ (λfr s a nx N H=>?_) (λs5=>?_) g [] .no rfl
 .exists _,rfl,rfl,by rw[FM];lk
  refine BY (UC a) (λd=>.tup [.str a,d]) (λρ=>∃s,ρ=[.sh^.str a,s]) _ _ _ _ ?_ #[_,rfl] ?_
  .rintro d hd ρ m b8 sk ⟨s2,rfl⟩ O Q
   let#[b,hb,rfl]:=TM.mp hd;refine Ba (λc=>#[z2,O _ #[_,rfl] c]) λc=>Q _ #[_,rfl]^fj.mpr c
  .rw[UB]
   have b9:(CO a g).length<=24:=by unfold CO;rw[FM];exact fJ (gv _ _) G
   exact#[fr,_,rfl,rfl,by rw[FM];lk,H _]
 refine#[5,rfl,by cbv,by cbv,(by first|exact u0|exact u1|exact u2|exact u3|exact u4|exact u5|exact u6),λR w0 w1=>?_];refine#[#[by cbv,by cbv],_,rfl,by lk,by lk,(by first|exact u0|exact u1|exact u2|exact u3|exact u4|exact u5|exact u6),λq q0 q1=>?_];refine#[6,rfl,by cbv,by cbv,(by first|exact u0|exact u1|exact u2|exact u3|exact u4|exact u5|exact u6),λr6 _ _=>?_];have M:∀(j:Int) (n':Nat),0<=j->j<=o->n - 6<=n'->(BE (MD 8^FS Ab)
 (BE (F5 (RU^AL (Ea TU^AL (AH 7)^AL (Ea Ln^AL (As 4) Ab) Ab) Ab) (AU 9) (BE (ZU 4 (Au Hq^AI (Dw 0)^AI (AQ^Ea Ln^AL (As 4) Ab) Ay)^D8 2^Ai (AU 5)^Ai (AU 10) CN)
 (LF 8 "list" FV^AL (Dv^AL (AH 5)^AL (AH 10)^AL (Au UR^AI (Dw 0)^AI (AQ^AH 6) Ay) Ab) Ab)))
 (Bo^Dv^AL (AH 3)^AL (Ea BM^AL (Ea Ds^AL (As 8) Ab) Ab) Ab))) (EE Pd) n' [.fd,.sh^.int x,.sh^.int o,.sh^.tup^g.map .str,.ow^.lst^(pairsOf g g).map Nt.pairD,s5,.sh^.int R,.sh^.int j,.no,.no,.no]:=by
  intro j n' I S U;clear q0 q1 a4 a5 a6;have pl:=@Eo g g;have a0:g.length*g.length<=24*24:=mT G G;exists(by cbv:0<=sizeLine),_,_,rfl,rfl;obtain⟨u,v⟩:∃u:Int,u=(if(((pairsOf g g).map Nt.pairD).length:Int)<j then(((pairsOf g g).map Nt.pairD).length:Int)else j):=#[_,rfl];have b0:u<=j:=by rw[v];split <;>lk
  have b1:u<=(pairsOf g g).length:=by rw[v,FM];split <;>lk
  have b2:0<=u:=by rw[v];split <;>lk
  exists u,by rw[v],#[by lk,by lk];clear v;obtain⟨c,rfl⟩:∃c:Nat,u=(c:Int):=#[u.toNat,by lk];have E:c<=60:=by lk
  have b3:c<=o:=by lk
  have c0:c<=(pairsOf g g).length:=by lk
  have b5:(pairsOf g g).length<=576:=fJ pl a0;have V:124<=n':=v1 hn U;clear b0 b1 b2 S I pl a0;rw[jg]
  refine D1 (all:=Em 0 c) (λW m ρ=>n' - 2*W.length<=m/\∃(e:q_ AX) (free:q_ (Str×Str)) (s5 s9 X:Slot),e.length=W.length/\(e.map ends++free).Perm^pairsOf g g/\(∀t∈e,1<=t.len/\t.len<=1000000) /\
   ρ=[.fd,.sh^.int x,.sh^.int o,.sh^.tup^g.map .str,.ow^.lst^free.map Nt.pairD,s5,.sh^.int R,.sh^.int j,.ow^.lst^e.map AJ,s9,X]) ?_ ?_ _ [] _ _ rfl #[by simp,[],pairsOf g g,_,_,_,rfl,.refl _,(λ_ h=>by cases h),rfl]
  .rintro m ρ ⟨hm,e,free,s5,s9,X,O,Q,h3,rfl⟩
   rw[El]at O hm;show Ds [D.lst^e.map AJ] λz=>BM [z] λy=>2<=sizeLine/\Pd (.tup [.tup^g.map .str,y]) m;refine Fn (ts:=e) rfl (by rw[O];exact jU E^by cbv) λJ p1 p2=>?_
   have a1:∀t∈J,(t.a∈g/\t.b∈g/\cs t.a<cs t.b)/\1<=t.len/\t.len<=1000000:=λt L=>by
    have hf:=p1.mem_iff.mp L
    have:ends t∈pairsOf g g:=Q.mem_iff.mp^gP _^List.mem_map_of_mem hf
    exact#[Md this,h3 t hf]
   have C:(J.map ends).Nodup:=by
    have a:=Q.nodup_iff.mpr^Td^LV B B;exact((p1.map ends).nodup_iff).mpr (gX.mp a).1
   refine#[z2,p #[g,J] m #[hx,B,λt L=>?_,T7 p2 C] a8 a9 (by show J.length<=o;rw[p1.length_eq,O];exact b3)^dA U hm E];let#[#[a,b,c],d]:=a1 t L;exact#[a,b,c,d]
  .rintro W d b6 m ρ nx a2 ⟨hm,e,free,s5,s9,X,O,Q,h3,rfl⟩ H
   let#[rfl,hk]:=Oz a2;have a3:=Q.length_eq;rw[XV,FM]at a3;rw[XV,fS]at H;have N:(free.map Nt.pairD).length=free.length:=FM ..;let#[f3,f4]:=c8 V hm hk E;have ff:1<=free.length/\free.length<=576/\e.length<=576:=by clear hm U hn f3 f4;lk
   clear hm;refine#[_,rfl,_,_,rfl,rfl,_,rfl,by rw[N];exact Int.ofNat_le.mpr ff.1,by rw[N];exact Int.ofNat_lt.mpr^jU ff.2.1^by cbv,u0,λr r0 r1=>?_];obtain⟨k,rfl⟩:∃k:Nat,r=(k:Int):=#[r.toNat,by lk];have b4:k<free.length:=by lk
   have e1:free[k]?=P3 free[k]:=On b4;exists k,Nt.pairD free[k],rfl,by rw[fK,e1];rfl,by lk,rfl,rfl;refine#[_,rfl,rfl,R,rfl,w0,u1,λl l0 l1=>#[z3,_,_,rfl,rfl,by rw[FM,a7];exact jU ff.2.2^by cbv,?_]];rw[HF];refine H _ _ #[f4,e++[#[free[k].1,free[k].2,l]],free.eraseIdx k,_,_,_,by rw[XV,fS,O],?_,λt L=>?_,by rw[fg];rfl]
   .rw[fg]
    exact(N_ (a:=e.map ends) e1).trans Q
   .rcases ZB.mp L with L|L
    .exact h3 t L
    .rw[Op.mp L]
     exact#[l0,l1]
 refine Ba (λ_=>#[4,rfl,by cbv,by cbv,(by first|exact u0|exact u1|exact u2|exact u3|exact u4|exact u5|exact u6),λr4 _ _=>M _ _ (by lk) (by lk) (d8 n).2]) λ_=>M _ _ (by lk) (by lk) (d8 n).1)
def Jq:A.Y "_law_order" 1 ["_law_ties"] .fr OZ:=A.gk A.h15 ["_law_ties","_law_some"] (λT J hr=>(AC (B5 1 J (Av B6 ER rfl T.Gad jI (AT (Jf ["_law_tie"] [n_] (A4^dv 0) (λq=>Bx 0 q) BP^Aa^AA (A1 (dv 0) AB)^AA (A1 (dv 0) AB)^AA (A1 (dv 0) AB) AG) Ac)))
 (AD^AN^Jf ["_law_length_here","_law_a","_law_b"] [n_,n_,n_] (A4^dv 1) (λq=>Qy^Ad (Bx 0 q)^Ad (Bx 1 q)^Ad (Bx 2 q) Bu) BP^Aa^AA (dv 1)^AA (dv 2)^AA (dv 0) AG))) (@λss n L h=>by
 let#[d,F,rfl,e,B,p]:=h;have M:=PySem.sizeLine_eq
 have G:(F.map AJ).length<=10000000/\D4 (AU 0) LC (Dv^AL (Ao CA (AH 0)^wC^D.int 2)^AL (Ao CA (AH 0)^wC^D.int 0)^AL (Ao CA (AH 0)^wC^D.int 1) Ab) (λi C=>Ds [.lst i] λz=>Bb (wC z) C [] λH N=>H.length<=10000000/\D4 (D8 3^Ai (AU 0)^Ai (AU 1)^Ai (AU 2) CN) LC (Dv^AL (AH 1)^AL (AH 2)^AL (AH 0) Ab) (λi C=>L (.lst i) C) H [] N [.no,.no,.no]) (F.map AJ) [] n [.no]:=by
  refine#[by rw[FM];lk,?_];refine A8 MX (λr=>∃s,r=[s]) _ _ _ _ ?_ #[_,rfl] ?_
  .rintro d e r m O ⟨s,rfl⟩ k
   let#[t,Q,rfl]:=TM.mp e;exact#[_,AF (j:=2) rfl,_,AF (j:=0) rfl,_,AF (j:=1) rfl,z3,k _ #[_,rfl]]
  rw[fW,gY];refine#[_,_,rfl,rfl,by rw[FM];exact B,#[λx E=>?_,λx E y R S U V W=>?_],λX Z v=>?_]
  .let#[t,_,rfl]:=TM.mp E
   exact#[Bk t,rfl,g_ _ _]
  .let#[t,_,rfl]:=TM.mp E
   let#[u,_,rfl]:=TM.mp R;cases(show P3^Bk t=P3 S from V);cases(show P3^Bk u=P3 U from W);rfl
  .let#[o,I,rfl]:=KC (f:=MX∘AJ) (g:=λd=>match d with|.tup [.int l,.str a,.str b]=>#[a,b,l]|_=>#["","",0]) (λ_=>rfl) Z
   have v:CM o:=by
    unfold Gu at v;rw[jF]at v;exact v.imp λ{s t} z=>z _ _ rfl rfl
   refine#[by show(o.map (MX∘AJ)).length<=10000000;rw[FM,I.length_eq];lk,?_];refine A8 (λd=>match d with|.tup [l,a,b]=>.tup [a,b,l]|d=>d) (λr=>∃a b c,r=[a,b,c]) _ _ _ _ ?_ #[_,_,_,rfl] ?_
   .rintro d e r m O ⟨a,b,c,rfl⟩ k
    let#[t,Q,rfl]:=TM.mp e;exact#[rfl,rfl,z3,k _ #[_,_,_,rfl]]
   .rw[fW,gY]
    exact p o I v
 cases d with
 |lst ys=>cases e;exact G
 |tup ys=>cases e;exact G
 |_=>cases e)
def Bh:A.Y "_law_lengths" 1 ["_law_ties","_law_place"] .fr Gr:=A.gk A.h16 ["_law_ties","_law_place","_law_known","_law_grew","_law_a","_law_b","_law_length_here","_law_one","_law_other"] (λ_ E R=>(AC (L_ 2 E^NH (dv 1) AB)
 (AC (B5 3 E CC)
 (AC (Ga fP (A_^dv 3) (AC (B5 3 E CC)
 (AD (Pm fP rfl (pv 0) (Qy^Ad (Bx 4 E)^Ad (Bx 5 E)^Ad (Bx 6 E) Bu) (AD (BR fP rfl (Cb^Al^AA (Aa^AA (dv 4)^AA (dv 5) AG)^AA (Aa^AA (dv 5)^AA (dv 4) AG) AG) (Qy^Ad (Bx 7 E)^Ad (Bx 8 E) Bu) (AD (Am (DTW.dt^DV (Be (N3 R) UM (dv 7)^Cp 2)^C6^Be (Eu R) Ho (AZ Af Ax (BQ R (Cp 2)^dv 7)^dv 6)^Pp R (Cp 2) (dv 8)^AZ Er DZ AB AB) (AC (Lq (i:=2) R (pv 2) (dv 8)^AZ Af Ax (BQ R (Cp 2)^dv 7)^dv 6)
 (AD^B5 3 E CC)) AS))))))))
 (AD^Gc 2^pv 2))))) (@λss n Pd h=>by
 let#[N,s,S,us,rfl,a2,U,V,hs,p]:=h;have a9:=PySem.sizeLine_eq;have ok:=V.1;have b0:=V.2.1;exists _,Aj s
 have step:∀(D3:E2) (x y:Str) (l:Int),Ed N x y l->∀(j:q_ Key) (k:q_ D) (K:Kn) (g:Bool) (r v F G:Slot),Dmap j k D.int K->Bf N s j.length K->
   (∀(I:q_ Key) (W:q_ D) (q:Kn) (g':Bool) (t7 t8:Slot),Dmap I W D.int q->Bf N s I.length q->((g'=g/\q=K/\IZ K (x,y,l))\/(g'=o_/\RH N.ps q<RH N.ps K))->
    D3.nx n [.br S,.sh^.str s,.ow^.dic I W,.sh^.bl g',r,v,.sh^.int l,t7,t8])->
   T9 D3 n [.br S,.sh^.str s,.ow^.dic j k,.sh^.bl g,r,v,.sh^.int l,.sh^.str x,.sh^.str y]:=by
  intro D3 x y l he j k K g r v F G M B hD;have kl:=M.le B.ins;exists j,k,_,rfl,Aj x;show if((BA j k^.inr x).isSome)=o_ then _ else _
  cases ex:K x with
  |none=>
   rw[M.at_,ex];exact BJ^hD j k K g _ _ M B^.inl #[rfl,rfl,λd e=>by rw[show K x=P3 d from e]at ex;cases ex]
  | some d=>
   have b1:=B.top x d ex;have lp:=(he.pos ok).2;rw[M.at_,ex];refine BS #[j,k,_,_,rfl,Aj x,by rw[M.at_,ex];rfl,?_];exists j,k,rfl,#[by cbv,by cbv,by cbv],_,Aj y
   have X:(K y=n_\/∃H,K y=P3 H/\d+l<H)->(BE (MF 2 (AH 8)^Ao Bw (Ao CQ (As 2)^AH 7)^AH 6)^Cq 3^wC^D.bl o_) D3 n [.br S,.sh^.str s,.ow^.dic j k,.sh^.bl g,r,v,.sh^.int l,.sh^.str x,.sh^.str y]:=λJ=>by
    refine#[j,k,rfl,j,k,_,.int d,rfl,Aj x,by rw[M.at_,ex];rfl,_,Aj y,by lk,?_];have C:=Io j^.inr y
    have Z:=B.put ok (c':=(Cv j^.inr y).length) (by rw[C];split <;>lk) (by rw[C];split <;>lk) ex he (λe=>by rw[C,if_neg^by rw[(M.has (x:=y)).1 e];decide]) (λH e=>by
     rcases J with J|⟨d2,J,a0⟩
     .rw[e]at J;cases J
     .rw[e]at J;cases J;exact a0)
    exact hD _ _ _ o_ _ _ (M.put y (d+l)) Z.1^.inr #[rfl,Z.2]
   rw[M.at_];cases ey:K y with
   |none=>
    show if decide (d+l<(10:Int) ^ (20:Int).toNat)=o_ then _ else _
    rw[decide_eq_true^by rw[eg];lk];exact BS^X^.inl ey
   | some H=>
    show if decide (d+l<H)=o_ then _ else _
    by_cases c:d+l<H
    .rw[decide_eq_true c]
     exact BS^X^.inr #[H,ey,c]
    .rw[decide_eq_false c]
     refine BJ^hD j k K g _ _ M B^.inl #[rfl,rfl,λd2 e=>?_];rw[show K x=P3 d2 from e]at ex;cases ex;exact#[H,ey,by show H<=d+l;lk]
 refine Gv (λm n' ρ=>n'=n/\∃(j:q_ Key) (k:q_ D) (K:Kn) (g:Bool) (r v T F G:Slot),ρ=[.br S,.sh^.str s,.ow^.dic j k,.sh^.bl g,r,v,T,F,G]/\Dmap j k D.int K/\Bf N s j.length K/\((g=o_/\m=RH N.ps K+1)\/(g=p_/\m=0/\∀t∈N.ts,IZ K (t.a,t.b,t.len)/\IZ K (t.b,t.a,t.len)))) _ #[rfl,_,_,_,o_,_,_,_,_,_,rfl,Dmap.one (enc:=D.int) (a:=(0:Int)),Bf.init hs,.inl #[rfl,rfl]] ?_ ?_
 .rintro m n' ρ N' ⟨rfl,j,k,K,g,r,v,T,F,G,rfl,M,B,L⟩ hN
  rcases L with⟨rfl,hm⟩|⟨rfl,_,ht⟩
  .have O:∀(o done:q_ AX) (j:q_ Key) (k:q_ D) (q:Kn) (g:Bool) (r v T F G:Slot),done++o=us->Dmap j k D.int q->Bf N s j.length q->((g=o_/\RH N.ps q<RH N.ps K)\/(g=p_/\RH N.ps q<=RH N.ps K/\∀t∈done,IZ q (t.a,t.b,t.len)/\IZ q (t.b,t.a,t.len)))->
     Ae (D8 3^Ai (AU 4)^Ai (AU 5)^Ai (AU 6) CN) (F5 (Bb^FS^AL (Dv^AL (AH 4)^AL (AH 5) Ab)^AL (Dv^AL (AH 5)^AL (AH 4) Ab) Ab) (D8 2^Ai (AU 7)^Ai (AU 8) CN) T9) {EF Pd with nx:=N',ct:=N',bk:=ME 2^EF Pd} (o.map AJ) n' [.br S,.sh^.str s,.ow^.dic j k,.sh^.bl g,r,v,T,F,G]:=by
    intro o
    induction o with
    |nil=>
     intro done j k q g r v T F G e M B L;rw[fh]at e;subst e
     rcases L with⟨rfl,a0⟩|⟨rfl,_,ht⟩
     .exact hN (RH N.ps q+1) _ _ (by lk) #[rfl,j,k,q,o_,_,_,_,_,_,rfl,M,B,.inl #[rfl,rfl]]
     .exact hN 0 _ _ (by lk) #[rfl,j,k,q,p_,_,_,_,_,_,rfl,M,B,.inr #[rfl,rfl,λt h=>ht t^(U t).mpr h]]
    | cons t o ih=>
     intro done j k q g r v T F G e M B L;have a1:t∈N.ts:=(U t).mp (by rw[←e];exact fR _ Re);have e':(done++[t])++o=us:=by rw[gF];exact e
     have ed:=FN a1;exists rfl,rfl,z2,z2,z2;exists rfl,rfl;refine step _ t.a t.b t.len ed.1 j k q g _ _ F G M B λa3 a4 K1 g1 t7 t8 M1 B1 h1=>?_;exists rfl,rfl;refine step _ t.b t.a t.len ed.2 a3 a4 K1 g1 _ _ t7 t8 M1 B1 λa5 a6 K2 g2 u7 u8 M2 B2 h2=>?_;refine ih (done++[t]) a5 a6 K2 g2 _ _ _ _ _ e' M2 B2 ?_
     rcases h1 with⟨rfl,rfl,t1⟩|⟨rfl,b2⟩
     .rcases h2 with⟨rfl,rfl,t2⟩|⟨rfl,a7⟩
      .rcases L with z|⟨z1,z2,z3⟩
       .exact .inl z
       .refine .inr #[z1,z2,λu hu=>?_]
        rcases ZB.mp hu with hu|hu
        .exact z3 u hu
        .rw[Op.mp hu];exact#[t1,t2]
      .refine .inl #[rfl,?_]
       rcases L with⟨_,z⟩|⟨_,z,_⟩ <;>lk
     .have base:RH N.ps K1<RH N.ps K:=by rcases L with⟨_,z⟩|⟨_,z,_⟩ <;>lk
      rcases h2 with⟨rfl,rfl,t2⟩|⟨rfl,a7⟩
      .exact .inl #[rfl,base]
      .exact .inl #[rfl,by lk]
   exact#[S,_,rfl,a2,O us [] j k K p_ _ _ _ _ _ rfl M B (.inr #[rfl,Rs _,λt h=>by cases h])]
  .exact#[_,rfl,p j k K M^B.told ok (by have:=M.le B.ins;lk) ht]
 .rintro n' ρ P Q a8 h
  unfold Ah AH at h ⊢
  split at h
  .rename_i d hd
   cases d with
   |bl b=>exact a8 _ _ h
   |_=>exact h.elim
  .exact h.elim)
def Ey:A.Y "_law_within" 1 ["_law_length_here","_law_times","_law_number"] .sh IR:=A.gk A.h17 ["_law_length_here","_law_times","_law_number"] (λ_ _ d=>(AD^AN^Du N1 UJ (AZ FJ HI (dv 0)^A1 (dv 1) AB) (AZ FJ HI (dv 2)^A1 (dv 1) AB)^B0 _)) (@λe n g h=>by
 let#[l,t,b,x,rfl,i,a,k,c,p]:=h;exact#[_,AF (j:=1) rfl,bA (by lk) a,_,AF (j:=0) rfl,bA (by lk) c,p])
def Mg:A.Y "_law_way" 2 ["_law_ties","_law_a","_law_b"] .sh WH:=A.gk A.h18 ["_law_ties","_law_a","_law_b","_law_known","_law_way_here","_law_one","_law_other","_law_length_here","_law_near"] (λT nd L=>(AC (B5 3 nd^cg L (Bh A)^AO (Cz^Cp 0)^Ak 1 AE)
 (AC (Am (Be (C_ L) D9 (dv 2)^dv 3) (AD^AN Ap) AS)
 (AC (L_ 4 nd^Al^AA (dv 2) AG)
 (AC (Ga fP (Be Sh Yu (A1 (Cp 4) AB)^dv 1) (AD (Pm fP rfl (pv 0) (Qy^Ad (Bx 5 nd)^Ad (Bx 6 nd)^Ad (Bx 7 nd) Bu) (AC (B5 8 nd^Gg (Be Ci FD (dv 5)^A1 (Cp 4) AB) (dv 6)^Gg (Be Ci FD (dv 6)^A1 (Cp 4) AB) (dv 5) Ap)
 (AD (Am (DTW.dt^DV (Be FI HH (dv 8) Ap)^DV (Be (N3 L) UM (dv 8)^dv 3)^C6^Be Ci FD (AZ Af Ax (BQ L (dv 3)^dv 8)^dv 7)^BQ L (dv 3)^A1 (Cp 4) AB) (AC (CB 4 Jl PySem.F.slot_list_insert PySem.F.type_list_insert Qb bH (pv 4)^AA AB^AA (dv 8) AG)
 (AD Th)) AS))))))
 (AD^AN^OM T.Gab^Cp 4)))))) (@λss n Pd h=>by
 let#[N,a,c,z,us,rfl,hz,J,R,ha,hc,p]:=h;have ok:=R.1;have a6:=PySem.sizeLine_eq;refine#[N,a,z,us,rfl,hz,J,R,ha,λE G K Mp T=>?_];exists E,G,_,rfl,Aj c;show if(!(BA E G^.inr c).isSome)=o_ then _ else _
 rw[Mp.at_];cases ec:K c with
 |none=>exact BS^p n_ λd hd=>T.all c d hd ec
 | some S=>
  refine BJ #[z1,?_];have c0:0<=S:=(T.least c S ec).1.pos ok
  exists λm U ρ=>U=n/\∃(x:Str) (r:q_ Str) (k:Int) (o s v B:Slot),ρ=[.br z,.sh^.str a,.sh^.str c,.sh^.dic E G,.ow^.lst^(x::r).map .str,o,s,v,B]/\WI39 N K c S x r k/\m=k.toNat,
   #[_,rfl,c,[],S,_,_,_,_,rfl,#[rfl,#[0,rfl,by lk],ec,by simp,λy V=>by rw[Op.mp V];exact#[hc,S,ec,iy _]],rfl]
  rintro m U ρ ⟨rfl,x,r,k,o,s,v,B,rfl,I,rfl⟩;have a5:(x::r).length<=N.ps.length:=IV I.nd λy V=>(I.far y V).1;have a7:=R.2.1;exists _,AF (j:=0) rfl;show if(!(x==a))=o_ then _ else _
  cases cx:x==a with
  |true=>
   have ex:x=a:=eq_of_beq cx;subst ex;refine BJ ?_;let#[e,C,M]:=I.wk;have hl:=T.least x k I.at_;have e0:k=0:=Int.le_antisymm (hl.2 0 .nil)^hl.1.pos ok
   have:e=S:=by lk
   subst this;exact p (P3 (x::r)) #[e,r,rfl,I.lst,C,T.least c e ec,by lk,λy V=>(I.far y V).1]
  | false=>
   have ne:x≠a:=λz=>by rw[z,beq_self_eq_true]at cx;cases cx
   refine BS #[λn2 zP=>∃m',m'<k.toNat/\n2=U/\∃(x:Str) (r:q_ Str) (k:Int) (o s v B:Slot),zP=[.br z,.sh^.str a,.sh^.str c,.sh^.dic E G,.ow^.lst^(x::r).map .str,o,s,v,B]/\WI39 N K c S x r k/\m'=k.toNat,λn2 zP h=>h,z,us.map AJ,rfl,hz,?_];let#[y,i,l,W,el,e]:=UA ok T I.at_ ne
   have ed:Ed N y x l:=by
    unfold look at el;cases cc:(Dd N.ts y).find? λz=>decide (z.1=x)with
    |none=>rw[cc]at el;cases el
    |some q=>
     rw[cc]at el;have e1:q.1=x:=of_decide_eq_true^j7 (p:=λz:Str×Int=>decide (z.1=x)) cc;have e2:q.2=l:=fG el;rw[←e1,←e2];exact iS cc
   have ex:∃t∈us,Im K x k t:=by
    let#[t,X,rfl,hj]:=ed.tie ok;have Z:=(ok.tin t X).2.2.1
    rcases hj with⟨rfl,rfl⟩|⟨rfl,rfl⟩
    .exact#[t,(J t).mpr X,.inr #[λz=>by rw[z]at Z;exact iP _ Z,rfl,i,W,e]]
    .exact#[t,(J t).mpr X,.inl #[rfl,i,W,e]]
   have go:∀(g:q_ AX) (H:E2) (o s v B:Slot),(∀t∈g,t∈N.ts)->(∃t∈g,Im K x k t)->
     (∀(y:Str) (i l:Int) (o s v B:Slot),K y=P3 i->y∈N.ps->1<=l->i+l=k->Ed N y x l->H.nx U [.br z,.sh^.str a,.sh^.str c,.sh^.dic E G,.ow^.lst^(y::x::r).map .str,o,s,v,B])->
     Ae (D8 3^Ai (AU 5)^Ai (AU 6)^Ai (AU 7) CN) Su H (g.map AJ) U [.br z,.sh^.str a,.sh^.str c,.sh^.dic E G,.ow^.lst^(x::r).map .str,o,s,v,B]:=by
    intro g
    induction g with
    |nil=>intro H o s v B _ #[t,X,_];cases X
    | cons t g ih=>
     intro H o s v B L hq O;have a1:=L t Re;let#[ma,mb,Z,t1,t2]:=ok.tin t a1;let#[d1,d2]:=FN a1
     have on:¬Im K x k t->∀o s v B,Ae (D8 3^Ai (AU 5)^Ai (AU 6)^Ai (AU 7) CN) Su H (g.map AJ) U [.br z,.sh^.str a,.sh^.str c,.sh^.dic E G,.ow^.lst^(x::r).map .str,o,s,v,B]:=λhn o s v B=>by
      let#[t',a0,a2]:=hq
      rcases Tk.mp a0 with rfl|a0
      .exact absurd a2 hn
      .exact ih H _ _ _ _ (λu hu=>L u^Sc _ hu) #[t',a0,a2] O
     have Q:∀(y:Str) (l:Int),y∈N.ps->Ed N y x t.len->(∀i,K y=P3 i->i+t.len=k->Im K x k t)->(Im K x k t->∃i,K y=P3 i/\i+t.len=k)->(CU (Eb (Ah^Ao (HE o_) (AH 8)^wC D.non)^Eb (Ah^Ao (NC p_) (AH 8)^AH 3)^Ah^Ao (Ph p_) (Ao Bw (Ao CQ (AH 3)^AH 8)^AH 7)^Ao CQ (AH 3)^Ao CA (As 4)^wC^D.int 0) (BE (LF 4 "list" Ye^AL (wC^D.int 0)^AL (AH 8) Ab)
 Nb) Bm) {H with nx:=Ae (D8 3^Ai (AU 5)^Ai (AU 6)^Ai (AU 7) CN) Su H^g.map AJ,ct:=Ae (D8 3^Ai (AU 5)^Ai (AU 6)^Ai (AU 7) CN) Su H^g.map AJ,bk:=H.nx} U [.br z,.sh^.str a,.sh^.str c,.sh^.dic E G,.ow^.lst^(x::r).map .str,.sh^.str t.a,.sh^.str t.b,.sh^.int t.len,.sh^.str y]:=λy _ V a4 a8 a3=>by
      exists rfl;exists E,G,_,rfl,Aj y;show if(BA E G^.inr y).isSome=o_ then _ else _
      rw[Mp.at_];cases W:K y with
      |none=>exact BJ^BJ^on (λh=>by let#[i,C,_]:=a3 h;rw[W]at C;cases C) _ _ _ _
      | some i=>
       refine BS #[E,G,_,.int i,rfl,Aj y,by rw[Mp.at_,W];rfl,_,AF (j:=0) rfl,E,G,_,.int k,rfl,Aj x,by rw[Mp.at_,I.at_];rfl,?_];show if((i+t.len:Int)==k)=o_ then _ else _
       cases cq:(i+t.len:Int)==k with
       |false=>exact BJ^on (λh=>by let#[a9,C,M]:=a3 h;rw[W]at C;cases C;rw[M,beq_self_eq_true]at cq;cases cq) _ _ _ _
       |true=>
        refine BS #[_,rfl,rfl,_,0,_,rfl,rfl,by cbv,by lk,by cbv,by rw[FM];lk,?_];exact O y i t.len _ _ _ _ W V t1 (eq_of_beq cq) a4
     unfold Su;exists rfl,rfl,_,AF (j:=0) rfl;show if(t.a==x)=o_ then _ else _
     cases ca:t.a==x with
     |true=>
      have ea:t.a=x:=eq_of_beq ca;exact BS^Q t.b t.len mb (by rw[←ea];exact d2) (λi C M=>.inl #[ea,i,C,M]) λh=>h.elim (λh=>h.2) λh=>absurd ea h.1
     | false=>
      have na:t.a≠x:=λz=>by rw[z,beq_self_eq_true]at ca;cases ca
      refine BJ #[_,AF (j:=0) rfl,?_];show if(t.b==x)=o_ then _ else _
      cases cb:t.b==x with
      |true=>
       have eb:t.b=x:=eq_of_beq cb;exact BS^Q t.a t.len ma (by rw[←eb];exact d1) (λi C M=>.inr #[na,eb,i,C,M]) λh=>h.elim (λh=>absurd h.1 na) λh=>h.2.2
      |false=>
       have nb:t.b≠x:=λz=>by rw[z,beq_self_eq_true]at cb;cases cb
       refine BJ ?_;exact#[rfl,on (λh=>h.elim (λh=>na h.1) λh=>nb h.2.1) _ _ _ _]
   refine go us _ _ _ _ _ (λt X=>(J t).mp X) ex λy i l o s v B C M h3 h4 h5=>?_;have y0:0<=i:=(T.least y i C).1.pos ok;exact#[i.toNat,by lk,rfl,y,x::r,i,_,_,_,_,rfl,I.step C M h3 h4 h5,rfl])
omit A in
def nE:A5 ["_law_e","_law_some"] ["_law_e"]^AK Ei:=by walk_at "s"
def Hw:Jc P w K mg base:=A.gotH A.h19 λT F=>by
 let#[C_NoLine,U_NoLine,o,q]:=T.x_NoLine;let#[C_NoPaper,U_NoPaper,b,c]:=T.x_NoPaper;let#[C_NoPlace,U_NoPlace,d,g]:=T.x_NoPlace;let#[C_NoRow,U_NoRow,r,t]:=T.x_NoRow;let#[C_NoTie,U_NoTie,u,v]:=T.x_NoTie;let#[C_TooMany,U_TooMany,j,m]:=T.x_TooMany;let#[C_Twice,U_Twice,x,z]:=T.x_Twice;exact c9 F nE (by cbv) (λI A C s H E J L=>(AC (B5 1 nE.nd^Al^AA (F1 (i:=0) (by cbv) j rfl m rfl T.Gaa)^AA (F1 (i:=0) (by cbv) x rfl z rfl T.Gaa)^AA (F1 (i:=0) (by cbv) d rfl g rfl T.Gaa)^AA (F1 (i:=0) (by cbv) u rfl v rfl T.Gaa) AG)
 (AC (B5 1 nE.nd^AZ Af Ax (dv 1)^Al^AA (F1 (i:=0) (by cbv) o rfl q rfl T.Gaa)^AA (F1 (i:=0) (by cbv) r rfl t rfl T.Gaa)^AA (Ts (V6 (i:=0) rfl T.Gak rfl T.Gaa)) AG)
 (AC (Am (DTW.dt^Cy (Be (VJ J) Fk CC^dv 1)^B4^Bg^A_ (F1 (i:=0) (by cbv) b rfl c rfl T.Gaa)) (AD^AN AY) AS)
 (AD^AN^Aa^AA (W8 (i:=0)^by cbv)^AA (W8 (i:=0)^by cbv) AG))))) (λM n N _ h=>by
 let#[a,w,k,rfl,p]:=h
 have G:∀l:q_ D,l=gK 7^.bl p_->CD^.lst l/\(l.any λy=>Cu y^.bl o_)=p_:=λl e=>by
  subst e;exact#[Br (B:=10 ^ 40) (by cbv) #[trivial,trivial,trivial,trivial,trivial,trivial,trivial,trivial]^by cbv,rfl]
 have O:decide (("NoPaper":Str)="TooMany")=p_:=by cbv
 have Q:decide (("NoPaper":Str)="Twice")=p_:=by cbv
 have R:decide (("NoPaper":Str)="NoPlace")=p_:=by cbv
 have S:decide (("NoPaper":Str)="NoTie")=p_:=by cbv
 have U:decide (("NoPaper":Str)="NoLine")=p_:=by cbv
 have V:decide (("NoPaper":Str)="NoRow")=p_:=by cbv
 exists z4,z3,by cbv,Br (B:=10 ^ 40) (by cbv) trivial (by cbv),?_,_,rfl
 .simp_all
 .have k:=(G ([.bl (decide (("NoPaper":Str)="TooMany")),.bl (decide (("NoPaper":Str)="Twice")),.bl (decide (("NoPaper":Str)="NoPlace")),.bl (decide (("NoPaper":Str)="NoTie"))]++[.bl (decide (("NoPaper":Str)="NoLine")),.bl (decide (("NoPaper":Str)="NoRow")),.bl !o_])^by simp_all).2
  exact#[_,aM _ _,_,aL _ _,z2,p])
def Ez:A.Y "_law_breaks" 1 ["_law_ties","_law_many"] .fr WK:=A.gk A.h1a ["_law_ties","_law_many","_law_found","_law_k"] (λT H hr=>(AC (L_ 2 H^Al^AA (Al AG) AG)
 (AC (Am (Be EH Gq (dv 1) AB) (AD^L_ 2 H^AZ PN K4 (Cp 2)^Jf ["_law_tie"] [n_] (A4^Cp 0) (λI=>Bx 0 I) BP^Al^AA (dv 0) AG) AS)
 (AC (Am (Be EH Gq (dv 1) AB) (AD (BR fP rfl (D6 rfl T.Gae (AT (OO T.Gac^Cp 0) Ac)) (Bx 3 H) (AD^CB 2 Jl PySem.F.slot_list_extend PySem.F.type_list_extend G7 UL (pv 2)^AA (Jf ["_law_ties","_law_k","_law_j"] [P3 0,P3 3,n_] (DI.c (D6 rfl T.Gae (AT (dv 3) Ac))) (λI=>Bx 2 I) BP^Al^AA (A1 (Cp 0)^dv 1)^AA (A1 (Cp 0)^dv 2) AG) AG))) AS)
 (AD^Gc 2^pv 2))))) (@λss n Pd h=>by
 let#[z,g,m,rfl,rfl,x,m1,O,p]:=h;have U:=PySem.sizeLine_eq;have r:(g.map AJ).length=g.length:=FM ..;exists z0,z1;refine Ba (λ_=>?_) λc=>absurd (decide_eq_true (by lk:(0:Int)<(m:Int))) c;refine#[by show(g.map AJ).length<=10000000;lk,?_];refine A8 (λd=>.lst [d]) (λo=>∃s,o=[s]) _ _ _ _ ?_ #[_,rfl] ?_
 .rintro d Q o E V ⟨s,rfl⟩ v
  exact#[z1,v _ #[_,rfl]]
 rw[fW]
 have W:[D.lst []]++(g.map AJ).map (λd=>D.lst [d])=(C4 g).map NE:=by
  unfold C4;rw[gD,gY,gY];rfl
 refine#[by rw[FM,r];show 1+g.length<=sizeLine;lk,?_];rw[W];refine Ba (λc=>?_) λc=>?_
 .have c:1<(m:Int):=of_decide_eq_true c
  have J:m=2:=by lk
  subst J;exists _,_,rfl,rfl,_,rfl,#[(by first|exact u0|exact u1|exact u2|exact w0|exact w1|lk),(by first|exact u0|exact u1|exact u2|exact w0|exact w1|lk)];refine D1 (all:=Em 0 (((g.map AJ).length:Int)).toNat) (λl E o=>E=n/\l.length<=g.length/\∃L,o=[.br^.lst^g.map AJ,.sh^.int ((2:Nat):Int),.ow^.lst^(C4 g++EG g l.length).map NE,L]) ?_ ?_ _ [] _ _ rfl #[rfl,Uf _,_,by rw[show EG g ([]:q_ D).length=[]from rfl,fh];rfl]
  .rintro E o ⟨rfl,_,L,rfl⟩
   have X:(Em 0 (((g.map AJ).length:Int)).toNat).length=g.length:=by rw[El,r];rfl
   rw[X];refine#[_,rfl,p (C4 g++EG g g.length) #[λS t=>?_,Q3 (λS h=>gP _ h) λS h=>fR _ h]]
   rcases ZB.mp t with t|t
   .let#[a,b]:=HM t
    exact#[(by first|exact u0|exact u1|exact u2|exact w0|exact w1|lk),b]
   .exact N0 t^Rs _
  .rintro l d R E o V y ⟨rfl,M,L,rfl⟩ u
   let#[rfl,q]:=Oz y;have B:(l++[D.int (0+(l.length:Int))]).length=l.length+1:=by rw[XV,fS]
   rw[B]at u;generalize l.length=k at q u M ⊢;have q:k<g.length:=by rw[r]at q;exact q
   have C:∀i:Nat,i<g.length->∀j:Int,j=(i:Int)->atI (g.map AJ) j=P3^AJ^g.getD i Dr:=λi G j e=>by
    rw[e];exact AF^by rw[fK,GX G];rfl
   refine#[_,rfl,rfl,_,rfl,#[(by first|exact u0|exact u1|exact u2|exact w0|exact w1|lk),(by first|exact u0|exact u1|exact u2|exact w0|exact w1|lk)],by rw[El];lk,?_];refine A8 (λd=>match d with|.int i=>.lst [AJ^g.getD k Dr,AJ^g.getD i.toNat Dr]|_=>.non) (λo=>∃s,o=[.br^.lst^g.map AJ,.sh^.int (0+(k:Int)),s]) _ _ _ _ ?_ #[_,rfl] ?_
   .rintro d Q o O N ⟨s,rfl⟩ v
    let#[i,G,rfl]:=MU Q;have v:N (.lst [AJ^g.getD k Dr,AJ^g.getD (0+(i:Int)).toNat Dr]) O [.br^.lst^g.map AJ,.sh^.int (0+(k:Int)),.sh^.int (0+(i:Int))]:=v _ #[_,rfl];rw[show(0+(i:Int)).toNat=i from zn i]at v;exact#[_,C k q _^kG _,_,C i (l7 (by rw[zn]at G;exact G) q) _^kG _,z2,v]
   .have Z:(Em 0 ((0+(k:Int))).toNat).map (λd=>match d with|.int i=>D.lst [AJ^g.getD k Dr,AJ^g.getD i.toNat Dr]|_=>.non)=((fo k).map λj=>[g.getD k Dr,g.getD j Dr]).map NE:=by
     unfold Em;rw[gY,gY,show(0+(k:Int)).toNat=k from zn k];refine lF λj _=>?_;show D.lst [AJ^g.getD k Dr,AJ^g.getD (0+(j:Int)).toNat Dr]=_;rw[show(0+(j:Int)).toNat=j from zn j];rfl
    rw[fW,Z];have pl:=Ir g k;have a0:k*k<=60*60:=mT (fJ (j8 q) x)^fJ (j8 q) x;exists _,_,rfl,rfl,?_
    .rw[FM,XV,FM,FM,jj]
     unfold C4;rw[fF,FM];lk
    .refine u _ _ #[rfl,q,.sh^.int (0+(k:Int)),?_]
     rw[HS,←gF,fg,fg,fg];rfl
 .have J:m=1:=by
   have c:¬(1:Int)<(m:Int):=λz=>c^decide_eq_true z;lk
  subst J;exact#[_,rfl,p (C4 g) #[λS t=>HM t,DC λS h=>h]])
def G6:A.Y "_law_breaking" 2 ["_law_ties","_law_times","_law_tie","_law_many"] .sh Hr:=A.gk A.h1b ["_law_ties","_law_times","_law_tie","_law_many","_law_gone","_law_length_here"] (λ_ F o=>(AC (BR fP rfl (Cb^cg o (Ez A)^AO (Cz^Cp 0)^Ak 3 AE) (Bx 4 F) (AC (B5 5 F^V7 o (cg o (Bh A)^AO (Cz^Jf ["_law_gone","_law_one"] [P3 4,n_] (A4^Cp 0) (λI=>Bx 1 I) (CL^Be (CV o) Fk (dv 1)^dv 0)^dv 1)^BG (A1 (dv 2) AB) AE)^A1 (dv 2) AB)
 (AD^Am (DTW.dt^Cy (Be DM FC (dv 5) Ap)^B4^Bg^A_^cg o (Ey A)^Ak 5^Ak 1^BG (A1 (dv 2) AB) AE) (AD^AN^dv 4) AS)))
 (AD^AN Ap))) (@λss n B h=>by
 let#[N,k,u,t,b,m,rfl,q,i,C,J,#[M,O,Q,R],U,V,p]:=h;have ok:=q.1;refine#[_,k,m,rfl,rfl,C,U,V,λL W=>?_]
 have X:∀(g:q_^q_ AX) (r x:Slot),(∀S∈g,S∈L)->Ae (AU 4) aP {EE B with nx:=Bo (wC D.non)^EE B} (g.map NE) n [.br^.lst^k.map AJ,.sh^.tup [.int t,.int b],.sh^AJ u,.sh^.int (m:Int),r,x]:=by
  intro g
  induction g with
  |nil=>intro r x _;exact p n_ λl e=>by cases e
  | cons S g Z=>
   intro r x h;let#[s1,G]:=W.1 S^h S Re;have E:=BX (Ce q k) S;have z:B (NE S) n:=p (P3 S) λl e=>by cases e;exact#[G,s1]
   have next:=λr x=>Z r x λS h'=>h S^Sc _ h';refine#[by show(k.map AJ).length<=10000000;rw[FM];lk,?_];refine BY (λd=>!((S.map AJ).any λy=>Cu y d)) id (λH=>∃s,H=[.sh^.lst^S.map AJ,s]) _ _ _ _ ?_ #[_,rfl] ?_
   .rintro d hd H m' nx sk ⟨s,rfl⟩ h1 h2
    let#[v,hv,rfl]:=TM.mp hd;exact#[Bt ok^i v hv,(BN ok λw hw=>i w^G w hw).2,_,rfl,Ba (λc=>h1 _ #[_,rfl] c) λc=>h2 _ #[_,rfl]^fj.mpr c]
   rw[fW,iT,DP];refine#[_,AF (j:=0) rfl,minus (sub N k) S,u.a,_,k.filter λv=>decide (v∉S),rfl,rfl,λv=>?_,E,J,λks ds K Mp T=>#[ks,ds,rfl,_,AF (j:=1) rfl,_,Aj u.b,?_]]
   .rw[gS,decide_eq_true_eq,minus_mem,sub_mem]
    exact#[λh=>#[#[i v h.1,h.1],h.2],λh=>#[h.1.2,h.2]]
   rw[Vi Mp];cases K u.b with
   |none=>exact#[rfl,z]
   | some d=>
    exists rfl,_,AF (j:=2) rfl,d,t,b,u.len,rfl,M,O,Q,R
    by_cases c:d*b<=u.len*t
    .rw[decide_eq_true c]
     exact next _ _
    .rw[decide_eq_false c]
     exact z
 exact X L _ _ λ_ h=>h)
def Js:A.Y "_law_dense" 3 ["_law_feed_here"] .sh Y4:=have x:=BB A;A.gk A.h1c ["_law_feed_here","_law_places","_law_way_here","_law_rare","_law_ties","_law_a","_law_b","_law_length_here"] (λT G g=>(AC (B5 1 G^cg g (Fb A)^AO (A3 0)^BG (AZ Bc B7 AB^AZ FJ HI (cg g x^AO (A3 0)^BG AB AE)^cg g x^AO (A3 0)^BG AB AE) AE)
 (AC (B5 2 G^cg g x^AO (A3 0)^BG AB AE)
 (AC (B5 3 G^A1 (Al^AA AB^AA AB^AA AB^AA AB AG)^cg g x^AO (A3 0)^BG AB AE)
 (AC (L_ 4 G^Al AG)
 (AC (BR fP rfl (Cb^dv 1) (Bx 5 G) (AD (BR fP rfl (Cb^dv 1) (Bx 6 G) (AD (Am (DTW.dt^DV (Be (Eu g) Ho (dv 5)^dv 6)^C6^Be EH Gq (cg g x^AO (A3 0)^Ak 3 AE) AB) (AC (B5 7 G^A1 (Al^AA AB^AA (AZ Af Ax AB^cg g x^AO (A3 0)^BG AB AE)^AA (AZ Bc B7 (AZ Er DZ AB AB)^cg g x^AO (A3 0)^BG AB AE)^AA (AZ Af Ax AB^cg g x^AO (A3 0)^BG AB AE) AG)^dv 2)
 (AD^CB 4 Jl Nj Nf A2 C1 (pv 4)^AA (Aa^AA (dv 5)^AA (dv 6)^AA (dv 7) AG) AG)) AS)))))
 (AD^AN^Aa^AA (dv 1)^AA (OM T.Gab (Av B6 ER rfl T.Gad jI (AT (Cp 4) Ac))) AG))))))) (@λss n Pd h=>by
 let#[rfl,hn,p]:=h;have N:=PySem.sizeLine_eq;refine#[3,rfl,by cbv,by cbv,u0,λZ a0 a1=>#[2,rfl,by cbv,by cbv,u1,λO a2 a3=>#[bA (by lk)^by lk,?_]]]
 have hq:0<=Z*O/\Z*O<=2:=by
  have:O=0\/O=1:=by lk
  rcases this with rfl|rfl
  .rw[Int.mul_zero];decide
  .rw[Int.mul_one];lk
 generalize Z*O=q at hq ⊢;refine#[(5 - q).toNat,by rw[show(((5 - q).toNat:Nat):Int)=5 - q by lk],by lk,by lk,λxs hl hx g=>?_];refine#[4,rfl,by cbv,by cbv,u3,λu w0 w1=>?_];refine#[(by rw[N];show 4<=16777216;decide),4,rfl,by cbv,by cbv,u4,λr0 Q R=>?_]
 let#[_,k,b,rfl,rr]:=Gn (p:=λd=>∃i:Int,d=.int i/\(i=12\/i=3)) (xs:=[.int 12,.int 12,.int 12,.int 3]) (λd S=>by
  simp only[Tk,fH,or_false]at S
  rcases S with rfl|rfl|rfl|rfl
  .exact#[_,rfl,.inl rfl]
  .exact#[_,rfl,.inl rfl]
  .exact#[_,rfl,.inl rfl]
  .exact#[_,rfl,.inr rfl]) Q^by show r0<4;exact R
 exists _,k,z0;have U:1<=b/\b<1073741824:=by rcases rr with rfl|rfl <;>decide
 clear rr;have a9:xs.length<=5:=by lk
 have b0:2<=xs.length:=by lk
 clear hl hq k Q R a0 a1 a2 a3 q
 refine D1 (all:=xs.map D.str) (λa m H=>n - 10 - 20*a.length<=m/\∃(ts:q_ Ix) (s5 I B:Slot),(∀t∈ts,t.i<t.j/\t.j<xs.length/\1<=t.len/\t.len<=1000000)/\ts.Pairwise YW/\(∀t∈ts,t.i<a.length)/\ts.length<=5*a.length /\
  H=[.fd,.sh^.tup^xs.map .str,.sh^.int u,.sh^.int b,.ow^.lst^(ts.map^Ix.tie xs).map AJ,s5,I,B]) ?_ ?_ _ [] _ _ rfl #[by show n - 10 - 20*0<=_;lk,[],_,_,_,(λ_ h=>by cases h),mj,(λ_ h=>by cases h),Uf _,rfl]
 .rintro m H ⟨v,ts,s5,I,B,C,E,l,r,rfl⟩
  rw[FM]at v r;have o:Net.Ok #[xs,ts.map^Ix.tie xs]:=YH hx g C E;show Ds [D.lst^(ts.map^Ix.tie xs).map AJ] λz=>BM [z] λy=>2<=sizeLine/\Pd (.tup [.tup^xs.map .str,y]) m;refine Fn (ts:=ts.map^Ix.tie xs) rfl (by rw[FM];lk) λb1 p1 p2=>#[z2,?_];rw[Ih o o.trise p1 p2];exact p #[xs,ts.map^Ix.tie xs] m #[o,by show xs.length<=25;lk,by show(ts.map^Ix.tie xs).length<=60;rw[FM];lk] (by show 2<=xs.length;lk) (by show xs.length<=6;lk) (by show(ts.map^Ix.tie xs).length<=25;rw[FM];lk)^by lk
 .rintro a d a8 m H nx V ⟨v,ts,s5,I,B,C,E,l,r,rfl⟩ J
  let#[rfl,hk]:=Ow V;have F:(a++[D.str^xs.getD a.length ""]).length=a.length+1:=by rw[XV,fS]
  rw[F]at J;generalize a.length=one at hk J v l r ⊢;clear F
  refine D1 (all:=xs.map D.str) (λa m H=>n - 10 - 20*one - 4*a.length<=m/\∃(ts:q_ Ix) (I B:Slot),(∀t∈ts,t.i<t.j/\t.j<xs.length/\1<=t.len/\t.len<=1000000)/\ts.Pairwise YW/\(∀t∈ts,t.i<one\/(t.i=one/\t.j<a.length))/\ts.length<=5*one+a.length /\
   H=[.fd,.sh^.tup^xs.map .str,.sh^.int u,.sh^.int b,.ow^.lst^(ts.map^Ix.tie xs).map AJ,.sh^.str^xs.getD one "",I,B]) ?_ ?_ _ [] _ _ rfl #[by show n - 10 - 20*one - 4*0<=m;lk,ts,_,_,C,E,λt c=>.inl^l t c,by show ts.length<=5*one+0;lk,rfl]
  .rintro m H ⟨v,ts,I,B,C,E,l,r,rfl⟩
   rw[FM]at v r l;refine J _ _ #[by lk,ts,_,_,_,C,E,λt c=>?_,by lk,rfl]
   rcases l t c with h|h <;>lk
  .rintro W d2 a4 m H a5 L ⟨v,ts,I,B,C,E,l,r,rfl⟩ e
   let#[rfl,M]:=Ow L;rw[XV,fS]at e;generalize W.length=two at M e v l r ⊢
   have skip:∀m',m - 4<=m'->a5 m' [.fd,.sh^.tup^xs.map .str,.sh^.int u,.sh^.int b,.ow^.lst^(ts.map^Ix.tie xs).map AJ,.sh^.str^xs.getD one "",.sh^.str^xs.getD two "",B]:=λm' a6=>by
    refine e _ _ #[by rw[Nat.mul_succ,←Nat.sub_sub];exact fJ (k9 v 4) a6,ts,_,_,C,E,λt c=>?_,Nat.le_succ_of_le r,rfl]
    rcases l t c with h|h
    .exact .inl h
    .exact .inr #[h.1,gj h.2]
   refine Ba (λc1=>?_) λ_=>?_
   .have a7:one<two:=U2 g hk M^of_decide_eq_true c1
    have m4:4<=m:=by clear r;lk
    refine#[b,rfl,U.1,U.2,u0,λd0 b2 b3=>Ba (λ_=>?_) λ_=>skip _ (Nat.sub_le_sub_left (by cbv) m)];refine#[2,rfl,by cbv,by cbv,u1,λe1 b4 b5=>#[eA,2,rfl,by cbv,by cbv,u2,λe2 b6 b7=>#[9,rfl,by cbv,by cbv,u3,λe3 b8 b9=>?_]]];have e6:(10:Int) ^ (6:Int).toNat=1000000:=rfl
    let#[_,X,len,rfl,g1,g2]:=Gn (p:=λd=>∃i:Int,d=.int i/\1<=i/\i<=1000000) (xs:=[.int 7,.int (1+e1),.int ((10:Int) ^ (6:Int).toNat - e2),.int (1+e3)]) (λd S=>by
     simp only[Tk,fH,or_false]at S
     rcases S with rfl|rfl|rfl|rfl
     .exact#[_,rfl,by cbv,by cbv]
     .exact#[_,rfl,by lk,by lk]
     .exact#[_,rfl,by lk,by lk]
     .exact#[_,rfl,by lk,by lk]) w0^by show u<4;exact w1
    exists(by rw[N];show 4<=16777216;decide),_,X;refine#[_,rfl,rfl,z3,_,_,rfl,rfl,by rw[FM,FM];lk,?_];refine e _ _ #[by rw[Nat.mul_succ,←Nat.sub_sub];exact k9 v 4,ts++[#[one,two,len]],.sh^.str^xs.getD two "",.sh^.int len,λt c=>?_,?_,λt c=>?_,by rw[XV,fS];exact jK r,?_]
    .rcases ZB.mp c with c|c
     .exact C t c
     .rw[Op.mp c]
      exact#[a7,M,g1,g2]
    .rw[ku]
     refine#[E,kL _ _,λs hs t c=>?_];rw[Op.mp c]
     rcases l s hs with h|h
     .exact .inl h
     .exact .inr h
    .rcases ZB.mp c with c|c
     .rcases l t c with h|h
      .exact .inl h
      .exact .inr #[h.1,gj h.2]
     .rw[Op.mp c]
      exact .inr #[rfl,jM _]
    .rw[fg,fg]
     rfl
   .exact skip _ (Nat.sub_le _ _))
def Fc:A.Y "_law_broad" 2 ["_law_feed_here"] .sh US:=A.gk A.h1d ["_law_feed_here"] (λ_ _ g=>(AD^AN^A1 (Al^AA (Aa^AA AB^AA AB AG)^AA (Aa^AA AB^AA AB AG)^AA (Aa^AA AB^AA AB AG)^AA (Aa^AA (AZ Er DZ AB AB)^AA AB AG)^AA (Aa^AA AB^AA AB AG)^AA (Aa^AA AB^AA AB AG)^AA (Aa^AA AB^AA AB AG)^AA (Aa^AA AB^AA AB AG)^AA (Aa^AA AB^AA AB AG) AG)^cg g (BB A)^AO (A3 0)^BG AB AE)) (@λm n o h=>by
 let#[rfl,i,p]:=h;have c:=PySem.sizeLine_eq;refine#[z2,z2,z2,eA,z2,z2,z2,z2,z2,z2,(by rw[c];show 9<=16777216;decide),9,rfl,by cbv,by cbv,i,λr j k=>?_]
 let#[z,l,t,b,rfl,a]:=Gn (p:=λd=>∃t b:Int,d=.tup [.int t,.int b]/\EW t b/\b<=t) (xs:=[.tup [.int 2,.int 1],.tup [.int 3,.int 1],.tup [.int 5,.int 2],.tup [.int ((10:Int) ^ (6:Int).toNat),.int 1],.tup [.int 9,.int 2],.tup [.int 3,.int 2],.tup [.int 4,.int 1],.tup [.int 1000,.int 999],.tup [.int 2,.int 1]]) (λd e=>by
  simp only[Tk,fH,or_false]at e
  rcases e with rfl|rfl|rfl|rfl|rfl|rfl|rfl|rfl|rfl <;>exact#[_,_,rfl,#[by cbv,by cbv,by cbv,by cbv],by cbv]) j^by show r<9;exact k
 exact#[_,l,p t b a.1 a.2])
def GP:A.Y "_law_step_ties" 1 ["_law_ties","_law_way_here"] .fr UO:=A.gk A.h1e ["_law_ties","_law_way_here","_law_some","_law_one","_law_other"] (λT q hr=>(AC (L_ 2 q^Al AG)
 (AC (BR fP rfl (OP rfl T.Gaj (AA (dv 1)^AA (CS EX CT (dv 1) (BH AB) BO) AG)) (Qy^Ad (Bx 3 q)^Ad (Bx 4 q) Bu) (AD^CB 2 Jl PySem.F.slot_list_extend PySem.F.type_list_extend G7 UL (pv 2)^AA (Jf ["_law_one","_law_other","_law_tie"] [P3 3,P3 4,n_] (A4^dv 0) (λQ=>Bx 2 Q) (CL^DTW.dt^DV (Be Ci FD (A1 (dv 2) AB) (Av (Ku rfl) UG rfl T.Gah boot_min (AT (dv 0)^AT (dv 1) Ac)))^C6^Be Ci FD (A1 (dv 2) AB) (Av (Kw rfl) UI rfl T.Gan boot_max (AT (dv 0)^AT (dv 1) Ac)))^dv 2) AG))
 (AD^Gc 2^pv 2)))) (@λss n B h=>by
 let#[A,o,w,l,rfl,#[M,q,R],C,u,S,p]:=h;have ok:=C.1
 have U:∀(r:q_ Str) (x:Str) (d:Int) (e:q_ AX) (E G:Slot),walk A (x::r) d->e.length+r.length<=30->(∀g:q_ AX,Over A.ts (x::r) g->g.length=r.length->B (.lst^(e++g).map AJ) n)->
   Ae (D8 2^Ai (AU 3)^Ai (AU 4) CN) cj {EF B with nx:=ME 2^EF B} (C2 ((x::r).map .str)^r.map .str) n [.sh^.lst^o.map AJ,.sh^Df w,.ow^.lst^e.map AJ,E,G]:=by
  intro r
  induction r with
  |nil=>
   intro x d e E G u _ h
   have:=h [] trivial rfl
   rw[fh]at this;exact#[_,rfl,this]
  | cons y r V=>
   intro x d e E G u H h;let#[l,W,X,I,rfl]:=u;let#[t,J,tl,Z,ea,eb]:=Ri ok X;refine#[rfl,rfl,_,rfl,rfl,by show(o.map AJ).length<=10000000;rw[FM];lk,?_];refine BY (λd=>match d with|.tup [.str a,.str b,.int _]=>(a==t.a)&&(b==t.b)|_=>p_) id (λN=>∃s,N=[.sh^.str x,.sh^.str y,s]) _ _ _ _ ?_ #[_,rfl] ?_
   .rintro d hd N m nx sk ⟨s,rfl⟩ i k
    let#[v,O,rfl]:=TM.mp hd;exists _,AF (j:=0) rfl,x,y,rfl;show if(v.a==(if decide (cs y<cs x)=o_ then y else x))=o_ then _ else _
    rw[ea];refine Ba (λc=>#[_,AF (j:=1) rfl,x,y,rfl,?_]) λc=>k _ #[_,rfl] (by show((v.a==t.a)&&(v.b==t.b))=p_;rw[fj.mpr c];rfl);show if(v.b==(if decide (cs x<cs y)=o_ then y else x))=o_ then _ else _
    rw[eb];refine Ba (λL=>i _ #[_,rfl] ?_) λL=>k _ #[_,rfl] ?_
    .show((v.a==t.a)&&(v.b==t.b))=o_;rw[c,L];rfl
    .show((v.a==t.a)&&(v.b==t.b))=p_;rw[fj.mpr L,Bool.and_false]
   have ef:(o.map AJ).filter (λd=>match d with|.tup [.str a,.str b,.int _]=>(a==t.a)&&(b==t.b)|_=>p_)=[t].map AJ:=by
    rw[jb]
    congr 1
    have e1:o.filter ((λd=>match d with|.tup [.str a,.str b,.int _]=>(a==t.a)&&(b==t.b)|_=>p_)∘AJ)=o.filter λv=>decide (v=t):=by
     refine hV λv O=>?_;show((v.a==t.a)&&(v.b==t.b))=decide (v=t);rw[gf,fN,beq_iff_eq,beq_iff_eq,decide_eq_true_eq];exact#[fun#[i,k]=>G1 ok.trise v ((M v).mp O) t J i k,λh=>by rw[h];exact#[rfl,rfl]]
    rw[e1]
    have p1:(o.filter λv=>decide (v=t)).Perm [t]:=(jD (q.filter _)^fX.mpr #[fH,gL]).mpr λv=>by
     rw[gS,decide_eq_true_eq,Op];exact#[λh=>h.2,λh=>#[by rw[h];exact(M t).mpr J,h]]
    exact List.perm_singleton.mp p1
   rw[fW,iT,ef];have z:(e.map AJ).length=e.length:=FM ..;rw[fF]at H;exists _,_,rfl,rfl,by rw[z,FM,fz];show e.length+1<=16777216;lk
   have:=V y W (e++[t]) (.sh^.str x) (.sh^.str y) I (by rw[XV,fS];lk) λg i k=>by
    have:=h (t::g) #[J,Z,i]^by rw[fF,fF,k]
    rw[gF];exact this
   rw[fg]at this;exact this
 cases w with
 |nil=>exact u.elim
 |cons x r=>
  rw[fF]at S;refine#[z0,_,_,(x::r).map .str,r.map .str,rfl,rfl,by show P3^Dp.cutD (D.str x::r.map .str) (P3 1) n_=_;rw[T1];rfl,?_];exact U r x l [] _ _ u (by show 0+_<=30;lk) λg i k=>p g i^by rw[fF];lk)
def Iw:A.Y "_law_prices" 2 ["_law_net_here","_law_ties","_law_a","_law_number"] .sh Oc:=A.gk A.h1f ["_law_net_here","_law_ties","_law_a","_law_number","_law_known"] (λT u r=>(AC (B5 4 u^cg r (Bh A)^AO (Cz^Cp 1)^Ak 2 AE)
 (AD^AN^OM T.Gab^Jf ["_law_number","_law_known","_law_one"] [P3 3,P3 4,n_] (A4^A1 (dv 0) AB) (λv=>Bx 2 v) BP^Pp r (dv 1) (dv 2)^dv 0))) (@λL n N h=>by
 let#[M,O,a,m,z,q,y,rfl,B,c,b,rfl,C,Q,R,p]:=h;have E:=b.2.1;refine#[M,a,z,y,rfl,B,c,b,C,λg l K F T=>?_];refine#[_,AF (j:=0) rfl,by show(M.ps.map D.str).length<=10000000;rw[FM];lk,?_];refine A8 (λd=>match d with|.str x=>.int^(K x).getD m|_=>.non) (λt=>∃s,t=[.sh^.int m,.sh^.dic g l,s]) _ _ _ _ ?_ #[_,rfl] ?_
 .rintro d G t H I ⟨s,rfl⟩ o
  let#[x,S,rfl]:=TM.mp G;have k:I (.int^(K x).getD m) H [.sh^.int m,.sh^.dic g l,.sh^.str x]:=o _ #[_,rfl];exists g,l,rfl,_,Aj x;rw[F.at_ x];cases e:K x with
  |none=>rw[e]at k;exact k
  |some d=>rw[e]at k;exact k
 .rw[fW]
  have e:(M.ps.map D.str).map (λd=>match d with|.str x=>D.int^(K x).getD m|_=>.non)=(M.ps.map λx=>(K x).getD m).map .int:=by
   rw[gY,gY];rfl
  rw[e];refine p _ (FM ..) λi J=>?_;let#[x,_,rfl]:=TM.mp J;cases e:K x with
  |none=>show 0<=m/\m<=m;lk
  |some d=>
   have:=T.top x d e
   have:=(T.least x d e).1.pos b.1
   show 0<=d/\d<=m
   lk)
omit A in
def nF:A5 ["_law_ties","_law_tie","_law_many","_law_way_here","_law_bushes","_law_step"] ["_law_ties","_law_tie","_law_many"]^AK HP:=by walk_at "s"
def La:A.Y "_law_bush" 5 ["_law_ties","_law_tie","_law_many"] .sh^(Je 2):=A.got A.h1g λT F m b=>Kl 1 F nF m b (λhk W t=>(AC (B5 3 nF.nd (Ag (Mg A) (t.mono^by lk) rfl (AO (Cz^dv 0)^BG (A1 (dv 1) AB)^BG (A1 (dv 1) AB) AE)))
 (AC (Am (Be DM FC (dv 3) Ap) (AD^AN Ap) AS)
 (AC (Am (Be Ci FD (dv 2) AB) (AD^AN^Aa^AA (dv 3)^AA (Aa AG) AG) AS)
 (AC (L_ 4 nF.nd^Al AG)
 (AC (BR fP rfl (Cb (Ag (GP A) (t.mono^by lk) rfl (Ak 0^Ak 3 AE))) (Bx 5 nF.nd) (AD^CB 4 Jl Nj Nf A2 C1 (pv 4)^AA (Ag W (t.mono^Rs _) rfl (BG (Pq rfl [("_law_step":Str),("_law_one":Str)] [P3 5,n_] (A4^dv 0) (λ_ _ _ _ _=>(EO (i:=1) (show lB [("_law_step":Str),("_law_one":Str)] by decide +kernel) rfl (f9 rfl))) (λ_ _ _ _ _=>(CL^Be (Es t) Hm (dv 1)^dv 0)) (λ_ _ _ _ _=>(dv 1)) (by kernel_rfl))^Ak 1^BG (AZ Bc B7 (dv 2) AB) AE)) AG))
 (AD^AN^Aa^AA (dv 3)^AA (OM T.Gab^Cp 4) AG))))))) (@λX j ss n Q B h=>by
 let#[A,C,u,m,rfl,hm,k,r,H,R,E,p]:=h;have ok:=r.1;refine#[_,AF (j:=0) rfl,_,AF (j:=1) rfl,A,u.a,u.b,_,C,rfl,rfl,k.1,r,R,E,λo S=>?_];cases o with
 |none=>exact#[rfl,BS^p _ #[.n,trivial,Uf _,Uf _]]
 | some w=>
  have U:=RQ r S;let#[l,G,hl]:=IW S;cases m with
  |zero=>exact#[rfl,z0,z2,p _^Pw ok H U G.2.2.2.2]
  | succ m=>
   refine#[rfl,BJ ?_];refine#[z0,A,C,w,l,rfl,k,r,G.2.2.1,G.2.2.2.1,λI J Z=>?_]
   have go:∀(g:q_ AX) (y:q_ D) (L:Slot),y.length+g.length=I.length->(∀v∈g,v∈I)->(∀d∈y,bS m d)->
     Ae (AU 5) (cm X) {EE Q with nx:=Bo (Dv^AL (AH 3)^AL (Ea BM^AL (As 4) Ab) Ab)^EE Q} (g.map AJ) n [.sh^.lst^C.map AJ,.sh^AJ u,.sh^.int ((m+1:Nat):Int),.sh^Df w,.ow^.lst y,L]:=by
    intro g
    induction g with
    |nil=>intro y L e _ E;exact#[z2,p _^T8 ok H U G.2.2.2.2 (by rw[gn]at e;lk) E]
    | cons v g ih=>
     intro y L e t M;rw[fF]at e;have hv:=J.mem v^t v Re;refine#[_,rfl,rfl,by show(C.map AJ).length<=10000000;rw[FM];have:=k.2.2;lk,?_];refine BY (λd=>!Cu d (AJ v)) id (λV=>∃s,V=[.sh^AJ v,s]) _ _ _ _ ?_ #[_,rfl] ?_
     .rintro d N V m nx sk ⟨s,rfl⟩ g1 g2
      let#[x,O,rfl]:=TM.mp N;exact#[Bt ok^(k.1 x).mp O,Bt ok hv,Ba (λc=>g1 _ #[_,rfl] c) λc=>g2 _ #[_,rfl]^fj.mpr c]
     rw[fW,iT,PP];refine B _ _ _ (by lk) #[Ck A v,_,u,m,by rw[show(m:Int)=((m+1:Nat):Int) - 1 by lk],by lk,k.drop v,Gd r v,H,R,E,λd N=>?_];refine#[_,_,rfl,rfl,by rw[fz];lk,ih (y++[d]) _ (by rw[XV];show y.length+1+_=_;lk) (λx O=>t x^Sc _ O) λq z=>?_]
     rcases ZB.mp z with z|z
     .exact M q z
     .rw[Op.mp z];exact N
   exact go I [] _ (k6 _) (λ_ h=>h) λq z=>nomatch z) (λ_ _ _ _ h=>by let#[_,_,_,_,e,_]:=h;rw[e];rfl) (by cbv) 2
def GQ:A.Y "_law_own_paper" 6 ["_law_net_here","_law_times","_law_many","_law_thin","_law_which"] .sh L8:=A.gk A.h1h ["_law_net_here","_law_times","_law_many","_law_thin","_law_which","_law_rows","_law_ahead","_law_order_here","_law_tie","_law_ties","_law_gone","_law_left"] (λT M W=>(AC (L_ 5 M^Al AG)
 (AC (L_ 6 M^Al AG)
 (AC (B5 7 M^cg W (Jq A)^BG (A1 (dv 0) AB) AE)
 (AC (BR fP rfl (Cb^dv 7) (Bx 8 M) (AC (Am (Be (CV W) Fk (dv 8)^A1 (dv 3) AB) (Yi 6 9 5 M rfl (f9 rfl) (A1 (Al^AA (dv 6)^AA (FR C8 L5 rfl T.Gag boot_list (AT (A1 (dv 3) AB) Ac))^AA (CS EX CT (dv 7) BO^BH^ay Jl PySem.F.slot_list_index PySem.F.type_list_index (YJ W) bE (dv 7)^AT (dv 8) Ac) AG)^dv 4) (pv 5) (AA (Aa^AA AY^AA (cg W (La A)^Ak 9^Ak 8^Ak 2 AE) AG) AG)
 (AD Vz)) AS)
 (AC (B5 10 M^cg W (G6 A)^AO (Cz^Cp 6)^Ak 1^Ak 8^Ak 2 AE)
 (AC (B5 10 M^Gg (Be DM FC (dv 10) Ap) (DE.sh^Al AG)^dv 10)
 (AC (Gb (i:=11) M rfl (f9 rfl) rfl [("_law_gone":Str),("_law_one":Str)] [P3 10,n_] (A4^Cp 6) (λ_ _ _ _ _=>(EO (i:=1) (show lB [("_law_gone":Str),("_law_one":Str)] by decide +kernel) rfl (f9 rfl))) (λ_ _ _ _ _=>(CL^Be (CV W) Fk (dv 1)^dv 0)) (λ_ _ _ _ _=>(dv 1)) (by kernel_rfl))
 (AC (CB 5 Jl Nj Nf A2 C1 (pv 5)^AA (Aa^AA AY^AA (OM T.Gab (Av B6 ER rfl T.Gad jI (AT (dv 10) Ac)))^AA (cg W (Iw A)^Ak 0^AO (Cz^dv 11)^BG (A1 (dv 8) AB)^BG (AZ Er DZ AB AB) AE) AG) AG)
 (AD^CB 6 Jl Nj Nf A2 C1 (pv 6)^AA (dv 8) AG)))))))
 (AD^AN^OM T.Gab^Cp 5)))))) (@λss n R h=>by
 let#[N,ts,t,b,m,k,rfl,O,p6,ht,tm,m1,m2,hk,p]:=h;have ok:=O.1;have a2:=O.2.2;have a8:=fz;have a9:=ht.okN O;refine#[z0,z0,_,AF (j:=1) rfl,_,N.ts,rfl,rfl,by lk,λU o1 o2=>?_];have M:U.Nodup:=o1.nodup_iff.mpr^A9 ok.trise;have ol:=o1.length_eq;have ho:∀v∈U,v∈N.ts:=λv I=>o1.mem_iff.mp I;have a4:=(BN ok ht.1).1;have sb:∀L:q_ AX,L.Nodup->(∀v∈L,v∈N.ts)->tiesAre (sub N L) L:=λL h1 h2=>#[λv=>#[λh=>sub_mem.mpr #[h2 v h,h],λh=>(sub_mem.mp h).2],h1,fJ (sub_len h1 (A9 ok.trise) h2) a2]
 have go:∀(B done q:q_ AX) (V:q_ D) (s8 X G C:Slot),done++B=U->V.length=done.length->(∀r∈V,Ek r)->q.Sublist done->
   Ae (AU 8) Sz {EE R with nx:=Bo (Ea BM^AL (As 5) Ab)^EE R} (B.map AJ) n [.sh^enc N,.sh^Dx t b,.sh^.int (m:Int),.sh^enc #[N.ps,ts],.sh^.int (k:Int),.ow^.lst V,.ow^.lst^q.map AJ,.sh^.lst^U.map AJ,s8,X,G,C]:=by
  intro B
  induction B with
  |nil=>
   intro done q V s8 X G C e hl hI _;rw[fh]at e;subst e;exact p V #[hl.trans ol,hI]
  | cons u B ih=>
   intro done q V s8 X G C e hl hI Z;have hu:u∈N.ts:=ho u (by rw[←e];exact fR _ Re);let#[u1,u2,_]:=ok.tin u hu;have H:done.Sublist U:=by rw[←e];exact mF _ _
   have dl:done.length<=60:=by rw[←ol]at a2;exact fJ H.length_le a2
   have kn:q.Nodup:=M.sublist^Z.trans H;have Q:∀v∈q,v∈N.ts:=λv I=>ho v^(Z.trans H).subset I;have hK:=sb q kn Q;have a5:=hK.2.2;have e':(done++[u])++B=U:=by rw[gF];exact e
   have nx:∀{a0:D} (E:q_ AX) (s8 X G C:Slot),Ek a0->E.Sublist (done++[u])->Ae (AU 8) Sz {EE R with nx:=Bo (Ea BM^AL (As 5) Ab)^EE R} (B.map AJ) n [.sh^enc N,.sh^Dx t b,.sh^.int (m:Int),.sh^enc #[N.ps,ts],.sh^.int (k:Int),.ow^.lst (V++[a0]),.ow^.lst^E.map AJ,.sh^.lst^U.map AJ,s8,X,G,C]:=λE s8 X G C W hs=>
    ih (done++[u]) E _ s8 X G C e' (by rw[XV,XV,hl];rfl) (λr h=>(ZB.mp h).elim (hI r) λh=>by rw[Op.mp h];exact W) hs
   exists _,AF (j:=1) rfl,Bt ok hu,a4,_,rfl;show if(!((ts.map AJ).any λy=>Cu y^AJ u))=o_ then _ else _
   refine Ba (λ_=>?_) λ_=>?_
   .exists _,V,rfl,rfl,by lk
    have ec:Dp.cutD (U.map AJ) n_^P3 (done.length:Int)=done.map AJ:=by
     rw[Lu,FM,←e,fg,ia (by rw[XV];lk),List.take_append_of_le_length (by rw[FM];exact Rs _),kN^by rw[FM];exact Rs _]
    exists _,AF (j:=1) rfl,rfl,U.map AJ,AJ u,done.length,rfl,rfl,(BN ok ho).1,Bt ok hu,#[AJ u,by rw[fK,←e,iL^Rs _,Nat.sub_self];rfl,GY u],λi x hi hx=>?_,z3
    .rw[fK,←e,hX hi]at hx
     let#[v,I,rfl]:=fq.mp hx;refine fj.mpr λz=>?_
     have:=(IJ v u).mp z
     subst this;rw[←e]at M;exact(gX.mp M).2.2 v (f8 I) v Re rfl
    have a3:∀L:q_ AX,L.Nodup->(∀v∈L,v∈N.ts)->Je 2 [.sh^.lst^L.map AJ,.sh^AJ u,.sh^.int (m:Int)] n λd n1=>2<=sizeLine/\∃v,[D.tup [.str "out",d]]=[v]/\flat v=o_/\Ae (AU 8) Sz {EE R with nx:=Bo (Ea BM^AL (As 5) Ab)^EE R} (B.map AJ) n1 [.sh^enc N,.sh^Dx t b,.sh^.int (m:Int),.sh^enc #[N.ps,ts],.sh^.int (k:Int),.ow^.lst (V++[v]),.ow^.lst^q.map AJ,.sh^.lst^U.map AJ,.sh^AJ u,.no,G,C]:=λL h1 h2=>
     #[sub N L,L,u,m,rfl,m2,sb L h1 h2,Ce O L,p6,u1,u2,λd hd=>#[z2,_,rfl,by show(o_&&(flat d&&o_))=o_;rw[Rg hd.1];rfl,nx q _ _ _ _ (Oy m2 hd)^Z.trans^mF _ _]]
    match k,hk with
    |0,_=>exact#[_,AF (j:=0) rfl,a3 q kn Q]
    |1,_=>exact#[_,AF (j:=1) rfl,a3 ts (A9 ht.2) ht.1]
    |2,_=>
     exists _,AF (j:=2) rfl
     have:=a3 done (M.sublist H) λv I=>ho v^H.subset I
     rw[←ec]at this;exact this
   .refine#[N,q,u,t,b,m,rfl,O,Q,a5,u1,tm,m1,m2,λo h2=>#[rfl,?_]]
    have a1:∀l:q_ AX,(∀v∈l,v∈q)->l.length<=m->BE (Cq 11^DF [P3 10,n_] (Bb^As 6) (AU 1) (Ah^Ao (NB o_) (AH 1)^AH 0)^AH 1)
      (BE (LF 5 "list" FV^AL (Dv^AL (wC^D.str "in")^AL (Ea BM^AL (Ea Ds^AL (AH 10) Ab) Ab)^AL (Au Oc^AI (AQ^AH 0)^AI (D_^AH 11)^AI (AQ^Ao CA (AH 8)^wC^D.int 0)^AI (AQ^Ao (bz RG λi j=>D.int (i ^ j.toNat)) (wC^D.int 10)^wC^D.int 31) Ay) Ab) Ab)
      (LF 6 "list" FV^AL (AH 8) Ab)) {EE R with nx:=Ae (AU 8) Sz {EE R with nx:=Bo (Ea BM^AL (As 5) Ab)^EE R}^B.map AJ,ct:=Ae (AU 8) Sz {EE R with nx:=Bo (Ea BM^AL (As 5) Ab)^EE R}^B.map AJ,bk:=Bo (Ea BM^AL (As 5) Ab)^EE R} n [.sh^enc N,.sh^Dx t b,.sh^.int (m:Int),.sh^enc #[N.ps,ts],.sh^.int (k:Int),.ow^.lst V,.ow^.lst^q.map AJ,.sh^.lst^U.map AJ,.sh^AJ u,X,.sh^.lst^l.map AJ,C]:=λl a6 b0=>by
     have ln:∀v∈l,v∈N.ts:=λv I=>Q v^a6 v I;have a7:=BX (Ce O q) l;refine#[by show(q.map AJ).length<=10000000;rw[FM];lk,?_];refine BY (λd=>!((l.map AJ).any λy=>Cu y d)) id (λρ=>∃s,ρ=[.sh^.lst^l.map AJ,s]) _ _ _ _ ?_ #[_,rfl] ?_
     .rintro d hd ρ m' nx sk ⟨s,rfl⟩ g1 g2
      let#[v,I,rfl]:=TM.mp hd;exact#[Bt ok^Q v I,(BN ok ln).2,_,rfl,Ba (λc=>g1 _ #[_,rfl] c) λc=>g2 _ #[_,rfl]^fj.mpr c]
     rw[fW,iT,DP];refine#[_,rfl,rfl,_,_,rfl,rfl,by rw[FM];lk,JC l,λb1 hp ho=>?_];let#[S,q1,rfl]:=KC (g:=Tp) (λ_=>rfl) hp;refine#[_,AF (j:=0) rfl,#[by cbv,by cbv,by cbv],minus (sub N q) l,N.ps,u.a,10 ^ 31,_,_,_,rfl,rfl,λv=>?_,a7,rfl,u1,by cbv,by cbv,λil i1 i2=>#[z3,_,_,rfl,rfl,by lk,_,rfl,rfl,_,_,rfl,rfl,by rw[FM];lk,?_]]
     .rw[gS,decide_eq_true_eq,minus_mem,sub_mem]
      exact#[λh=>#[#[Q v h.1,h.1],h.2],λh=>#[h.1.2,h.2]]
     have a0:=R6 ok p6 (S:=S) (λv I=>ln v^q1.mem_iff.mp I) (by rw[q1.length_eq];lk) (l:=il) (λi hi=>#[(i2 i hi).1,lA (i2 i hi).2 (by cbv)]) i1
     have:=nx (q++[u]) (.sh^AJ u) X (.sh^.lst^l.map AJ) (.sh^.lst^(q.filter λv=>decide (v∉l)).map AJ) a0^Z.append^lf _
     rw[fg]at this;exact this
    cases o with
    |none=>exact BS #[z0,a1 [] (λv I=>nomatch I)^Uf _]
    |some l=>exact BJ^a1 l (h2 l rfl).1 (h2 l rfl).2
 exact go U [] [] [] _ _ _ _ rfl rfl (λr h=>nomatch h) (lf _))
def HW:A.Y "_law_odd" 2 ["_law_feed_here"] .sh Ob:=A.gk A.h1i ["_law_feed_here","_law_some"] (λ_ m o=>(AC (B5 1 m^Al^AA Ap^AA CC^AA AB^AA AB^AA (Tt AB)^AA AB^AA AY^AA AY^AA AY^AA (Aa AG)^AA (Al AG)^AA (Aa^AA AY AG)^AA (Al^AA AY AG)^AA (Aa^AA AY^AA (Aa AG) AG)^AA (AZ Er DZ AB AB)^AA (Aa^AA AY^AA AY AG) AG)
 (AD^AN^A1 (dv 1)^cg o (BB A)^AO (A3 0)^BG AB AE))) (@λy n B h=>by
 let#[rfl,C,p]:=h;have q:=PySem.sizeLine_eq
 have base:∀z∈[D.non,.bl o_,.int 0,.int 1,.int (-1),.int 7,.str "a",.str "in",.str "",.tup [],.lst [],.tup [.str "a"],.lst [.str "a"],.tup [.str "in",.tup []],.int (10 ^ (30:Int).toNat),.tup [.str "a",.str "a"]],fine (10 ^ 35) z/\Cr z<=250/\Fz z<=2:=by
  have a:∀x∈[("a":Str),"in",""],(∀c∈cs x,c<1114112)/\x.length<=9:=by decide +kernel
  have b:fine (10 ^ 35)^.str "a":=(a _^by simp).1;have l:fine (10 ^ 35)^.str "in":=(a _^by simp).1;have E:Cr^.str "a"<=9:=(a _^by simp).2;have F:Cr^.str "in"<=9:=(a _^by simp).2;have d:∀i:Int,i.natAbs<=10 ^ 35->fine (10 ^ 35)^.int i:=λi h=>h;intro z e;simp only[Tk,fH,or_false]at e
  rcases e with rfl|rfl|rfl|rfl|rfl|rfl|rfl|rfl|rfl|rfl|rfl|rfl|rfl|rfl|rfl|rfl
  .exact#[trivial,Uf _,Uf _]
  .exact#[trivial,Uf _,Uf _]
  .exact#[d _^by cbv,by show 200<=_;lk,Uf _]
  .exact#[d _^by cbv,by show 200<=_;lk,Uf _]
  .exact#[d _^by cbv,by show 200<=_;lk,Uf _]
  .exact#[d _^by cbv,by show 200<=_;lk,Uf _]
  .exact#[b,by lk,Uf _]
  .exact#[l,by lk,Uf _]
  .exact#[(a ""^by simp).1,fJ (a ""^by simp).2 (by lk),Uf _]
  .exact#[trivial,Uf _,by show 0+1<=_;lk]
  .exact#[trivial,Uf _,by show 0+1<=_;lk]
  .exact#[#[b,trivial],by show Cr^.str "a"+1+0<=_;lk,by show max 0 0+1<=_;decide]
  .exact#[#[b,trivial],by show Cr^.str "a"+1+0<=_;lk,by show max 0 0+1<=_;decide]
  .exact#[#[l,trivial,trivial],by show Cr^.str "in"+1+(0+1+0)<=_;lk,by show max 0^max (0+1) 0+1<=_;decide]
  .exact#[d _^by cbv,by show 200<=_;lk,Uf _]
  .exact#[#[b,b,trivial],by show Cr^.str "a"+1+(Cr^.str "a"+1+0)<=_;lk,by show max 0^max 0 0+1<=_;decide]
 exists 1,rfl,(by cbv:0<=sizeLine),(by cbv:0<=sizeLine),(by cbv:1<=sizeLine),(by cbv:1<=sizeLine),(by cbv:0<=sizeLine),(by cbv:2<=sizeLine),#[by cbv,by cbv,by cbv],(by cbv:2<=sizeLine),(by cbv:16<=sizeLine);refine#[16,rfl,by cbv,by cbv,by lk,λr G H=>?_];obtain⟨k,rfl⟩:∃k:Nat,r=(k:Int):=#[r.toNat,by lk];have s:k<16:=by lk
 generalize g:[D.non,.bl o_,.int 0,.int 1,.int (-1),.int 7,.str "a",.str "in",.str "",.tup [],.lst [],.tup [.str "a"],.lst [.str "a"],.tup [.str "in",.tup []],.int (10 ^ (30:Int).toNat),.tup [.str "a",.str "a"]]=zs at base;have j:k<zs.length:=by rw[←g];exact s
 let#[t,u,v]:=base zs[k] (f7 j);refine#[zs[k],?_,p _ t u v];subst g;exact AF^On j)
omit A in
def nH:A5 ["_law_feed_here","_law_thing","_law_names_here","_law_deep","_law_way_here","_law_at","_law_inner"] ["_law_feed_here","_law_thing","_law_names_here","_law_deep"]^AK HQ:=by walk_at "s"
def Lb:A.Y "_law_bent" 9 ["_law_feed_here","_law_thing","_law_names_here","_law_deep"] .sh^UT 6:=A.got A.h1j λT F m b=>have U:=BB A;Kl 1 F nH m b (λG nI q=>(AC (B5 4 nH.nd (Ag U (q.mono^by lk) rfl (AO (A3 0)^BG AB AE)))
 (AC (Am (A_ (Dt kit_tuple (dv 1) rfl T.Gaa rfl T.Gab (by decide +kernel))) (AC (B5 5 nH.nd (Ag U (q.mono^by lk) rfl (AO (A3 0)^BG (AZ Af Ax (OO T.Gac^dv 1) AB) AE)))
 (AC (Am (DTW.dt^DV (Be EH Gq (dv 4) AB)^DV (Be (Eu q) Ho (dv 5)^OO T.Gac^dv 1)^C6^Be EH Gq (dv 3) AB) (AC (B5 6 nH.nd (Ag nI (q.mono^Rs _) rfl (AO (A3 0)^BG (A1 (dv 1)^dv 5)^Ak 2^BG (AZ Bc B7 (dv 3) AB) AE)))
 (AD^AN^AZ Af Ax (AZ Af Ax (CS EX CT (dv 1) BO^BH^dv 5)^Aa^AA (dv 6) AG)^CS EX CT (dv 1) (BH^AZ Af Ax (dv 5) AB) BO)) AS)
 (AC (Am (DTW.dt^Cy (Be Ci FD (dv 4) AB)^B4^Be Ci FD (dv 4) AB) (AD^AN^AZ Af Ax (CS EX CT (dv 1) BO^BH^dv 5)^CS EX CT (dv 1) (BH^AZ Af Ax (dv 5) AB) BO) AS)
 (AC (Am (Be Ci FD (dv 4) AB) (AD^AN^AZ Af Ax (AZ Af Ax (CS EX CT (dv 1) BO^BH^dv 5)^CS EX CT (dv 1) (BH^dv 5)^BH^AZ Af Ax (dv 5) AB)^CS EX CT (dv 1) (BH^dv 5) BO) AS)
 (AC (Am (Be Ci FD (dv 4) AB) (AD^AN^AZ Af Ax (AZ Af Ax (CS EX CT (dv 1) BO^BH^dv 5)^Aa^AA (Ag (HW A) (q.mono^by lk) rfl (AO (A3 0) AE)) AG)^CS EX CT (dv 1) (BH^dv 5) BO) AS)
 (AD^AN^A1 (Al^AA (FR C8 L5 rfl T.Gag boot_list (AT (dv 1) Ac))^AA (OQ rfl (dv 1) rfl T.Gab rfl T.Gai) AG) (Ag U (q.mono^by lk) rfl (AO (A3 0)^BG AB AE)))))))) AS)
 (AC (Am (DTW.dt^DV (A_ (Dt PY (dv 1) rfl T.Gaa rfl T.Gao (by decide +kernel)))^C6^Be EH Gq (dv 4) AB) (AD^AN^A1 (dv 2) (Ag U (q.mono^by lk) rfl (AO (A3 0)^BG (OO T.Gac^dv 2) AE))) AS)
 (AC (Am (DTW.dt^DV (A_ (Dt PZ (dv 1) rfl T.Gaa rfl T.Gam (by decide +kernel)))^C6^Be EH Gq (dv 4) AB) (AD^AN^A1 (Al^AA (AZ Af Ax (dv 1) AB)^AA (AZ Bc B7 (dv 1) AB)^AA (Du Ci FD (dv 1) AB^B0 _)^AA (AZ Af Ax (dv 1)^AZ Er DZ AB AB)^AA AB^AA (AZ Bc B7 (dv 1) AB)^AA (AZ Af Ax (dv 1) AB) AG)^AZ Bc B7 (dv 4) AB) AS)
 (AD^AN (Ag (HW A) (q.mono^by lk) rfl (AO (A3 0) AE)))))))) (@λWr j ss n H I h0=>by
 let#[d,J,i,rfl,v,hT,X,L,Z,M,hz,hn,p]:=h0;have a5:=PySem.sizeLine_eq;have B:∀m:Nat,n - 1<=m->Ob [.fd] m H:=λm o=>#[rfl,by lk,λe u f2 N=>p e _ u (by lk) (by lk)^by lk];refine#[9,rfl,by cbv,by cbv,by lk,λw w0 w1=>?_];cases hT with
 |n=>exact B (n - 1)^by lk
 |s x=>
  refine Ba (λc=>?_) λc=>B (n - 1) (by lk);have hl:(J.map D.str).length=J.length:=FM ..;have hp:=List.length_pos_iff.mpr L;refine#[_,_,rfl,rfl,_,rfl,by lk,by lk,by lk,λr r0 V=>?_];let#[y,W,ey]:=WA (ps:=J) r0 (by lk);exists _,ey;have hN:=M y W;exact p _ _ (show ∀c∈cs y,c<1114112 from λc hc=>by have:=hN.2.2 c hc;lk) (by show y.length<=_;have:=hN.2.1;lk) (Uf _)^by lk
 | i k=>
  have G:k.natAbs<=10 ^ 34:=X;refine Ba (λc=>?_) λc=>B (n - 1) (by lk);have hw:1<w:=of_decide_eq_true c;exists#[by cbv,by cbv,by cbv],(by cbv:7<=sizeLine);obtain⟨a,ha⟩:∃a:Nat,w - 2=(a:Int):=#[(w - 2).toNat,by lk];have a2:a<7:=by lk
  have base:∀z∈[D.int (k+1),.int (k - 1),.bl (k==1),.int (k+10 ^ (6:Int).toNat),.int 0,.int (k - 7),.int (k+13)],fine (10 ^ 35) z/\Cr z<=200/\Fz z<=0:=by
   have e6:(10:Int) ^ (6:Int).toNat=1000000:=by cbv
   have v:∀i:Int,i.natAbs<=10 ^ 35->fine (10 ^ 35)^.int i:=λi h=>h;intro z O;simp only[Tk,fH,or_false]at O
   rcases O with rfl|rfl|rfl|rfl|rfl|rfl|rfl
   .exact#[v _^by lk,Rs _,Uf _]
   .exact#[v _^by lk,Rs _,Uf _]
   .exact#[trivial,Uf _,Uf _]
   .exact#[v _ (by rw[e6];lk),Rs _,Uf _]
   .exact#[v _^by cbv,Rs _,Uf _]
   .exact#[v _^by lk,Rs _,Uf _]
   .exact#[v _^by lk,Rs _,Uf _]
  generalize Q:[D.int (k+1),.int (k - 1),.bl (k==1),.int (k+10 ^ (6:Int).toNat),.int 0,.int (k - 7),.int (k+13)]=zs at base;have R:a<zs.length:=by rw[←Q];exact a2
  let#[g1,g2,g3]:=base zs[a] (f7 R);refine#[zs[a],?_,p _ _ g1 (by lk) (by lk)^by lk];subst Q;rw[ha];exact AF^On R
 | t g hx=>
  have hl:=C3 g;have a6:By g<=70000:=hz;have S:(Cr^.tup g)=By g:=rfl
  have E:∀(C:q_ D),(∀y∈C,y∈g\/(fine (10 ^ 35) y/\Fz y<=FP g+3))->By C<=2*By g+500->(∀m,n - (3*j+3)<=m->H (.tup C) m)/\∀m,n - (3*j+3)<=m->H (.lst C) m:=λC W hs=>by
   have u:Fg (10 ^ 35) C:=fines_iff.mpr λy h=>(W y h).elim (λh=>(fines_iff.mp X y h).mono^by cbv) And.left
   have:=dps_le.mpr λy h=>(W y h).elim (λh=>fJ (dps_le.mp (Rs^FP g) y h)^mB _ 3) And.right
   have N:FP C+1<=FP g+1+3:=by lk
   exact#[λm o=>p _ m u (by rw[S];exact hs) N o,λm o=>p _ m u (by rw[S];exact hs) N o]
  refine#[_,_,rfl,rfl,(g.length:Int)+1,rfl,by lk,by lk,by lk,λa a0 a1=>?_];have c1:=ID g n_^P3 a;have c2:=ID g (P3 (a+1)) n_;have c3:=ID g (P3 a)^P3 (a+1);have c4:=ID g (P3 a) n_;have d1:=C3^Dp.cutD g n_^P3 a;have d2:=C3^Dp.cutD g (P3 (a+1)) n_;have d3:=C3^Dp.cutD g (P3 a)^P3 (a+1);have d4:=C3^Dp.cutD g (P3 a) n_;have a3:=Q2 g a a0;have e1:(Dp.cutD g n_^P3 a++Dp.cutD g (P3 a)^P3 (a+1)).length=_:=XV;have l:(BE (CU (LD (Ah^Ao (Ph p_) (AH 4)^wC^D.int 0)^Ah^Ao (Ph p_) (AH 4)^wC^D.int 4) (Bo^Ao Bw (Oi Fx (AH 1) Bs^DD^AH 5)^Oi Fx (AH 1) (DD^Ao Bw (AH 5)^wC^D.int 1) Bs) Bm)
 (BE (CU (Ah^Ao (Ph p_) (AH 4)^wC^D.int 1) (Bo^Ao Bw (Ao Bw (Oi Fx (AH 1) Bs^DD^AH 5)^Oi Fx (AH 1) (DD^AH 5)^DD^Ao Bw (AH 5)^wC^D.int 1)^Oi Fx (AH 1) (DD^AH 5) Bs) Bm)
 (BE (CU (Ah^Ao (Ph p_) (AH 4)^wC^D.int 2) (Bo^Ao Bw (Ao Bw (Oi Fx (AH 1) Bs^DD^AH 5)^Dv^AL (Au Ob^AI (Dw 0) Ay) Ab)^Oi Fx (AH 1) (DD^AH 5) Bs) Bm)
 (Bo^Ao CA (FS^AL (Ea Lm^AL (AH 1) Ab)^AL (MC^AH 1) Ab)^Au Hq^AI (Dw 0)^AI (AQ^wC^D.int 2) Ay)))) (EE H) (n - 1 - 1) [.fd,.sh^.tup g,.sh^.tup^J.map .str,.sh^.int i,.sh^.int w,.sh^.int a,.no]:=by
   have V:(∀m,n - (3*j+3)<=m->H (.tup (Dp.cutD g n_^P3 a++Dp.cutD g (P3 (a+1)) n_)) m):=(E _ (λy h=>.inl^(ZB.mp h).elim C7 C7)^by rw[Bn];lk).1;refine Ba (λ_=>#[by lk,V _^by lk]) λ_=>Ba (λ_=>#[by lk,V _^by lk]) λ_=>?_;refine Ba (λ_=>#[by lk,by lk,(E _ (λy h=>.inl^(ZB.mp h).elim (λh=>(ZB.mp h).elim C7 C7) C7)^by rw[Bn,Bn];lk).1 _^by lk]) λ_=>?_;refine Ba (λ_=>?_) λ_=>?_
   .refine#[rfl,by lk,λe u f2 N=>?_]
    have z1:By [e]=Cr e+1+0:=rfl;have e2:(Dp.cutD g n_^P3 a++[e]).length=_:=XV;have e3:[e].length=1:=rfl;have a7:By^Dp.cutD g n_^P3 a+By^Dp.cutD g (P3 a) n_<=2*By g:=by lk
    refine#[(by cbv:1<=sizeLine),by lk,by lk,(E _ (λy h=>?_)^by rw[Bn,Bn];lk).1 _^by lk]
    rcases ZB.mp h with h|h
    .rcases ZB.mp h with h|h
     .exact .inl^C7 h
     .rw[Op.mp h]
      exact .inr #[u,by lk]
    .exact .inl^C7 h
   .refine#[g,rfl,(by cbv:2<=sizeLine),2,rfl,by cbv,by cbv,by lk,λr r0 V=>?_]
    rcases(by lk:r=0\/r=1)with rfl|rfl
    .exact#[_,AF (j:=0) rfl,(E g (λy h=>.inl h)^by lk).2 _^by lk]
    .exact#[_,AF (j:=1) rfl,(E g.reverse (λy h=>.inl^List.mem_reverse.mp h)^by rw[Ot];lk).1 _^by lk]
  refine Ba (λ_=>#[_,_,rfl,rfl,Ba (λca=>Ba (λcd=>?_) λ_=>l) λ_=>l]) λ_=>l;have ha:a<(g.length:Int):=of_decide_eq_true ca;have a8:(0:Int)<(i:Int):=of_decide_eq_true cd;obtain⟨k,rfl⟩:∃k:Nat,a=(k:Int):=#[a.toNat,by lk];have G:k<g.length:=by lk
  exists g[k],AF^On G;have o:g[k]∈g:=f7 G;have a9:=Ou o;refine I _ _ _ (by lk) #[g[k],J,i - 1,by rw[show(((i - 1:Nat)):Int)=(i:Int) - 1 by lk],by lk,hx _ o,fines_iff.mp X _ o,L,Z,M,by lk,by lk,λe n' u f2 N f4=>?_];have a4:=X0 G e;have e2:(Dp.cutD g n_^P3 (k:Int)++[e]).length=_:=XV;have e3:[e].length=1:=rfl;have b0:=dps_le.mp (Rs^FP g) _ o;refine#[(by cbv:1<=sizeLine),by lk,by lk,(E _ (λy h=>?_)^by lk).1 _^by lk]
  rcases ZB.mp h with h|h
  .rcases ZB.mp h with h|h
   .exact .inl^C7 h
   .rw[Op.mp h]
    exact .inr #[u,by lk]
  .exact .inl^C7 h) (λ_ _ _ _ h=>by let#[_,_,_,e,_]:=h;rw[e];rfl) (by cbv) 6
def Mi:A.Y "_law_let" 10 ["_law_net_here","_law_times","_law_many","_law_thin","_law_paper"] .sh Od:=A.got A.h1k λT F m b=>have GR_lets_breaking:=G5 A;by
 let#[C_ThinError,c,e,g]:=T.x_ThinError;exact d9 F ["_law_net_here","_law_times","_law_many","_law_thin","_law_paper","_law_found","_law_e"] (λj u=>(AC (B5 5 j AY)
 (AC (Yj rfl rfl (λ_ _ h=>h) (Te (Vv (i:=5) j rfl (f9 rfl) (V4 YD bG (To GR_lets_breaking (u.mono^by cbv) rfl (Ak 0^Ak 1^Ak 2^Ak 3^Ak 4 AE)) CC (B0 _) Ap AY)))
 (V3 (i:=6) j rfl rfl rfl e g (f9 #[rfl,c]) rfl rfl (λa=>(AD^B5 5 j (Tw (a:=a) 6 rfl (Hw A) ((u.held^P3^.ref a).mono^by cbv) rfl (AO (a9 6) AE))))
 Yl))
 (AD^AN^dv 5)))) (@λB n C h=>by
 let#[N,v,t,b,m,d,rfl,l,o,x,y,z,r,p,q]:=h;refine#[N,v,t,b,m,d,rfl,l,o,x,y,z,r,λs=>p s,λw k r=>?_];exact λa=>#[#[_,_,_,rfl],a,w,k,rfl,q w k r])
def Jr:A.Y "_law_is_so" 2 ["_law_net_here","_law_times","_law_many","_law_thin"] .sh XD:=A.gk A.h1l ["_law_net_here","_law_times","_law_many","_law_thin","_law_gone","_law_whole","_law_left","_law_place","_law_lengths_here","_law_thinner","_law_one"] (λT E q=>(AC (BR fP rfl (Cb^cg q (Ez A)^AO (Cz (FR C8 L5 rfl T.Gag boot_list (AT (A1 (dv 0) AB) Ac)))^Ak 2 AE) (Bx 4 E) (AC (Gb (i:=5) E rfl (f9 rfl) rfl [("_law_gone":Str),("_law_tie":Str)] [P3 4,n_] (A4^A1 (dv 0) AB) (λ_ _ _ _ _=>(EO (i:=1) (show lB [("_law_gone":Str),("_law_tie":Str)] by decide +kernel) rfl (f9 rfl))) (λ_ _ _ _ _=>(CL^Be (CV q) Fk (dv 1)^dv 0)) (λ_ _ _ _ _=>(dv 1)) (by kernel_rfl))
 (AC (Gb (i:=6) E rfl (f9 rfl) rfl [("_law_gone":Str),("_law_tie":Str)] [P3 4,n_] (A4^A1 (dv 3) AB) (λ_ _ _ _ _=>(EO (i:=1) (show lB [("_law_gone":Str),("_law_tie":Str)] by decide +kernel) rfl (f9 rfl))) (λ_ _ _ _ _=>(CL^Be (CV q) Fk (dv 1)^dv 0)) (λ_ _ _ _ _=>(dv 1)) (by kernel_rfl))
 (AD (BR fP rfl (Cb^A1 (dv 0) AB) (Bx 7 E) (AC (B5 8 E^Tv^cg q (Bh A)^AO (Cz^dv 5)^Ak 7 AE)
 (AC (B5 9 E^Tv^cg q (Bh A)^AO (Cz^dv 6)^Ak 7 AE)
 (AD (BR fP rfl (V1^dv 8) (Bx 10 E) (AD^Am (DTW.dt^Cy (Be (C_ q) D9 (dv 10)^dv 9)^B4^Bg^A_^cg q (Ey A)^BG (BQ q (dv 9)^dv 10)^Ak 1^BG (BQ q (dv 8)^dv 10) AE) (AD^AN CC) AS))))))))))
 (AD^AN CC))) (@λss n C h=>by
 let#[N,t,b,m,g,rfl,l,#[b1,b2,t1,t2],bt,m1,m2,o1,p]:=h;have ok:=l.1;have a0:=l.2.2;have a8:=PySem.sizeLine_eq;have F:okN^AV N t b m g:=Ce l _;have a9:=F.2.2;refine#[_,AF (j:=1) rfl,_,N.ts,m,rfl,rfl,a0,m1,m2,λL hL=>?_]
 have go:∀(e:q_^q_ AX) (s4 s5 s6 r u z a:Slot),(∀S∈e,S∈L)->Ae (AU 4) YY {EE C with nx:=Bo (wC^D.bl o_)^EE C} (e.map NE) n [.sh^enc N,.sh^Dx t b,.sh^.int (m:Int),.sh^enc^AV N t b m g,s4,s5,s6,r,u,z,a]:=by
  intro e
  induction e with
  |nil=>intro s4 s5 s6 r u z a _;exact p
  | cons S e ih=>
   intro s4 s5 s6 r u z a h;let#[c1,c2]:=hL.1 S^h S Re;have a1:=BX l S;have a2:=BX F S;have lS:=(BN ok c2).2;refine#[_,AF (j:=1) rfl,by show(N.ts.map AJ).length<=10000000;rw[FM];lk,?_];refine BY (λd=>!((S.map AJ).any λy=>Cu y d)) id (λB=>∃s,B=[.sh^.lst^S.map AJ,s]) _ _ _ _ ?_ #[_,rfl] ?_
   .rintro d hd B J nx sk ⟨s,rfl⟩ O h2
    let#[v,hv,rfl]:=TM.mp hd;exact#[Bt ok hv,lS,_,rfl,Ba (λc=>O _ #[_,rfl] c) λc=>h2 _ #[_,rfl]^fj.mpr c]
   rw[fW,iT,DP];refine#[_,AF (j:=1) rfl,by show((AV N t b m g).ts.map AJ).length<=10000000;rw[FM];lk,?_];refine BY (λd=>!((S.map AJ).any λy=>Cu y d)) id (λB=>∃s,B=[.sh^.lst^S.map AJ,s]) _ _ _ _ ?_ #[_,rfl] ?_
   .rintro d hd B J nx sk ⟨s,rfl⟩ O h2
    let#[v,hv,rfl]:=TM.mp hd;exact#[Bt F.1 hv,lS,_,rfl,Ba (λc=>O _ #[_,rfl] c) λc=>h2 _ #[_,rfl]^fj.mpr c]
   rw[fW,iT,DP];exists _,AF (j:=0) rfl
   have a3:∀(Q:q_ Str) (r u z a:Slot),(∀x∈Q,x∈N.ps)->Ae (AU 7) Wz {EE C with nx:=Ae (AU 4) YY {EE C with nx:=Bo (wC^D.bl o_)^EE C}^e.map NE,ct:=Ae (AU 4) YY {EE C with nx:=Bo (wC^D.bl o_)^EE C}^e.map NE,bk:=Bo (wC^D.bl o_)^EE C} (Q.map .str) n
     [.sh^enc N,.sh^Dx t b,.sh^.int (m:Int),.sh^enc^AV N t b m g,.sh^.lst^S.map AJ,.sh^.lst^(N.ts.filter λv=>decide (v∉S)).map AJ,.sh^.lst^((AV N t b m g).ts.filter λv=>decide (v∉S)).map AJ,r,u,z,a]:=by
    intro Q
    induction Q with
    |nil=>intro r u z a _;exact ih _ _ _ _ _ _ _ λS' h'=>h S'^Sc _ h'
    | cons s Q a4=>
     intro r u z a R;have hs:=R s Re;have next:=λr u z a=>a4 r u z a λx hx=>R x^Sc _ hx;refine#[minus N S,s,_,_,rfl,rfl,λ_=>Iff.rfl,a1,hs,λZ ds K M T=>#[Z,ds,rfl,Pb M,?_]];refine#[minus (AV N t b m g) S,s,_,_,rfl,rfl,λ_=>Iff.rfl,a2,hs,λG H K' U T'=>#[G,H,rfl,Pb U,?_]];exists Z,ds,rfl,λk V=>?_
     .let#[x,rfl]:=M.dom k V
      have:=(ok.names x^T.ins x^(M.mem x).mp V).2.1
      show x.length<=sizeLine;lk
     refine KW (λ_ J B=>J=n/\∃a,B=[.sh^enc N,.sh^Dx t b,.sh^.int (m:Int),.sh^enc^AV N t b m g,.sh^.lst^S.map AJ,.sh^.lst^(N.ts.filter λv=>decide (v∉S)).map AJ,.sh^.lst^((AV N t b m g).ts.filter λv=>decide (v∉S)).map AJ,.sh^.str s,.sh^.fdi Z ds,.sh^.fdi G H,a]) ?_ _ _ _ ?_ #[rfl,_,rfl]
     .rintro J B ⟨rfl,a,rfl⟩
      exact next _ _ _ _
     .rintro _ W J B b0 a5 ⟨rfl,a,rfl⟩ X
      let#[k,V,rfl]:=TM.mp a5;let#[x,rfl]:=M.dom k V;have hx:=(M.mem x).mp V;have a6:=X J _ #[rfl,.sh^.str x,rfl];cases ek:K x with
      |none=>exact absurd ek hx
      | some d=>
       let#[d1,w1,O]:=MS l b1 bt o1 c1 (T.least x d ek).1;cases I:K' x with
       |none=>exact absurd I^T'.all x d1 w1
       |some W=>
        have le:=(T'.least x W I).2 d1 w1;have a7:W*b<=d*t:=lA (VS le^by lk) O;have v1:BA Z ds^.inr x=P3^.int d:=by rw[M.at_,ek];rfl
        have v2:BA G H^.inr x=P3^.int W:=by rw[U.at_,I];rfl
        exists _,_,_,rfl,Aj x;rw[v2];refine BJ #[_,_,_,_,rfl,Aj x,v2,_,_,_,_,rfl,Aj x,v1,W,t,b,d,rfl,b1,b2,t1,t2,?_];rw[decide_eq_true a7];exact BJ a6
   exact a3 N.ps _ _ _ _ λ_ h=>h
 exact go L _ _ _ _ _ _ _ λ_ h=>h)
def Jp:A.Y "_law_thins" 9 ["_law_feed_here","_law_net_here","_law_times","_law_many"] .fr NS:=have Z:=Dl A;A.gk A.h1m ["_law_feed_here","_law_net_here","_law_times","_law_many","_law_thins_here","_law_more","_law_at"] (λT L D=>(AC (L_ 4 L^Al^AA (cg D Z^Ak 1^Ak 2^Ak 3 AE)^AA (cg D Z^Ak 1^Ak 2^BG (AZ Bc B7 AB^dv 3) AE) AG)
 (AC (CB 4 Jl Nj Nf A2 C1 (pv 4)^AA (cg D Z^Ak 1^BG (cg D (Fc A)^AO (A3 0) AE)^Ak 3 AE) AG)
 (AC (Gb (i:=5) L rfl (f9 rfl) rfl [("_law_thins_here":Str),("_law_tie":Str)] [P3 4,n_] (A4^A1 (dv 1) AB) (λ_ _ _ _ _=>(EO (i:=1) (show lB [("_law_thins_here":Str),("_law_tie":Str)] by decide +kernel) rfl (f9 rfl))) (λ_ _ _ _ _=>(CL^Be (CV D) Fk (dv 1)^A1 (A1 (Cp 0) AB) AB)) (λ_ _ _ _ _=>(dv 1)) (by kernel_rfl))
 (AC (Am (Be (Es D) Hm (dv 5)^Al AG) (AD^CB 4 Jl Nj Nf A2 C1 (pv 4)^AA (Aa^AA (A1 (dv 1) AB)^AA (OM T.Gab (Av B6 ER rfl T.Gad jI (AT (AZ Af Ax (A1 (A1 (Cp 4) AB) AB)^Aa^AA (A1 (dv 5)^cg D (BB A)^AO (A3 0)^BG (OO T.Gac^dv 5) AE) AG) Ac))) AG) AG) AS)
 (AC (Am (Be (Es D) Hm (A1 (A1 (Cp 4) AB) AB)^Aa AG) (AC (B5 6 L^cg D (BB A)^AO (A3 0)^BG (OO T.Gac^A1 (A1 (Cp 4) AB) AB) AE)
 (AD^CB 4 Jl Nj Nf A2 C1 (pv 4)^AA (Aa^AA (A1 (dv 1) AB)^AA (AZ Af Ax (CS EX CT (A1 (A1 (Cp 4) AB) AB) BO^BH^dv 6)^CS EX CT (A1 (A1 (Cp 4) AB) AB) (BH^AZ Af Ax (dv 6) AB) BO) AG) AG)) AS)
 (AD^Gc 4^pv 4))))))) (@λss n Pd h=>by
 let#[N,t,b,m,rfl,a,tm,m1,m2,hn,p]:=h;have a3:=PySem.sizeLine_eq;have a4:=a.2.2;refine#[N,t,b,m,rfl,a,tm,m2,λo o1 o2=>?_];refine#[N,t,b,3 - m,by rw[show((3 - m:Nat):Int)=3 - (m:Int) by lk],a,tm,by lk,λq _ _=>#[z2,?_]];refine#[_,rfl,rfl,rfl,by lk,λV W a0 _=>#[N,V,W,m,rfl,a,a0,m2,λB _ _=>#[_,_,rfl,rfl,by show 2<sizeLine;lk,?_]]];have O:∀ts,thn N ts->Bj N #[N.ps,ts]:=λts h=>#[rfl,h];have p:=p o;have l:thn N (AV N t b m o).ts:=C9 a _;have tl:(AV N t b m o).ts.length<=60:=(Ce a _).2.2
 have base:∀M∈[AV N t b (3 - m) q,AV N V W m B],Bj N M:=λM I=>by
  simp only[Tk,fH,or_false]at I
  rcases I with rfl|rfl
  .exact#[rfl,C9 a _]
  .exact#[rfl,C9 a _]
 show Wd (EF Pd) (n - 1) [.fd,.sh^enc N,.sh^Dx t b,.sh^.int (m:Int),.ow^.lst^(AV N t b m o::[AV N t b (3 - m) q,AV N V W m B]).map enc,.no,.no];revert base;generalize AV N t b (3 - m) q=M2;generalize AV N V W m B=M3;intro base;have eT:enc^AV N t b m o=enc #[N.ps,(AV N t b m o).ts]:=rfl;revert l tl p;generalize AV N t b m o=T;intro p l tl
 have Q:∀(F:q_ Net) (k:Nat) (s5 s6:Slot),2<=F.length->F.length<=4->(∀M∈F,Bj N M)->n - 98<=k->Ro (EF Pd) k [.fd,.sh^enc N,.sh^Dx t b,.sh^.int (m:Int),.ow^.lst^(T::F).map enc,s5,s6]:=λF k s5 s6 a1 a5 R hk=>by
  unfold Ro;have el:((T::F).map enc).length<sizeLine:=by rw[FM,fF];lk
  exists _,AF (j:=0) rfl,_,AF (j:=1) rfl,z0,(BN a.1 l.1).1,(BN a.1 (ts:=[]) λ_ h=>by cases h).1;cases ec:T.ts with
  |nil=>exact BJ #[_,rfl,p F k o1 o2 a1 (by lk) R^by lk]
  | cons S a6=>
   rw[←ec];have ml:(T.ts.map AJ).length=T.ts.length:=FM ..;have t1:1<=T.ts.length:=by rw[ec,fF];lk
   have ne:(!Cu (.tup^T.ts.map AJ) (.tup []))=o_:=by rw[ec];rfl
   show if(!Cu (.tup^T.ts.map AJ) (.tup []))=o_ then _ else _
   rw[ne];refine BS #[_,AF (j:=0) rfl,_,AF (j:=1) rfl,_,_,rfl,rfl,_,rfl,by lk,by lk,by lk,λr r0 r1=>?_];obtain⟨i,rfl⟩:∃i:Nat,r=(i:Int):=#[r.toNat,by lk];exists _,rfl,rfl,_,AF (j:=0) rfl,_,AF (j:=0) rfl,_,AF (j:=1) rfl,_,AF (j:=0) rfl,_,AF (j:=1) rfl;have kl:i<T.ts.length:=by lk
   have J:Dp.cutD (T.ts.map AJ) n_^P3 (i:Int)=(T.ts.take i).map AJ:=by
    rw[Lu,ml,ia^by lk,List.map_take]
   have e2:Dp.cutD (T.ts.map AJ) (P3 ((i:Int)+1)) n_=(T.ts.drop (i+1)).map AJ:=by
    rw[show(i:Int)+1=((i+1:Nat):Int) by lk,JU,ml,ia^by lk,List.map_drop]
   have sb:(T.ts.take i++T.ts.drop (i+1)).Sublist T.ts:=by
    conv=>rhs;rw[←jA i T.ts]
    exact(lf _).append^by rw[←List.drop_drop];exact List.drop_sublist _ _
   exists by rw[J,e2,FM,FM,im,kU];lk,z2,_,_,rfl,rfl,el;rw[J,e2,←fg]
   have:=p (F++[#[N.ps,T.ts.take i++T.ts.drop (i+1)]]) (k - 1) o1 o2 (by rw[XV];lk) (by rw[XV,fS];lk) (λM I=>(ZB.mp I).elim (R M) λh=>by rw[Op.mp h];exact O _ #[λu C=>l.1 u^sb.subset C,l.2.sublist sb])^by lk
   rw[←mE,fg]at this;exact#[_,rfl,this]
 unfold Wd;refine#[_,AF (j:=1) rfl,by show(N.ts.map AJ).length<=10000000;rw[FM];lk,?_];refine BY (λd=>!((T.ts.map AJ).any λy=>Cu y d)) id (λρ=>∃s,ρ=[.br^.lst^(T::[M2,M3]).map enc,s]) _ _ _ _ ?_ #[_,rfl] ?_
 .rintro d hd ρ m nx sk ⟨s,rfl⟩ h1 h2
  let#[v,hv,rfl]:=TM.mp hd;exact#[_,AF (j:=0) rfl,_,AF (j:=1) rfl,Bt a.1 hv,(BN a.1 l.1).1,_,rfl,Ba (λc=>h1 _ #[_,rfl] c) λc=>h2 _ #[_,rfl]^fj.mpr c]
 rw[fW,iT,DP]
 have e:∀u∈N.ts.filter λv=>decide (v∉T.ts),u∈N.ts/\u∉T.ts:=λu C=>by
  let#[h1,h2]:=gS.mp C;exact#[h1,of_decide_eq_true h2]
 have X:(N.ts.filter λv=>decide (v∉T.ts)).length<=N.ts.length:=gv _ _;exists z0,(BN a.1 λu C=>(e u C).1).2,(BN a.1 (ts:=[]) λ_ h=>by cases h).2;revert X e;generalize(N.ts.filter λv=>decide (v∉T.ts))=mo;intro e X;cases mo with
 |nil=>exact BJ^Q [_,_] _ _ _ (Rs _) (by show 2<=4;decide) base^by lk
 |cons S E=>
  have ne:(!Cu (.lst^(S::E).map AJ) (.lst []))=o_:=rfl;show if(!Cu (.lst^(S::E).map AJ) (.lst []))=o_ then _ else _
  rw[ne];revert e X;have l1:1<=(S::E).length:=by rw[fF];lk
  revert l1;generalize S::E=mo;intro l1 e X;have ml:(mo.map AJ).length=mo.length:=FM ..;refine BS #[_,rfl,rfl,_,AF (j:=0) rfl,_,AF (j:=0) rfl,_,AF (j:=1) rfl,_,_,rfl,rfl,_,rfl,by lk,by lk,by lk,λr r0 r1=>?_];obtain⟨k,rfl⟩:∃k:Nat,r=(k:Int):=#[r.toNat,by lk];have J:mo[k]?=P3 mo[k]:=On (by lk);have C:=e mo[k] (f7 _);revert J C;generalize mo[k]=u;intro J C;refine#[_,AF (v:=AJ u) (by rw[fK,J];rfl),z1,by rw[FM];show _+1<=_;lk,?_];have ee:EY^.tup (T.ts.map AJ++[AJ u])=P3^(T.ts++[u]).map AJ:=by rw[fg];rfl
  have L:(T.ts++[u]).Nodup:=gX.mpr #[A9 l.2,by simp,λx U y hy=>by rw[Op.mp hy];exact λz=>C.2 (z▸U)];have G:∀x∈T.ts++[u],x∈N.ts:=λx U=>(ZB.mp U).elim (l.1 x) λh=>by rw[Op.mp h];exact C.1
  refine#[_,_,rfl,ee,by rw[FM,XV,fS];lk,JC _,λa7 hp ho=>?_];let#[H,p1,rfl]:=KC (g:=Tp) (λ_=>rfl) hp;refine#[z2,_,_,rfl,rfl,by show 3<sizeLine;lk,?_];have eo:=Nh a.1 G L p1^LW ho;have a2:Bj N #[N.ps,H]:=O _ #[λx U=>G x^p1.mem_iff.mp U,by rw[show H=N.ts.filter _ from congrArg Net.ts eo];exact a.1.trise.sublist jO];exact Q [_,_,#[N.ps,H]] _ _ _ (by show 2<=3;decide) (by show 3<=4;decide) (λM I=>(ZB.mp (show M∈[_,_]++[_]from I)).elim (base M) λh=>by rw[Op.mp h];exact a2)^by lk)
end
section
variable {P:Program}{w:World}{K:Frag}{mg:Str->r_ Value}{base:Heap}
def LM:A5 ["_law_script"] ["_law_script"]^AK Ej:=by constructor <;>first|rfl|decide +kernel
def LZ{f:Db}{fd:f_}(T:Txt K mg)(F:Fun K "_law_feed" "_law_feed" Ej f fd):B8 P w K mg base EU 1 f fd ["_law_script"]^LJ K:=by
 refine F.ok LM (λi H Q E h=>?_) λj A d s H i Q E n h=>?_
 .let#[a,k,rfl,_]:=h
  rfl
 .let#[a,k,rfl,#[l,m],q]:=h
  exists _,Cf^Fp^Nz^BL (KQ C8 rfl T.Gag boot_list (BL (MZ sl_list (pv 0) O_^O9 A0) CH))^BL A0^BL A0 CH;refine#[_,rfl,63,rfl,a,_,rfl,m,λp o=>#[p,_,rfl,.inl^SqL.of AR,λc r=>#[by show 3<=sizeLine;decide,λg e=>?_]]];rw[a_ l]at e ⊢;have b:c≠g:=λz=>by rw[←z,AR]at e;cases e
  exact q c g _ b (by rw[AM b,AR]) AR
def nL:A5 ["_law_script","_law_feed_here","_law_net_here","_law_times","_law_many","_law_thins_here","_law_papers","_law_thin","_law_at","_law_k","_law_paper","_law_found","_law_tie","_law_which"] ["_law_script"]^AK Ik:=by walk_at "s"
def YF{h:fO}{f ff:Db}{fd Y:f_}(A:Ctx P w K mg base h)(Gf:B8 P w K mg base EU 1 ff Y ["_law_script"]^LJ K)(mf:mg "_law_feed"=P3^.ref ff)(kf:keepIn K^.ref ff=o_)(bf:Binds K Y ["_law_script"] [])(F:Fun K "law" "law" Ik f fd):B8 P w K mg base EU 11 f fd ["_law_script"]^MT K:=by
 have nI:=Lb A;have nN:=Fc A;have nO:=Js A;have nP:=Jr A;have nQ:=Mi A;have nR:=Mh A;have nC:=BB A;have nS:=GQ A;have nU:=Jp A;have nW:=GL A;have T:=A.T
 exact aZ (n0:=3000) F nL rfl (by cbv) (λa3 A J s H E g=>ED (i:=1) nL.nd rfl (f9 rfl) (PD Gf (g.mono^by cbv) rfl mf kf bf .nil Wu (BL (pv 0) CH)))
  (λa3 A J s H E g=>(AC (B5 2 nL.nd^cg g nO^AO (A3 1) AE)
 (AC (Am (Be (LX g) P1 (cg g nC^AO (A3 1)^BG AB AE) AB) (AD^B5 2 nL.nd^cg g nR^AO (A3 1)^BG AB^BG AB AE) AS)
 (AC (B5 3 nL.nd^cg g nN^AO (A3 1) AE)
 (AC (B5 4 nL.nd^AZ Af Ax AB^cg g nC^AO (A3 1)^BG AB AE)
 (AC (L_ 5 nL.nd^cg g nU^AO (A3 1)^Ak 2^Ak 3^Ak 4 AE)
 (AC (L_ 6 nL.nd^Al^AA (cg g nW^Ak 2^Ak 3^Ak 4 AE) AG)
 (AC (IK fP rfl (pv 5) (Bx 7 nL.nd) (AD^CB 6 Jl Nj Nf A2 C1 (pv 6)^AA (cg g nS^Ak 2^Ak 3^Ak 4^Ak 7^BG AB AE) AG))
 (AC (B5 8 nL.nd^cg g nC^AO (A3 1)^BG (AZ Af Ax (OO T.Gac^A1 (dv 2) AB) AB) AE)
 (AC (CB 6 Jl Nj Nf A2 C1 (pv 6)^AA (AZ Af Ax (CS EX CT (A1 (Cp 6) AB) BO^BH^dv 8)^CS EX CT (A1 (Cp 6) AB) (BH^dv 8) BO) AG)
 (AC (BR fP rfl (D6 rfl T.Gae (AT AB Ac)) (Bx 9 nL.nd) (AD^CB 6 Jl Nj Nf A2 C1 (pv 6)^AA (cg g nI^AO (A3 1)^BG (A1 (Cp 6)^dv 9)^BG (A1 (dv 2) AB)^BG AB AE) AG))
 (AC (Am (Bg^A_^cg g nP^Ak 2^Ak 3^Ak 4^BG (A1 (Cp 5) AB) AE) (AD^AN CC) AS)
 (AC (IK fP rfl (pv 6) (Bx 10 nL.nd) (AD (IK fP rfl (pv 5) (Bx 7 nL.nd) (AC (B5 11 nL.nd^cg g nQ^Ak 2^Ak 3^Ak 4^Ak 7^Ak 10 AE)
 (AD^Am (DTW.dt^Cy (Be (LX g) P1 (dv 11) AY)^B4^DTW.dt^DV (Be DM FC (dv 11) Ap)^C6^Be (Es g) Hm (dv 7)^A1 (Cp 5) AB) (AD^AN CC) AS)))))
 (AC (BR fP rfl (Cb^A1 (A1 (Cp 5) AB) AB) (Bx 12 nL.nd) (AD^CB 5 Jl Nj Nf A2 C1 (pv 5)^AA (Aa^AA (A1 (dv 2) AB)^AA (OM T.Gab^Jf ["_law_tie","_law_one"] [P3 12,n_] (A4^A1 (A1 (Cp 5) AB) AB) (λnq=>Bx 1 nq) (CL^Be (Es g) Hm (dv 1)^dv 0)^dv 1) AG) AG))
 (AC (IK fP rfl (pv 5) (Bx 7 nL.nd) (AD (BR fP rfl (Cb^Al^AA AB^AA AB AG) (Bx 13 nL.nd) (AC (B5 11 nL.nd^cg g nQ^Ak 2^Ak 3^Ak 4^Ak 7^BG (cg g nS^Ak 2^Ak 3^Ak 4^Ak 7^Ak 13 AE) AE)
 (AD^Am (DTW.dt^Cy (Be (LX g) P1 (dv 11) AY)^B4^DTW.dt^DV (Be DM FC (dv 11) Ap)^C6^Be (Es g) Hm (dv 7)^A1 (Cp 5) AB) (AD^AN CC) AS)))))
 (AD^AN CC)))))))))))))))) (by
 have a9:=PySem.sizeLine_eq
 have c:∀(N:Net) (n:Nat),okN N->2<=N.ps.length->N.ps.length<=6->N.ts.length<=25->2000<=n->Wy D0 n [.no,.fd,.sh^enc N,.no,.no,.no,.no,.no,.no,.no,.no,.no,.no,.no]:=by
  intro N n l p2 Z o hn;unfold Wy;refine#[rfl,by lk,λt b tm bt=>#[2,rfl,by cbv,by cbv,by lk,λr r0 r1=>?_]];obtain⟨m,em,m1,m2⟩:∃m:Nat,(1+r:Int)=(m:Int)/\1<=m/\m<=2:=#[(1+r).toNat,by lk]
  suffices key:∀z:D,z=.int (m:Int)->S3 D0 (n - 1 - 1) [.no,.fd,.sh^enc N,.sh^Dx t b,.sh z,.no,.no,.no,.no,.no,.no,.no,.no,.no]from key _^by rw[em]
  rintro z rfl;unfold S3;refine#[N,t,b,m,rfl,l,tm,m1,m2,by lk,λu S U o1 o2 b0 a4 hM L=>?_];refine#[N,t,b,m,rfl,l,Z,tm,m2,λa5 O=>#[z1,?_]];clear em r0 r1;have a6:Bj N^AV N t b m u:=#[rfl,C9 l _];unfold Wx;refine#[_,rfl,λa=>?_]
  have go:∀(c:q_ Net) (D2:E2) (PS:q_^q_ D) (C:Slot),(∀M∈c,Bj N M)->(∀r∈PS,Il N r)->PS.length+c.length<=10->(∀(v:q_^q_ D) (C:Slot),(∀r∈v,Il N r)->v.length=PS.length+c.length->D2.nx U [.no,.fd,.sh^enc N,.sh^Dx t b,.sh^.int (m:Int),.lt a^.lst^(AV N t b m u::S).map enc,.ow^.lst^v.map .tup,C,.no,.no,.no,.no,.no,.no])->
    Ae (AU 7) (LF 6 "list" FV^AL (Au L8^AI (AQ^AH 2)^AI (AQ^AH 3)^AI (AQ^AH 4)^AI (AQ^AH 7)^AI (AQ^wC^D.int 0) Ay) Ab) D2 (c.map enc) U [.no,.fd,.sh^enc N,.sh^Dx t b,.sh^.int (m:Int),.lt a^.lst^(AV N t b m u::S).map enc,.ow^.lst^PS.map .tup,C,.no,.no,.no,.no,.no,.no]:=by
   intro c
   induction c with
   |nil=>intro D2 PS C _ hP _ h;exact h PS _ hP rfl
   |cons M c ih=>
    intro D2 PS C g hP hl h;rw[fF]at hl h;have hM:=g M Re;refine#[_,rfl,rfl,N,M.ts,t,b,m,0,by rw[DJ hM];rfl,l,Z,hM.2,tm,m1,m2,by cbv,λrs a7=>#[_,_,rfl,rfl,by rw[FM];lk,?_]]
    have:=ih D2 (PS++[rs]) (.sh^enc M) (λx y=>g x^Sc _ y) (λx y=>(ZB.mp y).elim (hP x) λy=>by rw[Op.mp y];exact a7) (by rw[XV,fS];lk) λv C V Q=>h v C V^by rw[Q,XV,fS];lk
    rw[fg]at this;exact this
  refine go _ _ [a5] _ (λM h=>(Tk.mp h).elim (λe=>e▸a6)^hM M) (λr g=>by rw[Op.mp g];exact O) (by show 1+(S.length+1)<=10;lk) λPS C G a0=>#[rfl,?_];replace a0:PS.length=1+(S.length+1):=a0;have g0:=On (show 0<PS.length by lk);have V:=On (show 1<PS.length by lk);have Q:=On (show 2<PS.length by lk);have O:=G _^f8 g0;have h1:=G _^f8 V;have W:=G _^f8 Q;revert g0 V Q O h1 W;generalize PS[0]=q0;generalize PS[1]=q1;generalize PS[2]=I;intro g0 V Q O h1 W
  have R:∀(j:Nat) (q:q_ D) (X:q_ D),PS[j]?=P3 q->(PS.map D.tup++X)[j]?=P3^.tup q:=λj q X h=>by
   have hj:=(eq.mp h).1;rw[hX (by rw[FM];exact hj),fK,h];rfl
  have a1:∀(j:Nat) (q:q_ D),PS[j]?=P3 q->(PS.map D.tup)[j]?=P3^.tup q:=λj q h=>by rw[fK,h];rfl
  show S2 D0 U [.no,.fd,.sh^enc N,.sh^Dx t b,.sh^.int (m:Int),.ow^.lst^(AV N t b m u::S).map enc,.ow^.lst^PS.map .tup,C,.no,.no,.no,.no,.no,.no];unfold S2;have tl:(N.ts.map AJ).length=N.ts.length:=FM ..;refine#[_,AF (j:=1) rfl,_,_,rfl,rfl,_,rfl,by lk,by lk,by lk,λk k0 k1=>?_];obtain⟨i,rfl⟩:∃i:Nat,k=(i:Int):=#[k.toNat,by lk];have ik:i<=N.ts.length:=by lk
  have l0:=O.1;have l2:=W.1;have e0:Dp.cutD q0 n_^P3 (i:Int)=q0.take i:=by rw[Lu,ia^by lk]
  have e2:Dp.cutD I (P3 (i:Int)) n_=I.drop i:=by rw[JU,ia^by lk]
  refine#[_,rfl,rfl,_,AF (j:=0)^a1 0 q0 g0,_,AF (j:=2)^a1 2 I Q,by rw[e0,e2,im,kU];lk,_,_,rfl,rfl,by rw[FM];lk,?_];rw[e0,e2];have hq:Il N (q0.take i++I.drop i):=#[by rw[XV,im,kU];lk,λr g=>(ZB.mp g).elim (λh=>O.2 r^k8 h) λh=>W.2 r^k7 h];have nn:N.ps≠[]:=λz=>by rw[z]at p2;simp at p2
  let#[t0,f0,s0,d0]:=FH o (by lk) O.2;let#[t1,f1,s1,d1]:=FH o (by rw[h1.1];exact o) h1.2;let#[t2,f2,s2,d2]:=FH o (by lk) W.2;show YO D0 (U - 1) [.no,.fd,.sh^enc N,.sh^Dx t b,.sh^.int (m:Int),.ow^.lst^(AV N t b m u::S).map enc,.ow^.lst (PS.map .tup++[.tup (q0.take i++I.drop i)]),C,.sh^.int (i:Int),.no,.no,.no,.no,.no];unfold YO;exists _,rfl,#[by cbv,by cbv];show Ae _ _ _ [D.int ((0:Nat):Int),D.int ((1:Nat):Int),D.int ((2:Nat):Int)] _ _;have ll:(PS.map D.tup++[D.tup (q0.take i++I.drop i)]).length<=20:=by rw[XV,FM,fS];lk
  refine#[_,rfl,rfl,_,AF^R 0 q0 _ g0,_,AF (j:=0) rfl,_,N.ps,6,rfl,Rs _,t0,f0,nn,by lk,λx y=>l.1.names x y,by lk,by lk,λx0 n2 u1 u2 u3 u4=>#[_,_,rfl,rfl,by lk,?_]];refine#[_,rfl,rfl,_,AF (by rw[gF];exact R 1 q1 _ V),_,AF (j:=0) rfl,_,N.ps,6,rfl,Rs _,t1,f1,nn,by lk,λx y=>l.1.names x y,by lk,by lk,λx1 n3 v1 v2 v3 v4=>#[_,_,rfl,rfl,by rw[XV,fS];lk,?_]];refine#[_,rfl,rfl,_,AF (by rw[gF,gF];exact R 2 I _ Q),_,AF (j:=0) rfl,_,N.ps,6,rfl,Rs _,t2,f2,nn,by lk,λx y=>l.1.names x y,by lk,by lk,λx2 n4 w1 w2 w3 w4=>#[_,_,rfl,rfl,by rw[XV,XV,fS,fS];lk,?_]];refine aN l Z o tm bt m1 m2 o1 o2 a4 hM λd p=>?_
  rcases ZB.mp p with p|p
  .rcases ZB.mp p with p|p
   .rcases ZB.mp p with p|p
    .rcases ZB.mp p with p|p
     .let#[q,hq,rfl]:=TM.mp p
      exact EC o^G q hq
     .rw[Op.mp p];exact EC o hq
    .rw[Op.mp p];exact E_ s0 d0 u1 u2 u3
   .rw[Op.mp p];exact E_ s1 d1 v1 v2 v3
  .rw[Op.mp p];exact E_ s2 d2 w1 w2 w3
 refine#[rfl,by cbv,λN U l p2 Z o L=>?_];have L:2800<=U:=L;refine#[4,rfl,by cbv,by cbv,by lk,λr r0 r1=>?_];have a2:∀k:Int,0<=k->k<100->CD^.int k:=λk h1 W=>Br (B:=100) (by cbv) (by show k.natAbs<=100;lk)^Uf _;refine#[a2 r r0^by lk,a2 0 (by cbv)^by cbv,Ba (λ_=>?_) λ_=>c N _ l p2 Z o^by lk];refine#[6,9,rfl,by cbv,by cbv,by cbv,by cbv,by lk,λN' n2 a8 I q6 q9 b1=>?_];exact c N' n2 #[a8,by lk,by lk] I q6 (by lk)^by lk)
end
local macro_rules|`(tactic|walk_at "B")=>`(tactic|(intro _ _ _ _ _ _;exact eB λ_=>rfl))
def all_mk{l:PySem.W.OpenLaw}{w:fY}{K:Frag}{h:fO}{d:Str->r_ Ev}{i:Db}(e:d "law"=P3^.ref i)(A:C0 K d h):∃fd:f_,(∀(s:No) (v:Ev),lG s fd #[[v],[]] [("_law_script",v)])/\∀b:fO,K.In b->b.Ns mainGlobals d->B8 l.prog w K d b EU 11 i fd ["_law_script"]^MT K:=by
 let#[y,j,m,g]:=A.h10.fn A.X A.G;have n:=g.binds (ps:=["_law_script"]) (by walk_at "B");let#[f,z,B,o,C,p,q,r,t,u,a,x,c,k]:=A.h1n;cases e.symm.trans^mg_of A.X A.G a;exact#[fnOf "law" "law" (Bv Ik) (A7 Ik) (AK Ik) .none p q r o t u,λs v=>.of_eq rfl,λb _ _=>YF A (LZ A.T g) m g.kp n^OL (st:=Ik) x c k]
def walk{l:PySem.W.OpenLaw}{q:fT}{c:q_ Str}{m:(Str->r_ Ev)->fO->Prop}{i:fY->fO->Prop}{d:DefRec}{K:Params->Frag}(o:l.most=P3 63)(g:d.params.defaults=[])
  (p:∀(w:fY) (h:fO),i w h->(K w.params).In h)
  (F:∀(w:fY) (e:Str->r_ Ev) (j:Db) (h:fO),(K w.params).In h->h.Ns mainGlobals e->e d.name=P3^.ref j->
   ∃fd:f_,(∀(s:No) (u:Ev),lG s fd #[[u],[]] [("_law_script",u)])/\∀b:fO,(K w.params).In b->b.Ns mainGlobals e->B8 l.prog w (K w.params) e b EU 11 j fd ["_law_script"]^MT^K w.params):
  PySem.W.WalkO q c m i l.row.toRowW d [] (λf r=>PySem.call f r):=
 L2.Og (n:=63) (k:=11) (x:="_law_script") (CX:=λ_=>EU) (sp:=λw=>MT^K w.params) o (by cbv) g #[rfl,by cbv,by cbv,rfl] p F (λ_ _ a t v _ y=>#[a,t,rfl,#[v,y],λ_=>rfl]) λ_ _ _ _ _ z=>z
end K43
end _p
namespace PySem.W.Fast
theorem tw4523277767294426170:True:=⟨⟩
theorem tw7809119971760888056:True:=⟨⟩
theorem tw11978475962088684369:True:=⟨⟩
theorem tw14329200440095162874:True:=⟨⟩
theorem tw12721435077439691434:True:=⟨⟩
theorem tw17057155529057350206:True:=⟨⟩
theorem tw13552051145455214917:True:=⟨⟩
theorem tw10478008128445164445:True:=⟨⟩
theorem tw11888570668421635031:True:=⟨⟩
theorem tw15071687791474683700:True:=⟨⟩
theorem tw14372258213199795326:True:=⟨⟩
theorem tw16757482842925842365:True:=⟨⟩
theorem tw11501149160956807142:True:=⟨⟩
theorem tw17136508694502141726:True:=⟨⟩
theorem tw14728938835590189367:True:=⟨⟩
theorem tw10096090822054916218:True:=⟨⟩
theorem tw2480617568119071154:True:=⟨⟩
theorem tw15232975288623765435:True:=⟨⟩
theorem tw18080507508265058470:True:=⟨⟩
theorem tw209527397685403920:True:=⟨⟩
theorem tw15908176173971322858:True:=⟨⟩
theorem tw2283568606940315697:True:=⟨⟩
theorem tw14778928520190317410:True:=⟨⟩
theorem tw2480805091365397879:True:=⟨⟩
theorem tw13946655052807521215:True:=⟨⟩
theorem tw12287179146615718343:True:=⟨⟩
theorem tw5530132150036684628:True:=⟨⟩
theorem tw5126897842730984259:True:=⟨⟩
theorem tw327879769828170522:True:=⟨⟩
theorem tw2033422030361427200:True:=⟨⟩
theorem tw5438076717104399363:True:=⟨⟩
theorem tw7241443134106495861:True:=⟨⟩
theorem tw6846034423625196969:True:=⟨⟩
theorem tw5708540898149243704:True:=⟨⟩
theorem tw11938331740593160864:True:=⟨⟩
theorem tw1855195896500072957:True:=⟨⟩
theorem tw11303611583268332062:True:=⟨⟩
theorem tw3887047365217374186:True:=⟨⟩
theorem tw9060587268301272657:True:=⟨⟩
theorem tw376162508309711576:True:=⟨⟩
theorem tw11040059421570877904:True:=⟨⟩
theorem tw18050838108796283442:True:=⟨⟩
theorem tw12567871468393870496:True:=⟨⟩
theorem tw16723815433518503304:True:=⟨⟩
theorem tw2634358910723439868:True:=⟨⟩
theorem tw13752500017547332846:True:=⟨⟩
theorem tw566547340314007324:True:=⟨⟩
theorem tw12610775494192148728:True:=⟨⟩
theorem tw11125325660377510676:True:=⟨⟩
theorem tw11657872007024454055:True:=⟨⟩
theorem tw8078336789993298786:True:=⟨⟩
theorem tw4385419440239153755:True:=⟨⟩
theorem tw2599651075128998018:True:=⟨⟩
theorem tw14743924842454390047:True:=⟨⟩
theorem tw22481990529738734:True:=⟨⟩
theorem tw3714758639119320751:True:=⟨⟩
theorem tw7109417273306417596:True:=⟨⟩
theorem tw2838534167741586117:True:=⟨⟩
theorem tw17210097071426861910:True:=⟨⟩
theorem tw12388627804062899651:True:=⟨⟩
theorem tw584608163635423657:True:=⟨⟩
theorem tw3640295917736412054:True:=⟨⟩
theorem tw6381794448659490159:True:=⟨⟩
theorem tw17268394723419001640:True:=⟨⟩
theorem tw11266940499462818234:True:=⟨⟩
theorem tw1637789860089000226:True:=⟨⟩
theorem tw13704995512804307576:True:=⟨⟩
theorem tw12055223331296250827:True:=⟨⟩
theorem tw3490687203267103250:True:=⟨⟩
theorem tw4750505288590876582:True:=⟨⟩
theorem tw5617226822533782240:True:=⟨⟩
theorem tw3400692075113894819:True:=⟨⟩
theorem tw15892621652990484653:True:=⟨⟩
theorem tw9691151326541373070:True:=⟨⟩
theorem tw8175197259743448283:True:=⟨⟩
theorem tw591927809741543317:True:=⟨⟩
theorem tw7680938449007555639:True:=⟨⟩
theorem tw6176673273526462122:True:=⟨⟩
theorem tw8471883745672657542:True:=⟨⟩
theorem tw9353445817253101174:True:=⟨⟩
theorem tw17763847093591773959:True:=⟨⟩
theorem tw10351942917213339919:True:=⟨⟩
theorem tw18006419741233033863:True:=⟨⟩
theorem tw10287386948121557594:True:=⟨⟩
theorem tw9477877885652506035:True:=⟨⟩
theorem tw10466817441193728184:True:=⟨⟩
theorem tw14459326052409206805:True:=⟨⟩
theorem tw3629776935769088298:True:=⟨⟩
theorem tw8003080995606658477:True:=⟨⟩
theorem tw9948321478170147401:True:=⟨⟩
theorem tw17983106132188067721:True:=⟨⟩
theorem tw16294869299204498505:True:=⟨⟩
theorem tw5655294338093382478:True:=⟨⟩
theorem tw10829160232805897433:True:=⟨⟩
theorem tw11362805836999163287:True:=⟨⟩
theorem tw1389718501877261088:True:=⟨⟩
theorem tw10510830553645754510:True:=⟨⟩
theorem tw10858737457762063383:True:=⟨⟩
theorem tw5282923063382738086:True:=⟨⟩
theorem tw17994320596200779046:True:=⟨⟩
theorem tw9817887496486186042:True:=⟨⟩
theorem tw14999800269886268066:True:=⟨⟩
theorem tw4230525659693397937:True:=⟨⟩
theorem tw7098171197753764893:True:=⟨⟩
theorem tw9393685053706815730:True:=⟨⟩
theorem tw7755837713908179742:True:=⟨⟩
theorem tw14630754141430440124:True:=⟨⟩
theorem tw11418776500903811624:True:=⟨⟩
theorem tw3074190650997149813:True:=⟨⟩
theorem tw12023754856225954243:True:=⟨⟩
theorem tw2906246839545416707:True:=⟨⟩
theorem tw13395815980355362169:True:=⟨⟩
theorem tw13533686657871772191:True:=⟨⟩
theorem tw4673100971304723791:True:=⟨⟩
theorem tw10441955725980306439:True:=⟨⟩
theorem tw936046226162348382:True:=⟨⟩
theorem tw8849182807700743823:True:=⟨⟩
theorem tw15690571243413772943:True:=⟨⟩
theorem tw17156180376541218225:True:=⟨⟩
theorem tw6048345706012281912:True:=⟨⟩
theorem tw3037818376092209562:True:=⟨⟩
theorem tw10608384019703126596:True:=⟨⟩
theorem tw15517612423417618222:True:=⟨⟩
theorem tw1426211985188530989:True:=⟨⟩
theorem tw17631706794819226999:True:=⟨⟩
theorem tw9470304857437867439:True:=⟨⟩
theorem tw4169354061132050133:True:=⟨⟩
theorem tw2549309977015937865:True:=⟨⟩
theorem tw5457478469938279478:True:=⟨⟩
theorem tw7356770916245133103:True:=⟨⟩
theorem tw2981877926031723293:True:=⟨⟩
theorem tw15427584985449120670:True:=⟨⟩
theorem tw15743790013021636342:True:=⟨⟩
theorem tw6991500036472880482:True:=⟨⟩
theorem tw15682032478418323966:True:=⟨⟩
theorem tw12465391224964457476:True:=⟨⟩
theorem tw8031678220196039888:True:=⟨⟩
theorem tw6730301684790733227:True:=⟨⟩
theorem tw7372208322170646952:True:=⟨⟩
theorem tw4984232821775985462:True:=⟨⟩
theorem tw11935843591791444793:True:=⟨⟩
theorem tw9010116723745349798:True:=⟨⟩
theorem tw12561334728107156503:True:=⟨⟩
theorem tw10930573513311302979:True:=⟨⟩
theorem tw5800076967798669178:True:=⟨⟩
theorem tw17964407283318424907:True:=⟨⟩
theorem tw10026153688124716298:True:=⟨⟩
theorem tw11869069872802715108:True:=⟨⟩
theorem tw1349646799340053433:True:=⟨⟩
theorem tw10893999632382158326:True:=⟨⟩
theorem tw1142260741449619749:True:=⟨⟩
theorem tw875912513877818582:True:=⟨⟩
theorem tw1794334063737936875:True:=⟨⟩
theorem tw2437178781813977418:True:=⟨⟩
theorem tw4915940683934656323:True:=⟨⟩
theorem tw4014138784219700424:True:=⟨⟩
theorem tw1499381434467411022:True:=⟨⟩
theorem tw14324885195546942284:True:=⟨⟩
theorem tw3756620434446820282:True:=⟨⟩
theorem tw1316331312924553128:True:=⟨⟩
theorem tw17352184254799332143:True:=⟨⟩
theorem tw6021104936466931610:True:=⟨⟩
theorem tw694947361448154438:True:=⟨⟩
theorem tw12475606559240901518:True:=⟨⟩
theorem tw16038336081580761891:True:=⟨⟩
theorem tw3246217820534546708:True:=⟨⟩
theorem tw1975548870228503204:True:=⟨⟩
theorem tw8335984857643966093:True:=⟨⟩
theorem tw15346640588218215525:True:=⟨⟩
theorem tw16253904241445637988:True:=⟨⟩
theorem tw5374484841361952836:True:=⟨⟩
theorem tw4982559729472333351:True:=⟨⟩
theorem tw6298628080054908892:True:=⟨⟩
theorem tw10917198537569941763:True:=⟨⟩
theorem tw8335045515110894291:True:=⟨⟩
theorem tw8115353577161361878:True:=⟨⟩
theorem tw2024142659541219840:True:=⟨⟩
theorem tw7040830692211834838:True:=⟨⟩
theorem tw6388878031475250856:True:=⟨⟩
theorem tw10521286155443622954:True:=⟨⟩
theorem tw7703580822973167208:True:=⟨⟩
theorem tw12896257706211999055:True:=⟨⟩
theorem tw16017671382346161161:True:=⟨⟩
theorem tw8706263762769467644:True:=⟨⟩
theorem tw3838690243513482990:True:=⟨⟩
theorem tw7397370275795300206:True:=⟨⟩
theorem tw9821691627553424921:True:=⟨⟩
theorem tw1358599552259236143:True:=⟨⟩
theorem tw2840537793403054889:True:=⟨⟩
theorem tw3502220224892342065:True:=⟨⟩
theorem tw11559568975259330616:True:=⟨⟩
theorem tw10031717438651178612:True:=⟨⟩
theorem tw15408461258357044136:True:=⟨⟩
theorem tw2755869050308357177:True:=⟨⟩
theorem tw11595197258272689937:True:=⟨⟩
theorem tw9932462237685969279:True:=⟨⟩
theorem tw15318526944067008287:True:=⟨⟩
theorem tw7400409798570216789:True:=⟨⟩
theorem tw17496583002963578836:True:=⟨⟩
theorem tw7157530971910488279:True:=⟨⟩
theorem tw985611411692469087:True:=⟨⟩
theorem tw3496360922218215663:True:=⟨⟩
theorem tw1820543819459973239:True:=⟨⟩
theorem tw14996771021231592900:True:=⟨⟩
theorem tw6184761264496329059:True:=⟨⟩
theorem tw8658266576820512793:True:=⟨⟩
theorem tw1362023174467058514:True:=⟨⟩
theorem tw7937027309870085382:True:=⟨⟩
theorem tw9567162494267200448:True:=⟨⟩
theorem tw16338193655935176891:True:=⟨⟩
theorem tw15014947886028906943:True:=⟨⟩
theorem tw16402335216160167863:True:=⟨⟩
theorem tw5959020932263638379:True:=⟨⟩
theorem tw5321977865481528114:True:=⟨⟩
theorem tw7610961566129149071:True:=⟨⟩
theorem tw10605511316226280694:True:=⟨⟩
theorem tw5835833978789013942:True:=⟨⟩
theorem tw16420745075490037921:True:=⟨⟩
theorem tw14797756921144435989:True:=⟨⟩
theorem tw4298752662343015016:True:=⟨⟩
theorem tw11294963149151198218:True:=⟨⟩
theorem tw11360895602170522505:True:=⟨⟩
theorem tw3556718483183753772:True:=⟨⟩
theorem tw14409194837465776317:True:=⟨⟩
theorem tw18240996695416301001:True:=⟨⟩
theorem tw11624465916092183980:True:=⟨⟩
theorem tw10729491384586007912:True:=⟨⟩
theorem tw1308858555456875699:True:=⟨⟩
theorem tw15369300173718751133:True:=⟨⟩
theorem tw1346371333534111535:True:=⟨⟩
theorem tw11337909685523541774:True:=⟨⟩
theorem tw17127864757332065469:True:=⟨⟩
theorem tw6996709583296716530:True:=⟨⟩
theorem tw1210899751040684065:True:=⟨⟩
theorem tw2694633346180115648:True:=⟨⟩
theorem tw10230500375119839565:True:=⟨⟩
theorem tw14928407262962794233:True:=⟨⟩
theorem tw3774743484332875880:True:=⟨⟩
theorem tw4494649004201125731:True:=⟨⟩
theorem tw10811553094552201852:True:=⟨⟩
theorem tw9722124409287185991:True:=⟨⟩
theorem tw8783243340714751702:True:=⟨⟩
theorem tw13642399761010117059:True:=⟨⟩
end PySem.W.Fast
open _p
open PySem.W
set_option maxRecDepth 100000 in
set_option maxHeartbeats 0 in
theorem PySem.Challenge.cw_thinnet_k43_whole_steady_holds : PySem.Challenge.rw_thinnet_k43_whole_steady.Holds := by
 w_on;o_law;k_head;(case hw=>w_witness2)
 k_fill
 refine K43.walk (l:=PySem.Challenge.rw_thinnet_k43_whole_steady) rfl rfl (λw h Y=>PySem.W.kIn_of Y) ?F
 case F =>
  intro w mg fa h KX G hmg
  refine K43.all_mk (h:=h) hmg ?_
  apply K43.C0.mk KX G
  all_goals first
   | (refine' K43.Ht.mk ?a ?l ?c ?k;(case a=>k_is);(case l=>k_is);(case c=>k_is);(case k=>k_is))
   | (refine' K43.Hn.mk ?a;(case a=>k_is))
   | (refine' K43.Hx.mk ?c;(case c=>(refine' K43.xc_mk ?at_ ?atU ?o ?u ?kp ?ga ?gt ?sa ?ca ?nw ?nn ?nr;(case at_=>k_is);(case atU=>k_is);(case o=>k_is);(case u=>k_is);(case kp=>k_is);(case ga=>k_is);(case gt=>k_is);(case sa=>k_is);(case ca=>k_is);(case nw=>k_is);(case nn=>k_is);(case nr=>k_is))))
   | (refine' K43.H2.mk ?c ?i ?ty ?l ?cc ?k;(case c=>(refine' K43.xc_mk ?at_ ?atU ?o ?u ?kp ?ga ?gt ?sa ?ca ?nw ?nn ?nr;(case at_=>k_is);(case atU=>k_is);(case o=>k_is);(case u=>k_is);(case kp=>k_is);(case ga=>k_is);(case gt=>k_is);(case sa=>k_is);(case ca=>k_is);(case nw=>k_is);(case nn=>k_is);(case nr=>k_is)));(case i=>k_is);(case ty=>k_is);(case l=>k_is);(case cc=>k_is);(case k=>k_is))
#print axioms PySem.Challenge.cw_thinnet_k43_whole_steady_holds

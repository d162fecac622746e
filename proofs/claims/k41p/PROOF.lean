import PyProof.Rows.All
import Wide.All
import OpenK.AllK
import Wide.FinOn
import Lean
import PyProof.EqAt
import PyProof.EqKinds
import PyProof.TupleCall
import PyProof.StationsW
import PyProof.PassesOwn
import PyProof.RulesAs
import PyProof.ExcClass3
import PyProof.Rows.CatchOwn
import OpenK.KMake
import OpenK.KWalk
import PyProof.InstStoreFacts
import PyProof.ExcBaseAll.ValueError
import PyProof.RangeIter
import OpenK.KRaise
import PyProof.NsDelKeeps
import KE.KIsAll
import PyProof.P3In
import PyProof.NeData
import PyProof.CompUse
import PyProof.ReprLen
import KE.KSortTup
import PyProof.SumAny
import PyProof.Rows.SeqCalls
import KE.KRevIter
import PyProof.TupleOfGen
import PyProof.CollectIter
import PyProof.Draws
import PyProof.EnumMake
import PyProof.ListNew
import PyProof.AttrMissHeap
import PyProof.FactsAll.dict
import PySem.SetOps
import PyProof.TupleKey
import PyProof.SetKind
import PyProof.IsRules
import PyProof.Rows.SetFrom
import PyProof.WalksMore
import PyProof.TupleIter
import KE.KDictSum
import KE.KEqDict
import PyProof.RulesTry
import PyProof.ExcArgs
import PyProof.ListMulRoad
import PyProof.FactsAll.zip
import PyProof.StrBlockH
import PyProof.MeetsStr2
import KE.KIntText
import PyProof.Rows.FStr
import PySem.Challenge.RW_thinnet_k41_breaking_papers
open PySem.W (Frag nsIn keepIn fnOf codeIn mg_of mg_none_of)
set_option Elab.async false
set_option linter.all false
set_option maxRecDepth 100000
open Array renaming getElem?_eq_getElem->jj,length_toList->j9,getElem?_eq_none->l_,getElem?_toList->mJ,forIn_toList->mo,getElem?_eq_some_iff->oS,getElem_mem->oY,mem_toList_iff->pZ
open Array.Perm renaming refl->pG
open Bool renaming and_eq_true->iq,false_eq_true->jD,false_ne_true->jF,eq_false_iff->jR,eq_iff_iff->je,true_and->nF,not_true->oU,not_eq_true'->oX,not_false->pY
open Classical renaming propDecidable->lF,byContradiction->lW
open False renaming elim->kg
open ForInStep renaming yield->k9
open Int renaming le_refl->mB,mul_le_mul_of_nonneg_left->mC,toNat_natCast->mE,zero_add->mr,emod_lt_of_pos->oI,emod_nonneg->pF
open List renaming length_map->FM,getElem?_eq_getElem->No,mem_cons_self->Op,mem_singleton->Re,mem_map->Sc,mem_cons_of_mem->TW,replicate->Tk,mem_cons->UF,getElem?_eq_some_iff->Uf,length_append->eq,mem_append_right->f8,not_mem_nil->ip,getElem?_map->ir,length_cons->iu,size_toArray->iy,mem_append->i9,nodup_cons->jA,nil_append->jB,Nodup->jC,append_nil->jE,length_singleton->jI,range->jL,mem_append_left->jM,getD_eq_getElem?_getD->jN,toArray->jO,map_append->jP,append_assoc->jS,nodup_nil->jT,nodup_append->jW,mem_of_getElem?->jZ,map_cons->jc,map_map->jf,all_eq_true->jh,mem_filter->jm,mem_range->jn,getElem?_append_right->ju,getElem_mem->jv,pairwise_cons->j6,mem_iff_getElem?->kA,length_filter_le->kB,pairwise_map->kE,filter_congr->kF,getElem?_append_left->kL,drop_eq_getElem_cons->kM,take_of_length_le->kW,any_eq_true->kZ,cons_ne_nil->kc,length_eq_zero_iff->kj,length_nil->ko,zipWith->kq,mem_flatMap->k6,lt_irrefl->k8,length_set->k_,filter_map->lA,lt_trans->lE,map_congr_left->lG,map_id->lM,lookup_cons->lg,drop_length->lh,of_mem_zip->lr,forIn_cons->lu,length->l7,length_range->mG,length_take->mM,mem_iff_getElem->mR,perm_ext_iff_of_nodup->mU,length_zipWith->mV,mem_of_find?_eq_some->mY,extract_eq_take_drop->mZ,getElem?_replicate->m6,getElem?_cons_succ->m7,pairwise_singleton->m8,reverse_cons->m9,all_cons->nE,getElem?_zipWith->nH,singleton_append->nI,getElem?_set_ne->nJ,pairwise_append->nZ,length_zip->nh,zip_append->ni,toList_toArray->n8,length_reverse->n9,zip_cons_cons->oG,filter_filter->oK,take_sublist->oV,cons_eq_cons->oZ,pairwise_iff_getElem->oj,getElem?_zip_eq_some->om,getElem_inj->oq,getElem?_take_of_lt->ot,take_length->o6,le_antisymm->o7,ext_getElem->o8,getElem_map->o9,length_erase_of_mem->pB,find?_some->pH,getElem?_set_self->pJ,range_succ_eq_map->pL,length_pos_of_mem->pO,length_replicate->pQ,drop_zero->pR,getElem?_eq_none->pU
open List.Pairwise renaming nil->pi,imp->pj
open Nat renaming le_refl->Rs,le_trans->iz,zero_le->i6,ne_of_lt->i_,lt_of_lt_of_le->jU,lt_irrefl->jr,lt_succ_of_lt->jx,le_succ->kJ,sub_le_sub_right->lB,lt_succ_self->lI,lt_of_le_of_lt->lN,le_sub_of_add_le->lX,succ_le_succ->lf,ne_of_gt->mH,le_of_ble_eq_true->mL,not_lt->mO,min_le_right->mP,le_of_lt->md,lt_trichotomy->nA,lt_trans->nQ,sub_self->nc,mod_lt->nj,ble->oC,le_of_eq->oy,succ_ne_self->oz,succ_pos->pA,zero_add->pC,div_div_eq_div_mul->pP,mul_le_mul->pW
open Ne renaming symm->jy
open Option renaming map_eq_some_iff->jY,isSome_map->oW
open Option.some renaming inj->iw
open Or renaming inl->TM,inr->kG
open PyProof.Rows renaming slot_tuple_getitem->jw,callWith_type1->j_,boot_all->kC,boot_tuple->kP,boot_sorted->ku,listUpdate_at->lV,get?_update_seq->lw,AllBare->my,callWith_builtin1->nO,listItems_at->nY,seqEpoch_at->oF,boot_min->pD,lt_int->pK
open PyProof.Rows.F renaming plain_set_update_loop->lR,entry_set_update_loop->mw
open PyProof.Rows.KeyOrd renaming kle_refl->kX,kle_of_klt->m_,kle_trans->nG,kle_antisymm->pe
open PySem renaming Addr->Ch,wpAny_bind->Db,Value->Ev,Shared->On,wpAny_pure->T0,Heap->i8,Stmt->jH,Expr->jJ,Program->jK,World->jQ,SetTable->jV,sizeLine_eq->jX,wpAny_holding->jb,Around->jd,wpAny_mono->jo,codeAny_builtin->jq,FuncData->jt,wpAny_pyIter_tuple->jz,wpAny_loadPart'->j8,wpAny_seqItems->kH,wpAny_pyIter_list->kO,wpAny_field->kQ,wpAny_Call_Name_kw->kU,IsPair->kY,plainId_quiet->kd,wpAny_callSpecial?_slot->ki,IsTupleKey->kz,Keyword->k7,wpAny_truthy_bool->lC,wpAny_newObj_type->lD,NameKind->lH,Scope->lJ,tupleKind_room_in1->lO,wpAny_setField_rec->lP,wpAny_passesOwn->lS,wpAny_call_entry->lc,wpAny_getItem_str_slice->lj,Builtin->ll,PyData->lv,wpAny_letGo->l8,IsZip->mF,wpAny_typeOf->mI,codeAny_call_builtin->mQ,wpAny_specialOf->mX,codeAny_mono->mh,typeIs_str->mz,wpAny_setState_of->nB,wpAny_execs_nil->nL,wpAny_call->nN,IsPart->nP,call_meetsIn->nR,post_val_or_str->nS,wpAny_updateSeq_pair->nW,wpAny_updateSeq->ng,BindsTo->n_,wpAny_tryCatch->oB,wpAny_standAt->oN,wpAny_onRaise->oP,wpAny_newList->oR,wpAny_rule->oi,noFill_tuple_add->ou,wpAny_forIn_list->o0,PassesOwn->pE,codeAny_of_tree->pI,wpAny_of_eq->pM
open PySem.Around renaming under_plainId->kI
open PySem.Builtin.Builtins renaming bindParams->oJ
open PySem.Builtin.List renaming listExtendWith->lQ,listTooLong->mj,listSameRef->o_
open PySem.Builtin.Slice renaming slicePlaces->mW,sliceAdjust->oh
open PySem.Builtin.SmallTypes renaming nextOf->kN,ownedTupleIsFree->kh,ownedTupleHandOut->mn
open PySem.Builtin.Tuple renaming tupleExact->mi,tupleItemsOf->oO,tupleIsExact->oQ
open PySem.Calls renaming spliced_cons->kT,spliced_nil->km,callWith_builtin->lL,evalArgs_plain->mN,Name_function_global->oM
open PySem.Expr renaming Call->mq
open PySem.F renaming slot_tuple_iterator_next->lU,called_set->li,slot_zip_next->nX,args_tuple_iterator_next_1->oA,entry_tuple_iterator_next->oH,called_tuple->pV
open PySem.Heap renaming get?_push_of_some->Go,get?_push_size->XV,lt_size->ZB,get?_update_other->jG,size_push->j7,get?_update_self->lT,SameBut->me,IsTuple->o5,IsList->pN
open PySem.Heap.SameBut renaming update->n6
open PySem.NameKind renaming free->jk,cell->nC
open PySem.Obj renaming mapSeq->jp,putSet->oo
open PySem.PassesOwn renaming never->i7
open PySem.PyData renaming eqv->ji,depthAll->kR,canLayAll0->kn,eqvAll->mT,leavesShortAll->pS
open PySem.SeqAt.EqAt renaming int_str->pf,str_int->ph
open PySem.SetTable renaming advance->mS,fresh->oE,fill->pd
open PySem.SetTable.probe renaming go->oa
open PySem.Shared renaming heap->l9
open PySem.Str renaming ofString->lZ
open PySem.Value renaming ref->ja,none->jg,str->lY,type->lq,bool->og
open Std.Legacy.Range renaming size->pX
open Sum renaming inr->ke,inl->mx
open Sum.inr renaming inj->kr
open True renaming intro->lK
open PySem PySem.Spec PyProof.Rows
local macro_rules | `(tactic| walk_at "s")=>`(tactic| (constructor <;> first | rfl | decide +kernel))
namespace _p

local macro_rules|`(tactic|let#[$x,*]:=$e)=>open Lean Parser Tactic in do
 let q k a:=mkNode ``rcasesPatLo #[mkNode ``rcasesPatMed #[mkNullNode #[mkNode k a]],mkNullNode]
 let p:Syntax:=(← `(term|⟨$x,*⟩)).raw.rewriteBottomUp fun s=>if s.isIdent then q ``rcasesPat.one #[s] else if s.getKind= ``Term.hole then q ``rcasesPat.ignore s.getArgs else if s.getKind= ``Term.anonymousCtor||s.getKind= `«term#[_,]» then q ``rcasesPat.tuple s.getArgs else s
 let m:TSyntax ``rcasesPatMed:=⟨p[0]⟩
 `(tactic|obtain $m:rcasesPatMed:=$e)
local macro_rules|`(tactic|exists $x,*)=>`(tactic|refine⟨$x,*, ?_⟩)
local macro_rules|`(tactic|lk)=>`(tactic|first|lia|omega)
local macro_rules|`(tactic|cbv)=>`(tactic|decide)
local macro_rules|`($f^$x)=>if f.raw.getTrailingSize>0 then Lean.Macro.throwUnsupported else match f with|`($g $a*)=>`($g $a* $x)|_=>`($f $x)
local macro_rules|`(#[%$t $y,*])=>if t.getTrailingSize>0||y.getElems.size=0 then Lean.Macro.throwUnsupported else `(⟨$y,*⟩)
open Option renaming some->P3,none->s_
open Bool renaming true->t_,false->u_
abbrev v_(a:Type u):=List a
abbrev w_(a:Type u):=Option a
namespace L2
abbrev Key:=Sum Int Str
def Nv:Key->Ev->Bool
 |.inl k,v=>Value.isInt k v
 |.inr x,v=>Value.isStrOf x v
def gj(w:jQ):Key->Int
 |.inl k=>hashInt k
 |.inr x=>hashStr w x
theorem BZ:∀{k:Key}{v:Ev},Nv k v=t_->(∃i t,k=mx i/\v=Value.int i t)\/(∃x t,k=ke x/\v=lY x t)
 |.inl i,v,h=>by
  let#[t,e]:=Value.isInt_shape h;exact .inl #[i,t,rfl,e]
 |.inr x,v,h=>by
  let#[t,e]:=Value.isStrOf_shape h;exact .inr #[x,t,rfl,e]
def Vs(i:Int)(t:Tok):Nv (.inl i)^.int i t=t_:=by simp[Nv,Value.isInt]
def Vr(x:Str)(t:Tok):Nv (.inr x)^.str x t=t_:=by simp[Nv,Value.isStrOf]
def cK(a b:Int):decide ((mx a:Key)=mx b)=(a==b):=by
 grind
def cH(a b:Str):decide ((ke a:Key)=ke b)=decide (a=b):=by
 grind
def cJ(a:Int)(b:Str):decide ((mx a:Key)=ke b)=u_:=decide_eq_false λq=>nomatch q
def cI(a:Str)(b:Int):decide ((ke a:Key)=mx b)=u_:=decide_eq_false λq=>nomatch q
def BM(c:jK)(w:jQ):PySem.KeyKind c w Key where
 is:=Nv
 hash:=gj w
 inj:=λv a b l g=>by
  rcases BZ l with⟨i,t,rfl,rfl⟩|⟨x,t,rfl,rfl⟩
  .rcases BZ g with⟨j,u,rfl,e⟩|⟨y,u,rfl,e⟩
   .injection e with d _; rw[d]
   .exact nomatch e
  .rcases BZ g with⟨j,u,rfl,e⟩|⟨y,u,rfl,e⟩
   .exact nomatch e
   .injection e with d _; rw[d]
 byValue:=λk v h=>by
  rcases BZ h with⟨i,t,rfl,rfl⟩|⟨x,t,rfl,rfl⟩ <;>rfl
 pyHash:=λf h=>by
  rcases BZ f with⟨i,t,rfl,rfl⟩|⟨x,t,rfl,rfl⟩
  .exact wpAny_pyHash_int h
  .exact wpAny_pyHash_str h
 eqBool:=λm f h=>by
  rcases BZ m with⟨i,t,rfl,rfl⟩|⟨x,t,rfl,rfl⟩
  .rcases BZ f with⟨j,u,rfl,rfl⟩|⟨y,u,rfl,rfl⟩
   .rw[cK]at h; exact wpAny_eqBool_int h
   .rw[cJ]at h; exact pf i t y u _ _ _ _ h
  .rcases BZ f with⟨j,u,rfl,rfl⟩|⟨y,u,rfl,rfl⟩
   .rw[cI]at h; exact ph x t j u _ _ _ _ h
   .rw[cH]at h; exact wpAny_eqBool_str h
 «strs»:=λk x t v h=>by
  rcases BZ h with⟨i,u,rfl,e⟩|⟨y,u,rfl,e⟩
  .exact nomatch e
  .injection e with d _
   subst d
   cases v <;>rfl
def Q0(a:jK)(w:jQ)(i:Int)(t:Tok):(BM a w).is (.inl i)^.int i t=t_:=Vs i t
def Qz(a:jK)(w:jQ)(x:Str)(t:Tok):(BM a w).is (.inr x)^.str x t=t_:=Vr x t
inductive V where
 |non|bl (b:Bool)|int (i:Int)|str (x:Str)|byt (b:Array UInt8)|flt (b:UInt64)|ref (a:Ch)|ty (n:String)
 deriving DecidableEq
def RelV:V->Ev->Prop
 |.non,u=>u=jg
 |.bl b,u=>u=og b
 |.int i,u=>∃t,u=Value.int i t
 |.str x,u=>∃t,u=lY x t
 |.byt b,u=>∃t,u=Value.bytes b t
 |.flt b,u=>∃t,u=Value.float b t
 |.ref a,u=>u=ja a
 |.ty n,u=>u=lq n
abbrev Vals:v_ V->v_ Ev->Prop:=Paired RelV
def Vals.length{a:v_ V}{b:v_ Ev}(r:Vals a b):a.length=b.length:=Paired.length r
theorem Vals.get:∀{a:v_ V}{b:v_ Ev}{i:Nat}{x:V},Vals a b->a[i]?=P3 x->∃u,b[i]?=P3 u/\RelV x u
 |_,_,_,_,.nil,e=>by simp at e
 |_,_,0,_,.cons r _,e=>by simp_all
 |_,_,i+1,x,.cons _ t,e=>by
  let#[u,c,d]:=Vals.get t^by simpa using e
  simp_all
theorem Vals.set{x:V}{u:Ev}(r:RelV x u):∀{a:v_ V}{b:v_ Ev} (i:Nat),Vals a b->Vals (a.set i x)^b.set i u
 |_,_,_,.nil=>.nil
 |_,_,0,.cons _ t=>.cons r t
 |_,_,i+1,.cons q t=>.cons q^Vals.set r i t
theorem Vals.append:∀{a b:v_ V}{c d:v_ Ev},Vals a c->Vals b d->Vals (a++b) (c++d)
 |_,_,_,_,.nil,s=>s
 |_,_,_,_,.cons r t,s=>.cons r^Vals.append t s
theorem Vals.take:∀{a:v_ V}{b:v_ Ev} (n:Nat),Vals a b->Vals (a.take n)^b.take n
 |_,_,0,_=>.nil
 |_,_,_+1,.nil=>.nil
 |_,_,n+1,.cons r t=>.cons r^Vals.take n t
theorem Vals.drop:∀{a:v_ V}{b:v_ Ev} (n:Nat),Vals a b->Vals (a.drop n)^b.drop n
 |_,_,0,r=>r
 |_,_,_+1,.nil=>.nil
 |_,_,n+1,.cons _ t=>Vals.drop n t
def RelO:w_ V->w_ Ev->Prop
 |some v,P3 u=>RelV v u
 |none,s_=>True
 |_,_=>False
def KV{a:Type}:v_ (a×V)->v_ (a×Ev)->Prop:=Paired fun(p:a×V) (q:a×Ev)=>p.1=q.1/\RelV p.2 q.2
def kV:Key->V
 |.inl i=>.int i
 |.inr x=>.str x
inductive HO where
 |lst (xs:List V)
 |tup (xs:List V)
 |dK (kvs:List (Key×V))|dT (kvs:List (List Key×V))
 |set (S:Int->Bool) (n:Nat)
 |ins (C dx:Ch) (fs:List (Str×V))
 |own (x:Ch)
 |xd (fs:List (Str×V))
 |met (f x:Ch)
 |rng (lo hi:Int)
 |frz (o:Obj) (u:HO)
 |tbl (ps:Array Ev)
 |ext (φ:i8->Prop)
abbrev Hp:=Ch->w_ HO
def BQ(H:Hp)(a:Ch)(o:HO):Hp:=λb=>if b=a then P3 o else H b
def An{H:Hp}{a:Ch}{o:HO}:BQ H a o a=P3 o:=by unfold BQ; grind
def Ah{H:Hp}{a b:Ch}{o:HO}(h:b≠a):BQ H a o b=H b:=by unfold BQ; rw[if_neg h]
def eg{H:Hp}{a b:Ch}{o u:HO}(h:H a=P3 o)(c:H b=P3 u)(d:o≠u):a≠b:=by
 grind
def BB{H:Hp}{a b:Ch}{o:HO}(h:H a=P3 o)(c:H b=s_):a≠b:=by
 grind
def IsTupN(h:i8)(a:Ch)(b:Array Ev):Prop:=∃o,h.get? a=P3 o/\o.cls=.type "tuple"/\∃n,o.data=.seq b n/\o.dict=s_/\o.slots=#[]
def IsTupN.tup{h:i8}{a:Ch}{b:Array Ev}(x:IsTupN h a b):IsTup h a b:=let #[o,c,d,n,e,_]:=x; #[o,c,d,n,e]
def IsTupN.new(h:i8)(a:Array Ev):IsTupN (h.push {cls:=.type "tuple",data:=.seq a}) h.objs.size a:=#[_,XV _ rfl,rfl,_,rfl,rfl,rfl]
section
variable (P:Program)(w:World)
def ObjOk(H:Hp)(h:i8)(a:Ch):HO->Prop
 |.lst d=>d.length<=sizeLine/\∃(b:v_ Ev) (n:Nat),Vals d b/\h.get? a=P3 {cls:=.type "list",data:=.seq b.toArray n}
 |.tup d=>d.length<=sizeLine/\∃b:v_ Ev,Vals d b/\IsTupN h a b.toArray
 |.dK c=>c.length<=sizeLine/\(a==sysModules)=u_/\∃k,KV c k/\h.DictOf (BM P w) a k
 | .dT c=>c.length<=sizeLine/\(a==sysModules)=u_/\∃d:v_ (v_ Key×Ch×Ev),
   Paired (fun(p:v_ Key×V) (q:v_ Key×Ch×Ev)=>p.1=q.1/\H q.2.1=P3^.tup^p.1.map kV/\RelV p.2 q.2.2) c d /\
   ∃o l y,h.get? a=P3 o/\o.ExactDict/\o.data=.dict l y/\l.toList=d.map^entryOfKey^tupleKind^BM P w/\(d.map (·.1)).Nodup
 |.set S n=>h.SetOf (intKind P w) a S n
 | .ins C i g=>H i=P3^.own a/\g.length<=1000/\i≠a/\h.get? a=P3^PySem.W.instObj C i /\
   ∃e,h.Ns1 i e/\(∀f,RelO (g.lookup f)^e f)/\PySem.Within e (g.map (·.1))
 |.own _=>∃o,h.get? a=P3 o
 |.xd g=>∃e,h.Ns1 a e/\∀f,RelO (g.lookup f)^e f
 |.rng z A=>∃t u v,h.get? a=P3 {cls:=.type "range",data:=.fields #[ .int z t,.int A u,.int 1 v]}
 |.frz o u=>h.get? a=P3 o/\ObjOk H h a u
 |.tbl B=>h.get? a=P3 {cls:=.none,data:=.fields B}
 |.met f x=>h.get? a=P3^PySem.W.methodObj (.ref f)^.ref x
 |.ext j=>j h/\(∃o,h.get? a=P3 o)/\∀m r:i8,j m->(∀o,m.get? a=P3 o->r.get? a=P3 o)->j r
def HOk(H:Hp)(h:i8):Prop:=∀a o,H a=P3 o->ObjOk P w H h a o
end
section
variable {P:Program}{w:World}{H H':Hp}{h h':Heap}{a:Addr}{o:HO}
def ObjOk.lt(x:ObjOk P w H h a o):a<h.objs.size:=by
 cases o with
 |lst c=>let#[_,_,_,_,e]:=x; exact ZB e
 |tup c=>let#[_,_,_,p]:=x; exact p.tup.lt
 |dK b=>let#[_,_,_,_,o,_,_,e,_]:=x; exact ZB e
 |dT b=>let#[_,_,_,_,o,_,_,e,_]:=x; exact ZB e
 |set S n=>let#[o,_,_,_,e,_]:=x; exact ZB e
 |ins C g d=>let#[_,_,_,e,_]:=x; exact ZB e
 |own y=>let#[_,e]:=x; exact ZB e
 |xd d=>let#[_,#[_,_,_,e,_],_]:=x; exact ZB e
 |rng i j=>let#[_,_,_,e]:=x; exact ZB e
 |frz k u=>let#[e,_]:=x; exact ZB e
 |tbl l=>exact ZB (show h.get? a=P3 _ from x)
 |met f y=>exact ZB (show h.get? a=P3 _ from x)
 |ext m=>let#[_,#[_,e],_]:=x; exact ZB e
theorem Paired.mapP{e g:Type}{F G:e->g->Prop}:∀{c:v_ e}{d:v_ g},Paired F c d->(∀a b,F a b->G a b)->Paired G c d
 |_,_,.nil,_=>.nil
 |_,_,.cons r t,f=>.cons (f _ _ r)^Paired.mapP t f
def ObjOk.stay(x:ObjOk P w H h a o)(k:∀b u,(b=a\/H b=P3^.own a)->h.get? b=P3 u->h'.get? b=P3 u)
  (F:∀b,H b=P3^.own a->H' b=P3^.own a) (G:∀b m,H b=P3^.tup m->H' b=P3^.tup m):ObjOk P w H' h' a o:=by
 induction o with
 |lst m=>let#[z,l,n,r,e]:=x; exact#[z,l,n,r,k _ _ (.inl rfl) e]
 |tup m=>let#[z,l,r,g,e,c]:=x; exact#[z,l,r,g,k _ _ (.inl rfl) e,c]
 |dK s=>let#[z,y,I,r,g,i,j,e,c]:=x; exact#[z,y,I,r,g,i,j,k _ _ (.inl rfl) e,c]
 |dT s=>
  let#[z,y,m,r,g,i,j,e,c]:=x;exact#[z,y,m,Paired.mapP r λp q z=>#[z.1,G _ _ z.2.1,z.2.2],g,i,j,k _ _ (.inl rfl) e,c]
 |set S n=>let#[g,i,j,t,e,c]:=x; exact#[g,i,j,t,k _ _ (.inl rfl) e,c]
 |ins C N J=>
  let#[d,z,K,e,A,#[B,i,j,L,c],r]:=x;exact#[F _ d,z,K,k _ _ (.inl rfl) e,A,#[B,i,j,k _ _ (.inr d) L,c],r]
 |own y=>let#[g,e]:=x; exact#[g,k _ _ (.inl rfl) e]
 |xd J=>let#[A,#[B,i,j,e,c],r]:=x; exact#[A,#[B,i,j,k _ _ (.inl rfl) e,c],r]
 |rng O Q=>let#[t,u,v,e]:=x; exact#[t,u,v,k _ _ (.inl rfl) e]
 |frz g u M=>let#[e,q]:=x; exact#[k _ _ (.inl rfl) e,M q]
 |tbl D=>
  have e:h.get? a=P3 {cls:=.none,data:=.fields D}:=x;show h'.get? a=P3 {cls:=.none,data:=.fields D};exact k a _ (.inl rfl) e
 |met f y=>
  have e:h.get? a=P3^PySem.W.methodObj (.ref f)^.ref y:=x;show h'.get? a=P3^PySem.W.methodObj (.ref f)^.ref y;exact k a _ (.inl rfl) e
 |ext R=>let#[p,#[o,e],E]:=x; exact#[E _ _ p λo q=>k _ _ (.inl rfl) q,#[o,k _ _ (.inl rfl) e],E]
def HOk.lt(x:HOk P w H h)(e:H a=P3 o):a<h.objs.size:=(x a o e).lt
def HOk.fresh(x:HOk P w H h)(e:h.objs.size<=a):H a=s_:=by
 cases q:H a with
 |none=>rfl
 |some u=>exact absurd (jU (x.lt q) e)^jr _
def HOk.kept(x:HOk P w H h)(k:∀b u,h.get? b=P3 u->h'.get? b=P3 u):HOk P w H h':=λa o e=>
 (x a o e).stay (λb u _ q=>k b u q) (λ_ q=>q) λ_ _ q=>q
def HOk.laid(x:HOk P w H h)(k:∀b u,h.get? b=P3 u->h'.get? b=P3 u)(g:h.objs.size<=a)(new:ObjOk P w (BQ H a o) h' a o):HOk P w (BQ H a o) h':=λb u e=>by
 have d:=x.fresh g
 by_cases f:b=a
 .subst f; rw[An]at e; grind
 .rw[Ah f]at e
  exact(x b u e).stay (λc v _ q=>k c v q) (λc q=>by rw[Ah^BB q d]; exact q) λc i q=>by rw[Ah^BB q d]; exact q
end
def Rd(H:Hp)(a:Ch)(u:HO):Prop:=H a=P3 u\/∃o,H a=P3^.frz o u
def Rd.ok{P:jK}{w:jQ}{H:Hp}{h:i8}{a:Ch}{u:HO}(r:Rd H a u)(x:HOk P w H h):ObjOk P w H h a u:=by
 rcases r with r|⟨o,r⟩
 .exact x a u r
 .let#[_,q]:=x a _ r
  exact q
def ft:w_ HO->Prop
 |some (.lst _)=>True
 |some (.dK _)=>True
 |some (.dT _)=>True
 |some (.set _ _)=>True
 |some (.ins _ _ _)=>True
 |some (.ext _)=>True
 |_=>False
section
variable {P:Program}{w:World}{H:Hp}{h h':Heap}{x e:Addr}{o':HO}
def HOk.write(ok:HOk P w H h)(f:ft^H x)(o:e=x\/H e=P3^.own x)(k:∀b u,b≠e->h.get? b=P3 u->h'.get? b=P3 u)(i:∃u,h'.get? e=P3 u)
  (new:ObjOk P w (BQ H x o') h' x o'):HOk P w (BQ H x o') h':=λb u q=>by
 have a:∀c y,H c=P3^.own y->c≠x:=λc y r z=>by subst z; rw[r]at f; exact f
 have d:∀c g,H c=P3^.tup g->c≠x:=λc g r z=>by subst z; rw[r]at f; exact f
 by_cases l:b=x
 .subst l; rw[An]at q; cases q; exact new
 .rw[Ah l]at q
  by_cases j:b=e
  .have m:H b=P3^.own x:=by
    grind
   rw[q]at m; cases m
   let#[v,n]:=i;exact#[v,by rw[j]; exact n]
  .refine(ok b u q).stay (λc v p r=>k c v ?_ r) (λc r=>by rw[Ah^a c b r]; exact r) λc g r=>by rw[Ah^d c g r]; exact r
   grind
end
structure Un (fs ex:List Ch) (H H':Hp) (h h':i8):Prop where
 keep:∀b o,h.get? b=P3 o->H b=s_->b∉fs->b∉ex->h'.get? b=P3 o
 slot:∀b o,h.get? b=P3 o->H b=s_->b∈fs->b∉ex->∃sl,h'.get? b=P3 {o with slots:=sl}
 free:∀b o,h.get? b=P3 o->H b=s_->b∉ex->H' b=s_
 there:∀b o,h.get? b=P3 o->b∉ex->∃o',h'.get? b=P3 o'
 tups:∀b xs,H b=P3^.tup xs->H' b=P3 (.tup xs)
 frzs:∀b o u,H b=P3^.frz o u->H' b=P3 (.frz o u)
 tbls:∀b ps,H b=P3^.tbl ps->∃more,H' b=P3^.tbl (ps++more)
section
variable {fs ex:v_ Addr}{H H1:Hp}{h h1 h':Heap}{a x e:Addr}{o:HO}
def Un.any(u:Un fs ex H H1 h h1){b:Ch}{c:Obj}(q:h.get? b=P3 c)(n:H b=s_)(d:b∉ex):∃f,h1.get? b=P3 {c with slots:=f}:=by
 by_cases e:b∈fs
 .exact u.slot b c q n e d
 .exact#[_,u.keep b c q n e d]
def Un.kept(k:∀b u,h.get? b=P3 u->h'.get? b=P3 u):Un fs ex H H h h':=
 #[λb c q _ _ _=>k b c q,λb c q _ _ _=>#[_,k b c q],λ_ _ _ n _=>n,λb c q _=>#[c,k b c q],λ_ _ q=>q,λ_ _ _ q=>q,λ_ d q=>#[#[],by rw[q]; simp]]
def Un.refl:Un fs ex H H h h:=Un.kept λ_ _ q=>q
def Un.laid(k:∀b u,h.get? b=P3 u->h'.get? b=P3 u)(d:h.objs.size<=a)(c:H a=s_):Un fs ex H (BQ H a o) h h' where
 keep:=λb u q _ _ _=>k b u q
 slot:=λb u q _ _ _=>#[_,k b u q]
 free:=λb u q n _=>by rw[Ah^i_^jU (ZB q) d]; exact n
 there:=λb u q _=>#[u,k b u q]
 tups:=λb e q=>by rw[Ah^BB q c]; exact q
 frzs:=λb u e q=>by rw[Ah^BB q c]; exact q
 tbls:=λb f q=>#[#[],by rw[Ah^BB q c,q]; simp]
def Un.write(f:ft^H x)(m:e=x\/H e=P3^.own x)(k:∀b u,b≠e->h.get? b=P3 u->h'.get? b=P3 u)(i:∃u,h'.get? e=P3 u):Un fs ex H (BQ H x o) h h':=by
 have j:∀b,H b=s_->b≠x:=λb n z=>by subst z; rw[n]at f; exact f
 have g:∀b,H b=s_->b≠e:=λb n z=>by
  grind
 have c:∀b u,H b=P3 u->¬ft^P3 u->b≠x:=λb u q p z=>by grind
 refine#[λb u q n _ _=>k b u (g b n) q,λb u q n _ _=>#[u.slots,k b u (g b n) q],λb u q n _=>by rw[Ah^j b n]; exact n,λb u q _=>?_,
  λb l q=>by rw[Ah^c b _ q λz=>z]; exact q,λb u l q=>by rw[Ah^c b _ q λz=>z]; exact q,λb r q=>#[#[],by rw[Ah^c b _ q λz=>z,q]; simp]]
 by_cases d:b=e
 .simp_all
 .exact#[u,k b u d q]
end
def iS(h:i8)(H:Hp):v_ Ch:=(jL h.objs.size).filter λa=>(H a).isSome
def PB(h:i8)(H:Hp):i8:=PySem.W.hideAll h^iS h H
def Vw(h:i8)(H:Hp):(PB h H).objs.size=h.objs.size:=PySem.W.hideAll_size _ _
def X8{h:i8}{H:Hp}{b:Ch}{o:Obj}(e:h.get? b=P3 o)(n:H b=s_):(PB h H).get? b=P3 o:=
 PySem.W.hideAll_get _ e λa=>by
  have q:=(jm.mp a).2
  grind
def ZZ{h:i8}{H:Hp}{b:Ch}{o:Obj}(e:(PB h H).get? b=P3 o):h.get? b=P3 o/\H b=s_:=by
 have a:=PySem.W.of_hideAll _ e;exists a;cases q:H b with
 |none=>rfl
 |some x=>
  have z:(PB h H).get? b=s_:=PySem.W.hideAll_none _^jm.mpr #[jn.mpr^ZB a,by simp[q]]
  grind
structure Mod (K:Frag) (mg:Str->Option Ev) (base:i8):Prop where
 kin:K.In base
 glob:base.Ns mainGlobals mg
 blt:∃mb,base.Ns builtinsNs mb/\∀x:Str,x ≠ "__name__"->mb x=bootBuiltins x
 nolimit:base.NoLimit
/-- the context:a def's body (or a comprehension's block) running. base:fixed through the whole law; s₀,H₀:the entry; outer:the frames whose slots others may change (a def's callers); stack:all frames that run;
   ex:iterators that were made ahead of the entry and are walked here^a comprehension's; fn:the names whose cells were made at the entry (a def:all; a comprehension's block:its own); calm:not within an except suite; pn:zH that every state bears; xe:what is wanted of an exception that leaves the code -/
structure Cx where
 prog:jK
 w:jQ
 K:Frag
 mg:Str->Option Ev
 base:i8
 A:jd
 N:List Str
 s₀:On
 H₀:Hp
 env:Env
 outer:List Env
 stack:List Env
 ex:List Ch
 fn:Str->Bool
 calm:Bool
 pn:List (Ch×Obj)
 xe:Ev->On->Prop
def Ue(l:v_ Env):v_ Ch:=l.filterMap (·.frame)
abbrev Cx.fs(X:Cx):v_ Ch:=Ue X.outer
def dB(a:lJ)(x:Str):Prop:=a.names.lookup x=P3 .local\/a.names.lookup x=P3 .cell\/a.names.lookup x=P3 .free
def Loc(a:lJ)(x:Str):Prop:=a.names.lookup x=P3 .local\/a.names.lookup x=P3 .cell
def Look(a:Env)(h:i8)(m:Str->w_ Ev)(x:Str)(u:Ev):Prop:=
 (a.kindOf x=P3 .local/\m x=P3 u)\/((a.kindOf x=P3 .cell\/a.kindOf x=P3 .free)/\∃c,a.cells.lookup x=P3 c/\h.IsCell c^P3 u)
structure Cx.Ok (X:Cx):Prop where
 mod:Mod X.K X.mg X.base
 kind:X.env.scope.kind=.function
 glob:X.env.globals=mainGlobals
 blt:X.env.builtins=builtinsNs
 above:X.s₀.heap.objs.size<=X.env.locals
 inj:∀x y c,X.env.cells.lookup x=P3 c->X.env.cells.lookup y=P3 c->x=y
 has:∀x,(X.env.kindOf x=P3 .cell\/X.env.kindOf x=P3 .free)->∃c,X.env.cells.lookup x=P3 c
 cab:∀x c,X.fn x=t_->X.env.cells.lookup x=P3 c->X.s₀.heap.objs.size<=c
 hd:X.calm=t_->X.A.handled=s_
 frames:X.A.frames=P3 X.stack
 stk:X.stack=X.outer\/(X.stack=X.env::X.outer/\X.env.frame=P3 X.env.locals)
 exf:∀b∈X.ex,b≠X.env.locals/\∀x c,X.env.cells.lookup x=P3 c->c≠b
 bs:∀b o,X.base.get? b=P3 o->X.s₀.heap.get? b=P3 o/\X.H₀ b=s_
 bsz:X.base.objs.size<=X.s₀.heap.objs.size
 noex:∀b o,X.base.get? b=P3 o->b∉X.ex
 exfs:∀b∈X.ex,b∉X.fs
 funs:X.s₀.heap.FunFrames X.base X.outer
 frf:∀b∈X.fs,X.H₀ b=s_
structure Inv (X:Cx) (zH:List (Ch×Obj)) (Z:List^Option V) (H:Hp) (s:On):Prop where
 ok:X.Ok
 os:s.os=X.s₀.os
 bare:my s.gens
 base:Un X.fs X.ex X.H₀ H X.s₀.heap s.heap
 loc:∃m,s.heap.Ns X.env.locals m/\∀(i:Nat) (x:Str) (v:V),X.N[i]?=P3 x->Z[i]?=P3^P3 v->dB X.env.scope x->∃u,RelV v u/\Look X.env s.heap m x u
 cell:∀x c,X.env.cells.lookup x=P3 c->∃v,s.heap.IsCell c v
 free:H X.env.locals=s_
 freeC:∀x c,X.env.cells.lookup x=P3 c->H c=s_
 pin:∀p∈X.pn++zH,s.heap.get? p.1=P3 p.2/\H p.1=s_/\p.1≠X.env.locals/\p.1∉X.fs/\∀v,p.2.data≠.cell v
 hok:HOk X.prog X.w H s.heap
 len:Z.length=X.N.length
section
variable {X:Cx}{zH:v_ (Addr×Obj)}{Z:v_^w_ V}{H H':Hp}{s:Shared}{h':Heap}
def Cx.Ok.nofr(ok:X.Ok){b:Ch}{o:Obj}(e:X.base.get? b=P3 o):b∉X.fs:=λa=>by
 have:=(ok.funs.mem a).1
 grind
def Inv.bs(I:Inv X zH Z H s):∀b o,X.base.get? b=P3 o->s.heap.get? b=P3 o/\H b=s_:=λb o e=>
 #[I.base.keep b o (I.ok.bs b o e).1 (I.ok.bs b o e).2 (I.ok.nofr e)^I.ok.noex b o e,I.base.free b o (I.ok.bs b o e).1 (I.ok.bs b o e).2 (I.ok.noex b o e)]
def Inv.bk(I:Inv X zH Z H s):∀b o,X.base.get? b=P3 o->s.heap.get? b=P3 o:=λb o e=>(I.bs b o e).1
def Inv.mod(I:Inv X zH Z H s):Mod X.K X.mg X.base:=I.ok.mod
def Inv.kIn(I:Inv X zH Z H s):X.K.In s.heap:=I.ok.mod.kin.keeps I.bk
def Inv.lt(I:Inv X zH Z H s):X.env.locals<s.heap.objs.size:=let #[_,a,_]:=I.loc; a.lt
def Inv.sz(I:Inv X zH Z H s):X.s₀.heap.objs.size<=s.heap.objs.size:=iz I.ok.above^md I.lt
def Inv.nofs(I:Inv X zH Z H s){a:Ch}(h:s.heap.objs.size<=a):a∉X.fs:=λb=>by
 let#[_,o,c,_]:=I.ok.funs.mem b;exact absurd (jU (ZB c)^iz I.sz h)^jr _
def Inv.cne(I:Inv X zH Z H s):∀x c,X.env.cells.lookup x=P3 c->c≠X.env.locals:=λx c e z=>by
 let#[v,o,d,f]:=I.cell x c e;let#[m,#[g,h,i,a,b,_],_]:=I.loc
 grind
def Inv.funs(I:Inv X zH Z H s):s.heap.FunFrames X.base X.outer:=by
 have all:∀(l:v_ _),(∀b∈Ue l,b∈X.fs)->X.s₀.heap.FunFrames X.base l->s.heap.FunFrames X.base l:=by
  intro l
  induction l with
  |nil=>intro _ _; trivial
  |cons g r h=>
   intro d i;let#[j,#[L,o,f,k,m,n],p]:=i;have a:=d L (by unfold Ue; simp_all);let#[q,e]:=I.base.slot L o m (I.ok.frf L a) a λz=>I.ok.exfs L z a;exact#[j,#[L,_,f,k,e,n],h (λb c=>d b^by unfold Ue; rw[List.filterMap_cons,f]; exact TW _ c) p]
 exact all _ (λ_ c=>c) I.ok.funs
def Inv.stack(I:Inv X zH Z H s):s.heap.FunFrames X.base X.stack:=by
 rcases I.ok.stk with e|⟨e,a⟩
 .rw[e]; exact I.funs
 .rw[e]
  let#[m,b,_]:=I.loc;exact .cons (by rw[I.ok.kind]; decide) a b (Heap.get?_none_of_le^iz I.ok.bsz I.ok.above) I.funs
def Inv.stkSub(I:Inv X zH Z H s):∀b∈Ue X.stack,b∈X.env.locals::X.fs:=λb a=>by
 rcases I.ok.stk with e|⟨e,c⟩
 .grind
 .rw[e]at a
  unfold Ue at a;rw[List.filterMap_cons,c]at a;exact a
def Inv.stkFree(I:Inv X zH Z H s):∀b∈Ue X.stack,H b=s_:=λb a=>by
 rcases UF.mp^I.stkSub b a with e|a
 .rw[e]; exact I.free
 .let#[_,o,c,_]:=I.ok.funs.mem a
  exact I.base.free b o c (I.ok.frf b a) λz=>I.ok.exfs b z a
def Inv.step{g':Array GenState}{t':Nat}{d':Drawn}{ch:v_ Ch}(I:Inv X zH Z H s)
  (f:∀b∈ch,(b∈X.ex\/X.s₀.heap.objs.size<=b)/\b≠X.env.locals/\(∀x c,X.env.cells.lookup x=P3 c->c≠b)/\∀p∈X.pn++zH,p.1≠b)
  (keep:∀b o,b≠X.env.locals->b∉X.fs->b∉ch->s.heap.get? b=P3 o->H b=s_->h'.get? b=P3 o)
  (y:∀b o,b≠X.env.locals->b∈X.fs->b∉ch->s.heap.get? b=P3 o->H b=s_->∃M,h'.get? b=P3 {o with slots:=M}) (free:∀b o,b∉ch->s.heap.get? b=P3 o->H b=s_->H' b=s_)
  (there:∀b o,b∉ch->s.heap.get? b=P3 o->∃D,h'.get? b=P3 D)
  (tups:∀b A,H b=P3^.tup A->H' b=P3^.tup A) (E:∀b o u,H b=P3^.frz o u->H' b=P3^.frz o u) (F:∀b L,H b=P3^.tbl L->∃G,H' b=P3^.tbl (L++G))
  (U:∀m,s.heap.Ns X.env.locals m->h'.Ns X.env.locals m) (N:HOk X.prog X.w H' h') (V:my g'):
  Inv X zH Z H' {s with heap:=h',gens:=g',drawn:=d',toks:=t'}:=by
 have J:∀b o,X.s₀.heap.get? b=P3 o->b≠X.env.locals:=λb o e=>i_^jU (ZB e) I.ok.above
 have j:∀b o,X.s₀.heap.get? b=P3 o->b∉X.ex->b∉ch:=λb o e a B=>by
  rcases(f b B).1 with z|z
  .exact a z
  .exact absurd (jU (ZB e) z)^jr _
 have g:∀x c,X.env.cells.lookup x=P3 c->∀v,s.heap.IsCell c v->h'.IsCell c v:=λx c e v #[o,C,O]=>by
  have h:c∉ch:=λz=>(f c z).2.2.1 x c e rfl
  by_cases Q:c∈X.fs
  .let#[M,q]:=y c o (I.cne x c e) Q h C^I.freeC x c e
   exact#[_,q,O]
  .exact#[o,keep c o (I.cne x c e) Q h C^I.freeC x c e,O]
 refine#[I.ok,I.os,V,#[λb o e n B a=>?_,λb o e n B a=>?_,λb o e n a=>?_,λb o e a=>?_,λb A e=>tups b A^I.base.tups b A e,λb o A e=>E b o A^I.base.frzs b o A e,λb L e=>?_],?_,λx c e=>?_,?_,λx c e=>?_,λp R=>?_,N,I.len]
 .exact keep b o (J b o e) B (j b o e a) (I.base.keep b o e n B a)^I.base.free b o e n a
 .let#[M,t]:=I.base.slot b o e n B a
  let#[P,K]:=y b _ (J b o e) B (j b o e a) t^I.base.free b o e n a;exact#[P,K]
 .let#[D,t]:=I.base.there b o e a
  exact free b D (j b o e a) t^I.base.free b o e n a
 .let#[D,t]:=I.base.there b o e a
  exact there b D (j b o e a) t
 .let#[W,t]:=I.base.tbls b L e
  let#[Y,K]:=F b _ t;exact#[W++Y,by rw[K,Array.append_assoc]]
 .let#[m,hn,hl]:=I.loc
  refine#[m,U m hn,λi x v t K e3=>?_];let#[u,r,l]:=hl i x v t K e3;exists u,r
  rcases l with l|⟨k,c,e,z⟩
  .exact .inl l
  .exact .inr #[k,c,e,g x c e _ z]
 .let#[v,z]:=I.cell x c e
  exact#[v,g x c e v z]
 .let#[m,#[o,_,_,C,_],_]:=I.loc
  exact free _ o (λz=>(f _ z).2.1 rfl) C I.free
 .let#[v,o,C,O]:=I.cell x c e
  exact free c o (λz=>(f c z).2.2.1 x c e rfl) C^I.freeC x c e
 .let#[e,n,S,T,d]:=I.pin p R
  have h:p.1∉ch:=λz=>(f p.1 z).2.2.2 p R rfl;exact#[keep p.1 p.2 S T h e n,free p.1 p.2 h e n,S,T,d]
def Inv.un{g:Nat}(I:Inv X zH Z H s)(u:Un X.fs [] H H' s.heap h')(c:HOk X.prog X.w H' h'):Inv X zH Z H' {s with heap:=h',toks:=g}:=by
 let#[m,#[o,p,q,f,r],_]:=id I.loc;let#[t,h]:=u.any f I.free^by simp
 exact I.step (ch:=[]) (λ_ z=>nomatch z) (λb o _ d _ e n=>u.keep b o e n d^by simp) (λb o _ d _ e n=>u.slot b o e n d^by simp) (λb o _ e n=>u.free b o e n^by simp) (λb o _ e=>u.there b o e^by simp) u.tups u.frzs u.tbls (λv i=>by
  let#[x,j,k,a,l]:=i;rw[f]at a; cases a
  exact#[_,_,_,h,l]) c I.bare
def Inv.call{i:Array GenState}{l:Nat}{q:Drawn}{j:v_ Ch}(I:Inv X zH Z H s)(u:Un (Ue X.stack) j H H' s.heap h')(g:HOk X.prog X.w H' h')(t:my i)
  (d:∀b∈j,(b∈X.ex\/X.s₀.heap.objs.size<=b)/\b≠X.env.locals/\(∀x c,X.env.cells.lookup x=P3 c->c≠b)/\∀p∈X.pn++zH,p.1≠b):
  Inv X zH Z H' {s with heap:=h',gens:=i,drawn:=q,toks:=l}:=by
 let#[m,#[o,D,E,k,r],_]:=id I.loc;let#[F,h]:=u.any k I.free λz=>(d _ z).2.1 rfl
 exact I.step d (λb o h v a e n=>u.keep b o e n (λz=>(UF.mp^I.stkSub b z).elim h v) a) (λb o _ _ a e n=>u.any e n a) (λb o a e n=>u.free b o e n a) (λb o a e=>u.there b o e a) u.tups u.frzs u.tbls (λG y=>by
  let#[J,A,B,f,C]:=y;rw[k]at f; cases f
  exact#[_,_,_,h,C]) g t
def Inv.turned{t':Nat}{it:Ch}(I:Inv X zH Z H s)(k:∀b o,b≠it->s.heap.get? b=P3 o->h'.get? b=P3 o)(A:H it=s_)(d:it≠X.env.locals)
  (f:it∈X.ex\/X.s₀.heap.objs.size<=it) (g:∀x c,X.env.cells.lookup x=P3 c->c≠it) (h:∀p∈X.pn++zH,p.1≠it):Inv X zH Z H {s with heap:=h',toks:=t'}:=by
 have i:∀b u,H b=P3 u->b≠it:=λb u e z=>by grind
 refine I.step (g':=s.gens) (d':=s.drawn) (ch:=[it]) (λb j=>?_) (λb o _ _ a e _=>k b o (λz=>a^by simp[z]) e) (λb o _ _ a e _=>#[o.slots,k b o (λz=>a^by simp[z]) e]) (λ_ _ _ _ n=>n)
  (λb o a e=>#[o,k b o (λz=>a^by simp[z]) e]) (λ_ _ e=>e) (λ_ _ _ e=>e) (λb B e=>#[#[],by rw[e]; simp]) (λm l=>?_) (λb u e=>?_) I.bare
 .have e:b=it:=by simpa using j
  subst e;exact#[f,d,g,h]
 .let#[o,t,w,y,r]:=l
  exact#[o,t,w,k _ o (jy d) y,r]
 .refine(I.hok b u e).stay (λc v a q=>k c v ?_ q) (λ_ q=>q) λ_ _ q=>q
  grind
def Inv.tok(I:Inv X zH Z H s)(t:Nat):Inv X zH Z H {s with toks:=t}:=I.un Un.refl I.hok
def Inv.kept{t':Nat}(I:Inv X zH Z H s)(k:∀b u,s.heap.get? b=P3 u->h'.get? b=P3 u):Inv X zH Z H {s with heap:=h',toks:=t'}:=I.un (Un.kept k)^I.hok.kept k
def Inv.laid{a:Ch}{o:HO}{t':Nat}(I:Inv X zH Z H s)(k:∀b u,s.heap.get? b=P3 u->h'.get? b=P3 u)(c:s.heap.objs.size<=a)(d:ObjOk X.prog X.w (BQ H a o) h' a o):
  Inv X zH Z (BQ H a o) {s with heap:=h',toks:=t'}:=I.un (Un.laid k c^I.hok.fresh c)^I.hok.laid k c d
def Inv.write{x e:Ch}{o:HO}{g:Nat}(I:Inv X zH Z H s)(d:ft^H x)(f:e=x\/H e=P3^.own x)(k:∀b u,b≠e->s.heap.get? b=P3 u->h'.get? b=P3 u)(a:∃u,h'.get? e=P3 u)
  (c:ObjOk X.prog X.w (BQ H x o) h' x o):Inv X zH Z (BQ H x o) {s with heap:=h',toks:=g}:=I.un (Un.write d f k a)^I.hok.write d f k a c
def Inv.pins_of{a:v_ (Ch×Obj)}(I:Inv X zH Z H s)(h:∀p∈a,s.heap.get? p.1=P3 p.2/\H p.1=s_/\p.1≠X.env.locals/\p.1∉X.fs/\∀v,p.2.data≠.cell v):Inv X a Z H s:=
 #[I.ok,I.os,I.bare,I.base,I.loc,I.cell,I.free,I.freeC,λp b=>(i9.mp b).elim (λz=>I.pin p^jM _ z)^h p,I.hok,I.len]
def Qv{N:v_ Str}(c:N.Nodup){i j:Nat}{x:Str}(a:N[i]?=P3 x)(b:N[j]?=P3 x):i=j:=by
 let#[f,d]:=Uf.mp a;let#[g,e]:=Uf.mp b;exact(oq c).mp^d.trans e.symm
def NW{M:Model}{A:jd}{E:Ev->On->Prop}{i:Nat}{x:Str}{v:V}{u:Ev}{Q:Unit->On->Prop}(I:Inv X zH Z H s)(hN:X.N.Nodup)(P:X.N[i]?=P3 x)(B:Loc X.env.scope x)(r:RelV v u)
  (h:∀s',Inv X zH (Z.set i^P3 v) H s'->(∃a,me a s.heap s'.heap/\(a=X.env.locals\/X.env.cells.lookup x=P3 a))->Q () s') (hf:X.fn x=t_\/X.env.scope.names.lookup x=P3 .local:=by first|exact .inl rfl|exact .inr rfl|assumption):wpAny M A (storeName X.env x u) Q E s:=by
 let#[m,hn,hl]:=id I.loc;have R:(X.env.scope.kind==.class||(X.env.scope.kind==.module&&X.env.locals !=X.env.globals))=u_:=by rw[I.ok.kind]; rfl
 have F:i<Z.length:=by rw[I.len]; exact(Uf.mp P).1
 have J:=I.cne
 have g:∀{a:Ch}{h':i8},(∃o,s.heap.get? a=P3 o/\H a=s_)->me a s.heap h'->HOk X.prog X.w H h':=λ{a h'} ha f b ob e=>by
  let#[_,_,C]:=ha;refine(I.hok b ob e).stay (λc Y t q=>(f.2 c ?_).trans q) (λ_ q=>q) λ_ _ q=>q;rintro rfl
  rcases t with rfl|t
  .rw[C]at e; cases e
  .rw[C]at t; cases t
 rcases B with G|G
 .refine wpAny_storeName_local G hn (λh' a0 f=>?_) R
  let#[oL,_,_,a1,_]:=id hn;refine h _ #[I.ok,I.os,I.bare,#[λb o e n K B=>?_,λb o e n K B=>?_,I.base.free,λb o e B=>?_,I.base.tups,I.base.frzs,I.base.tbls],#[_,a0,λj y v' l D e3=>?_],λy c e=>?_,I.free,I.freeC,λp hp=>?_,g #[oL,a1,I.free] f,by simpa using I.len] #[_,f,.inl rfl]
  .exact(f.2 b^i_^jU (ZB e) I.ok.above).trans^I.base.keep b o e n K B
  .let#[sl,l]:=I.base.slot b o e n K B
   exact#[sl,(f.2 b^i_^jU (ZB e) I.ok.above).trans l]
  .let#[o',l]:=I.base.there b o e B
   exact#[o',(f.2 b^i_^jU (ZB e) I.ok.above).trans l]
  .by_cases L:j=i
   .subst L
    rw[P]at l; cases l
    rw[pJ F]at D;cases D;exact#[u,r,.inl #[G,by simp]]
   .rw[nJ^jy L]at D
    let#[u',r',q]:=hl j y v' l D e3;exists u',r'
    rcases q with⟨k,e⟩|⟨k,c,e,z⟩
    .refine .inl #[k,?_]
     have:y≠x:=λe=>L^Qv hN l (e▸P)
     simp[this,e]
    .exact .inr #[k,c,e,z.sameBut f^J y c e]
  .let#[Y,z]:=I.cell y c e
   exact#[Y,z.sameBut f^J y c e]
  .let#[e,n,ne,nf,d]:=I.pin p hp
   exact#[(f.2 p.1 ne).trans e,n,ne,nf,d]
 .have O:X.fn x=t_:=by
   rcases hf with z|z
   .exact z
   .rw[z]at G; cases G
  let#[c,t]:=I.ok.has x^.inl G;let#[Y,z]:=I.cell x c t;refine wpAny_storeName_cell I.ok.kind G t z λh' S f=>?_;let#[oc,T,U]:=id z;refine h {s with heap:=h'} #[I.ok,I.os,I.bare,#[λb o e n K B=>?_,λb o e n K B=>?_,I.base.free,λb o e B=>?_,I.base.tups,I.base.frzs,I.base.tbls],#[m,hn.sameBut f^jy^J x c t,λj y v' l D e3=>?_],λy c' e=>?_,I.free,I.freeC,λp hp=>?_,g #[oc,T,I.freeC x c t] f,by simpa using I.len] #[c,f,.inr t]
  .exact(f.2 b^i_^jU (ZB e)^I.ok.cab x c O t).trans^I.base.keep b o e n K B
  .let#[sl,l]:=I.base.slot b o e n K B
   exact#[sl,(f.2 b^i_^jU (ZB e)^I.ok.cab x c O t).trans l]
  .let#[o',l]:=I.base.there b o e B
   exact#[o',(f.2 b^i_^jU (ZB e)^I.ok.cab x c O t).trans l]
  .by_cases L:j=i
   .subst L
    rw[P]at l; cases l
    rw[pJ F]at D;cases D;exact#[u,r,.inr #[.inl G,c,t,S]]
   .rw[nJ^jy L]at D
    let#[u',r',q]:=hl j y v' l D e3;exists u',r'
    rcases q with q|⟨k,c',e,z'⟩
    .exact .inl q
    .refine .inr #[k,c',e,z'.sameBut f ?_]
     rintro rfl;exact L^Qv hN l (I.ok.inj _ _ _ e t▸P)
  .by_cases W:c'=c
   .subst W; exact#[_,S]
   .let#[w2,z2]:=I.cell y c' e
    exact#[w2,z2.sameBut f W]
  .let#[e,n,ne,nf,d]:=I.pin p hp
   refine#[(f.2 p.1 ?_).trans e,n,ne,nf,d];intro q;rw[q,T]at e;have q':oc=p.2:=iw e;exact d Y^by rw[←q']; exact U
def K7{M:Model}{A:jd}{E:Ev->On->Prop}{i:Nat}{x:Str}{v:V}{u:Ev}{Q:Unit->On->Prop}(I:Inv X zH Z H s)(b:X.N.Nodup)(c:X.N[i]?=P3 x)(d:Loc X.env.scope x)(r:RelV v u)
  (h:∀a,Inv X zH (Z.set i^P3 v) H a->Q () a) (e:X.fn x=t_\/X.env.scope.names.lookup x=P3 .local:=by first|exact .inl rfl|exact .inr rfl|assumption):wpAny M A (storeName X.env x u) Q E s:=
 NW I b c d r (λa f _=>h a f) e
def Inv.call'{a:On}{f:v_ Ch}(I:Inv X zH Z H s)(g:a.os=s.os)(u:Un (Ue X.stack) f H H' s.heap a.heap)(d:HOk X.prog X.w H' a.heap)(h:my a.gens)
  (e:∀b∈f,(b∈X.ex\/X.s₀.heap.objs.size<=b)/\b≠X.env.locals/\(∀x c,X.env.cells.lookup x=P3 c->c≠b)/\∀p∈X.pn++zH,p.1≠b):Inv X zH Z H' a:=by
 let#[h',i,j,k,l]:=a;subst g;exact I.call u d h e
end
abbrev XK:=Ev->w_ Ch->Hp->Prop
abbrev St:=v_^w_ V
abbrev VK:=V->Hp->Prop
abbrev TE:=St->Hp->VK->Prop
abbrev TT:=St->Hp->(Bool->Hp->Prop)->Prop
abbrev TA:=St->Hp->(v_ V->Hp->Prop)->Prop
structure Ends where
 nx:St->Hp->Prop
 rt:VK
 bk:St->Hp->Prop:=λ_ _=>False
 ct:St->Hp->Prop:=λ_ _=>False
abbrev TS:=Ends->St->Hp->Prop
def EP(X:Cx)(b:v_ (Ch×Obj))(Z:St)(Q:VK)(u:Ev)(c:On):Prop:=∃v a,Inv X b Z a c/\RelV v u/\Q v a
def TP(X:Cx)(c:v_ (Ch×Obj))(Z:St)(Q:Bool->Hp->Prop)(b:Bool)(d:On):Prop:=∃a,Inv X c Z a d/\Q b a
def AP(X:Cx)(c:v_ (Ch×Obj))(Z:St)(Q:v_ V->Hp->Prop)(d:v_ Ev)(e:On):Prop:=∃a b,Inv X c Z b e/\Vals a d/\Q a b
def SP(X:Cx)(c:v_ (Ch×Obj))(D:Ends)(f:Flow)(d:On):Prop:=
 match f with
 |.next=>∃b a,Inv X c b a d/\D.nx b a
 |.brk=>∃b a,Inv X c b a d/\D.bk b a
 |.cont=>∃b a,Inv X c b a d/\D.ct b a
 |.ret u=>∃v b a,Inv X c b a d/\RelV v u/\D.rt v a
def PE(X:Cx)(e:jJ)(t:TE):Prop:=
 ∀(a:v_ (Ch×Obj)) (s:On) (Z:St) (H:Hp) (Q:VK),Inv X a Z H s->t Z H Q->wpAny (model X.prog X.w) X.A (eval e X.env) (EP X a Z Q) X.xe s
def PT(X:Cx)(e:jJ)(t:TT):Prop:=
 ∀(a:v_ (Ch×Obj)) (s:On) (Z:St) (H:Hp) (Q:Bool->Hp->Prop),Inv X a Z H s->t Z H Q->wpAny (model X.prog X.w) X.A (isTrue e X.env^eval e X.env) (TP X a Z Q) X.xe s
def PW(X:Cx)(e:jJ)(t:TT):Prop:=
 ∀(a:Sem Ev) (b:v_ (Ch×Obj)) (s:On) (Z:St) (H:Hp) (Q:Bool->Hp->Prop),Inv X b Z H s->t Z H Q->wpAny (model X.prog X.w) X.A (isTrue e X.env a) (TP X b Z Q) X.xe s
def PW.pt{X:Cx}{e:jJ}{t:TT}(h:PW X e t):PT X e t:=h _
def PA(X:Cx)(b:v_ jJ)(t:TA):Prop:=
 ∀(pos:Pos) (a:v_ (Ch×Obj)) (s:On) (Z:St) (H:Hp) (Q:v_ V->Hp->Prop),Inv X a Z H s->t Z H Q->wpAny (model X.prog X.w) X.A (spliced^backTo pos^starEach b X.env) (AP X a Z Q) X.xe s
def PS(X:Cx)(st:jH)(t:TS):Prop:=
 ∀(a:v_ (Ch×Obj)) (s:On) (Z:St) (H:Hp) (D:Ends),Inv X a Z H s->t D Z H->wpAny (model X.prog X.w) X.A (exec st X.env) (SP X a D) X.xe s
def PSs(X:Cx)(st:v_ jH)(t:TS):Prop:=
 ∀(a:v_ (Ch×Obj)) (s:On) (Z:St) (H:Hp) (D:Ends),Inv X a Z H s->t D Z H->wpAny (model X.prog X.w) X.A (execs st X.env) (SP X a D) X.xe s
def thn{b:Type}{t:Sem b}{Q c:b->On->Prop}{M:Model}{A:jd}{E:Ev->On->Prop}{s:On}(h:wpAny M A t Q E s)(d:∀a s,Q a s->c a s):wpAny M A t c E s:=jo h d λ_ _ x=>x
section
variable {X:Cx}
def CC(i:Nat):TE:=λZ H Q=>∃v,Z[i]?=P3^P3 v/\Q v H
def tC(v:V):TE:=λ_ H Q=>Q v H
def Ou{i:Nat}{x:Str}{pos:Pos}(k:X.N[i]?=P3 x)(n:dB X.env.scope x)(f:(x==("__debug__":Str))=u_:=by cbv)(g:(x==("__classdict__":Str))=u_:=by cbv):PE X (.Name x pos)^CC i:=by
 intro t s Z H Q I h;let#[v,e,h]:=h;let#[m,o,p]:=I.loc;let#[u,r,l]:=p i x v k e n;have b:EP X _ Z Q u s:=#[v,H,I,r,h]
 rcases l with⟨d,q⟩|⟨d,c,j,a⟩
 .exact wpAny_Name (wpAny_loadName_local I.ok.kind d o q b) f
 .rcases d with d|d
  .exact wpAny_Name (wpAny_loadName_cell I.ok.kind d j a b) f
  .exact wpAny_Name (wpAny_loadName_free I.ok.kind d j a b g) f
def BL{i j pos}:PE X (.Constant (.int i) j pos)^tC^.int i:=λ_ _ _ H _ I h=>wpAny_Constant_int #[.int i,H,I.tok _,#[_,rfl],h]
def eW{b j pos}:PE X (.Constant (.bool b) j pos)^tC^.bl b:=λ_ _ _ H _ I h=>Constant_bool #[.bl b,H,I,rfl,h]
def bq{j pos}:PE X (.Constant .none j pos)^tC .non:=λ_ _ _ H _ I h=>Constant_none #[.non,H,I,rfl,h]
def bo{x j pos}:PE X (.Constant (.str x) j pos)^tC^.str x:=λ_ _ _ H _ I h=>Calls.Constant_str #[.str x,H,I.tok _,#[_,rfl],h]
def Gl(X:Cx)(x:Str):Prop:=X.env.kindOf x=P3 .globalImplicit
def UV{E:Ev->On->Prop}{a:v_ (Ch×Obj)}{s:On}{Z:St}{H:Hp}{x:Str}{u:Ev}{pos:Pos}{Q:Ev->On->Prop}(I:Inv X a Z H s)(b:Gl X x)(c:X.mg x=P3 u)(h:Q u s)
  (d:(x==("__debug__":Str))=u_:=by cbv):wpAny (model X.prog X.w) X.A (eval (.Name x pos) X.env) Q E s:=
 oM I.ok.kind b (Calls.loadGlobal_global (by rw[I.ok.glob]; exact I.mod.glob.keeps I.bk) c h) d
def Dl{E:Ev->On->Prop}{a:v_ (Ch×Obj)}{s:On}{Z:St}{H:Hp}{x:Str}{u:Ev}{pos:Pos}{Q:Ev->On->Prop}(I:Inv X a Z H s)(b:Gl X x)(c:X.mg x=s_)(d:bootBuiltins x=P3 u)(h:Q u s)
  (e:x ≠ "__name__":=by cbv) (f:(x==("__debug__":Str))=u_:=by cbv):wpAny (model X.prog X.w) X.A (eval (.Name x pos) X.env) Q E s:=by
 let#[j,g,i]:=I.mod.blt;exact oM I.ok.kind b (Calls.loadGlobal_builtin (by rw[I.ok.glob]; exact I.mod.glob.keeps I.bk) c (by rw[I.ok.blt]; exact g.keeps I.bk) ((i x e).trans d) h) f
def ZU{x:Str}{v:V}{u:Ev}{pos:Pos}(a:Gl X x)(b:X.mg x=s_)(c:bootBuiltins x=P3 u)(r:RelV v u)(d:x ≠ "__name__":=by cbv)(e:(x==("__debug__":Str))=u_:=by cbv):PE X (.Name x pos)^tC v:=
 λ_ _ _ H _ I h=>Dl I a b c #[v,H,I,r,h] d e
variable {a b:Expr}{ta tb:TE}{pos:Pos}
def tB(t:TE):TT:=λZ H Q=>t Z H λx d=>∃c,x=.bl c/\Q c d
def bg{e:jJ}{t:TE}(h:PE X e t)(f:∀c,isTrue e X.env c=(do let v ←c; standAt e.pos; holding [v]^truthy v):=by intro _; rfl):PT X e^tB t:=by
 intro m s Z H Q I g;refine isTrue_plain (thn (h _ s Z H _ I g) λv n #[x,i,j,k,l]=>?_)^f _;let#[d,rfl,q]:=l;cases k;exact lC #[i,j,q]
variable {tA tB':TT}{rest:v_ Expr}
def dq(t u:TT):TT:=λZ H Q=>t Z H λc d=>if c=t_ then u Z d Q else Q u_ d
def iV(t u:TT):TT:=λZ H Q=>t Z H λc d=>if c=t_ then Q t_ d else u Z d Q
def gT(t:TT):TT:=λZ H Q=>t Z H λc d=>Q (!c) d
def UC(d:PT X a tA):PW X (.BoolOp .And [a] pos) tA:=by
 intro f g s Z H Q I h;refine isTrue_and^thn (d _ s Z H Q I h) λc i e=>?_;cases c with
 |true=>exact isTrue_and_nil e
 |false=>exact e
def be(d:PT X a tA):PW X (.BoolOp .Or [a] pos) tA:=by
 intro f g s Z H Q I h;refine isTrue_or^thn (d _ s Z H Q I h) λc i e=>?_;cases c with
 |false=>exact isTrue_or_nil e
 |true=>exact e
def XI(d:PT X a tA)(e:PW X (.BoolOp .And (b::rest) pos) tB'):PW X (.BoolOp .And (a::b::rest) pos)^dq tA tB':=by
 intro f l s Z H Q I h;refine isTrue_and^thn (d _ s Z H _ I h) λc g #[i,j,k]=>?_;cases c with
 |true=>exact e f _ g Z i Q j k
 |false=>assumption
def eU(d:PT X a tA)(e:PW X (.BoolOp .Or (b::rest) pos) tB'):PW X (.BoolOp .Or (a::b::rest) pos)^iV tA tB':=by
 intro f l s Z H Q I h;refine isTrue_or^thn (d _ s Z H _ I h) λc g #[i,j,k]=>?_;cases c with
 |true=>assumption
 |false=>exact e f _ g Z i Q j k
def bh(c:PT X a tA):PT X (.UnaryOp .Not a pos)^gT tA:=λd s Z H Q I h=>isTrue_not^c _ s Z H _ I h
def dn(ta tb:TE):TE:=λZ H Q=>ta Z H λx d=>∃c,x=.bl c/\if c=t_ then tb Z d Q else Q (.bl u_) d
def de(ta:TE):TE:=λZ H Q=>ta Z H λx d=>∃c,x=.bl c/\Q (.bl (!c)) d
def bv(g:PE X a ta)(i:PE X (.BoolOp .And (b::rest) pos) tb):PE X (.BoolOp .And (a::b::rest) pos)^dn ta tb:=by
 intro l s Z H Q I h;refine BoolOp_and^thn (g _ s Z H _ I h) λv j #[x,e,f,k,d]=>?_;let#[c,rfl,d]:=d;cases k;refine lC ?_;cases c with
 |true=>exact i _ j Z e Q f d
 |false=>exact#[.bl _,e,f,rfl,d]
def bp(e:PE X a ta):PE X (.UnaryOp .Not a pos)^de ta:=by
 intro j s Z H Q I h;refine UnaryOp_^thn (e _ s Z H _ I h) λv k #[x,f,g,i,d]=>?_;let#[c,rfl,d]:=d;cases i;exact not_of^lC #[.bl _,f,g,rfl,d]
def iW(t:TT)(ta tb:TE):TE:=λZ H Q=>t Z H λc d=>if c=t_ then ta Z d Q else tb Z d Q
def Qi{c:jJ}(j:PT X c tA)(k:PE X a ta)(l:PE X b tb):PE X (.IfExp c a b pos)^iW tA ta tb:=by
 intro m s Z H Q I h;refine wpAny_IfExp^thn (j _ s Z H _ I h) λd e #[f,g,i]=>?_;cases d with
 |true=>exact k _ e Z f Q g i
 |false=>exact l _ e Z f Q g i
end
def SqL(K:Frag)(H:Hp)(a:Ch)(c:v_ V):Prop:=
 Rd H a (.lst c) \/
  ∃(o:Obj) (b:Array Ev) (n:Nat),K.lookup a=P3 o/\o.cls=.type "list"/\o.dict=s_/\o.data=.seq b n/\b.size<=sizeLine/\Vals c b.toList
def SqT(K:Frag)(H:Hp)(a:Ch)(c:v_ V):Prop:=
 Rd H a (.tup c) \/
  ∃(o:Obj) (b:Array Ev) (n:Nat),K.lookup a=P3 o/\o.cls=.type "tuple"/\o.data=.seq b n/\b.size<=sizeLine/\Vals c b.toList
def g9:Ev->w_ V
 |.none=>P3 .non
 |.bool b=>P3^.bl b
 |.int i _=>P3^.int i
 |.str x _=>P3^.str x
 |.bytes b _=>P3^.byt b
 |.float b _=>P3^.flt b
 |.ref a=>P3^.ref a
 |.type n=>P3^.ty n
 |_=>s_
def RelV.abs{x:V}{u:Ev}(r:RelV x u):g9 u=P3 x:=by
 cases x with
 |non=>cases r; rfl
 |bl _=>cases r; rfl
 |int _=>let#[t,rfl]:=r; rfl
 |str _=>let#[t,rfl]:=r; rfl
 |byt _=>let#[t,rfl]:=r; rfl
 |flt _=>let#[t,rfl]:=r; rfl
 |ref _=>cases r; rfl
 |ty _=>cases r; rfl
def RelV.inj{x y:V}{u:Ev}(r:RelV x u)(q:RelV y u):x=y:=iw^r.abs.symm.trans q.abs
theorem Vals.inj:∀{a b:v_ V}{c:v_ Ev},Vals a c->Vals b c->a=b
 |_,_,_,.nil,.nil=>rfl
 |_,_,_,.cons r t,.cons d e=>by rw[r.inj d,Vals.inj t e]
section
variable {X:Cx}{zH:v_ (Addr×Obj)}{Z:St}{H:Hp}{s:Shared}{a:Addr}{xs ys:v_ V}
def SqL.of{K:Frag}(h:H a=P3^.lst xs):SqL K H a xs:=.inl^.inl h
def SqT.of{K:Frag}(h:H a=P3^.tup xs):SqT K H a xs:=.inl^.inl h
def Inv.list(I:Inv X zH Z H s)(h:SqL X.K H a xs):∃b:v_ Ev,Vals xs b/\PlainL s.heap a b.toArray/\xs.length<=sizeLine:=by
 rcases h with h|⟨o,b,n,c,d,f,g,i,r⟩
 .let#[z,b,n,r,e]:=h.ok I.hok
  exact#[_,r,#[_,n,e,rfl,rfl,rfl],z]
 .exists _,r,#[o,n,I.kIn a o c,d,f,by lk]
  have e:=r.length
  grind
def Inv.tuple(I:Inv X zH Z H s)(h:SqT X.K H a xs):∃b:v_ Ev,Vals xs b/\IsTup s.heap a b.toArray/\xs.length<=sizeLine:=by
 rcases h with h|⟨o,b,n,c,d,f,g,r⟩
 .let#[z,b,r,p]:=h.ok I.hok
  exact#[_,r,p.tup,z]
 .exists _,r,#[o,I.kIn a o c,d,n,by lk]
  have e:=r.length
  grind
def Inv.list_inj(I:Inv X zH Z H s)(h:SqL X.K H a xs)(f:SqL X.K H a ys):xs=ys:=by
 let#[c,r,#[o,n,e,_,_,d],_]:=I.list h;let#[b,g,#[i,j,k,_,_,l],_]:=I.list f
 have:c=b:=by grind
 subst this;exact r.inj g
def Inv.tuple_inj(I:Inv X zH Z H s)(h:SqT X.K H a xs)(f:SqT X.K H a ys):xs=ys:=by
 let#[c,r,#[o,e,_,n,d],_]:=I.tuple h;let#[b,g,#[i,j,_,k,l],_]:=I.tuple f
 have:c=b:=by grind
 subst this;exact r.inj g
end
abbrev Cx.wish(X:Cx)(E:Ev->On->Prop):Cx:={X with xe:=E}
abbrev Cx.nox(X:Cx):Cx:=X.wish λ_ _=>False
def Cx.Ok.wish{X:Cx}(ok:X.Ok)(E:Ev->On->Prop):(X.wish E).Ok:=
 #[ok.mod,ok.kind,ok.glob,ok.blt,ok.above,ok.inj,ok.has,ok.cab,ok.hd,ok.frames,ok.stk,ok.exf,ok.bs,ok.bsz,ok.noex,ok.exfs,ok.funs,ok.frf]
def Cx.Ok.unwish{X:Cx}{E:Ev->On->Prop}(ok:(X.wish E).Ok):X.Ok:=
 #[ok.mod,ok.kind,ok.glob,ok.blt,ok.above,ok.inj,ok.has,ok.cab,ok.hd,ok.frames,ok.stk,ok.exf,ok.bs,ok.bsz,ok.noex,ok.exfs,ok.funs,ok.frf]
section
variable {X:Cx}{zH:v_ (Addr×Obj)}{Z:St}{H:Hp}{s:Shared}{E:Value->Shared->Prop}
def Inv.wish(I:Inv X zH Z H s)(E:Ev->On->Prop):Inv (X.wish E) zH Z H s:=#[I.ok.wish E,I.os,I.bare,I.base,I.loc,I.cell,I.free,I.freeC,I.pin,I.hok,I.len]
def Inv.unwish(I:Inv (X.wish E) zH Z H s):Inv X zH Z H s:=#[I.ok.unwish,I.os,I.bare,I.base,I.loc,I.cell,I.free,I.freeC,I.pin,I.hok,I.len]
def SP.unwish{D:Ends}{f:Flow}{c:On}(h:SP (X.wish E) zH D f c):SP X zH D f c:=by
 cases f with
 |next=>let#[b,a,I,q]:=h; exact#[_,a,I.unwish,q]
 |brk=>let#[b,a,I,q]:=h; exact#[_,a,I.unwish,q]
 |cont=>let#[b,a,I,q]:=h; exact#[_,a,I.unwish,q]
 |ret u=>let#[v,b,a,I,r,q]:=h; exact#[v,_,a,I.unwish,r,q]
def PSs.nox{st:v_ jH}{t:TS}(h:PSs X.nox st t):PSs X st t:=λzH s Z H D I a=>
 jo (h _ s Z H D (I.wish _) a) (λ_ _ q=>q.unwish) λ_ _ z=>kg z
end
section
variable {X:Cx}{st:Stmt}{rest:v_ Stmt}{t u:TS}{e:Expr}{te:TE}{pos:Pos}
def aJ:TS:=λD Z H=>D.nx Z H
def VB(t u:TS):TS:=λD Z H=>t {D with nx:=u D} Z H
def Oo:PSs X [] aJ:=λ_ _ Z H _ I h=>nL #[Z,H,I,h]
def BY(a:PS X st t)(b:PSs X rest u):PSs X (st::rest)^VB t u:=by
 intro g s Z H D I h;refine wpAny_execs_cons^thn (a _ s Z H _ I h) λf c q=>?_;cases f with
 |next=>
  let#[i,d,e,q]:=q;exact b _ c _ d D e q
 |ret v=>exact q
 |brk=>exact q
 |cont=>exact q
def D_(a:PS X st t):PSs X [st] t:=by
 intro b s Z H D I h;refine wpAny_execs_cons^thn (a _ s Z H D I h) λf c q=>?_;cases f with
 |next=>exact nL q
 |ret v=>exact q
 |brk=>exact q
 |cont=>exact q
def bR:TS:=λD Z H=>D.bk Z H
def dk:TS:=λD Z H=>D.ct Z H
def XQ:PS X (.Break pos) bR:=λ_ _ Z H _ I h=>wpAny_Break #[Z,H,I,h]
def Qf:PS X (.Continue pos) dk:=λ_ _ Z H _ I h=>wpAny_Continue #[Z,H,I,h]
def Inv.quiet{a:v_ (Ch×Obj)}{Z:St}{H:Hp}{s:On}(I:Inv X a Z H s):interactive X.env=u_:=by simp[interactive,I.ok.kind]
def dg(te:TE):TS:=λD Z H=>te Z H λ_ a=>D.nx Z a
def UG(a:PE X e te)(b:swapsWith e s_ pos.line X.env=pure u_:=by rfl):PS X (.Expr e pos)^dg te:=λg s Z H D I h=>wpAny_Expr_any (thn (a _ s Z H _ I h) λv i #[x,c,d,j,f]=>#[Z,c,d,f]) I.quiet b
def ZC(te:TE):TS:=λD Z H=>te Z H D.rt
def G7(a:PE X e te):PS X (.Return (P3 e) pos)^ZC te:=λg s Z H D I h=>wpAny_Return_some^thn (a _ s Z H _ I h) λv i #[x,b,c,d,f]=>#[x,Z,b,c,d,f]
def df(c:TT)(t u:TS):TS:=λD Z H=>c Z H λb a=>if b=t_ then t D Z a else u D Z a
def XO{c:jJ}{a b:v_ jH}{e:TT}(k:PT X c e)(l:PSs X a t)(m:PSs X b u):PS X (.If c a b pos)^df e t u:=by
 intro n s Z H D I h;refine wpAny_If^thn (k _ s Z H _ I h) λd f #[g,i,j]=>?_;cases d with
 |true=>exact l _ f Z g D i j
 |false=>exact m _ f Z g D i j
end
abbrev TG:=V->St->Hp->(St->Hp->Prop)->Prop
abbrev aD:=v_ V->St->Hp->(St->Hp->Prop)->Prop
def PG(X:Cx)(a:jJ)(t:TG):Prop:=
 ∀(b:v_ (Ch×Obj)) (s:On) (Z:St) (H:Hp) (v:V) (u:Ev) (Q:St->Hp->Prop),Inv X b Z H s->RelV v u->t v Z H Q->
  wpAny (model X.prog X.w) X.A (assign a X.env u) (λ_ e=>∃c d,Inv X b c d e/\Q c d) X.xe s
def dP(X:Cx)(f:v_ jJ)(t:aD):Prop:=
 ∀(a:v_ (Ch×Obj)) (s:On) (Z:St) (H:Hp) (b:v_ V) (c:v_ Ev) (Q:St->Hp->Prop),Inv X a Z H s->Vals b c->t b Z H Q->
  wpAny (model X.prog X.w) X.A (assignInOrder ((assignEach f X.env).map (·.2)) c) (λ_ g=>∃d e,Inv X a d e g/\Q d e) X.xe s
abbrev dD:=V->V->V->Hp->(Hp->Prop)->Prop
def fm(X:Cx)(t:dD):Prop:=
 ∀(a:v_ (Ch×Obj)) (s:On) (Z:St) (H:Hp) (o i v:V) (b c u:Ev) (Q:Hp->Prop),Inv X a Z H s->RelV o b->RelV i c->RelV v u->t o i v H Q->
  wpAny (model X.prog X.w) X.A (setItem b c u) (λ_ e=>∃d,Inv X a Z d e/\Q d) X.xe s
abbrev gH:=V->V->Hp->VK->Prop
def iN(X:Cx)(b:Operator)(t:gH):Prop:=
 ∀(a:v_ (Ch×Obj)) (s:On) (Z:St) (H:Hp) (x y:V) (v u:Ev) (Q:VK),Inv X a Z H s->RelV x v->RelV y u->t x y H Q->
  wpAny (model X.prog X.w) X.A (inplaceOp b v u) (EP X a Z Q) X.xe s
section
variable {X:Cx}{pos:Pos}
def Gw(i:Nat):TG:=λv Z H Q=>Q (Z.set i^P3 v) H
def GP{i:Nat}{x:Str}(a:X.N.Nodup)(b:X.N[i]?=P3 x)(c:Loc X.env.scope x)(d:X.fn x=t_\/X.env.scope.names.lookup x=P3 .local:=by first|exact .inl rfl|exact .inr rfl|assumption):PG X (.Name x pos)^Gw i:=λf s Z H v u Q I r h=>wpAny_assign_Name^K7 I a b c r (λg e=>#[_,H,e,h]) d
def gs:aD:=λa Z H Q=>a=[]/\Q Z H
def fG(t:TG)(u:aD):aD:=λa Z H Q=>∃v r,a=v::r/\t v Z H λb c=>u r b c Q
def UK:dP X [] gs:=by
 intro a s Z H b c Q I r h;let#[e,h]:=h;exact assignInOrder_nil #[Z,H,I,h]
def Hf{e:jJ}{a:v_ jJ}{t:TG}{u:aD}(b:PG X e t)(c:dP X a u)
  (d:(assignEach (e::a) X.env).map (·.2)=assign e X.env::(assignEach a X.env).map (·.2):=by rfl):dP X (e::a)^fG t u:=by
 intro m s Z H n o Q I r h;let#[v,p,f,h]:=h;subst f;cases r with
 |cons r g=>
  rw[d];exact assignInOrder_cons^thn (b _ s Z H _ _ _ I r h) λ_ i #[_,j,k,l]=>c _ i _ j _ _ Q k g l
def gq(K:Frag)(n:Nat)(t:aD):TG:=λv Z H Q=>∃a b,v=.ref a/\SqT K H a b/\b.length=n/\t b Z H Q
def XZ{c:v_ jJ}{k:Nat}{t:aD}{n:Nat}(g:X.calm=t_)(h:dP X c t)
  (i:(assignEach c X.env).length=n:=by rfl) (d:(assignEach c X.env).findIdx? (·.1)=s_:=by rfl):PG X (.Tuple c k pos)^gq X.K n t:=by
 intro z s Z H v u Q I r f;let#[a,j,l,m,p,f]:=f;subst l;cases r;let#[q,w,x,A]:=I.tuple m;exact assign_Tuple_tuple (I.ok.hd g) x (by simp[i,←p,w.length]) d λB y=>h _ _ Z H j _ Q (I.kept λb o e=>y b o (i_^ZB e) e) (by lk) f
def fE(a b:TE)(t:dD):TG:=λv Z H Q=>a Z H λo c=>b Z c λi d=>t o i v d λe=>Q Z e
def Sf{o i:jJ}{c d:TE}{t:dD}(e:PE X o c)(f:PE X i d)(g:fm X t)
  (E:∀v,assign (.Subscript o i pos) X.env v=(do
   let a ←holding [v]^eval o X.env
   let b ←holding [v,a] (eval i X.env)
   standAt pos
   holding [v,a,b] (setItem a b v)
   release [v,a,b] []):=by intro _; rfl):PG X (.Subscript o i pos)^fE c d t:=λF s Z H v u Q I r h=>Db^jb^thn (e _ s Z H _ I h) λa j #[x,k,l,m,n]=>Db^jb^thn (f _ j Z k _ l n) λb p #[y,q,w,z,A]=>Db^oN^Db^jb^thn (g _ p Z q x y v a b u _ w m z r A) λ_ G #[B,C,D]=>wpAny_release #[Z,B,C,D]
def QG(a:TE)(g:TG):TS:=λD Z H=>a Z H λx b=>g x Z b D.nx
def I0{a e:jJ}{b:TE}{g:TG}(c:PE X e b)(d:PG X a g)(f:swapsWithSole [a] e pos.line X.env=pure u_:=by rfl)(i:swappedStores [a] e X.env=pure s_:=by rfl)
  (j:(assignEach [a] X.env).map (·.2)=[assign a X.env]:=by rfl):PS X (.Assign [a] e pos)^QG b g:=by
 intro p s Z H D I h;refine wpAny_Assign_stores (thn (c _ s Z H _ I h) λv k #[x,l,m,n,o]=>?_) f i;rw[j];exact thn (d _ k Z l x v _ m n o) λ_ r q=>q
def E6{i:Nat}{x:Str}{e:jJ}{b:TE}{a:Pos}(c:X.N.Nodup)(d:X.N[i]?=P3 x)(f:Loc X.env.scope x)(g:PE X e b)(j:swapsWith e (P3^.Name x a) pos.line X.env=pure u_:=by rfl)(k:X.fn x=t_\/X.env.scope.names.lookup x=P3 .local:=by first|exact .inl rfl|exact .inr rfl|assumption):
  PS X (.Assign [.Name x a] e pos) (QG b^Gw i):=λq s Z H D I h=>wpAny_Assign_Name (thn (g _ s Z H _ I h) λv r #[y,l,m,n,o]=>K7 m c d f n (λt p=>#[_,l,p,o]) k) j
def gY(i:Nat)(a:TE)(b:gH):TS:=λD Z H=>∃x,Z[i]?=P3^P3 x/\a Z H λy c=>b x y c λz d=>D.nx (Z.set i^P3 z) d
def bi{i:Nat}{x:Str}{e:jJ}{q:TE}{j:Operator}{t:gH}{d:Pos}(E:X.N.Nodup)(B:X.N[i]?=P3 x)(n:Loc X.env.scope x)(F:PE X e q)(G:iN X j t)(J:X.fn x=t_\/X.env.scope.names.lookup x=P3 .local:=by first|exact .inl rfl|exact .inr rfl|assumption):
  PS X (.AugAssign (.Name x d) j e pos) (gY i q t):=by
 intro o s Z H D I h;let#[v,K,h]:=h;let#[m,L,M]:=I.loc;have p:dB X.env.scope x:=by rcases n with k|k; exact .inl k; exact .inr^.inl k
 let#[u,r,l]:=M i x v B K p;refine wpAny_AugAssign_Name ?_
 have C:wpAny (model X.prog X.w) X.A (eval e X.env) (λw f=>wpAny (model X.prog X.w) X.A (inplaceOp j u w) (λr g=>wpAny (model X.prog X.w) X.A (storeName X.env x r) (λ_=>SP X o D .next) X.xe g) X.xe f) X.xe s:=by
  refine thn (F o s Z H _ I h) λw O #[y,P,Q,R,S]=>?_;refine thn (G o O Z P v y u w _ Q r R S) λz s2 #[zv,T,U,V,W]=>?_;exact K7 U E B n V (λs3 Y=>#[_,T,Y,W]) J
 rcases l with⟨a,hm⟩|⟨a,c,hc,b⟩
 .exact wpAny_loadName_local I.ok.kind a L hm C
 .rcases a with a|a
  .exact wpAny_loadName_cell I.ok.kind a hc b C
  .rcases n with k|k
   .have:X.env.scope.names.lookup x=P3 .free:=a
    rw[k]at this; cases this
   .have:X.env.scope.names.lookup x=P3 .free:=a
    rw[k]at this; cases this
def iZ(f:Int->Int->Int):gH:=λx y H Q=>∃i j,x=.int i/\y=.int j/\Q (.int^f i j) H
def cS:iN X .Add (iZ λi j=>i+j):=by
 intro e s Z H x y v u Q I a b h;let#[i,j,c,d,q]:=h;subst c; subst d
 let#[t,rfl]:=a;let#[f,rfl]:=b;exact iadd_int #[.int _,H,I.tok _,#[_,rfl],q]
end
section
variable {X:Cx}{pos:Pos}
def bL(c:TT)(g:TS):TS:=λD Z H=>∃W:Nat->St->Hp->Prop,(∃m,W m Z H)/\∀m Z H,W m Z H->
 c Z H λb a=>if b=t_ then ∃N:St->Hp->Prop,(∀d e,N d e->∃f,f<m/\W f d e)/\g {D with nx:=N,ct:=N,bk:=D.nx} Z a else D.nx Z a
def XN{c:jJ}{a:v_ jH}{t:TT}{u:TS}(x:pE (model X.prog X.w) X.A X.env X.xe)(G:PT X c t)(J:PSs X a u):PS X (.While c a [] pos)^bL t u:=by
 intro l s Z H D I h;let#[W,#[K,L],d]:=h;refine wpAny_While^codeAny_whileLoop (λn M=>∃y z,Inv X l y z M/\W n y z) ?_ K #[Z,H,I,L];rintro n O ⟨i,B,P,Q⟩;refine lS x^thn (G l O i B _ P^d n i B Q) λb R #[C,E,j]=>?_;cases b with
 | true=>
  let#[N,F,j]:=j;rw[if_pos rfl];refine lS x^thn (J l R i C _ E j) λf S k=>?_;cases f with
  |next=>
   let#[e,g,m,o]:=k;let#[p,q,r]:=F e g o;exact#[p,q,e,g,m,r]
  |cont=>
   let#[e,g,m,o]:=k;let#[p,q,r]:=F e g o;exact#[p,q,e,g,m,r]
  |brk=>exact k
  |ret v=>exact k
 |false=>
  rw[if_neg jF];exact nL #[i,C,E,j]
end
structure It where
 go:Nat->Hp->Prop
 yld:Nat->Hp->V->Hp->Prop
 stop:Nat->Hp->Prop
def Gg(X:Cx)(a:v_ (Ch×Obj))(H:Hp)(b:Ch):Prop:=
 H b=s_/\b≠X.env.locals/\b∉X.fs/\(b∈X.ex\/X.s₀.heap.objs.size<=b)/\(∀x c,X.env.cells.lookup x=P3 c->c≠b)/\∀p∈X.pn++a,p.1≠b
def Inv.fpOk{X:Cx}{d:v_ (Ch×Obj)}{Z:St}{H f:Hp}{s:On}{b:Ch}(I:Inv X d Z H s)(a:s.heap.objs.size<=b)(g:f b=s_):Gg X d f b:=by
 refine#[g,mH^jU I.lt a,I.nofs a,.inr^iz I.sz a,λx c e z=>?_,λp h z=>?_]
 .let#[v,q]:=I.cell x c e
  exact absurd (jU q.lt^by rw[z]; exact a)^jr _
 .exact absurd (jU (ZB (I.pin p h).1)^by rw[z]; exact a)^jr _
structure Turn (P:jK) (w:jQ) (K:Frag) (tg:jJ) (J:It) (fp:List Ch) (it:Ch) (tn:Nat->i8->Prop):Prop where
 mem:it∈fp
 obj:∀i h,tn i h->∀b∈fp,∃o,h.get? b=P3 o/\∀v,o.data≠.cell v
 keep:∀i h h',tn i h->(∀b∈fp,∀o,h.get? b=P3 o->h'.get? b=P3 o)->tn i h'
 item:∀(X:Cx),X.prog=P->X.w=w->X.K=K->X.calm=t_->∀(i:Nat) (zH:List (Ch×Obj)) (s:On) (Z:St) (H:Hp) (E:Ev->On->Prop),Inv X zH Z H s->(∀b∈fp,Gg X zH H b)->tn i s.heap->J.go i H->
  wpAny (model P w) X.A (pyNext^.ref it) (λr s1=>∃u,r=P3 u /\
   wpAny (model P w) X.A (letOwnedTupleGo tg (.ref it) u) (λ_ s2=>∃x H',Inv X zH Z H' s2/\RelV x u/\J.yld i H x H'/\tn (i+1) s2.heap/\∀b∈fp,H' b=s_) E s1) E s
 done:∀(X:Cx),X.prog=P->X.w=w->X.K=K->X.calm=t_->∀(i:Nat) (zH:List (Ch×Obj)) (s:On) (Z:St) (H:Hp) (E:Ev->On->Prop),Inv X zH Z H s->(∀b∈fp,Gg X zH H b)->tn i s.heap->J.stop i H->
  wpAny (model P w) X.A (pyNext^.ref it) (λr s1=>r=s_/\Inv X zH Z H s1) E s
 self:∀(A:jd) (i:Nat) (s:On) (Q:Ev->On->Prop) (E:Ev->On->Prop),tn i s.heap->Q (.ref it) s->wpAny (model P w) A (pyIter^.ref it) Q E s
abbrev TI:=St->Hp->(It->Hp->Prop)->Prop
def iO(X:Cx)(d:v_ (Ch×Obj))(Z:St)(h:jJ)(R:It->Hp->Prop)(a:Ev)(e:On):Prop:=
 ∃(it:Ch) (f:v_ Ch) (g:Nat->i8->Prop) (J:It) (c:Hp),a=.ref it/\Inv X d Z c e/\Turn X.prog X.w X.K h J f it g/\g 0 e.heap/\(∀b∈f,Gg X d c b)/\R J c
def PI(X:Cx)(c a:jJ)(d:TI):Prop:=
 ∀(b:v_ (Ch×Obj)) (s:On) (Z:St) (H:Hp) (R:It->Hp->Prop),Inv X b Z H s->d Z H R->
  wpAny (model X.prog X.w) X.A (eval a X.env) (λv e=>wpAny (model X.prog X.w) X.A (pyIter v) (iO X b Z c R) X.xe e) X.xe s
def Uc {M:Model}{A:jd}{E:Ev → On → Prop}{s:On}{b:jJ}{it:Ch}{u:Ev}{o:Obj}{n:String}{c:Array Ev}{Q:Unit → On → Prop} (d:s.heap.get? it=P3 o) (e:o.cls=.type n) (f:o.data=.fields c)
    (g:["enumerate","zip","dict_itemiterator","dict_reverseitemiterator","odict_iterator","itertools.zip_longest","itertools.pairwise"].contains n=u_) (a:Q () s):wpAny M A (letOwnedTupleGo b (.ref it) u) Q E s:=by
  unfold letOwnedTupleGo
  cases b <;>first
    |exact T0 a
    |(cases u <;>first
        |exact T0 a
        | (refine Db^wpAny_load d ?_
           rw[e,f];show wpAny M A (if(["enumerate","zip","dict_itemiterator","dict_reverseitemiterator","odict_iterator","itertools.zip_longest","itertools.pairwise"].contains n && c[0]?==P3^rawInt _)=t_ then _ else _) Q E s;rw[if_neg^by grind];exact T0 a))
def h_(K:Frag)(a:Ch):It:=
 #[λi H=>∃b x,SqL K H a b/\b[i]?=P3 x,λi H x c=>c=H/\∀b,SqL K H a b->b[i]?=P3 x,λi H=>∃b,SqL K H a b/\b.length<=i]
def dH(K:Frag)(a:Ch):It:=
 #[λi H=>∃b x,SqT K H a b/\b[i]?=P3 x,λi H x c=>c=H/\∀b,SqT K H a b->b[i]?=P3 x,λi H=>∃b,SqT K H a b/\b.length<=i]
def gJ(a:Int)(n:Nat):It:=#[λi _=>i<n,λi H x b=>b=H/\x=.int (a+i),λi _=>n<=i]
def U9{P:jK}{w:jQ}{K:Frag}{O:jJ}(a it:Ch):Turn P w K O (h_ K a) [it] it (λi h=>h.IsListIter it a i) where
 mem:=by simp
 obj:=λi h f b g=>by
  have e:b=it:=by simpa using g
  subst e;let#[o,e,c,d]:=f;exact#[o,e,λv z=>by rw[d]at z; cases z]
 keep:=λi h l f k=>f.at λo e=>k it (by simp) o e
 item:=by
  intro X q r t M i N s Z H E I m f y;subst q r t;let#[Q,x,n,A]:=y;let#[B,C,p,R]:=I.list n;let#[u,S,T]:=C.get A;let#[D,F,U,G,J,L]:=m it (by simp);refine wpAny_pyNext_list_item f p.isList (x:=u) (by simpa using S) λl j V=>?_;have W:Inv X N Z H {s with heap:=l}:=I.turned (t':=s.toks) (λb o g e=>(V.2 b g).trans e) D F G J L;let#[o,e,c,d]:=id j;exact#[u,rfl,Uc (s:={s with heap:=l}) e c d (by cbv) #[x,H,W,T,#[rfl,λys Y=>by rw[I.list_inj Y n]; exact A],j,λb g=>(m b g).1]]
 done:=by
  intro X q r t M i N s Z H E I m f y;subst q r t;let#[Q,n,A]:=y;let#[B,C,p,R]:=I.list n;let#[D,F,U,G,J,L]:=m it (by simp);have hl:=C.length;exact wpAny_pyNext_list_end (I.ok.hd M) f p.isList (by simp; omega) λl eb=>#[rfl,I.turned (t':=s.toks) (λb o g e=>eb b o g e) D F G J L]
 self:=λ_ _ _ _ _ f h=>wpAny_pyIter_listiter f h
def Kz{P:jK}{w:jQ}{K:Frag}{O:jJ}(a it:Ch):Turn P w K O (dH K a) [it] it (λi h=>h.IsTupleIter it a i) where
 mem:=by simp
 obj:=λi h f b g=>by
  have e:b=it:=by simpa using g
  subst e;let#[o,e,c,d]:=f;exact#[o,e,λv z=>by rw[d]at z; cases z]
 keep:=λi h m f k=>f.at λo e=>k it (by simp) o e
 item:=by
  intro X r t y M i N s Z H E I n f A;subst r t y;let#[Q,x,q,B]:=A;let#[j,C,p,R]:=I.tuple q;let#[u,S,T]:=C.get B;let#[D,F,U,G,J,L]:=n it (by simp);refine wpAny_pyNext_tuple_item f (show s.heap.IsTuple a j.toArray from p) (x:=u) (by simpa using S) λm l V=>?_;have W:Inv X N Z H {s with heap:=m}:=I.turned (t':=s.toks) (λb o g e=>(V.2 b g).trans e) D F G J L;let#[o,e,c,d]:=id l;exact#[u,rfl,Uc (s:={s with heap:=m}) e c d (by cbv) #[x,H,W,T,#[rfl,λys Y=>by rw[I.tuple_inj Y q]; exact B],l,λb g=>(n b g).1]]
 done:=by
  intro X r t y M i N s Z H E I n f A;subst r t y;let#[Q,q,B]:=A;let#[j,C,p,R]:=I.tuple q;let#[D,F,U,G,J,L]:=n it (by simp);have hl:=C.length;exact wpAny_pyNext_tuple_end (I.ok.hd M) f (show s.heap.IsTuple a j.toArray from p) (by simp; omega) λm eb=>#[rfl,I.turned (t':=s.toks) (λb o g e=>eb b o g e) D F G J L]
 self:=λ_ _ _ _ _ f h=>wpAny_pyIter_tupleiter f h
def Rz{P:jK}{w:jQ}{K:Frag}{D:jJ}(it:Ch)(f:Int)(n:Nat):Turn P w K D (gJ f n) [it] it (λi h=>IsRangeIter h it (f+(i:Nat)*1) ((n:Int) - (i:Nat)) 1) where
 mem:=by simp
 obj:=λi h a b c=>by
  simp_all
 keep:=λi h g a k=>k it (by simp) _ a
 item:=by
  intro X l m p q i B s Z H E I j a r;subst l m p;let#[u,x,F,y,z,A]:=j it (by simp);have W:=Walks.range (prog:=X.prog) (w:=X.w) (I.ok.hd q) it f 1 n;refine W.item i s _ _ r a λv g C G d J=>?_;let#[t,rfl]:=G;have L:Inv X B Z H {s with heap:=g,toks:=C}:=I.turned (λb o c e=>J b o (by simpa using c) e) u x y z A;refine#[_,rfl,Uc (s:={s with heap:=g,toks:=C}) (n:="range_iterator") d rfl rfl (by cbv) #[.int (f+i),H,L,#[t,?_],#[rfl,rfl],d,λb c=>(j b c).1]];rw[Int.mul_one]
 done:=by
  intro X l m p q i B s Z H E I j a r;subst l m p;let#[u,x,F,y,z,A]:=j it (by simp);exact wpAny_pyNext_range_end (I.ok.hd q) a (by have:n<=i:=r; omega) λg M=>#[rfl,I.turned (t':=s.toks) (λb o c e=>M b o c e) u x y z A]
 self:=λ_ _ _ _ _ a h=>wpAny_pyIter_rangeiter a h
section
variable {X:Cx}{tg:Expr}
def gn(K:Frag)(c:TE):TI:=λZ H R=>c Z H λx b=>∃a,x=.ref a/\(∃d,SqT K b a d)/\R (dH K a) b
def XX{l:jJ}{d:TE}(f:PE X l d):PI X tg l^gn X.K d:=by
 intro r s Z H R I h;refine thn (f _ s Z H _ I h) λv g #[x,i,c,j,k]=>?_;let#[a,e,#[t,m],q]:=k;subst e;cases j;let#[n,u,p,w]:=c.tuple m;refine jz (p) ?_;refine#[_,_,_,_,i,rfl,c.kept λb o e=>Go _ e,Kz a _,#[_,XV _ rfl,rfl,rfl],λb y=>?_,q];have e:b=g.heap.objs.size:=by grind
 subst e;exact c.fpOk (Rs _)^c.hok.fresh^Rs _
def W8{d:v_ (Ch×Obj)}{Z:St}{H:Hp}{s:On}{R:It->Hp->Prop}{E:Ev->On->Prop}{a c:Int}{t u v:Tok}{f:Nat}(I:Inv X d Z H s)(h:-(2 ^ 62)<=a)(i:a<2 ^ 62)(j:-(2 ^ 62)<=c)(k:c<2 ^ 62)
  (q:R (gJ a (c - a).toNat) H):wpAny (model X.prog X.w) X.A (pyIter^.ref s.heap.objs.size) (iO X d Z tg R) E {s with heap:=s.heap.push {cls:=.type "range",data:=.fields #[ .int a t,.int c u,.int 1 v]},toks:=f}:=by
 refine wpAny_pyIter_range (IsRange.new ..) (small_one h i j k) ?_;have g:Inv X d Z H {s with heap:=s.heap.push {cls:=.type "range",data:=.fields #[ .int a t,.int c u,.int 1 v]},toks:=f}:=I.kept λb o e=>Go _ e
 refine#[(s.heap.push {cls:=.type "range",data:=.fields #[ .int a t,.int c u,.int 1 v]}).objs.size,[(s.heap.push {cls:=.type "range",data:=.fields #[ .int a t,.int c u,.int 1 v]}).objs.size],_,_,H,rfl,
  g.kept (t':=f) λb o e=>Go _ e,Rz _ a (c - a).toNat,?_,λb l=>?_,q]
 .have m:a+((0:Nat):Int)*1=a:=by simp
  have n:(((c - a).toNat:Nat):Int) - ((0:Nat):Int)=Builtin.Range.rangeSize a c 1:=by rw[rangeSize_one]; grind
  show IsRangeIter _ _ (a+((0:Nat):Int)*1) ((((c - a).toNat:Nat):Int) - ((0:Nat):Int)) 1;rw[m,n];exact XV _ rfl
 .have e:b=(s.heap.push {cls:=.type "range",data:=.fields #[ .int a t,.int c u,.int 1 v]}).objs.size:=by simpa using l
  subst e;exact g.fpOk (Rs _)^g.hok.fresh^Rs _
def fC(a:TA):TI:=λZ H R=>a Z H λb c=>∃j:Int,b=[.int j]/\-(2 ^ 62)<=j/\j<2 ^ 62/\R (gJ 0 j.toNat) c
def VP{a:jJ}{c:TA}{p pos:Pos}(d:Gl X "range")(f:X.mg "range"=s_)(g:PA X [a] c)(i:starEach [a] X.env=[(u_,eval a X.env)]:=by rfl):PI X tg (.Call (.Name "range" p) [a] [] pos)^fC c:=by
 intro o s Z H R I h;refine Call_^Dl I d f boot_range (j_ (thn (g _ _ s Z H _ I h) λu v #[w,x,k,l,b]=>?_) i rfl);let#[j,e,b,m,q]:=b;subst e;cases l with
 |cons r n=>
  cases n;let#[t,rfl]:=r;exact call_range_1^W8 k (by lk) (by lk) b m^by simpa using q
def gX(d:TI)(g:TG)(e:TS):TS:=λD Z H=>d Z H λJ f=>∃W:Nat->Nat->St->Hp->Prop,(∃m,W 0 m Z f)/\∀i m Z H,W i m Z H->
 (J.stop i H/\D.nx Z H)\/(J.go i H/\∃N:St->Hp->Prop,(∀b a,N b a->∃c,c<m/\W (i+1) c b a)/\∀x a,J.yld i H x a->g x Z a λh j=>e {D with nx:=N,ct:=N,bk:=D.nx} h j)
def Lf(a:v_ Ch)(h:i8):v_ (Ch×Obj):=a.filterMap λb=>(h.get? b).map λo=>(b,o)
def E_{a:v_ Ch}{h:i8}{b:Ch}{o:Obj}(c:b∈a)(e:h.get? b=P3 o):(b,o)∈Lf a h:=List.mem_filterMap.mpr #[b,c,by rw[e]; rfl]
def VY{a:v_ Ch}{h:i8}{p:Ch×Obj}(c:p∈Lf a h):p.1∈a/\h.get? p.1=P3 p.2:=by
 let#[b,f,e]:=List.mem_filterMap.mp c;cases q:h.get? b with
 |none=>grind
 |some o=>
  rw[q]at e;have d:=iw e;subst d
  simp_all
def Inv.pinned{a:v_ (Ch×Obj)}{Z:St}{H:Hp}{s:On}{c:v_ Ch}(I:Inv X a Z H s)(g:∀b∈c,Gg X a H b)(h:∀b∈c,∃o,s.heap.get? b=P3 o/\∀v,o.data≠.cell v):Inv X (a++Lf c s.heap) Z H s:=
 I.pins_of λp i=>(i9.mp i).elim (λz=>I.pin p^f8 _ z) λz=>by
  let#[f,e]:=VY z;let#[j,k,l,_]:=g _ f;let#[o,m,d]:=h _ f
  grind
def Inv.unpinned{a b:v_ (Ch×Obj)}{Z:St}{H:Hp}{s:On}(I:Inv X (a++b) Z H s):Inv X a Z H s:=I.pins_of λp c=>I.pin p^f8 _^jM _ c
def Oq{a:jJ}{t:v_ jH}{wi:TI}{g:TG}{tb:TS}{pos:Pos}(C:pE (model X.prog X.w) X.A X.env X.xe)(hc:X.calm=t_)(hi:PI X tg a wi)(hg:PG X tg g)(c:PSs X t tb)
  (hs:∀x,foldedSetIterable a X.env x=pure x:=by intro _; rfl):PS X (.For tg a t [] pos)^gX wi g tb:=by
 intro z s Z H D I h;refine wpAny_For (thn (hi z s Z H _ I h) λv s1 h1=>thn h1 λa0 s2 h2=>?_) hs;let#[it,E,tn,J,H2,e,I2,T,R,f2,W,#[m0,w0],F]:=h2;subst e;have j:∀{q:Hp},(∀b∈E,q b=s_)->∀b∈E,Gg X z q b:=λhn b c=>#[hn b c,(f2 b c).2];refine codeAny_forLoop_any (λn s'=>∃i G q,Inv X z G q s'/\tn i s'.heap/\(∀b∈E,q b=s_)/\W i n G q) ?_ m0 #[0,Z,H2,I2,R,λb c=>(f2 b c).1,w0];rintro n s3 ⟨i,K,Q,I3,L,M,w3⟩
 rcases F i n K Q w3 with⟨O,qn⟩|⟨go,N,hN,step⟩
 .refine lS C^thn (T.done X rfl rfl rfl hc i z s3 K Q X.xe I3 (j M) L O) λr s4 #[S,I4]=>?_
  subst S;exact nL #[K,Q,I4,qn]
 .refine lS C^thn (T.item X rfl rfl rfl hc i z s3 K Q X.xe I3 (j M) L go) λr s4 #[u,S,h4]=>?_
  subst S;refine lS C^thn h4 λ_ s5 #[x,H5,I5,r5,y5,B,U]=>?_;have V:=I5.pinned (j U)^T.obj _ _ B;refine lS C^thn (hg _ s5 K H5 x u _ V r5^step x H5 y5) λ_ s6 #[Y,H6,I6,q6]=>?_;refine lS C^thn (c _ s6 Y H6 _ I6 q6) λf s7 y=>?_
  have again:∀{k:St}{l:Hp},Inv X (z++Lf E s5.heap) k l s7->N k l->∃m,m<n/\∃i G q,Inv X z G q s7/\tn i s7.heap/\(∀b∈E,q b=s_)/\W i m G q:=λ{k l} p P=>by
   let#[m',hm,w7]:=hN k l P;refine#[m',hm,i+1,k,l,p.unpinned,T.keep _ _ _ B λb c o e=>(p.pin (b,o)^f8 _^f8 _^E_ c e).1,λb c=>?_,w7];let#[o,e,d]:=T.obj _ _ B b c;exact(p.pin (b,o)^f8 _^f8 _^E_ c e).2.1
  cases f with
  |next=>let#[k,l,p,P]:=y; exact again p P
  |cont=>let#[k,l,p,P]:=y; exact again p P
  |brk=>let#[k,l,p,y]:=y; exact#[k,l,p.unpinned,y]
  |ret v=>let#[x7,k,l,p,r7,y]:=y; exact#[x7,k,l,p.unpinned,r7,y]
end
def Ug{K:Frag}{a:Ch}{xs:v_ V}{g:TG}{k:TS}{D:Ends}{Z:St}{H:Hp}(b:Nat->St->Hp->Prop)(n:b 0 Z H)(o:∀i Z H,i<=xs.length->b i Z H->SqT K H a xs)
  (r:∀i x Z H,xs[i]?=P3 x->b i Z H->g x Z H λd f=>k {D with nx:=b (i+1),ct:=b (i+1),bk:=D.nx} d f) (s:∀Z H,b xs.length Z H->D.nx Z H):
  ∃W:Nat->Nat->St->Hp->Prop,(∃m,W 0 m Z H)/\∀i m Z H,W i m Z H->
   ((dH K a).stop i H/\D.nx Z H)\/((dH K a).go i H/\∃N:St->Hp->Prop,(∀h c,N h c->∃l,l<m/\W (i+1) l h c)/\∀x c,(dH K a).yld i H x c->g x Z c λd f=>k {D with nx:=N,ct:=N,bk:=D.nx} d f):=by
 exists λi m Z H=>m=xs.length - i/\i<=xs.length/\b i Z H,#[xs.length,by simp,i6 _,n];rintro i m Z H ⟨rfl,t,p⟩;have q:=o i Z H t p
 by_cases j:i<xs.length
 .refine .inr #[#[xs,xs[i],q,by simp],_,λh c u=>#[_,by lk,rfl,j,u],λx c y=>?_]
  let#[e,y]:=y;subst e;exact r i x Z _ (y xs q) p
 .have e:i=xs.length:=by lk
  subst e;exact .inl #[#[xs,q,Rs _],s Z H p]
abbrev R2:=V->V->Hp->VK->Prop
def OpR(X:Cx)(f:Ev->Ev->Sem Ev)(r:R2):Prop:=
 ∀(a:v_ (Ch×Obj)) (s:On) (Z:St) (H:Hp) (x y:V) (v u:Ev) (Q:VK),Inv X a Z H s->RelV x v->RelV y u->r x y H Q->
  wpAny (model X.prog X.w) X.A (f v u) (EP X a Z Q) X.xe s
def g_(X:Cx)(f:Ev->Sem Ev)(r:V->Hp->VK->Prop):Prop:=
 ∀(a:v_ (Ch×Obj)) (s:On) (Z:St) (H:Hp) (x:V) (v:Ev) (Q:VK),Inv X a Z H s->RelV x v->r x H Q->
  wpAny (model X.prog X.w) X.A (f v) (EP X a Z Q) X.xe s
def DL(X:Cx)(f:Ev)(r:v_ V->Hp->VK->Prop):Prop:=
 ∀(a:v_ (Ch×Obj)) (s:On) (Z:St) (H:Hp) (b:v_ V) (c:v_ Ev) (Q:VK),Inv X a Z H s->Vals b c->r b H Q->
  wpAny (model X.prog X.w) X.A (call f c) (EP X a Z Q) X.xe s
def hU(X:Cx)(r:V->Hp->(Bool->Hp->Prop)->Prop):Prop:=
 ∀(a:v_ (Ch×Obj)) (s:On) (Z:St) (H:Hp) (x:V) (v:Ev) (Q:Bool->Hp->Prop),Inv X a Z H s->RelV x v->r x H Q->
  wpAny (model X.prog X.w) X.A (truthy v) (TP X a Z Q) X.xe s
def EX(r:R2)(a b:TE):TE:=λZ H Q=>a Z H λx c=>b Z c λy d=>r x y d Q
def iT(r:V->Hp->VK->Prop)(a:TE):TE:=λZ H Q=>a Z H λx b=>r x b Q
def rI(C:Int->Int->Prop)(g:Int->Int->V):R2:=λx y H Q=>∃i j,x=.int i/\y=.int j/\C i j/\Q (g i j) H
def Jm(g:Int->Int->V):R2:=λx y H Q=>∃i j,x=.int i/\y=.int j/\Q (g i j) H
def rU(g:Int->V):V->Hp->VK->Prop:=λx H Q=>∃i,x=.int i/\Q (g i) H
section
variable {X:Cx}{a b:Expr}{ta tb:TE}{pos:Pos}
def cz(k:PE X a ta)(l:PE X b tb){j:v_ (Ch×Obj)}{s:On}{Z:St}{H:Hp}{R:V->V->Hp->Prop}(I:Inv X j Z H s)
  (h:ta Z H λx i=>tb Z i λy c=>R x y c) {Q:Ev->On->Prop}{f:Ev->Ev->Sem Ev}
  (m:∀v u g x y c,Inv X j Z c g->RelV x v->RelV y u->R x y c->wpAny (model X.prog X.w) X.A (f v u) Q X.xe g):
  wpAny (model X.prog X.w) X.A (eval a X.env) (λv d=>wpAny (model X.prog X.w) X.A (eval b X.env) (λu e=>wpAny (model X.prog X.w) X.A (f v u) Q X.xe e) X.xe d) X.xe s:=thn (k _ s Z H _ I h) λv n #[x,i,o,p,q]=>thn (l _ n Z i _ o q) λu g #[y,c,r,t,z]=>m v u g x y c r p t z
def CL{c:Operator}{r:R2}(d:OpR X (binaryOp c) r)(e:PE X a ta)(f:PE X b tb):PE X (.BinOp a c b pos)^EX r ta tb:=λm s Z H Q I h=>wpAny_BinOp^cz e f I h λv u g x y i j k l q=>d _ g Z i x y v u Q j k l q
def eV{c:UnaryOp}{r:V->Hp->VK->Prop}(d:g_ X (unaryOp c) r)(e:PE X a ta):PE X (.UnaryOp c a pos)^iT r ta:=λl s Z H Q I h=>UnaryOp_^thn (e _ s Z H _ I h) λv f #[x,g,i,j,k]=>d _ f Z g x v Q i j k
def gA{f:Ev->Ev->Sem Ev}{C:Int->Int->Prop}{g:Int->Int->Int}
  (c:∀(i j:Int) (t u:Tok) (s:On) (Q:Ev->On->Prop) (E:Ev->On->Prop),C i j->Q (.int (g i j) s.toks) {s with toks:=s.toks+1}->wpAny (model X.prog X.w) X.A (f (.int i t)^.int j u) Q E s):
  OpR X f (rI C λi j=>.int^g i j):=by
 intro m s Z H x y v u Q I d e h;let#[i,j,rfl,rfl,k,q]:=h;let#[t,rfl]:=d;let#[l,rfl]:=e;exact c i j t l s _ _ k #[.int _,H,I.tok _,#[_,rfl],q]
def eZ{f:Ev->Ev->Sem Ev}{g:Int->Int->Int}
  (c:∀(i j:Int) (t u:Tok) (s:On) (Q:Ev->On->Prop) (E:Ev->On->Prop),Q (.int (g i j) s.toks) {s with toks:=s.toks+1}->wpAny (model X.prog X.w) X.A (f (.int i t)^.int j u) Q E s):
  OpR X f (Jm λi j=>.int^g i j):=by
 intro l s Z H x y v u Q I d e h;let#[i,j,rfl,rfl,q]:=h;let#[t,rfl]:=d;let#[k,rfl]:=e;exact c i j t k s _ _ #[.int _,H,I.tok _,#[_,rfl],q]
def ZX{f:Ev->Ev->Sem Ev}{g:Int->Int->Bool}
  (c:∀(i j:Int) (t u:Tok) (s:On) (Q:Ev->On->Prop) (E:Ev->On->Prop),Q (.bool^g i j) s->wpAny (model X.prog X.w) X.A (f (.int i t)^.int j u) Q E s):
  OpR X f (Jm λi j=>.bl^g i j):=by
 intro l s Z H x y v u Q I d e h;let#[i,j,rfl,rfl,q]:=h;let#[t,rfl]:=d;let#[k,rfl]:=e;exact c i j t k s _ _ #[.bl _,H,I,rfl,q]
def WN(i j:Int):Prop:=0<j/\j<1073741824
def NO(i j:Int):Prop:=0<=j/\j<=1000000/\i.natAbs<2 ^ 64
def CMul(i j:Int):Prop:=(-(2 ^ 64)<i/\i<2 ^ 64)\/(-(2 ^ 64)<j/\j<2 ^ 64)
def CMul.ok{i j:Int}(h:CMul i j):IntMulOk i j:=by
 rcases h with⟨c,d⟩|⟨c,d⟩
 .exact .of_left^intBits_le_64 c d
 .exact .of_right^intBits_le_64 c d
def op_add:OpR X (binaryOp .Add) (Jm λi j=>.int (i+j)):=eZ λ_ _ _ _ _ _ _ q=>add_int q
def op_sub:OpR X (binaryOp .Sub) (Jm λi j=>.int (i - j)):=eZ λ_ _ _ _ _ _ _ q=>sub_int q
def op_mul:OpR X (binaryOp .Mult) (rI CMul λi j=>.int (i*j)):=gA λ_ _ _ _ _ _ _ c q=>mul_int q c.ok
def Hi:OpR X (binaryOp .FloorDiv) (rI WN λi j=>.int (i / j)):=gA λi j _ _ _ _ _ c q=>by
 have d:=c.1;have e:=c.2;exact floordiv_int (by lk) (by grind)^.inl^PyProof.noPylong_small^by lk
def Fn:OpR X (binaryOp .Mod) (rI (λ_ j=>0<j) λi j=>.int (i % j)):=gA λi j _ _ _ _ _ c q=>mod_int' (by lk)^by rw[Int.fmod_eq_emod_of_nonneg i^by lk]; exact q
def G8:OpR X (binaryOp .Pow) (rI NO λi j=>.int (i ^ j.toNat)):=gA λ_ _ _ _ _ _ _ c q=>pow_int_small c.1 c.2.1 c.2.2 q
def iR{f:Ev->Sem Ev}{g:Int->Int}
  (c:∀(i:Int) (t:Tok) (s:On) (Q:Ev->On->Prop) (E:Ev->On->Prop),Q (.int (g i) s.toks) {s with toks:=s.toks+1}->wpAny (model X.prog X.w) X.A (f^.int i t) Q E s):
  g_ X f (rU λi=>.int^g i):=by
 intro e s Z H x v Q I d h;let#[i,rfl,q]:=h;let#[t,rfl]:=d;exact c i t s _ _ #[.int _,H,I.tok _,#[_,rfl],q]
def bF:g_ X (unaryOp .USub) (rU λi=>.int (-i)):=iR λ_ _ _ _ _ q=>neg_int q
end
def dr:V->V->Bool
 |.non,.non=>t_|.non,.int _=>t_|.int _,.non=>t_|.non,.bl _=>t_|.bl _,.non=>t_|.non,.str _=>t_|.str _,.non=>t_
 |.int _,.int _=>t_|.bl _,.bl _=>t_|.str _,.str _=>t_|.byt _,.byt _=>t_
 |.int _,.str _=>t_|.str _,.int _=>t_|.bl _,.str _=>t_|.str _,.bl _=>t_
 |_,_=>u_
def iH:R2:=λx y H Q=>dr x y=t_/\Q (.bl (decide (x=y))) H
def iE:R2:=λx y H Q=>dr x y=t_/\Q (.bl (!decide (x=y))) H
def Kq{i j:Int}:decide (V.int i=V.int j)=(i==j):=by
 rw[je];simp
def PM{i j:Bool}:decide (V.bl i=V.bl j)=(i==j):=by
 rw[je];simp
def Kp{i j:Str}:decide (V.str i=V.str j)=(i==j):=by
 rw[je];simp
def Uu{i j:Array UInt8}:decide (V.byt i=V.byt j)=(i.toList==j.toList):=by
 rw[je]
 simp_all
section
variable {X:Cx}{a b:Expr}{ta tb:TE}{pos:Pos}
def BK{c:v_ (Ch×Obj)}{Z:St}{H:Hp}{s:On}{Q:VK}{k d:Bool}(I:Inv X c Z H s)(q:Q (.bl k) H)(e:k=d):EP X c Z Q (.bool d) s:=by
 subst e;exact#[.bl k,H,I,rfl,q]
def EB:OpR X (compareOp .Eq) iH:=by
 intro g s Z H x y v u Q I f c h;let#[e,q]:=h;cases x with
 |non=>
  cases f;cases y with
  |non=>cases c; exact PySem.EqNone.eq_none_none^BK I q^by simp
  |bl j=>cases c; exact PySem.EqNone.eq_none_bool^BK I q^by simp
  |int j=>let#[d,rfl]:=c; exact PySem.EqNone.eq_none_int^BK I q^by simp
  |str j=>let#[d,rfl]:=c; exact PySem.EqNone.eq_none_str^BK I q^by simp
  |_=>exact absurd (show u_=t_ from e) jF
 |bl i=>
  cases f;cases y with
  |non=>cases c; exact PySem.EqNone.eq_bool_none^BK I q^by simp
  |bl j=>cases c; exact eq_bool^BK I q PM
  |str j=>let#[d,rfl]:=c; exact PySem.EqMixed.eq_bool_str^BK I q^by simp
  |_=>exact absurd (show u_=t_ from e) jF
 |int i=>
  let#[t,rfl]:=f;cases y with
  |non=>cases c; exact PySem.EqNone.eq_int_none^BK I q^by simp
  |int j=>let#[d,rfl]:=c; exact eq_int^BK I q Kq
  |str j=>let#[d,rfl]:=c; exact PySem.EqMixed.eq_int_str^BK I q^by simp
  |_=>exact absurd (show u_=t_ from e) jF
 |str i=>
  let#[t,rfl]:=f;cases y with
  |non=>cases c; exact PySem.EqNone.eq_str_none^BK I q^by simp
  |bl j=>cases c; exact PySem.EqMixed.eq_str_bool^BK I q^by simp
  |int j=>let#[d,rfl]:=c; exact PySem.EqMixed.eq_str_int^BK I q^by simp
  |str j=>let#[d,rfl]:=c; exact eq_str^BK I q Kp
  |_=>exact absurd (show u_=t_ from e) jF
 |byt i=>
  let#[t,rfl]:=f;cases y with
  |byt j=>let#[d,rfl]:=c; exact PySem.W.eq_bytes^BK I q Uu
  |_=>exact absurd (show u_=t_ from e) jF
 |_=>cases y <;>exact absurd (show u_=t_ from e) jF
def EA:OpR X (compareOp .NotEq) iE:=by
 intro g s Z H x y v u Q I f c h;let#[e,q]:=h;cases x with
 |non=>
  cases f;cases y with
  |non=>cases c; exact PySem.EqNone.ne_none_none^BK I q^by simp
  |bl j=>cases c; exact PySem.EqNone.ne_none_bool^BK I q^by simp
  |int j=>let#[d,rfl]:=c; exact PySem.EqNone.ne_none_int^BK I q^by simp
  |str j=>let#[d,rfl]:=c; exact PySem.EqNone.ne_none_str^BK I q^by simp
  |_=>exact absurd (show u_=t_ from e) jF
 |bl i=>
  cases f;cases y with
  |non=>cases c; exact PySem.EqNone.ne_bool_none^BK I q^by simp
  |bl j=>cases c; exact ne_bool^BK I q^congrArg not PM
  |str j=>let#[d,rfl]:=c; exact PySem.EqMixed.ne_bool_str^BK I q^by simp
  |_=>exact absurd (show u_=t_ from e) jF
 |int i=>
  let#[t,rfl]:=f;cases y with
  |non=>cases c; exact PySem.EqNone.ne_int_none^BK I q^by simp
  |int j=>let#[d,rfl]:=c; exact ne_int^BK I q^congrArg not Kq
  |str j=>let#[d,rfl]:=c; exact PySem.EqMixed.ne_int_str^BK I q^by simp
  |_=>exact absurd (show u_=t_ from e) jF
 |str i=>
  let#[t,rfl]:=f;cases y with
  |non=>cases c; exact PySem.EqNone.ne_str_none^BK I q^by simp
  |bl j=>cases c; exact PySem.EqMixed.ne_str_bool^BK I q^by simp
  |int j=>let#[d,rfl]:=c; exact PySem.EqMixed.ne_str_int^BK I q^by simp
  |str j=>let#[d,rfl]:=c; exact ne_str^BK I q^congrArg not Kp
  |_=>exact absurd (show u_=t_ from e) jF
 |byt i=>
  let#[t,rfl]:=f;cases y with
  |byt j=>let#[d,rfl]:=c; exact PySem.W.ne_bytes^BK I q^congrArg not Uu
  |_=>exact absurd (show u_=t_ from e) jF
 |_=>cases y <;>exact absurd (show u_=t_ from e) jF
def op_lt:OpR X (compareOp .Lt) (Jm λi j=>.bl (decide (i<j))):=ZX λ_ _ _ _ _ _ _ q=>pK q
def op_le:OpR X (compareOp .LtE) (Jm λi j=>.bl (decide (i<=j))):=ZX λ_ _ _ _ _ _ _ q=>le_int q
def aY:OpR X (compareOp .Gt) (Jm λi j=>.bl (decide (j<i))):=ZX λ_ _ _ _ _ _ _ q=>gt_int q
def aZ:OpR X (compareOp .GtE) (Jm λi j=>.bl (decide (j<=i))):=ZX λ_ _ _ _ _ _ _ q=>ge_int q
def VW:OpR X (compareOp .Lt) (λx y H Q=>∃i j,x=.str i/\y=.str j/\Q (.bl (decide (i.cps.toList<j.cps.toList))) H):=by
 intro e s Z H x y v u Q I c d h;let#[i,j,rfl,rfl,q]:=h;let#[t,rfl]:=c;let#[f,rfl]:=d;exact lt_str (BK I q rfl)
def EN:OpR X (compareOp .Is) (λx y H Q=>y=.non/\Q (.bl (decide (x=.non))) H):=by
 intro e s Z H x y v u Q I c d h;let#[rfl,q]:=h;cases d;refine is_none_gen^BK I q ?_
 cases x <;>first
  |omega
  |(let#[t,rfl]:=c; rfl)
def DV:OpR X (compareOp .IsNot) (λx y H Q=>y=.non/\Q (.bl (!decide (x=.non))) H):=by
 intro e s Z H x y v u Q I c d h;let#[rfl,q]:=h;cases d;refine isnot_none_gen^BK I q ?_
 cases x <;>first
  |omega
  |(let#[t,rfl]:=c; rfl)
def OpR.or{f:Ev->Ev->Sem Ev}{r c:R2}(h:OpR X f r)(g:OpR X f c):OpR X f (λx y H Q=>r x y H Q\/c x y H Q):=by
 intro i s Z H x y v u Q I d e q
 rcases q with q|q
 .exact h _ s Z H x y v u Q I d e q
 .exact g _ s Z H x y v u Q I d e q
def Ak(b:jJ){c:CmpOp}(h:c≠.In:=by cbv)(f:c≠.NotIn:=by cbv):behindInMarks c b=u_:=by
 have d:(c==CmpOp.In)=u_:=by grind
 have e:(c==CmpOp.NotIn)=u_:=by grind
 cases b <;>simp[behindInMarks,d,e]
def ZT{c:CmpOp}{r:R2}(d:OpR X (compareOp c) r)(e:PE X a ta)(f:PE X b tb)(g:behindInMarks c b=u_):PE X (.Compare a [c] [b] pos)^EX r ta tb:=λn s Z H Q I h=>wpAny_Compare1 (cz e f I h λv u i x y j k l m q=>d _ i Z j x y v u Q k l m q) g
def Wh(t:TE):TT:=λZ H Q=>t Z H λx c=>∃k,x=.bl k/\Q k c
def Hc{d:CmpOp}{r:R2}(f:OpR X (compareOp d) r)(g:PE X a ta)(i:PE X b tb)(j:behindInMarks d b=u_):PT X (.Compare a [d] [b] pos)^Wh^EX r ta tb:=by
 intro G s Z H Q I h
 refine wpAny_isTrue_Compare1 (thn (g _ s Z H _ I h) λv l #[x,m,n,o,p]=>thn (i _ l Z m _ n p) λu q #[y,t,w,A,B]=>
  thn (f _ q Z t x y v u _ w o A B) λc J #[z,C,D,E,k,e,F]=>?_) j
 subst e;cases E;exact lC #[C,D,F]
def dC(K:Frag)(x:V)(H:Hp)(k:Bool):Prop:=
 match x with
 |.non=>k=u_
 |.bl b=>k=b
 |.int i=>k=(i !=0)
 |.str y=>y.length<=sizeLine/\k=((y.length:Int) !=0)
 |.byt y=>y.size<=sizeLine/\k=((y.size:Int) !=0)
 |.ref p=>(∃c,SqL K H p c/\k=!c.isEmpty)\/(∃c,SqT K H p c/\k=!c.isEmpty)\/∃d,H p=P3^.dK d/\k=!d.isEmpty
 |_=>False
def Sy{d:Type}{c:v_ (d×V)}{e:v_ (d×Ev)}(r:KV c e):(!e.isEmpty)=!c.isEmpty:=by
 cases r <;>rfl
def L0{d:v_ V}{c:v_ Ev}(r:Vals d c):(!c.toArray.isEmpty)=!d.isEmpty:=by
 cases r <;>simp
def JC:(sizeLine:Nat)<2 ^ 63:=by cbv
def bJ:hU X (λx H Q=>∃k,dC X.K x H k/\Q k H):=by
 intro C s Z H x v Q I j h;let#[k,e,q]:=h;have D:=JC;have E:sizeLine=16777216:=jX;cases x with
 |non=>
  cases j;have c:k=u_:=e;subst c;exact truthy_none #[H,I,q]
 |bl b=>
  cases j;have c:k=b:=e;subst c;exact lC #[H,I,q]
 |int i=>
  let#[t,rfl]:=j;have c:k=(i !=0):=e;subst c;exact PySem.P.truthy_int #[H,I,q]
 |str y=>
  let#[t,rfl]:=j;obtain⟨A,c⟩:y.length<=sizeLine/\k=((y.length:Int) !=0):=e;subst c;exact PySem.P.truthy_str (by lk) #[H,I.tok _,q]
 |byt y=>
  let#[t,rfl]:=j;obtain⟨A,c⟩:y.size<=sizeLine/\k=((y.size:Int) !=0):=e;subst c;exact PySem.W.truthy_bytes (by lk) #[H,I.tok _,q]
 | ref p=>
  cases j;have c:(∃g,SqL X.K H p g/\k=!g.isEmpty)\/(∃g,SqT X.K H p g/\k=!g.isEmpty)\/∃d,H p=P3^.dK d/\k=!d.isEmpty:=e
  rcases c with⟨g,l,c⟩|⟨g,l,c⟩|⟨d,l,c⟩
  .subst c
   let#[o,r,u,z]:=I.list l;have f:=r.length;exact wpAny_truthy_list u.isList (by simp only[iy]; omega) #[H,I.tok _,by rw[L0 r]; exact q]
  .subst c
   let#[o,r,u,z]:=I.tuple l;have f:=r.length;exact truthy_tuple u (by simp only[iy]; omega) #[H,I.tok _,by rw[L0 r]; exact q]
  .subst c
   obtain⟨z,B,n,r,m⟩:d.length<=sizeLine/\(p==sysModules)=u_/\∃n,KV d n/\s.heap.DictOf (BM X.prog X.w) p n:=I.hok p _ l;have f:d.length=n.length:=Paired.length r;exact wpAny_truthy_dict B m (by lk) #[H,I.tok _,by rw[Sy r]; exact q]
 |_=>exact(show False from e).elim
def XM(e:PE X a ta)(f:∀c,isTrue a X.env c=(do let v ←c; standAt a.pos; holding [v]^truthy v)):
  PT X a (λZ H Q=>ta Z H λx d=>∃k,dC X.K x d k/\Q k d):=λn s Z H Q I h=>isTrue_plain (thn (e _ s Z H _ I h) λv g #[x,i,j,l,m]=>bJ _ g Z i x v Q j l m)^f _
def Sl:OpR X (binaryOp .Add) (λx y H Q=>∃i j,x=.str i/\y=.str j/\i.length+j.length<=sizeLine/\Q (.str (i++j)) H):=by
 intro g s Z H x y v u Q I c d h;let#[i,j,rfl,rfl,e,q]:=h;let#[t,rfl]:=c;let#[f,rfl]:=d;exact add_str (λf k=>#[.str _,H,I.tok _,#[_,rfl],q]) e
def vals1{x:V}{c:v_ Ev}(r:Vals [x] c):∃u,c=[u]/\RelV x u:=by
 cases r with
 |cons e d=>cases d; grind
def vals2{x y:V}{c:v_ Ev}(r:Vals [x,y] c):∃u d,c=[u,d]/\RelV x u/\RelV y d:=by
 cases r with
 |cons e f=>
  cases f with
  |cons g h=>cases h; exact#[_,_,rfl,e,g]
def MN:DL X (.builtin "abs") (λc H Q=>∃i,c=[.int i]/\Q (.int (if i<0 then -i else i)) H):=by
 intro d s Z H c e Q I r h;let#[i,rfl,q]:=h;let#[u,rfl,t,rfl]:=vals1 r;exact call_abs_int λu f=>#[.int _,H,I.tok _,#[_,rfl],q]
def OB(e:X.calm=t_):DL X (.builtin "min") (λd H Q=>∃i j,d=[.int i,.int j]/\Q (.int (if j<i then j else i)) H):=by
 intro f s Z H d g Q I r h;let#[i,j,rfl,q]:=h;let#[u,l,rfl,#[t,rfl],#[m,rfl]]:=vals2 r;refine min_two_ints (I.ok.hd e) λn o k=>#[_,H,I.kept k,?_,q]
 by_cases c:j<i
 .rw[if_pos c,if_pos c]; exact#[_,rfl]
 .rw[if_neg c,if_neg c]; exact#[_,rfl]
def V9:DL X (.type "int") (λc H Q=>(∃i,c=[.int i]/\Q (.int i) H)\/∃k,c=[.bl k]/\Q (.int (if k then 1 else 0)) H):=by
 intro e s Z H c f Q I r h
 rcases h with⟨i,rfl,q⟩|⟨k,rfl,q⟩
 .let#[u,rfl,t,rfl]:=vals1 r
  exact call_int_int #[.int i,H,I,#[_,rfl],q]
 .let#[u,rfl,d]:=vals1 r
  cases d;exact call_int_bool #[.int _,H,I.tok _,#[_,rfl],q]
def dG(K:Frag)(x:V)(H:Hp)(n:Nat):Prop:=
 match x with
 |.str y=>y.length<=sizeLine/\n=y.length
 |.byt y=>y.size<=sizeLine/\n=y.size
 |.ref p=>(∃c,SqL K H p c/\n=c.length)\/∃c,SqT K H p c/\n=c.length
 |_=>False
def A0:DL X (.builtin "len") (λc H Q=>∃x n,c=[x]/\dG X.K x H n/\Q (.int n) H):=by
 intro v s Z H c w Q I r h;let#[x,n,rfl,e,q]:=h;let#[u,rfl,g]:=vals1 r;have z:=JC;have A:sizeLine=16777216:=jX;cases x with
 |str y=>
  let#[t,rfl]:=g;obtain⟨m,f⟩:y.length<=sizeLine/\n=y.length:=e;subst f;exact len_str (by lk) #[.int _,H,I.tok _,#[_,rfl],q]
 |byt y=>
  let#[t,rfl]:=g;obtain⟨m,f⟩:y.size<=sizeLine/\n=y.size:=e;subst f;exact PySem.W.len_bytes (by lk) #[.int _,H,I.tok _,#[_,rfl],q]
 | ref p=>
  cases g;have f:(∃c,SqL X.K H p c/\n=c.length)\/∃c,SqT X.K H p c/\n=c.length:=e
  rcases f with⟨c,i,f⟩|⟨c,i,f⟩
  .subst f
   let#[j,k,l,o]:=I.list i;have d:=k.length;exact Calls.call_len_list l.isList (by simp only[iy]; omega) #[.int c.length,H,I.tok _,#[_,by simp only[iy]; rw[d]],q]
  .subst f
   let#[j,k,l,o]:=I.tuple i;have d:=k.length;exact len_tuple l (by simp only[iy]; omega) #[.int c.length,H,I.tok _,#[_,by simp only[iy]; rw[d]],q]
 |_=>exact(show False from e).elim
end
structure ObjM (h:i8) (x dx C:Ch) (mA:Str->Option Ev):Prop where
 obj:h.get? x=P3 (PySem.W.instObj C dx)
 ns:h.Ns1 dx mA
 ne:dx≠x
def Vo{h:i8}{d:Ch}{f:Str->w_ Ev}(n:h.Ns1 d f):∃g,h.get? d=P3 g/\∀b,PySem.W.lookIn b g=P3^f b:=by
 let#[o,i,q,j,k,l,_,m]:=n;refine#[o,j,λb=>?_];have e:=m b;unfold nsFind findBy at e;unfold PySem.W.lookIn;rw[k]
 dsimp only
 split
 .simp_all
 .have a:i.toList.any (·.refKey)=u_:=by
   rw[List.any_eq_false];intro y p;let#[z,t,c]:=l y^pZ.mp p;simp[DictEntry.refKey,c]
  grind
def ObjM.look{h:i8}{x c C:Ch}{d:Str->w_ Ev}(I:ObjM h x c C d):∃b,PySem.W.InstAt h x (PySem.W.instObj C c) C^P3 b/\∀a,PySem.W.lookIn a b=P3^d a:=
 let #[b,e,f]:=Vo I.ns
 #[b,#[I.obj,rfl,rfl,e],f]
def RelO.some_of{v:V}{o:w_ Ev}(r:RelO (P3 v) o):∃u,o=P3 u/\RelV v u:=by
 cases o with
 |none=>exact(r).elim
 |some u=>exact#[u,rfl,r]
section
variable {P:Program}{w:World}{H:Hp}{h:Heap}{a C dx:Addr}{fs:v_ (Str×V)}
def Kg(c:HOk P w H h)(e:H a=P3^.ins C dx fs):∃b,ObjM h a dx C b/\(∀f,RelO (fs.lookup f)^b f)/\PySem.Within b (fs.map (·.1))/\fs.length<=1000/\H dx=P3^.own a:=by
 let#[d,z,g,i,b,n,r,q]:=(c a _ e);exact#[b,#[i,n,g],r,q,z,d]
end
structure Cls (K:Frag) (C:Ch):Prop where
 pg:PySem.W.plainGet K C Str.empty=t_
 hd:PySem.W.hasDictIn K C=t_
 po:PySem.W.plainOver K C=t_
 sa:PySem.W.findIn K (.ref C) "__setattr__"=P3^P3^.builtin "object.__setattr__"
def Cls.get{K:Frag}{C:Ch}(c:Cls K C)(f:Str):PySem.W.plainGet K C f=t_:=c.pg
structure im (K:Frag) (C:Ch) (f:Str) (v:V) (u:Ev):Prop where
 at_:PySem.W.findIn K (.ref C) f=P3 (P3 u)
 rel:RelV v u
 get:PySem.W.specialIn K u "__get__"=P3 s_
 cp:PySem.W.copiedNames.contains f=u_
structure ig (K:Frag) (C:Ch) (m:Str) (f:Ch):Prop where
 at_:PySem.W.findIn K (.ref C) m=P3 (P3^.ref f)
 fn:PySem.W.isFn K^.ref f=t_
 kp:keepIn K^.ref f=t_
section
variable {X:Cx}{zH:v_ (Addr×Obj)}{Z:St}{H:Hp}{s:Shared}{A:Around}{E:Value->Shared->Prop}{Q:Value->Shared->Prop}{c:Value}{b:Bool}
inductive HG (K:Frag) (H:Hp):V->Ev->Prop where
 |non:HG K H .non^.type "NoneType"
 |bl (x:Bool):HG K H (.bl x)^.type "bool"
 |int (i:Int):HG K H (.int i)^.type "int"
 |str (x:Str):HG K H (.str x)^.type "str"
 |flt (x:UInt64):HG K H (.flt x)^.type "float"
 |lst {a:Ch}{xs:List V} (e:H a=P3^.lst xs):HG K H (.ref a)^.type "list"
 |frz {a:Ch}{o:Obj}{xs:List V} (e:H a=P3^.frz o^.lst xs):HG K H (.ref a)^.type "list"
 |tup {a:Ch}{xs:List V} (e:H a=P3^.tup xs):HG K H (.ref a)^.type "tuple"
 |dF {a:Ch}{o:Obj}{kvs:List (Key×V)} (e:H a=P3^.frz o^.dK kvs):HG K H (.ref a)^.type "dict"
 |dK {a:Ch}{kvs:List (Key×V)} (e:H a=P3^.dK kvs):HG K H (.ref a)^.type "dict"
 |dT {a:Ch}{kvs:List (List Key×V)} (e:H a=P3^.dT kvs):HG K H (.ref a)^.type "dict"
 | ins {a C dx:Ch}{fs:List (Str×V)} (e:H a=P3^.ins C dx fs) (cl:Cls K C) (ha:PySem.W.findIn K (.ref C) "__class__"=P3^P3^.builtin "object.__class__")
   (hn:PySem.W.specialIn K (.builtin "object.__class__") "__get__"=P3^P3^.builtin "getset_descriptor.__get__") (htk:PySem.W.takesIn K^.builtin "object.__class__"=P3 t_)
   (hm:PySem.W.mroIn K C^.type "object"=P3 t_):HG K H (.ref a)^.ref C
def Vt{x:V}{u t:Ev}(I:Inv X zH Z H s)(f:RelV x u)(ty:HG X.K H x t)(e:PySem.W.kitOne X.K t c=P3 b)(h:∀F,Q (.bool b) {s with toks:=F}):
  wpAny (model X.prog X.w) A (call (.builtin "isinstance") [u,c]) Q E s:=by
 cases ty with
 |non=>cases(show u=jg from f); exact PySem.W.kia_one PySem.W.kitx_none I.kIn lK e (λz=>nomatch z) h
 |bl y=>cases(show u=og y from f); exact PySem.W.kia_one PySem.W.kitx_bool I.kIn lK e (λz=>nomatch z) h
 |int i=>let#[t,q]:=(show ∃t,u=Value.int i t from f); cases q; exact PySem.W.kia_one PySem.W.kitx_int I.kIn lK e (λz=>nomatch z) h
 |str y=>let#[t,q]:=(show ∃t,u=lY y t from f); cases q; exact PySem.W.kia_one PySem.W.kitx_str I.kIn lK e (λz=>nomatch z) h
 |flt y=>let#[t,q]:=(show ∃t,u=Value.float y t from f); cases q; exact PySem.W.kia_one PySem.W.kitx_float I.kIn lK e (λz=>nomatch z) h
 |@lst a l d=>
  cases(show u=ja a from f);let#[_,_,n,_,g]:=(show ObjOk X.prog X.w H s.heap a^.lst l from I.hok a _ d);exact PySem.W.kia_one PySem.W.kitx_list I.kIn #[_,g,rfl] e (λz=>nomatch z) h
 |@frz a m l d=>
  cases(show u=ja a from f);let#[_,_,_,n,_,g]:=(show ObjOk X.prog X.w H s.heap a^.frz m^.lst l from I.hok a _ d);exact PySem.W.kia_one PySem.W.kitx_list I.kIn #[_,g,rfl] e (λz=>nomatch z) h
 |@tup a l d=>
  cases(show u=ja a from f);let#[_,_,_,p]:=(show ObjOk X.prog X.w H s.heap a^.tup l from I.hok a _ d);let#[o,g,k,_]:=p;exact PySem.W.kia_one PySem.W.kitx_tuple I.kIn #[o,g,k] e (λz=>nomatch z) h
 |@dF a m j d=>
  cases(show u=ja a from f);let#[_,_,_,G,_,p]:=(show ObjOk X.prog X.w H s.heap a^.frz m^.dK j from I.hok a _ d);let#[o,v,B,g,k,_]:=p;exact PySem.W.kia_one PySem.W.kitx_dict I.kIn #[o,g,k.1] e (λz=>nomatch z) h
 |@dK a j d=>
  cases(show u=ja a from f);let#[_,_,G,_,p]:=(show ObjOk X.prog X.w H s.heap a^.dK j from I.hok a _ d);let#[o,v,B,g,k,_]:=p;exact PySem.W.kia_one PySem.W.kitx_dict I.kIn #[o,g,k.1] e (λz=>nomatch z) h
 |@dT a j d=>
  cases(show u=ja a from f);let#[_,_,l,_,o,v,B,g,k,_]:=(show ObjOk X.prog X.w H s.heap a^.dT j from I.hok a _ d);exact PySem.W.kia_one PySem.W.kitx_dict I.kIn #[o,g,k.1] e (λz=>nomatch z) h
 |@ins a C P R d D L M r N=>
  cases(show u=ja a from f);let#[S,O,_]:=Kg I.hok d;let#[T,J,_]:=O.look;exact PySem.W.kia_one (PySem.W.kitx_own (D.get _) D.hd L M r N) I.kIn J e (λz=>nomatch z) h
end
structure Room (k:Nat) (A:jd):Prop where
 hd:A.handled=s_
 dp:A.depth+3*k+5<recursionLimit
 un:A.units+16*k+200<cLine
 gd:A.guards=P3 []
def Room.mono{j k:Nat}{A:jd}(r:Room k A)(h:j<=k):Room j A:=#[r.hd,by have:=r.dp; omega,by have:=r.un; omega,by first|exact r.gd|grind|grind]
def Room.deeper{k:Nat}{A:jd}(r:Room (k+1) A)(a:Env):Room k^A.deeper a:=
 #[r.hd,by have:=r.dp; show A.depth+1+3*k+5<_; omega,by have:=r.un; show A.units+3+16*k+200<_; omega,by first|exact r.gd|omega|grind]
def Room.in1{k:Nat}{A:jd}(r:Room (k+1) A):Room k A.in1:=
 #[r.hd,by have:=r.dp; grind,by have:=r.un; grind,by first|exact r.gd|omega|grind]
def Room.depth{k:Nat}{A:jd}(r:Room k A):A.depth<recursionLimit:=by have:=r.dp; omega
def Room.units{k:Nat}{A:jd}(r:Room k A):A.units+64<cLine:=by have:=r.un; omega
def Room.units0{k:Nat}{A:jd}(r:Room k A):A.units<cLine:=by have:=r.un; omega
def Wi:TA:=λ_ H Q=>Q [] H
def QF(a:TE)(b:TA):TA:=λZ H Q=>a Z H λx c=>b Z c λd e=>Q (x::d) e
section
variable {X:Cx}{e:Expr}{es:v_ Expr}{te:TE}{t:TA}{pos:Pos}
def C4:PA X [] Wi:=λ_ _ _ _ H Q I h=>km #[[],H,I,.nil,h]
def B8(a:PE X e te)(b:PA X es t)(c:starEach (e::es) X.env=(u_,eval e X.env)::starEach es X.env:=by rfl):PA X (e::es)^QF te t:=by
 intro d p s Z H Q I h;rw[c];exact kT^thn (a _ s Z H _ I h) λu f #[x,g,i,j,k]=>thn (b _ _ f Z g _ i k) λq r #[v,l,m,n,o]=>#[_,l,m,.cons j n,o]
def gR(t:TA):TE:=λZ H Q=>t Z H λa b=>a.length<=sizeLine/\∀p,b p=s_->Q (.ref p)^BQ b p^.tup a
def gU(t:TA):TE:=λZ H Q=>t Z H λa b=>a.length<=sizeLine/\∀p,b p=s_->Q (.ref p)^BQ b p^.lst a
def bj{x1}(h:PA X es t):PE X (.Tuple es x1 pos)^gR t:=by
 intro f s Z H Q I g;refine wpAny_Tuple_spliced^thn (h pos f s Z H _ I g) λi a #[j,c,d,r,z,q]=>#[by rw[←r.length]; exact z,?_];have k:c a.heap.objs.size=s_:=d.hok.fresh^Rs _;refine#[.ref a.heap.objs.size,BQ c a.heap.objs.size^.tup j,d.laid (t':=a.toks) (λb u e=>Go _ e) (Rs _) ?_,rfl,q _ k];exact#[z,i,r,IsTupN.new _ _]
def Sg(h:PA X es t):PE X (.List es pos)^gU t:=by
 intro f s Z H Q I g;refine wpAny_List_spliced^thn (h pos f s Z H _ I g) λi a #[j,c,d,r,z,q]=>#[by rw[←r.length]; exact z,?_];have k:c a.heap.objs.size=s_:=d.hok.fresh^Rs _;refine#[.ref a.heap.objs.size,BQ c a.heap.objs.size^.lst j,d.laid (t':=a.toks) (λb u e=>Go _ e) (Rs _) ?_,rfl,q _ k];exact#[z,i,0,r,XV _ rfl]
end
abbrev Sp:=v_ V->Hp->VK->XK->Prop
abbrev Y3:=v_ Env->Hp->On->XK->Ev->On->Prop
structure Env0 (P:jK) (w:jQ) (K:Frag) (mg:Str->Option Ev) (base:i8) (A:jd) (outer:List Env) (s:On) (H:Hp):Prop where
 frames:A.frames=P3 outer
 mod:Mod K mg base
 bs:∀b o,base.get? b=P3 o->s.heap.get? b=P3 o/\H b=s_
 bsz:base.objs.size<=s.heap.objs.size
 funs:s.heap.FunFrames base outer
 frf:∀b∈Ue outer,H b=s_
 hok:HOk P w H s.heap
 bare:my s.gens
def CE(a:v_ Env)(P:jK)(w:jQ)(H:Hp)(s:On)(Q:VK)(u:Ev)(b:On):Prop:=
 ∃v c,b.os=s.os/\my b.gens/\Un (Ue a) [] H c s.heap b.heap/\HOk P w c b.heap/\RelV v u/\Q v c
def CR(c:Y3)(a:v_ Env)(P:jK)(w:jQ)(H:Hp)(s:On)(Q:VK)(E:XK)(r:Result)(b:On):Prop:=
 match r with
 |.ok (.ret u)=>CE a P w H s Q u b
 |.ok _=>False
 |.error e=>c a H s E e b
structure D6 (P:jK) (w:jQ) (K:Frag) (mg:Str->Option Ev) (base:i8) (CX:Y3) (k:Nat) (f:Ch) (fd:jt) (ps:List Str) (sp:Sp):Prop where
 len:∀vs H Q E,sp vs H Q E->vs.length=ps.length
 run:∀(A:jd) (outer:List Env) (s:On) (H:Hp) (args:Args) (us:List Ev) (vs:List V) (Q:VK) (E:XK),Room k A->Env0 P w K mg base A outer s H->n_ s fd args^ps.zip us->Vals vs us->sp vs H Q E->
  codeAny (model P w) A (.call (.ref f) args) (CR CX outer P w H s Q E) s
def Env0.in1{P:jK}{w:jQ}{K:Frag}{c:Str->w_ Ev}{b:i8}{A:jd}{a:v_ Env}{s:On}{H:Hp}(e:Env0 P w K c b A a s H):
  Env0 P w K c b A.in1 a s H:=#[e.frames,e.mod,e.bs,e.bsz,e.funs,e.frf,e.hok,e.bare]
section
variable {X:Cx}{zH:v_ (Addr×Obj)}{Z:St}{H:Hp}{s s':Shared}
def Inv.env0(I:Inv X zH Z H s):Env0 X.prog X.w X.K X.mg X.base X.A X.stack s H:=
 #[I.ok.frames,I.ok.mod,I.bs,iz I.ok.bsz I.sz,I.stack,I.stkFree,I.hok,I.bare]
def Inv.after{Q:VK}{u:Ev}(I:Inv X zH Z H s)(h:CE X.stack X.prog X.w H s Q u s'):EP X zH Z Q u s':=by
 let#[v,f,i,a,j,c,r,q]:=h;let#[k,g,d,t,e]:=s';obtain rfl:e=s.os:=i;exact#[v,f,I.call j c a λb z=>absurd z^by simp,r,q]
end
def Wm(b:Sp)(a:v_ V)(E:XK)(t:TA):TE:=λZ H Q=>t Z H λc d=>b (c++a) d Q E
def Binds(K:Frag)(fd:jt)(b:v_ Str)(c:v_ Ev):Prop:=
 ∀(s:On) (a:v_ Ev),K.In s.heap->(a++c).length=b.length->n_ s fd #[a,[]]^b.zip (a++c)
def Binds.all{K:Frag}{fd:jt}{b:v_ Str}(h:∀a:v_ Ev,a.length=b.length->bindArgs fd #[a,[]]=pure^b.zip a):Binds K fd b []:=λs a _ c=>by
 rw[jE]at c ⊢;exact .of_eq^h a c
def Tr(b:Y3)(X:Cx)(E:XK):Prop:=∀(c:v_ (Ch×Obj)) (Z:St) (H:Hp) (s:On) (e:Ev) (a:On),Inv X c Z H s->b X.stack H s E e a->X.xe e a
section
variable {X:Cx}{CX:Y3}{k:Nat}{f C:Addr}{fd:FuncData}{ps:v_ Str}{sp:Sp}{dvs:v_ V}{ds:v_ Value}{E:XK}{x:Str}{p pos:Pos}{e:Expr}{es:v_ Expr}{t:TA}
def bY{d:v_ (Ch×Obj)}{Z:St}{H:Hp}{s:On}{Q:VK}{a:v_ Ev}{c:v_ V}(F:D6 X.prog X.w X.K X.mg X.base CX k f fd ps sp)(i:Room k X.A)(j:Binds X.K fd ps ds)(l:Vals dvs ds)(m:Tr CX X E)
  (I:Inv X d Z H s) (r:Vals c a) (h:sp (c++dvs) H Q E):wpAny (model X.prog X.w) X.A (call (.ref f) a) (EP X d Z Q) X.xe s:=by
 have g:Vals (c++dvs) (a++ds):=r.append l;have n:(a++ds).length=ps.length:=by rw[←g.length]; exact F.len _ _ _ _ h
 refine nN^mh (F.run X.A X.stack s H #[a,[]] (a++ds) (c++dvs) Q E i I.env0 (j s a I.kIn n) g h) λr o b=>?_;cases r with
 |error e=>exact m d Z H s e o I b
 |ok q=>
  cases q with
  |ret u=>exact I.after b
  |next=>exact kg b
  |brk=>exact kg b
  |cont=>exact kg b
def UM(F:D6 X.prog X.w X.K X.mg X.base CX k f fd ps sp)(d:Room k X.A)(g:Gl X x)(i:X.mg x=P3^.ref f)(j:keepIn X.K^.ref f=t_)(l:Binds X.K fd ps ds)(m:Vals dvs ds)(n:Tr CX X E)
  (o:PA X (e::es) t) (a:(x==("__debug__":Str))=u_:=by cbv) (u:starEach (e::es) X.env=(u_,eval e X.env)::starEach es X.env:=by rfl) (b:(backTo pos^starEach es X.env).any (·.1)=u_:=by rfl):
  PE X (.Call (.Name x p) (e::es) [] pos) (Wm sp dvs E t):=λv s Z H Q I h=>kU^UV I g i (PySem.W.callWith_K I.ok.mod.kin j (thn (o _ _ s Z H _ I h) λy z #[B,D,c,r,q]=>#[c.kIn,bY F d l m n c r q]) u b) a
structure Mk (K:Frag) (C f:Ch):Prop where
 makes:PySem.W.makesIn K C=t_
 init:PySem.W.findIn K (.ref C) "__init__"=P3 (P3^.ref f)
 fn:PySem.W.isFn K^.ref f=t_
 kp:keepIn K^.ref C=t_
end
section
variable {fd:FuncData}{ps ks:v_ Str}
structure h8 (K:Frag) (fd:jt) (ps ks:List Str) (g:List Ev->List Ev->List Ev) (gV:List V->List V->List V):Prop where
 to:∀(s:On) (us ws:List Ev),K.In s.heap->(g us ws).length=ps.length->n_ s fd #[us,ks.zip ws] (ps.zip^g us ws)
 rel:∀{vs:List V}{us:List Ev}{zs:List V}{ws:List Ev},Vals vs us->Vals zs ws->Vals (gV vs zs)^g us ws
end
structure Ae (N P:List Str) (sc:lJ):Prop where
 kind:sc.kind=.function
 co:sc.isCoroutine=u_
 gen:sc.isGenerator=u_
 nd:N.Nodup
 pre:N.take P.length=P
 par:∀x∈P,sc.names.lookup x=P3 .local\/sc.names.lookup x=P3 .cell
 nofree:∀y∈sc.names,y.2≠.free
theorem OC{a:Str->w_ lH}{x:Str}:∀{binds:v_ (Str×Ev)}{m:Str->w_ Ev},(∀v,(x,v)∉binds)->bindL a binds m x=m x
 |[],_,_=>rfl
 |(n,v)::r,m,h=>by
  unfold bindL;rw[OC λw b=>h w^TW _ b]
  split
  .grind
  .rfl
theorem OE{a:Str->w_ lH}{x:Str}:∀{binds:v_ (Str×Ev)}{m:Str->w_ Ev},(∀v,(x,v)∉binds)->bindC a binds m x=m x
 |[],_,_=>rfl
 |(n,v)::r,m,h=>by
  unfold bindC;rw[OE λw b=>h w^TW _ b]
  split
  .rfl
  grind
theorem OD{a:Str->w_ lH}{x:Str}{v:Ev}:∀{P:v_ Str}{b:v_ Ev}{i:Nat}{m:Str->w_ Ev},P.Nodup->P[i]?=P3 x->b[i]?=P3 v->a x=P3 .local->
  bindL a (P.zip b) m x=P3 v
 |[],_,_,_,_,h,_,_=>by simp at h
 |_::_,[],_,_,_,_,h,_=>by simp at h
 |p::P,w::b,0,m,c,d,e,f=>by
  simp at d e; subst d; subst e
  show bindL a ((p,w)::P.zip b) m p=_;unfold bindL;rw[OC λv g=>(jA.mp c).1 (lr g).1,if_pos f];simp
 |p::P,w::b,i+1,m,c,d,e,f=>by
  unfold bindL;exact OD (i:=i) (jA.mp c).2 (by simp_all) (by simp_all) f
theorem OF{a:Str->w_ lH}{x:Str}{v:Ev}:∀{P:v_ Str}{b:v_ Ev}{i:Nat}{m:Str->w_ Ev},P.Nodup->P[i]?=P3 x->b[i]?=P3 v->a x≠P3 .local->
  bindC a (P.zip b) m x=P3 v
 |[],_,_,_,_,h,_,_=>by simp at h
 |_::_,[],_,_,_,_,h,_=>by simp at h
 |p::P,w::b,0,m,c,d,e,f=>by
  simp at d e; subst d; subst e
  show bindC a ((p,w)::P.zip b) m p=_;unfold bindC;rw[OE λv g=>(jA.mp c).1 (lr g).1,if_neg f];simp
 |p::P,w::b,i+1,m,c,d,e,f=>by
  unfold bindC;exact OF (i:=i) (jA.mp c).2 (by simp_all) (by simp_all) f
def start(N:v_ Str)(a:v_ V):St:=a.map P3++Tk (N.length - a.length) s_
def MF(i:Y3)(P:jK)(w:jQ)(K:Frag)(mg:Str->w_ Ev)(base:i8)(N:v_ Str)(c:Str)(a:lJ)(f:Ch)(h:Ev)(A:jd)(outer:v_ Env)(s:On)(H:Hp)(E:XK):Cx where
 prog:=P
 w:=w
 K:=K
 mg:=mg
 base:=base
 A:=A.deeper (envOfC c a s.heap.objs.size f h)
 N:=N
 s₀:=s
 H₀:=H
 env:=envOfC c a s.heap.objs.size f h
 outer:=outer
 stack:=envOfC c a s.heap.objs.size f h::outer
 ex:=[]
 calm:=t_
 fn:=λ_=>t_
 pn:=[]
 xe:=λe k=>wpAny (model P w) (A.deeper^envOfC c a s.heap.objs.size f h) (leaving (envOfC c a s.heap.objs.size f h) e) (λ_ g=>i outer H s E e g) (λl g=>i outer H s E l g) k
def RR{a:lJ}{n:Nat}{x:Str}(h:a.names.lookup x=P3 .cell):∃c,(cellsFrom n a.names []).lookup x=P3 c:=by
 have q:=PySem.W.cellsFrom_some a.names n []^.inl h;exact Option.isSome_iff_exists.mp q
def Vv{Q:Y3}{P:jK}{w:jQ}{K:Frag}{M:Str->w_ Ev}{m:i8}{N t:v_ Str}{j:Str}{d:lJ}{f:Ch}{I:Ev}{A:jd}{g:v_ Env}{s R:On}{H:Hp}{E:XK}{O:v_ Ev}{B:v_ V}
  (S:Ae N t d) (W:A.handled=s_) (o:Env0 P w K M m A g s H) (hl:B.length=t.length) (r:Vals B O)
  (x:InCallC s s.heap.objs.size (bindL (envOfC j d s.heap.objs.size f I).kindOf (t.zip O) λ_=>s_) (cellsFrom (s.heap.objs.size+1) d.names []) (bindC (envOfC j d s.heap.objs.size f I).kindOf (t.zip O) λ_=>s_) R):
  Inv (MF Q P w K M m N j d f I A g s H E) [] (start N B) H R:=by
 have X:t.length<=N.length:=by have:=congrArg l7 S.pre; rw[mM]at this; omega
 let#[J,tk,rfl,T]:=x.done;have C:∀b:Ch,b∉(MF Q P w K M m N j d f I A g s H E).ex:=λb z=>absurd (show b∈([]:v_ Ch)from z)^by simp
 exists#[o.mod,S.kind,rfl,rfl,Rs _,λy z c J l=>?_,λy D=>?_,λy c _ h=>?_,λ_=>W,Around.frames_deeper o.frames,.inr #[rfl,rfl],λb z=>absurd z^C b,o.bs,o.bsz,λb _ _=>C b,λb z=>absurd z^C b,o.funs,o.frf],
  rfl,o.bare,Un.kept T,#[_,x.toInCall.ns,λi y v J l h3=>?_],λy c h=>#[_,x.cell y c h],o.hok.fresh^Rs _,λy c h=>?_,λp F=>absurd (show p∈([]:v_ (Ch×Obj))from F)^by simp,o.hok.kept T
 .exact name_of_addr x.apart (PySem.mem_of_lookup J)^PySem.mem_of_lookup l
 .have D:d.names.lookup y=P3 .cell\/d.names.lookup y=P3 .free:=D
  rcases D with D|D
  .exact RR D
  .exact absurd rfl (S.nofree _^PySem.mem_of_lookup D)
 .exact md^x.above y c^PySem.mem_of_lookup h
 .have L:i<B.length:=by
   unfold start at l
   by_cases L:i<B.length
   .exact L
   .rw[ju^by simpa using L]at l
    rw[m6]at l
    split at l <;>cases l
  have Y:B[i]?=P3 v:=by
   unfold start at l;rw[kL (by simpa using L),ir]at l;cases e:B[i]? with
   |none=>rw[e]at l; cases l
   |some a=>rw[e]at l; cases l; rfl
  let#[u,U,Z]:=r.get Y
  have F:t[i]?=P3 y:=by
   rw[←S.pre,ot^by lk]; exact J
  have G:t.Nodup:=by rw[←S.pre]; exact S.nd.sublist^oV _ _
  exists u,Z
  rcases S.par y^jZ F with k|k
  .exact .inl #[k,OD G F U k]
  .let#[c,e]:=RR (n:=s.heap.objs.size+1) k
   refine .inr #[.inl k,c,e,?_];have q:=x.cell y c e;rw[OF G F U^by show d.names.lookup y≠_; rw[k]; decide]at q;exact q
 .exact o.hok.fresh^md^x.above y c^PySem.mem_of_lookup h
 .unfold start
  show _=N.length;rw[eq,FM,pQ];lk
def fH{M:Y3}{P:jK}{w:jQ}{K:Frag}{O:Str->w_ Ev}{h:i8}{k:Nat}{f:Ch}{m d:Str}{i:Arguments}{j:v_ jH}{a:lJ}{dV kV D pm g ct oc:Ev}{an od:w_ Ch}
  {U:Array^w_ Ev}{N R:v_ Str}{X:Sp} (lk:K.lookup f=P3 #[oc,od,.func^fnOf m d i j a dV kV D pm an g ct,U]) (Y:codeIn K g d=t_) (S:Ae N R a)
  (len:∀l H Q E,X l H Q E->l.length=R.length)
  (z:∀(A:jd) (c:v_ Env) (s:On) (H:Hp) (l:v_ V) (Q:VK) (E:XK),Room k^A.deeper^envOfC d a s.heap.objs.size f g->X l H Q E->
   ∃t,PSs (MF M P w K O h N d a f g A c s H E) j t/\t {nx:=λ_ p=>Q .non p,rt:=Q} (start N l) H):
  D6 P w K O h M (k+1) f (fnOf m d i j a dV kV D pm an g ct) R X:=by
 refine#[len,λA c s H a1 us l Q E Z F hb r G=>?_];have hl:=len _ _ _ _ G;have KX:K.In s.heap:=F.mod.kin.keeps λb o e=>(F.bs b o e).1;have a0:s.heap.NoLimit:=F.mod.nolimit.keeps λb o e=>(F.bs b o e).1
 have B:∀y∈R.zip us,a.names.lookup y.1=P3 .local\/(a.names.lookup y.1=P3 .cell/\((cellsFrom (s.heap.objs.size+1) a.names []).lookup y.1).isSome=t_):=fun#[n,v] hy=>by
  rcases S.par n (lr hy).1 with q|q
  .exact .inl q
  .exact .inr #[q,PySem.W.cellsFrom_some _ _ _^.inl q]
 refine codeAny_call_function Z.depth (KX _ _ lk) rfl S.co S.gen rfl (PySem.W.codeRec_of KX Y) (hb _ _ _ _ ?_);refine wpAny_newFunctionEnv_cells S.kind B λa2 he s1 x=>?_;subst he;refine#[a0.keeps x.toInCall.keep,codeAny_func ?_];let#[t,ht,hq]:=z A c s H l Q E (Z.deeper _) G;have I:Inv (MF M P w K O h N d a f g A c s H E) [] (start N l) H s1:=Vv S Z.hd F hl r x;refine jo (ht [] s1 (start N l) H _ I hq) (λfl s' C=>?_) λe s' C=>C
 have L:∀{T:St}{p:Hp}{v:V}{u:Ev},Inv (MF M P w K O h N d a f g A c s H E) [] T p s'->RelV v u->Q v p->CE c P w H s Q u s':=
  λ{T p v u} J rv q=>#[v,p,J.os,J.bare,J.base,J.hok,rv,q]
 cases fl with
 |ret u=>
  let#[v,T,p,J,rv,q]:=C;exact L J rv q
 |next=>
  let#[T,p,J,q]:=C;exact L (v:=V.non) (u:=jg) J rfl q
 |brk=>
  let#[_,_,_,q]:=C;exact kg q
 |cont=>
  let#[_,_,_,q]:=C;exact kg q
section
variable {X:Cx}{x:Str}{p pos:Pos}{e:Expr}{es:v_ Expr}{t:TA}{id T:String}{r:v_ V->Hp->VK->Prop}
def f9(r:v_ V->Hp->VK->Prop)(t:TA):TE:=λZ H Q=>t Z H λa b=>r a b Q
def Hg(c:DL X (.builtin id) r)(d:Gl X x)(f:X.mg x=s_)(g:bootBuiltins x=P3^.builtin id)(i:PA X (e::es) t)(j:x ≠ "__name__":=by cbv)(a:(x==("__debug__":Str))=u_:=by cbv)
  (k:starEach (e::es) X.env=(u_,eval e X.env)::starEach es X.env:=by rfl) (b:(backTo pos^starEach es X.env).any (·.1)=u_:=by rfl):PE X (.Call (.Name x p) (e::es) [] pos)^f9 r t:=λw s Z H Q I h=>kU^Dl I d f g (nO (thn (i _ _ s Z H _ I h) λl m #[n,o,q,u,v]=>c _ m Z o n l Q q u v) k b) j a
def Nk(c:DL X (.type T) r)(d:Gl X x)(f:X.mg x=s_)(g:bootBuiltins x=P3^.type T)(i:PA X (e::es) t)(j:x ≠ "__name__":=by cbv)(a:(x==("__debug__":Str))=u_:=by cbv)
  (k:starEach (e::es) X.env=(u_,eval e X.env)::starEach es X.env:=by rfl) (b:(backTo pos^starEach es X.env).any (·.1)=u_:=by rfl):PE X (.Call (.Name x p) (e::es) [] pos)^f9 r t:=λw s Z H Q I h=>kU^Dl I d f g (j_ (thn (i _ _ s Z H _ I h) λl m #[n,o,q,u,v]=>c _ m Z o n l Q q u v) k b) j a
end
end L2
namespace HT
section
variable {prog:Program}{w:World}{A:Around}{E:Value->Shared->Prop}{s:Shared}
def cat_tup{t b:Ch}{d c:v_ Ev}{Q:Ev->On->Prop}(u:IsTup s.heap t d.toArray)(v:IsTup s.heap b c.toArray)(z:d≠[])
  (x:c=[]->Q (.ref t) s) (B:c≠[]->Q (.ref s.heap.objs.size) {s with heap:=s.heap.push {cls:=.type "tuple",data:=.seq (d++c).toArray}})
  (y:d.length+c.length<=sizeLine):wpAny (model prog w) A (binaryOp .Add (.ref t)^.ref b) Q E s:=by
 let#[#[cls,k,data,l],i,m,n,o]:=id u;let#[#[p,e,j,f],a,g,q,h]:=id v;simp only at m o g h;subst m o g h
 by_cases r:c=[]
 .exact concat_meets #[_,i,rfl] #[_,a,rfl] ou seq_tuple_add PySem.F.slot_tuple_add PySem.F.entry_tuple_add (PySem.F.args_tuple_add_2 _ _)
   (tuple_addW1 t b d.toArray c.toArray n q k e l f (by simp_all)^by simp[r]) #[i,a,x r]
 .refine concat_meets #[_,i,rfl] #[_,a,rfl] ou seq_tuple_add PySem.F.slot_tuple_add PySem.F.entry_tuple_add (PySem.F.args_tuple_add_2 _ _)
   (tuple_addW2 t b d.toArray c.toArray n q k e l f (by grind) (by grind)^by lk) #[i,a,?_]
  simp_all
def sIx(n d:Nat):w_ Int->Nat
 |none=>d
 |some v=>if v<0 then(v+(n:Int)).toNat else min v.toNat n
def sIx_none(n d:Nat):sIx n d s_=d:=rfl
def sIx_nat(n d k:Nat):sIx n d^P3 (k:Int)=min k n:=by
 show(if k<0 then((k:Int)+n).toNat else min _ n)=min k n;rw[if_neg^by lk,mE]
def bX(n d:Nat)(a:d<=n)(o:w_ Int):sIx n d o<=n:=by
 cases o with
 |none=>exact a
 |some v=>
  show(if v<0 then(v+n).toNat else min _ n)<=n
  grind
def Ux(v:Int)(n d:Nat):(if v<0 then max (v+(n:Int)) 0 else min v (n:Int))=((sIx n d^P3 v:Nat):Int):=by
 show(if v<0 then max _ 0 else min v _)=(if v<0 then(v+n).toNat else min _ n)
 grind
def TD(a b:w_ Int)(n:Nat):oh a b 1 (n:Int)=(((sIx n 0 a:Nat):Int),((sIx n n b:Nat):Int)):=by
 refine Prod.ext ?_ ?_
 .cases a with
  |none=>rfl
  |some v=>exact Ux v n 0
 .cases b with
  |none=>rfl
  |some v=>exact Ux v n n
def Sd(i j:Nat):mW (i:Int) (j:Int) 1=j - i:=by
 unfold mW
 grind
def K_{v:Ev}{o:w_ Int}{Q:w_ Int->On->Prop}(p:nP v o)(h:Q o s):wpAny (model prog w) A (Builtin.Slice.slicePartIndex v) Q E s:=by
 cases p with
 |none=>exact slicePart_none h
 |int i t=>exact slicePart_int h
def sliceApplied_gen{g:Ch}{e f:Ev}{a d:w_ Int}{n:Nat}{Q:Int×Int×Nat->On->Prop}(i:s.heap.IsSliceOf g e f .none)(j:nP e a)(k:nP f d)
  (h:Q (((sIx n 0 a:Nat):Int),1,sIx n n d - sIx n 0 a) s):wpAny (model prog w) A (Builtin.Slice.sliceApplied (.ref g)^pure (n:Int)) Q E s:=by
 let#[m,b,l,c]:=id i;refine Db^Db (kQ b c (x:=e) rfl (Db (kQ b c (x:=f) rfl (Db (kQ b c (x:=.none) rfl (T0 ?_))))));refine Db^slicePart_none ?_;refine Db^K_ j^Db^K_ k^Db^T0 ?_;show wpAny _ _ (match oh a d 1 (n:Int)with|(a,d)=>pure (a,(1:Int),mW a d 1)) _ _ s;rw[TD a d n];show wpAny _ _ (pure _) _ _ s;rw[Sd];exact T0 h
def XU(a:Array Ev)(i k:Nat):((jL k).filterMap fun(m:Nat)=>a[((i:Int)+(m:Int)*1).toNat]?).toArray=((a.toList.drop i).take k).toArray:=by
 have e:(fun(m:Nat)=>a[((i:Int)+(m:Int)*1).toNat]?)=λm=>a[i+m]?:=by
  grind
 rw[e]
 have:=pick_run a i k
 rw[List.filterMap_map]at this;have b:((λx=>a[x]?)∘λx=>i+x)=λm=>a[i+m]?:=rfl
 grind
def getItem_tuple_cut{t g:Ch}{a:Array Ev}{n o:Ev}{c d:w_ Int}{Q:Ev->On->Prop}(f:IsTup s.heap t a)(p:s.heap.IsSliceOf g n o .none)(q:nP n c)(r:nP o d)
  (y:¬(sIx a.size 0 c=0/\sIx a.size a.size d=a.size))
  (h:Q (.ref s.heap.objs.size) {s with heap:=s.heap.push {cls:=.type "tuple",data:=.seq ((a.toList.drop^sIx a.size 0 c).take (sIx a.size a.size d - sIx a.size 0 c)).toArray}})
  (u:a.size<=sizeLine):wpAny (model prog w) A (getItem (.ref t)^.ref g) Q E s:=by
 have e:sizeOk^.seq ((a.toList.drop^sIx a.size 0 c).take (sIx a.size a.size d - sIx a.size 0 c)).toArray:=by
  show((a.toList.drop^sIx a.size 0 c).take (sIx a.size a.size d - sIx a.size 0 c)).toArray.size<=sizeLine;rw[iy,mM,List.length_drop,j9];lk
 have z:sIx a.size a.size d<=a.size:=bX _ _ (Rs _) d;let#[v,i,j,x]:=id p;have k:s.TypeIs (.ref g) "slice":=#[v,i,j];unfold getItem
 try with_reducible refine jb ?_
 first|refine Db^T0 ?_|skip
 refine Db^wpAny_sequenceKey f.typeIs (by cbv) ?_
 refine Db (ki (name:=lZ "__getitem__") f.typeIs jw
  (lc jw f.typeIs entry_tuple_getitem ?_^args_tuple_getitem _ _))
 show wpAny _ _ (oO^.ref t >>=_) _ _ s;refine Db^tupleItemsOf_ f ?_;refine Db^mI k ?_;rw[if_pos^by cbv];refine Db^sliceApplied_gen p q r ?_
 have l:¬((((sIx a.size 0 c:Nat):Int)==0&&(1:Int)==1&&(sIx a.size a.size d - sIx a.size 0 c)==a.size)=t_):=by
  grind
 show wpAny _ _ (if(((sIx a.size 0 c:Nat):Int)==0&&(1:Int)==1&&(sIx a.size a.size d - sIx a.size 0 c)==a.size)=t_ then _ else _) _ _ s;rw[if_neg l,XU]
 first
  |exact Db (m:=mi _)^lD (T0 #[_,rfl,T0 h]) e
  |grind
  |grind
  |grind
end
end HT
namespace L2
abbrev TO:=St->Hp->(w_ Int->Hp->Prop)->Prop
def PO(X:Cx)(e:w_ jJ)(t:TO):Prop:=
 ∀(a:v_ (Ch×Obj)) (s:On) (Z:St) (H:Hp) (Q:w_ Int->Hp->Prop),Inv X a Z H s->t Z H Q->
  wpAny (model X.prog X.w) X.A (evalPart e X.env) (λu c=>∃o b,Inv X a Z b c/\nP u o/\Q o b) X.xe s
def ZD:TO:=λ_ H Q=>Q s_ H
def da(t:TE):TO:=λZ H Q=>t Z H λx a=>∃i,x=.int i/\Q (P3 i) a
section
variable {X:Cx}{e:Expr}{te:TE}{lo hi:w_ Expr}{tl th:TO}{pos p2:Pos}
def UI:PO X s_ ZD:=λa s Z H Q I h=>T0 #[_,H,I,.none,h]
def UH(h:PE X e te):PO X (P3 e)^da te:=by
 intro g s Z H Q I a;refine thn (h _ s Z H _ I a) λu j #[x,b,c,d,f]=>?_;let#[i,rfl,q]:=f;let#[t,rfl]:=d;exact#[_,b,c,.int i t,q]
def SlR(X:Cx)(r:V->w_ Int->w_ Int->Hp->VK->Prop):Prop:=
 ∀(a:v_ (Ch×Obj)) (s:On) (Z:St) (H:Hp) (x:V) (v b c:Ev) (lo hi:w_ Int) (d:Ch) (Q:VK),Inv X a Z H s->RelV x v->s.heap.IsSliceOf d b c .none->nP b lo->nP c hi->r x lo hi H Q->
  ∃T e,typeLookup (.type T) "__getitem__"=pure^P3^.builtin e/\s.TypeIs v T/\wpAny (model X.prog X.w) X.A (getItem v^.ref d) (EP X a Z Q) X.xe s
def SlR.or{r a:V->w_ Int->w_ Int->Hp->VK->Prop}(h:SlR X r)(j:SlR X a):SlR X (λx lo hi H Q=>r x lo hi H Q\/a x lo hi H Q):=by
 intro k s Z H x v b c lo hi d Q I e f g i q
 rcases q with q|q
 .exact h _ s Z H x v b c lo hi d Q I e f g i q
 .exact j _ s Z H x v b c lo hi d Q I e f g i q
def iU(r:V->w_ Int->w_ Int->Hp->VK->Prop)(te:TE)(tl th:TO):TE:=λZ H Q=>te Z H λx a=>tl Z a λl b=>th Z b λu c=>r x l u c Q
def Qh{r:V->w_ Int->w_ Int->Hp->VK->Prop}(i:SlR X r)(j:PE X e te)(k:PO X lo tl)(m:PO X hi th):PE X (.Subscript e (.Slice lo hi s_ p2) pos)^iU r te tl th:=by
 intro c s Z H Q I h;refine Subscript_^thn (j c s Z H _ I h) λv n #[x,o,p,t,y]=>?_;refine wpAny_Slice^thn (k c n Z o _ p y) λd z #[l,B,C,D,E]=>thn (m c z Z B _ C E) λf a #[u,g,F,G,J]=>?_;rw[evalPart_none];refine T0 ?_;have K:Inv X c Z g {a with heap:=a.heap.push {cls:=.type "slice",data:=.fields #[ d,f,.none]}}:=F.kept (t':=a.toks) λb O q=>Go _ q;let#[T,P,L,M,N]:=i c {a with heap:=a.heap.push {cls:=.type "slice",data:=.fields #[ d,f,.none]}} Z g x v d f l u a.heap.objs.size Q K t (Heap.IsSliceOf.new ..) D G J;show wpAny (model X.prog X.w) X.A (subscriptTail e (.Slice lo hi s_ p2) v^.ref a.heap.objs.size) (EP X c Z Q) X.xe {a with heap:=a.heap.push {cls:=.type "slice",data:=.fields #[ d,f,.none]}};exact tail_any (ops:=[.ref a.heap.objs.size,v]) M L N^by with_unfolding_all rfl
def RM(a:v_ V)(lo hi:w_ Int):v_ V:=(a.drop^HT.sIx a.length 0 lo).take (HT.sIx a.length a.length hi - HT.sIx a.length 0 lo)
def Jx(a:v_ V)(lo hi:w_ Int):(RM a lo hi).length<=a.length:=by
 unfold RM
 grind
def d9(K:Frag):V->w_ Int->w_ Int->Hp->VK->Prop:=λx lo hi H Q=>∃a b,x=.ref a/\SqT K H a b /\
 ¬(HT.sIx b.length 0 lo=0/\HT.sIx b.length b.length hi=b.length)/\∀p,H p=s_->Q (.ref p)^BQ H p^.tup^RM b lo hi
def sl_tup:SlR X^d9 X.K:=by
 intro n s Z H x v o p lo hi t Q I g i j k h;let#[a,e,rfl,l,u,q]:=h;cases g;let#[d,r,f,m]:=I.tuple l;have c:d.toArray.size=e.length:=by exact r.length.symm
 exists _,_,jw.lookup,f.typeIs;refine HT.getItem_tuple_cut f i j k (by grind) ?_ (by simp_all);rw[c];refine#[.ref _,_,I.laid (λb w q=>Go _ q) (Rs _) ?_,rfl,q _^I.hok.fresh^Rs _];exact#[iz (Jx e lo hi) m,_,(r.drop _).take _,IsTupN.new _ _]
def XG(K:Frag):R2:=λx y H Q=>∃a b d c,x=.ref a/\y=.ref b/\SqT K H a d/\SqT K H b c/\d≠[]/\d.length+c.length<=sizeLine /\
 (c=[]->Q (.ref a) H)/\(c≠[]->∀p,H p=s_->Q (.ref p)^BQ H p^.tup (d++c))
def Vals.nil_iff{a:v_ V}{b:v_ Ev}(r:Vals a b):b=[]↔a=[]:=by
 cases r with
 |nil=>simp
 |cons _ _=>simp
def op_catT:OpR X (binaryOp .Add)^XG X.K:=by
 intro r s Z H x y v u Q I f g h;let#[a,b,t,A,rfl,rfl,i,j,k,l,m,n]:=h;cases f;cases g;let#[o,d,p,_]:=I.tuple i;let#[e,c,p2,_]:=I.tuple j;refine HT.cat_tup p p2 (λz=>k^d.nil_iff.mp z) (λz=>#[.ref a,H,I,rfl,m^c.nil_iff.mp z]) (λz=>?_) (by rw[←d.length,←c.length]; exact l);refine#[.ref _,_,I.laid (λb B q=>Go _ q) (Rs _) ?_,rfl,n (λw=>z^c.nil_iff.mpr w) _^I.hok.fresh^Rs _];exact#[by simp_all,_,d.append c,IsTupN.new _ _]
end
def Xx(n:Nat)(i:Int):w_ Nat:=if 0<=i then(if i<n then P3 i.toNat else s_)else if -(n:Int)<=i then P3 (i+n).toNat else s_
def atI{a:Type}(b:v_ a)(i:Int):w_ a:=(Xx b.length i).bind λj=>b[j]?
def O7{n:Nat}{i:Int}{j:Nat}(h:Xx n i=P3 j):seqIndex? i n=P3 j/\j<n/\-(n:Int)<=i/\i<n:=by
 unfold Xx at h
 by_cases b:0<=i
 .rw[if_pos b]at h
  by_cases a:i<n
  .rw[if_pos a]at h
   have e:i.toNat=j:=iw h;exact#[by rw[seqIndex_of b a,e],by lk,by lk,a]
  grind
 .rw[if_neg b]at h
  by_cases a:-(n:Int)<=i
  .rw[if_pos a]at h
   have e:(i+n).toNat=j:=iw h;exact#[by rw[seqIndex_neg (by lk) a,e],by lk,a,by lk]
  grind
def PY{b:Type}{a:v_ b}{i:Int}{v:b}(h:atI a i=P3 v):∃j,seqIndex? i a.length=P3 j/\a[j]?=P3 v/\j<a.length/\-(a.length:Int)<=i/\i<a.length:=by
 unfold atI at h;cases e:Xx a.length i with
 |none=>simp_all
 |some j=>
  let#[c,d,f,g]:=O7 e
  simp_all
def AK{b:Type}{a:v_ b}{j:Nat}{v:b}(h:a[j]?=P3 v):atI a (j:Int)=P3 v:=by
 have c:=(Uf.mp h).1
 have e:Xx a.length j=P3 j:=by
  unfold Xx
  simp_all
 unfold atI; grind
def Yh{b:Type}(a:v_ b)(v:b):atI (a++[v]) (-1)=P3 v:=by
 have e:Xx (a++[v]).length (-1)=P3 a.length:=by
  unfold Xx
  grind
 unfold atI
 grind
def U5(b:jJ):Prop:=∀o i,subscripted b u_ o i=operate [o,i]^getItem o i
def IxR(X:Cx)(r:R2):Prop:=
 ∀(b a:jJ) (c:v_ (Ch×Obj)) (s:On) (Z:St) (H:Hp) (x y:V) (v u:Ev) (Q:VK),Inv X c Z H s->RelV x v->RelV y u->r x y H Q->
  subscripted a u_ v u=operate [v,u]^getItem v u->wpAny (model X.prog X.w) X.A (subscriptTail b a v u) (EP X c Z Q) X.xe s
def au(X:Cx)(d:String)(r:V->v_ V->Hp->VK->Prop):Prop:=
 ∀(a:v_ (Ch×Obj)) (s:On) (Z:St) (H:Hp) (x:V) (b:v_ V) (v:Ev) (c:v_ Ev) (Q:VK),Inv X a Z H s->RelV x v->Vals b c->r x b H Q->
  wpAny (model X.prog X.w) X.A (call (.builtin d) (v::c)) (EP X a Z Q) X.xe s
section
variable {X:Cx}{a b:Expr}{ta tb:TE}{pos:Pos}
def IxR.or{r e:R2}(h:IxR X r)(j:IxR X e):IxR X (λx y H Q=>r x y H Q\/e x y H Q):=by
 intro c d k s Z H x y v u Q I f g q i
 rcases q with q|q
 .exact h _ _ _ s Z H x y v u Q I f g q i
 .exact j _ _ _ s Z H x y v u Q I f g q i
def FN{r:R2}(c:IxR X r)(d:PE X a ta)(e:PE X b tb)(f:U5 b):PE X (.Subscript a b pos)^EX r ta tb:=λm s Z H Q I h=>Subscript_^cz d e I h λv u g x y i j k l q=>c a b _ g Z i x y v u Q j k l q^f _ _
def bc(K:Frag):R2:=λx y H Q=>∃p c i v,x=.ref p/\y=.int i/\SqL K H p c/\atI c i=P3 v/\Q v H
def eJ(K:Frag):R2:=λx y H Q=>∃p c i v,x=.ref p/\y=.int i/\SqT K H p c/\atI c i=P3 v/\Q v H
def eK:R2:=λx y H Q=>∃z i c,x=.str z/\y=.int i/\z.length<=sizeLine/\atI z.cps.toList i=P3 c/\Q (.str #[#[ c]]) H
def ix_list:IxR X^bc X.K:=by
 intro d e l s Z H x y v u Q I B C h m;let#[p,N,i,z,rfl,rfl,D,E,q]:=h;cases B;let#[t,rfl]:=C;let#[f,r,g,O]:=I.list D;let#[j,n,F,P,G,J]:=PY E;let#[w,L,k]:=r.get F;have R:=r.length;have S:=JC;have c:EP X l Z Q w s:=#[z,H,I,k,q]
 by_cases o:0<=i
 .have A:i.toNat=j:=by
   rw[seqIndex_of o J]at n
   grind
  exact item_listR g.isList o (by lk) (by rw[A]; simpa using L) c m
 .have A:(i+(f.toArray.size:Int)).toNat=j:=by
   rw[seqIndex_neg (by lk) G]at n
   grind
  exact subscriptTail_builtinR (x:=w) g.isList.typeIs slot_list_getitem.lookup
   (wpAny_getItem_list_neg (Q:=λr M=>r=w/\EP X l Z Q r M) g.isList (by lk) (by grind) (by lk) (by grind) #[rfl,c]) m
def ix_tup:IxR X^eJ X.K:=by
 intro c d B s Z H x y v u Q I g k h l;let#[p,C,i,z,rfl,rfl,m,n,q]:=h;cases g;let#[t,rfl]:=k;let#[o,r,f,D]:=I.tuple m;let#[j,E,A,F,G,J]:=PY n;let#[w,L,e]:=r.get A;have M:=r.length;have N:=JC
 exact subscriptTail_builtinR f.typeIs jw.lookup
  (getItem_tuple (j:=j) f (by lk) (by lk) (by grind) (by grind) #[rfl,#[z,H,I,e,q]]) l
def cP:IxR X eK:=by
 intro d e m s Z H x y v u Q I f g h k;let#[z,i,c,rfl,rfl,n,l,q]:=h;let#[t,rfl]:=f;let#[o,rfl]:=g;let#[j,p,r,w,A,B]:=PY l;have C:z.cps.toList.length=z.length:=by simp[Str.length]
 have D:=JC
 exact tail_any (mz s z t) slot_str_getitem.lookup (getItem_str (by
  grind) (by grind) #[.str _,H,I.tok _,#[_,rfl],q]) k
def iF(K:Frag):R2:=λx y H Q=>bc K x y H Q\/eJ K x y H Q\/eK x y H Q
def AO:IxR X^iF X.K:=ix_list.or^ix_tup.or cP
def Sv(c:v_ Ev)(n j:Nat)(u:Ev):jp (·.setIfInBounds j u) {cls:=.type "list",data:=.seq c.toArray n}={cls:=.type "list",data:=.seq (c.set j u).toArray n}:=by
 simp[jp]
def Inv.lst{f:v_ (Ch×Obj)}{Z:St}{H:Hp}{s:On}{p:Ch}{d:v_ V}(I:Inv X f Z H s)(h:H p=P3^.lst d):
  ∃(c:v_ Ev) (n:Nat),Vals d c/\s.heap.get? p=P3 {cls:=.type "list",data:=.seq c.toArray n}/\d.length<=sizeLine:=by
 let#[z,c,n,r,e]:=I.hok p _ h;exact#[_,n,r,e,z]
def Inv.lstUpd{j:v_ (Ch×Obj)}{Z:St}{H:Hp}{s:On}{p:Ch}{l g:v_ V}{d c:v_ Ev}{n i:Nat}{f:Obj->Obj}(I:Inv X j Z H s)(h:H p=P3^.lst l)
  (m:s.heap.get? p=P3 {cls:=.type "list",data:=.seq d.toArray n}) (k:f {cls:=.type "list",data:=.seq d.toArray n}={cls:=.type "list",data:=.seq c.toArray i}) (r:Vals g c) (o:g.length<=sizeLine) (t:Nat):
  Inv X j Z (BQ H p^.lst g) {s with heap:=s.heap.update p f,toks:=t}:=by
 have e:(s.heap.update p f).get? p=P3 {cls:=.type "list",data:=.seq c.toArray i}:=by
  rw[lT f m (by rw[k] <;>rfl),k]
 exact I.write (by rw[h]; trivial) (.inl rfl) (λb u v q=>(jG _ _^jy v).trans q) #[_,e] #[o,_,i,r,e]
def aP:V->V->V->Hp->(Hp->Prop)->Prop:=λo i v H Q=>∃p c k j,o=.ref p/\i=.int k/\H p=P3^.lst c/\Xx c.length k=P3 j/\Q^BQ H p^.lst^c.set j v
def set_list:fm X aP:=by
 intro w s Z H o i v E F u Q I x y z h;let#[p,A,k,j,rfl,rfl,f,B,q]:=h;cases x;let#[t,rfl]:=y;let#[c,n,r,d,G]:=I.lst f;let#[g,J,C,D]:=O7 B;have K:=r.length;have L:=JC
 have l:Inv X w Z (BQ H p^.lst^A.set j v) {s with heap:=s.heap.update p (jp (·.setIfInBounds j u))}:=
  I.lstUpd f d (Sv c n j u) (r.set z j) (by simp_all) s.toks
 by_cases m:0<=k
 .have e:k.toNat=j:=by
   rw[seqIndex_of m D]at g
   grind
  exact PySem.W.ki_setAt d m (by lk) (by grind)^by rw[e]; exact#[_,l,q]
 .have e:(k+(c.toArray.size:Int)).toNat=j:=by
   rw[seqIndex_neg (by lk) C]at g
   grind
  exact PySem.W.ki_setBack d (by lk) (by grind) (by lk)^by rw[e]; exact#[_,l,q]
def OW(c d:w_ Int)(n:Nat):(sliceBounds c d s_ n).1=((HT.sIx n 0 c:Nat):Int)/\(sliceBounds c d s_ n).2.1=((HT.sIx n n d:Nat):Int)/\(sliceBounds c d s_ n).2.2=1:=by
 refine#[?_,?_,rfl]
 .cases c with
  |none=>simp[sliceBounds,HT.sIx]
  |some i=>
   simp only[sliceBounds,HT.sIx,Option.getD_none,show(1:Int) > 0 by cbv,if_true]
   by_cases h:i<0
   .grind
   .simp only[h,if_false] <;>lk
 .cases d with
  |none=>simp[sliceBounds,HT.sIx]
  |some i=>
   simp only[sliceBounds,HT.sIx,Option.getD_none,show(1:Int) > 0 by cbv,if_true]
   by_cases h:i<0
   .grind
   .simp only[h,if_false] <;>lk
def Ml(c:v_ Ev)(d e:w_ Int):slicePick c.toArray d e s_=((c.drop^HT.sIx c.length 0 d).take (HT.sIx c.length c.length e - HT.sIx c.length 0 d)).toArray:=by
 let#[f,g,h]:=OW d e _;unfold slicePick;rw[f,g,h];simp only[sliceRange_one,pick_run] <;>rfl
def d_(K:Frag):V->w_ Int->w_ Int->Hp->VK->Prop:=λx d e H Q=>∃a c,x=.ref a/\SqL K H a c/\∀p,H p=s_->Q (.ref p)^BQ H p^.lst^RM c d e
def sl_list:SlR X^d_ X.K:=by
 intro p s Z H x v t u e f w Q I g i j k h;let#[a,l,rfl,m,q]:=h;cases g;let#[n,r,d,o]:=I.list m;have c:=r.length;exists _,_,slot_list_getitem.lookup,d.isList.typeIs;refine wpAny_getItem_list_slice d.isList i j k .none (by simp) ?_ (by grind);rw[Ml,←c];refine#[.ref _,_,I.laid (λb y q=>Go _ q) (Rs _) ?_,rfl,q _^I.hok.fresh^Rs _];exact#[iz (Jx l e f) o,_,0,(r.drop _).take _,XV _ rfl]
def af:V->Bool
 |.non=>t_
 |.bl _=>t_
 |.int _=>t_
 |.str _=>t_
 |_=>u_
def fP:V->V->Bool
 |.non,.non=>t_
 |.bl a,.bl b=>a==b
 |.bl a,.int b=>(if a then 1 else 0)==b
 |.int a,.bl b=>a==(if b then 1 else 0)
 |.int a,.int b=>a==b
 |.str a,.str b=>a==b
 |_,_=>u_
def PH{A:jd}{s:On}{y x:V}{u v:Ev}(e:RelV y u)(c:RelV x v)(g:af y=t_)(f:af x=t_):SeqAt.EqAt A s u v^fP y x:=by
 cases y with
 |non=>
  cases e;cases x with
  |non=>cases c; exact SeqAt.EqAt.same _
  |bl b=>cases c; exact SeqAt.EqAt.none_bool b
  |int b=>let#[t,rfl]:=c; exact SeqAt.EqAt.none_int b t
  |str b=>let#[t,rfl]:=c; exact SeqAt.EqAt.none_str b t
  |_=>exact absurd (show u_=t_ from f) jF
 |bl a=>
  cases e;cases x with
  |non=>cases c; exact SeqAt.EqAt.bool_none a
  |bl b=>cases c; exact SeqAt.EqAt.bool_bool a b
  |int b=>let#[t,rfl]:=c; exact SeqAt.EqAt.bool_int a b t
  |str b=>let#[t,rfl]:=c; exact SeqAt.EqAt.bool_str a b t
  |_=>exact absurd (show u_=t_ from f) jF
 |int a=>
  let#[d,rfl]:=e;cases x with
  |non=>cases c; exact SeqAt.EqAt.int_none a d
  |bl b=>cases c; exact SeqAt.EqAt.int_bool a d b
  |int b=>let#[t,rfl]:=c; exact SeqAt.EqAt.int_int a d b t
  |str b=>let#[t,rfl]:=c; exact pf a d b t
  |_=>exact absurd (show u_=t_ from f) jF
 |str a=>
  let#[d,rfl]:=e;cases x with
  |non=>cases c; exact SeqAt.EqAt.str_none a d
  |bl b=>cases c; exact SeqAt.EqAt.str_bool a d b
  |int b=>let#[t,rfl]:=c; exact ph a d b t
  |str b=>let#[t,rfl]:=c; exact SeqAt.EqAt.str_str a d b t
  |_=>exact absurd (show u_=t_ from f) jF
 |_=>exact absurd (show u_=t_ from g) jF
def DX:DL X (.type "list") (λB H Q=>∃p f,B=[.ref p]/\(SqL X.K H p f\/SqT X.K H p f)/\∀l,H l=s_->Q (.ref l)^BQ H l^.lst f):=by
 intro D s Z H B F Q I r h;let#[p,f,rfl,j,q]:=h;let#[u,rfl,E]:=vals1 r;cases E
 have k:∀(c:v_ Ev),Vals f c->f.length<=sizeLine->∀(d:i8) (i:Nat),(∀b C,s.heap.get? b=P3 C->d.get? b=P3 C)->
   d.get? s.heap.objs.size=P3 _->EP X D Z Q (.ref s.heap.objs.size) {s with heap:=d}:=λc g m d i t e=>
  #[.ref s.heap.objs.size,_,I.laid (t':=s.toks) t (Rs _) (show ObjOk X.prog X.w _ d _^.lst f from#[m,c,i,g,e]),rfl,q _^I.hok.fresh^Rs _]
 rcases j with j|j
 .let#[c,g,x,m]:=I.list j
  have v:=g.length;let#[o,y,z,n,A]:=x.isList;exact call_list_seq p (.inl rfl) y z A (λd i t e=>k c g m d i t e)^by grind
 .let#[c,g,x,m]:=I.tuple j
  have v:=g.length;let#[o,y,z,n,A]:=x;exact call_list_seq p (.inr rfl) y z A (λd i t e=>k c g m d i t e)^by grind
def Ax:DL X (.type "tuple") (λj H Q=>∃p c,j=[.ref p]/\((SqL X.K H p c/\∀l,H l=s_->Q (.ref l)^BQ H l^.tup c)\/(SqT X.K H p c/\Q (.ref p) H))):=by
 intro w s Z H j x Q I r h;let#[p,c,rfl,h]:=h;let#[u,rfl,t]:=vals1 r;cases t
 rcases h with⟨d,q⟩|⟨d,q⟩
 .let#[f,g,i,k]:=I.list d
  have m:=g.length;refine call_tuple_list i.isList (λy v=>?_) (by grind);have n:=I.kept (t':=s.toks) v;exact#[.ref _,_,n.laid (t':=s.toks) (λb o e=>Go _ e) (Rs _) (show ObjOk _ _ _ _ _^.tup c from#[k,_,g,IsTupN.new _ _]),rfl,q _^n.hok.fresh^Rs _]
 .let#[f,g,i,k]:=I.tuple d
  exact call_tuple_same i #[.ref p,H,I,rfl,q]
def gN(K:Frag)(T:String)(x:V)(H:Hp):Prop:=match x with
 |.str _=>T="str"
 |.int _=>T="int"
 | .ref p=>(T="list"/\∃d,SqL K H p d)\/(T="tuple"/\∃o,K.lookup p=P3 o/\o.cls=.type "tuple"/\o.dict=s_) \/
   (T="dict"/\((∃c,H p=P3^.dK c)\/∃c,H p=P3^.dT c))\/(T="set"/\∃S n,H p=P3^.set S n)
 |_=>False
def bG{l:v_ (Ch×Obj)}{Z:St}{H:Hp}{s:On}{T:String}{x:V}{v:Ev}(I:Inv X l Z H s)(r:RelV x v)(ty:gN X.K T x H):
  s.TypeIs v T/\∀a,v=.ref a->∃j,s.heap.get? a=P3 j/\j.dict=s_:=by
 cases x with
 |str z=>
  let#[t,rfl]:=r;cases(show T="str" from ty);exact#[mz s z t,λ_ e=>nomatch e]
 |int i=>
  let#[t,rfl]:=r;cases(show T="int" from ty);exact#[typeIs_int s i t,λ_ e=>nomatch e]
 | ref p=>
  cases r
  rcases ty with⟨rfl,w,m⟩|⟨rfl,o,d,q,f⟩|⟨rfl,d⟩|⟨rfl,S,n,d⟩
  .let#[u,_,k,_]:=I.list m
   refine#[k.isList.typeIs,λa e=>?_];cases e;let#[o,n,e,c,f,_]:=k;exact#[o,e,f]
  .refine#[#[o,I.kIn p o d,q],λa e=>?_]
   cases e;exact#[o,I.kIn _ o d,f]
  .have z:∃o,s.heap.get? p=P3 o/\o.ExactDict:=by
    rcases d with⟨g,d⟩|⟨g,d⟩
    .let#[_,_,_,_,o,_,_,e,ex,_]:=I.hok p _ d
     exact#[o,e,ex]
    .let#[_,_,_,_,o,_,_,e,ex,_]:=I.hok p _ d
     exact#[o,e,ex]
   let#[o,e,ex]:=z;refine#[#[o,e,ex.1],λa h=>?_];cases h;exact#[o,e,ex.2.1]
  .let#[o,_,_,_,e,ex,_]:=I.hok p _ d
   refine#[#[o,e,ex.1],λa h=>?_];cases h;exact#[o,e,ex.2.1]
 |_=>exact kg ty
def iD(K:Frag)(T:String)(r:V->v_ V->Hp->VK->Prop)(d:TE)(t:TA):TE:=λZ H Q=>d Z H λx c=>gN K T x c/\t Z c λe f=>r x e f Q
variable {o e:Expr}{es:v_ Expr}{to:TE}{t:TA}{name:Str}{apos cpos:Pos}{T id:String}{r:V->v_ V->Hp->VK->Prop}
def Qk(n:PlainAttrs T)(f:Slot T name id)(j:typeOf^.builtin id=pure^.type "method_descriptor")(p:au X id r)(q:PE X o to)(u:PA X (e::es) t)
  (c:attributeBase o name X.env^eval o X.env=eval o X.env:=by rfl)
  (g:((backTo cpos^starEach (e::es) X.env).all (λx=>!x.1)&&(backToKw cpos^keywordEach [] X.env).all (λx=>x.1.isSome)
   && decide ((e::es).length+([]:v_ k7).length+(if([]:v_ k7).isEmpty then 0 else 1)<30))=t_:=by rfl)
  (d:(apos.endLine==cpos.line)=t_:=by rfl) (w:starEach (e::es) X.env=(u_,eval e X.env)::starEach es X.env:=by rfl) (i:(backTo cpos^starEach es X.env).any (·.1)=u_:=by rfl):
  PE X (.Call (.Attribute o name apos) (e::es) [] cpos) (iD X.K T r to t):=by
 intro N s Z H Q I h;refine wpAny_Call_method_late c g d rfl (thn (q _ s Z H _ I h) λv y #[x,z,k,l,ty,A]=>?_);let#[B,C]:=bG k l ty;exists T,id,n,f,j,B,C;have m:=u cpos _ y Z z _ k A;rw[w]at m ⊢;refine lL (by simp_all)^mN ?_;exact thn m λD E #[F,G,J,L,M]=>p _ E Z G x F v D Q J l L M
end
def hZ(X:Cx)(d:String)(r:V->v_ V->Hp->VK->Prop):Prop:=
 ∀(a:v_ (Ch×Obj)) (s:On) (Z:St) (H:Hp) (x:V) (b:v_ V) (v:Ev) (c:v_ Ev) (Q:VK),Inv X a Z H s->RelV x v->Vals b c->r x b H Q->
  wpAny (model X.prog X.w) X.A (call (.builtin d) (v::c)) (EP X a Z Q) X.xe s
theorem Vals.one:∀{x:V}{a:v_ Ev},Vals [x] a->∃u,a=[u]/\RelV x u
 |_,_,.cons r .nil=>#[_,rfl,r]
theorem Vals.eraseIdx:∀{a:v_ V}{b:v_ Ev} (i:Nat),Vals a b->Vals (a.eraseIdx i)^b.eraseIdx i
 |_,_,_,.nil=>.nil
 |_,_,0,.cons _ t=>t
 |_,_,i+1,.cons r t=>.cons r^Vals.eraseIdx i t
def Vals.reverse{a:v_ V}{b:v_ Ev}(h:Vals a b):Vals a.reverse b.reverse:=by
 induction h with
 |nil=>exact .nil
 |cons r t c=>rw[m9,m9]; exact Vals.append c^.cons r .nil
theorem JD{a:Type}:∀(l:v_ a) (i:Nat),(l.eraseIdx i).length<=l.length
 |[],_=>Rs _
 |_::_,0=>kJ _
 |_::r,i+1=>lf^JD r i
section
variable {X:Cx}{zH:v_ (Addr×Obj)}{Z:St}{H:Hp}{s:Shared}{l:Addr}{xs ys:v_ V}
def Inv.lset{a its':v_ Ev}{n:Nat}{f:Array Ev->Array Ev}{t':Nat}(I:Inv X zH Z H s)(b:H l=P3^.lst xs)
  (e:s.heap.get? l=P3 {cls:=.type "list",data:=.seq a.toArray n}) (c:f a.toArray=its'.toArray) (d:Vals ys its') (g:ys.length<=sizeLine):
  Inv X zH Z (BQ H l^.lst ys) {s with heap:=s.heap.update l^jp f,toks:=t'}:=by
 have q:=PySem.IsL.update e f;rw[c]at q;exact I.write (by rw[b]; exact trivial) (.inl rfl) (λk u h i=>(jG _ _^jy h).trans i) #[_,q] #[g,_,_,d,q]
def Inv.lnew{a:v_ Ev}{b:Nat}(I:Inv X zH Z H s)(c:Vals ys a)(d:ys.length<=sizeLine):
  Inv X zH Z (BQ H s.heap.objs.size^.lst ys) {s with heap:=s.heap.push {cls:=.type "list",data:=.seq a.toArray},toks:=b}:=
 I.laid (λ_ _ q=>Go _ q) (Rs _) #[d,_,0,c,XV _ rfl]
def Inv.fresh(I:Inv X zH Z H s):H s.heap.objs.size=s_:=I.hok.fresh^Rs _
def Inv.lstM(I:Inv X zH Z H s)(b:H l=P3^.lst xs):xs.length<=sizeLine/\∃(a:v_ Ev) (n:Nat),Vals xs a/\xs.length=a.length/\s.heap.get? l=P3 {cls:=.type "list",data:=.seq a.toArray n}:=by
 let#[z,a,n,r,e]:=I.hok l _ b;exact#[z,_,n,r,r.length,e]
def Xi{n:Nat}(h:n<=sizeLine):mj n=u_:=by
 unfold mj
 grind
end
section
variable {X:Cx}
def UB:V->v_ V->Hp->VK->Prop:=λx b H Q=>∃l a y,x=.ref l/\b=[y]/\H l=P3^.lst a/\a.length<sizeLine/\Q .non^BQ H l^.lst (a++[y])
def Bc:hZ X "list.append" UB:=by
 intro g s Z H x i v j Q I b c h;let#[l,k,y,rfl,rfl,a,m,q]:=h;cases b;let#[u,rfl,d]:=c.one;let#[z,f,n,r,o,e]:=I.lstM a;refine call_meets F.slot_list_append #[_,e,rfl] F.entry_list_append (F.args_list_append_2 _ _) (PySem.list_append l _ n u^by grind) #[e,?_];refine#[.non,_,I.lset a e (by simp) (r.append^.cons d .nil) ?_,rfl,q]
 grind
def UA:V->v_ V->Hp->VK->Prop:=λx d H Q=>∃l b a c,x=.ref l/\d=[.ref b]/\H l=P3^.lst a/\H b=P3^.lst c/\a.length+c.length<=sizeLine/\Q .non^BQ H l^.lst (a++c)
def JA:hZ X "list.extend" UA:=by
 intro y s Z H x A v B Q I i j h;let#[l,b,C,D,rfl,rfl,g,k,E,q]:=h;cases i;let#[u,rfl,m]:=j.one;cases m;let#[z,a,n,r,G,e]:=I.lstM g;let#[J,c,o,p,t,w]:=I.lstM k;have f:a.toArray.size+c.toArray.size<=sizeLine:=by grind
 have d:¬(!a.toArray.isEmpty&&mj (a.toArray.size+c.toArray.size))=t_:=by
  rw[Xi f]
  grind
 refine call_meets F.slot_list_extend #[_,e,rfl] F.entry_list_extend (F.args_list_extend_2 _ _)
  (AutoSeq1.list_extend_list_list_0 l a.toArray n b _ o d (by grind)^by lk) #[e,w,?_]
 refine#[.non,_,I.lset g e (by simp) (r.append p) ?_,rfl,q]
 grind
def XA:V->v_ V->Hp->VK->Prop:=λx b H Q=>∃l a i k y,x=.ref l/\b=[.int i]/\H l=P3^.lst a/\-(2 ^ 63)<=i/\i<2 ^ 63/\seqIndex? i a.length=P3 k/\a[k]?=P3 y/\Q y^BQ H l^.lst^a.eraseIdx k
def Qy:hZ X "list.pop" XA:=by
 intro A s Z H x B v C Q I d f h;let#[l,g,i,k,y,rfl,rfl,c,j,m,D,o,q]:=h;cases d;let#[u,rfl,p]:=f.one;let#[t,rfl]:=p;let#[z,a,n,r,E,e]:=I.lstM c;let#[w,G,b]:=r.get o
 refine call_meets F.slot_list_pop #[_,e,rfl] F.entry_list_pop (F.args_list_pop_2 _ _)
  (MeetsSeq.list_pop_at l a.toArray n i t k w (fitsIndex_both j m) (by simp_all) (by simp_all)^by grind) #[e,?_]
 refine#[y,_,I.lset (its':=a.eraseIdx k) c e ?_ (r.eraseIdx k) ?_,b,q]
 .simp_all
 .have:=JD g k
  omega
end
end L2
namespace Att
open PySem.W PySem.Calls
def KP{P:Params}{h:i8}:∀(c:v_ Int) (d:v_ Ev),WellAll P h d^c.map WData.int->IntsAre d c:=by
 intro c
 induction c with
 |nil=>
  intro d w;cases w;exact .nil
 | cons n c e=>
  intro d w;cases w with
  |cons a b=>
   cases a;exact .cons _ _^e _ b
def VE{l:OpenLaw}{n:Nat}(w:l.most=P3 n){P:Params}{h:i8}{args:v_ WData}{b:v_ Ev}
  (c:l.row.toRowW.claim.pre args=t_) (i:WellAll P h b args):
  ∃a k e,b=[ja a]/\args=[WData.list^e.map WData.int]/\h.get? a=P3 {cls:=.type "list",data:=.seq k.toArray}/\IntsAre k e/\e.length<=n:=by
 have j:WShape.hasAll [] args [.list .int]=t_:=(pre_splitW c).1;have m:l.pre.holds [] {args:=args}=t_:=(pre_splitW c).2;let#[d,r,rfl,p,q]:=hasAllW_cons j;obtain rfl:=hasAllW_nil q;let#[x,rfl,s]:=hasW_list p;let#[e,rfl]:=items_int s
 have f:e.length<=n:=by
  unfold OpenLaw.pre at m
  have o:(WTm.not^.lt (.lit^.int (n:Int))^.len^.arg 0).holds [] {args:=[.list^e.map .int]}=t_:=by
   have o:=(holds_andW m).1
   grind
  have y:=condW_of o^w_not^w_lt w_lit^w_len_list (w_arg rfl)
  grind
 cases i with
 |cons t u=>
  cases u;cases t with
  |list v g=>exact#[_,_,e,rfl,rfl,v,KP e _ g,f]
def VO(l:OpenLaw)(a:v_ WData):l.row.toRowW.claim.post a (.bool t_) a=t_:=
 postW_of
  (show WShape.has [] _ _=t_ by first|rfl|decide|omega)
  (w_eq_bool (w_res rfl) w_lit) rfl
def attach_call{l:OpenLaw}{n:Nat}{q:jK}{c:v_ Str}{D:(Str->w_ Ev)->i8->Prop}{E:jQ->i8->Prop}{d:DefRec}
  (K:l.most=P3 n) (x:d.params.defaults=[])
  (call:∀(w:jQ) (e b:On) (s y:Str->w_ Ev) (j:Ch) (o:Obj) (z t g:Ev) (a:Ch) (i:v_ Ev) (u:v_ Int),
   Ground q c [] D w e s y b.heap->E w b.heap->
   b.heap.get? j=P3 o->o.data=.func^docDef d.name d.params d.body d.scope z t g->b.heap.CodeRec t d.name->s d.name=P3^.ref j->
   b.heap.get? a=P3 {cls:=.type "list",data:=.seq i.toArray}->IntsAre i u->u.length<=n->b.gens=#[]->
   codeAny (model l.prog w) callerA (.call (.ref j) #[[.ref a],[]]) (λr v=>r=.ok^.ret^.bool t_/\OldK b.heap v.heap/\v.os=b.os/\my v.gens) b):
  WalkO q c D E l.row.toRowW d [] (λf i=>PySem.call f i):=by
 intro w e b s y G Y j o z t g L M N O A F B P H I X k J Q C R;obtain rfl:L=.none:=Dflts.none F x;obtain rfl:M=.none:=Dflts.noKw F;let#[a,i,u,rfl,rfl,m,h,p]:=VE K k C;refine enter_call^mh (call w e b s y j o z t g a i u G Y N (fd_plain O) A B m h p P) λr v S=>?_;let#[rfl,T,U,V]:=S;exact#[.inl #[.bool t_,.bool t_,[],rfl,λ_=>rfl,.bool t_,VO l _,λ_=>#[pi,λ_ W=>(nomatch W)]],T,U,V]
end Att
namespace L2
theorem NP:∀{a:v_ Ev}{b:v_ Int},IntsAre a b->Vals (b.map V.int) a
 |_,_,.nil=>.nil
 |_,_,.cons n t h=>.cons #[t,rfl]^NP h
def dE(H:Hp):Prop:=∀b,H b=s_\/∃o a,H b=P3^.frz o^.lst a
def Xu{P:jK}{w:jQ}{K:Frag}{A R:Str->w_ Ev}{CX:Y3}{k:Nat}{S a:Ch}{fd:jt}{x:Str}{sp:Sp}{c:On}{t:v_ Ev}{B:v_ Int}
  (KX:K.In c.heap) (C:c.heap.Ns mainGlobals A) (g:c.heap.Ns builtinsNs R) (T:∀x:Str,x ≠ "__name__"->R x=bootBuiltins x) (D:c.heap.NoLimit) (hg:c.gens=#[])
  (Q:c.heap.get? a=P3 {cls:=.type "list",data:=.seq t.toArray}) (hi:IntsAre t B) (hl:B.length<=sizeLine) (hr:Room k callerA)
  (F:∀i:i8,K.In i->i.Ns mainGlobals A->D6 P w K A i CX k S fd [x] sp) (y:∀(s:On) (u:Ev),n_ s fd #[[u],[]] [(x,u)])
  (U:∀H:Hp,dE H->SqL K H a^B.map V.int->sp [.ref a] H (λv _=>v=.bl t_) λ_ _ _=>False)
  (W:∀H e j,CX [] H c (λ_ _ _=>False) e j->False):
  codeAny (model P w) callerA (.call (.ref S) #[[.ref a],[]]) (λr j=>r=.ok^.ret^.bool t_/\OldK c.heap j.heap/\j.os=c.os/\my j.gens) c:=by
 have rv:=NP hi;have E:=hi.length
 have p:∀H:Hp,dE H->SqL K H a^B.map V.int->HOk P w H c.heap->(∀b,H b≠s_->b=a)->(H a≠s_->K.lookup a=s_)->
   codeAny (model P w) callerA (.call (.ref S) #[[.ref a],[]]) (λr j=>r=.ok^.ret^.bool t_/\OldK c.heap j.heap/\j.os=c.os/\my j.gens) c:=by
  intro H hO hS G hA hK;have f:∀{b:Ch}{o:Obj},c.heap.get? b=P3 o->H b=s_->(PB c.heap H).get? b=P3 o:=λe n=>X8 e n
  have X:∀{b:Ch}{o:Obj}{I:Array DictEntry}{J:Nat},c.heap.get? b=P3 o->o.data=.dict I J->H b=s_:=λ{b o I J} e d=>by
   cases q:H b with
   |none=>rfl
   |some u=>
    have Y:b=a:=hA b (by rw[q]; simp);subst Y;rw[Q]at e; cases e
    have d':Data.seq t.toArray _=Data.dict I J:=d;cases d'
  have l:∀{b:Ch}{m:Str->w_ Ev},c.heap.Ns b m->(PB c.heap H).Ns b m:=λ{b m} #[o,I,J,e,d,r]=>#[o,I,J,f e^X e d,d,r]
  have L:K.In^PB c.heap H:=λb o e=>f (KX b o e) (by
   cases q:H b with
   |none=>rfl
   |some u=>
    have Y:b=a:=hA b (by rw[q]; simp);subst Y;rw[hK^by rw[q]; simp]at e; cases e)
  have hM:Mod K A^PB c.heap H:=#[L,l C,#[R,l g,T],let #[mc,h1,h2]:=D; #[mc,l h1,h2]];have e0:Env0 P w K A (PB c.heap H) callerA [] c H:=#[rfl,hM,λb o e=>ZZ e,oy^Vw _ _,trivial,λb g=>absurd (show b∈([]:v_ Ch)from g)^by simp,G,.of_eq hg];refine mh ((F _ L^l C).run callerA [] c H #[[.ref a],[]] [.ref a] [.ref a] _ _ hr e0 (y c^.ref a) (.cons rfl .nil)^U H hO hS) λr j h=>?_;cases r with
  |error e=>exact(W H e j h).elim
  | ok fl=>
   cases fl with
   |next=>exact kg h
   |brk=>exact kg h
   |cont=>exact kg h
   | ret u=>
    let#[v,H',os,M,un,N,r',q]:=h;have q':v=.bl t_:=q;subst q';obtain rfl:u=og t_:=r';refine#[rfl,OldK.of_keep λb o e=>?_,os,M];cases q:H b with
    |none=>exact un.keep b o e q (by intro z; exact absurd (show b∈([]:v_ Ch)from z)^by simp)^by simp
    | some u=>
     rcases hO b with z|⟨ob,xs,z⟩
     .rw[q]at z; cases z
     .have z2:=un.frzs b ob _ z
      let#[e1,_]:=G b _ z;let#[e2,_]:=N b _ z2;rw[e]at e1; cases e1
      exact e2
 cases Z:K.lookup a with
 |some o=>
  have e:=KX a o Z;rw[Q]at e;cases e;refine p (λ_=>s_) (λ_=>.inl rfl) (.inr #[_,t.toArray,_,Z,rfl,rfl,rfl,by rw[iy,E]; exact hl,by simpa using rv]) (λb u z=>by have O:(s_:w_ HO)=P3 u:=z; cases O) (λb z=>absurd rfl z) λz=>absurd rfl z
 | none=>
  refine p (λb=>if b=a then P3^.frz {cls:=.type "list",data:=.seq t.toArray}^.lst^B.map V.int else s_) (λb=>?_) (.inl^.inr #[{cls:=.type "list",data:=.seq t.toArray},if_pos rfl]) (λb u z=>?_) (λb z=>?_) λ_=>Z
  .by_cases g:b=a
   .exact .inr #[_,_,if_pos g]
   .exact .inl^if_neg g
  .by_cases g:b=a
   .have O:=(if_pos g).symm.trans z
    cases O;subst g;exact#[Q,by rw[FM]; exact hl,t,_,rv,Q]
   .have O:=(if_neg g).symm.trans z
    cases O
  .by_cases g:b=a
   .exact g
   .exact absurd (if_neg g) z
def Tt{l:PySem.W.OpenLaw}{n k:Nat}{q:jK}{j:v_ Str}{O:(Str->w_ Ev)->i8->Prop}{I:jQ->i8->Prop}{d:DefRec}{K:Params->Frag}{CX:jQ->Y3}{sp:jQ->Sp}{x:Str}
  (P:l.most=P3 n) (z:n<=sizeLine) (A:d.params.defaults=[]) (Q:Room k callerA)
  (R:∀(w:jQ) (h:i8),I w h->(K w.params).In h)
  (F:∀(w:jQ) (p:Str->w_ Ev) (t:Ch) (h:i8),(K w.params).In h->h.Ns mainGlobals p->p d.name=P3^.ref t->
   ∃fd:jt,(∀(s:On) (u:Ev),n_ s fd #[[u],[]] [(x,u)]) /\
    ∀c:i8,(K w.params).In c->c.Ns mainGlobals p->D6 l.prog w (K w.params) p c (CX w) k t fd [x]^sp w)
  (B:∀(w:jQ) (H:Hp) (a:Ch) (y:v_ Int),y.length<=n->dE H->SqL (K w.params) H a^y.map V.int->sp w [.ref a] H (λv _=>v=.bl t_) λ_ _ _=>False)
  (C:∀(w:jQ) (H:Hp) (s:On) (e:Ev) (D:On),CX w [] H s (λ_ _ _=>False) e D->False):
  PySem.W.WalkO q j O I l.row.toRowW d [] (λf J=>PySem.call f J):=by
 refine Att.attach_call P A λw L M p mb t o pm cd S a J y G Y ho hd U E r m i X=>?_;have N:=R w _ Y;let#[fd,Z,hF]:=F w p t _ N G.T.g E;exact Xu N G.T.g G.T.b G.T.builtins G.T.nolimit X r m (iz i z) Q hF Z (λH hO hS=>B w H a y i hO hS) λH e D=>C w H _ e D
end L2
/- THE LAST THEOREM (shape; LID,My.* are yours):
   My.Adr:a structure of the addresses that your layer names (classes,functions); My.Txt K t:a structure (Prop) of the equations over K;
   My.txt_mk:{K}{implicit addresses ..} (e1:nsIn K mainGlobals "law"=P3^P3^.ref f) (e2:K.lookup f=P3 #[oc,od,.func^fnOf "law" "law" params body scope dV kV doc pm an cdv ct,sl]) (e3:codeIn K cdv "law"=t_) ..:∃ t,My.Txt K t
set_option maxRecDepth 100000 in
set_option maxHeartbeats 0 in
def PySem.Challenge.cw_LID_holds:PySem.Challenge.rw_LID.Holds:=by
 w_on; o_law; k_head; (case hw=>w_witness2)
 k_fill
 refine L2.Tt (l:=PySem.Challenge.rw_LID) (n:=63) (k:=40) (x:="script") (CX:=λw=>..) (sp:=λ_=>My.sp_law) rfl (by cbv) rfl #[rfl,by cbv,by cbv] (λw h Y=>PySem.W.kIn_of Y) ?F ?S ?C
 case F=>
  intro w mg fa h KX G hmg
  have T:∃t,My.Txt (L2.KOf KX) t:=by
   dsimp only[L2.KOf] -- K must stand as «<heap const> w.params» for k_is
   refine' My.txt_mk ?e1 ?e2 ?e3 ..
   (case e1=>PySem.W.k_is) -- in the order:a name->its address->its object->its parts
   (case e2=>PySem.W.k_is)
   ..
  let#[t,T]:=T;have e0:=hmg.symm.trans^mg_of KX G T.law;cases e0 -- fa is the law's own address;exact#[_,λs u=>.of_eq rfl,λbase kb nb=>My.law_fn T kb nb] -- if «.of_eq rfl» comes too early:refine' #[_,?b,λbase kb nb=>My.law_fn T kb nb]; exact λs u=>.of_eq rfl
 case S=>exact λw H a ns hl hO hS=>..
 case C=>exact ..
(the tactic k_is has no namespace:write k_is) -/
namespace L2
def EH(s:jH):Arguments:=match s with
 |.FunctionDef _ a _ _ _ _ _ _ _ _=>a
 |_=>{posonlyargs:=[],args:=[],vararg:=s_,kwonlyargs:=[],kw_defaults:=[],kwarg:=s_,defaults:=[]}
def CP(s:jH):v_ jH:=match s with
 |.FunctionDef _ _ b _ _ _ _ _ _ _=>b
 |_=>[]
def AR(s:jH):lJ:=match s with
 |.FunctionDef _ _ _ _ _ _ a _ _ _=>a
 |_=>{kind:=.function,names:=[],isGenerator:=u_,isCoroutine:=u_}
abbrev J6:Y3:=λ_ _ _ _ _ _=>False
abbrev E0:XK:=λ_ _ _=>False
def aX{X:Cx}:Tr J6 X E0:=λ_ _ _ _ _ _ _ h=>h.elim
structure Fun (K:Frag) (x qual:Str) (st:jH) (f:Ch) (fd:jt):Prop where
 ex:∃(oc:Ev) (od:Option Ch) (kV doc pm:Ev) (an:Option Ch) (cdv ct:Ev) (osl:Array^Option Ev),
  fd=fnOf x qual (EH st) (CP st) (AR st) .none kV doc pm an cdv ct/\K.lookup f=P3 #[oc,od,.func fd,osl]/\codeIn K cdv qual=t_
 kp:keepIn K^.ref f=t_
section
variable {P:Program}{w:World}{K:Frag}{mg:Str->w_ Value}{base:Heap}
def Fun.ok{x a:Str}{st:jH}{f:Ch}{fd:jt}{N g:v_ Str}{k:Nat}{i:Sp}(F:Fun K x a st f fd)(S:Ae N g^AR st)(len:∀c H Q E,i c H Q E->c.length=g.length)
  (d:∀(e:Ev) (A:jd) (b:v_ Env) (s:On) (H:Hp) (c:v_ V) (Q:VK) (E:XK),Room k^A.deeper^envOfC a (AR st) s.heap.objs.size f e->i c H Q E->
   ∃t,PSs (MF J6 P w K mg base N a (AR st) f e A b s H E).nox (CP st) t/\t {nx:=λ_ m=>Q .non m,rt:=Q} (start N c) H):D6 P w K mg base J6 (k+1) f fd g i:=by
 let#[u,v,y,n,z,B,e,C,o,rfl,p,j]:=F.ex;refine fH p j S len λA b s H c Q E r l=>?_;let#[t,h,q]:=d _ A _ s H c Q E r l;exact#[t,h.nox,q]
def Fun.binds{x a:Str}{st:jH}{f:Ch}{fd:jt}{ps:v_ Str}(F:Fun K x a st f fd)
  (h:∀(d b e:Ev) (g:w_ Ch) (c i:Ev) (j:v_ Ev),j.length=ps.length->bindArgs (fnOf x a (EH st) (CP st) (AR st) .none d b e g c i) #[j,[]]=pure^ps.zip j):Binds K fd ps []:=by
 let#[m,n,d,b,e,g,c,i,k,rfl,o,l]:=F.ex;exact .all^h d _ e g _ i
def X_{x a:Str}{st:jH}{f:Ch}{j:Ev}{m e:w_ Ch}{g:Array^w_ Ev}{kV d h b i:Ev}(l:K.lookup f=P3 #[j,m,.func^fnOf x a (EH st) (CP st) (AR st) .none kV d h e b i,g])
  (c:codeIn K b a=t_) (k:keepIn K^.ref f=t_):Fun K x a st f^fnOf x a (EH st) (CP st) (AR st) .none kV d h e b i:=#[#[j,m,kV,_,h,e,_,i,_,rfl,l,c],k]
end
def IB{A:jd}{k:Nat}(a:Room k A):A.units+1<cLine:=lN (Nat.add_le_add_left (by cbv) _) a.units
section
variable {X:Cx}
def pv(i:Nat){x:Str}{pos:Pos}(b:X.N[i]?=P3 x:=by rfl)(c:dB X.env.scope x:=by first|exact TM rfl|exact kG (TM rfl)|exact kG (kG rfl))(d:(x==("__debug__":Str))=u_:=by cbv)
  (a:(x==("__classdict__":Str))=u_:=by cbv):PE X (.Name x pos)^CC i:=Ou b c d a
end
def Ba{A B:Prop}(h:B):if u_=t_ then A else B:=by
 grind
def C8{A B:Prop}(h:A):if t_=t_ then A else B:=by
 grind
def CO{c A B:Prop}[Decidable c](a:c->A)(b:¬c->B):if c then A else B:=by
 grind
section
variable {κ:Type}[DecidableEq κ]
def DD(a:v_ (κ×V))(k:κ):w_ V:=(a.find? λb=>decide (b.1=k)).map (·.2)
def putK(a:v_ (κ×V))(k:κ)(v:V):v_ (κ×V):=
 if(a.any λb=>decide (b.1=k))=t_ then a.map (λb=>if b.1=k then(b.1,v)else b)else a++[(k,v)]
def EY{p:κ×V}{r:v_ (κ×V)}{k:κ}(e:p.1=k):DD (p::r) k=P3 p.2:=by simp[DD,e]
def EZ{p:κ×V}{r:v_ (κ×V)}{k:κ}(e:¬p.1=k):DD (p::r) k=DD r k:=by simp[DD,e]
theorem P8(k:κ):∀a:v_ (κ×V),(a.any λb=>decide (b.1=k))=(DD a k).isSome
 |[]=>rfl
 |p::r=>by
  rw[List.any_cons]
  by_cases e:p.1=k
  .simp[EY e,decide_eq_true e,Bool.true_or]
  .rw[EZ e,decide_eq_false e]; exact P8 k r
def Ft(a:v_ (κ×V))(k:κ)(v:V):(putK a k v).length<=a.length+1:=by
 unfold putK
 grind
def RelO.isSome_eq{o:w_ V}{u:w_ Ev}(r:RelO o u):o.isSome=u.isSome:=by
 cases o with
 |none=>cases u with
  |none=>rfl
  |some _=>exact(r).elim
 |some _=>cases u with
  |none=>exact(r).elim
  |some _=>rfl
def RelO.getD{o:w_ V}{u:w_ Ev}{d:V}{a:Ev}(r:RelO o u)(b:RelV d a):RelV (o.getD d)^u.getD a:=by
 cases o with
 |none=>cases u with
  |none=>exact b
  |some _=>exact(r).elim
 |some _=>cases u with
  |none=>exact(r).elim
  |some _=>exact r
def KV.val{a:v_ (κ×V)}{f:v_ (κ×Ev)}(r:KV a f)(k:κ):RelO (DD a k)^valueAt f k:=by
 induction r with
 |nil=>exact lK
 | @cons p q l c h t i=>
  let#[g,j]:=h
  by_cases e:p.1=k
  .have d:=g.symm.trans e
   have b:valueAt (q::c) k=P3 q.2:=by simp[valueAt,d]
   rw[EY e,b]; exact j
  .have d:¬q.1=k:=λz=>e^g.trans z
   have b:valueAt (q::c) k=valueAt c k:=by simp[valueAt,d]
   rw[EZ e,b]; exact i
def KV.any{a:v_ (κ×V)}{c:v_ (κ×Ev)}(r:KV a c)(k:κ):(a.any λb=>decide (b.1=k))=c.any λb=>decide (b.1=k):=by
 induction r with
 |nil=>rfl
 |cons h t d=>simp_all
def KV.repl{b:v_ (κ×V)}{c:v_ (κ×Ev)}(r:KV b c)(k:κ){y:V}{u:Ev}(f:RelV y u):
  KV (b.map λa=>if a.1=k then(a.1,y)else a) (c.map λa=>if a.1=k then(a.1,u)else a):=by
 induction r with
 |nil=>exact .nil
 |@cons p q g i h t d=>
  refine .cons ?_ d
  by_cases e:p.1=k
  .simp_all
  simp_all
def KV.put{kvs:v_ (κ×V)}{a:v_ (κ×Ev)}(r:KV kvs a)(k:κ){y:V}{u:Ev}(b:RelV y u):KV (putK kvs k y)^stored a k u:=by
 unfold putK stored;rw[r.any k]
 by_cases e:(a.any λc=>decide (c.1=k))=t_
 .rw[if_pos e,if_pos e]; exact r.repl k b
 .rw[if_neg e,if_neg e]; exact Paired.snoc r #[rfl,b]
def KV.length{a:v_ (κ×V)}{b:v_ (κ×Ev)}(r:KV a b):a.length=b.length:=Paired.length r
end
def Js{P:jK}{w:jQ}{k:Key}{u:Ev}(r:RelV (kV k) u):(BM P w).is k u=t_:=by
 cases k with
 |inl i=>let#[t,e]:=(r); subst e; exact Q0 P w i t
 |inr x=>let#[t,e]:=(r); subst e; exact Qz P w x t
theorem JG{P:jK}{w:jQ}:∀{a:v_ Key}{b:v_ Ev},Vals (a.map kV) b->ItemsAre (BM P w) a b
 |[],_,r=>by cases r; exact .nil
 |k::a,_,r=>by
  cases r with
  |cons h t=>exact .cons (Js h)^JG t
abbrev KT(H:Hp):v_ (v_ Key×V)->v_ (v_ Key×Ch×Ev)->Prop:=Paired λp q=>p.1=q.1/\H q.2.1=P3^.tup^p.1.map kV/\RelV p.2 q.2.2
def KT.val{H:Hp}{a:v_ (v_ Key×V)}{f:v_ (v_ Key×Ch×Ev)}(r:KT H a f)(k:v_ Key):RelO (DD a k) ((atKey f k).map (·.2)):=by
 induction r with
 |nil=>exact lK
 | @cons p q l c h t i=>
  let#[g,_,j]:=h
  by_cases e:p.1=k
  .have d:=g.symm.trans e
   have b:atKey (q::c) k=P3 q.2:=by simp[atKey,d]
   rw[EY e,b]; exact j
  .have d:¬q.1=k:=λz=>e^g.trans z
   have b:atKey (q::c) k=atKey c k:=by simp[atKey,d]
   rw[EZ e,b]; exact i
def KT.repl{H:Hp}{a:v_ (v_ Key×V)}{c:v_ (v_ Key×Ch×Ev)}(r:KT H a c)(k:v_ Key){y:V}{u:Ev}(f:RelV y u):
  KT H (a.map λb=>if b.1=k then(b.1,y)else b) (c.map^putAt k u):=by
 induction r with
 |nil=>exact .nil
 |@cons p q g i h t d=>
  refine .cons ?_ d;unfold putAt
  by_cases e:p.1=k
  .simp_all
  simp_all
def KT.put{H:Hp}{kvs:v_ (v_ Key×V)}{a:v_ (v_ Key×Ch×Ev)}(r:KT H kvs a)(k:v_ Key){b:Ch}{y:V}{u:Ev}(d:H b=P3^.tup^k.map kV)(c:RelV y u):
  KT H (putK kvs k y) (storedH a k b u):=by
 have e:(kvs.any λf=>decide (f.1=k))=(atKey a k).isSome:=by
  rw[P8,(r.val k).isSome_eq,oW]
 unfold putK storedH;rw[e]
 by_cases q:(atKey a k).isSome=t_
 .rw[if_pos q,if_pos q]; exact r.repl k c
 .rw[if_neg q,if_neg q]; exact Paired.snoc r #[rfl,d,c]
def KT.keeps{H c:Hp}{a:v_ (v_ Key×V)}{d:v_ (v_ Key×Ch×Ev)}(r:KT H a d)(f:∀b e,H b=P3^.tup e->c b=P3^.tup e):KT c a d:=
 Paired.mapP r λ_ _ z=>#[z.1,f _ _ z.2.1,z.2.2]
section
variable {P:Program}{w:World}{H:Hp}{h:Heap}{a:Addr}
def aL{u:HO}(ok:HOk P w H h)(e:Rd H a u):ObjOk P w H h a u:=e.ok ok
def IH{b:v_ (Key×V)}(ok:HOk P w H h)(e:Rd H a^.dK b):b.length<=sizeLine/\(a==sysModules)=u_/\∃c,KV b c/\h.DictOf (BM P w) a c:=
 aL ok e
def ak{b:v_ (Key×V)}(ok:HOk P w H h)(e:H a=P3^.dK b):b.length<=sizeLine/\(a==sysModules)=u_/\∃c,KV b c/\h.DictOf (BM P w) a c:=IH ok^.inl e
def HA{b:v_ Key}(ok:HOk P w H h)(e:H a=P3^.tup^b.map kV):(tupleKind^BM P w).is h b a:=by
 let#[_,c,r,o,d,f,n,g,_]:=(ok a _ e);exact#[o,_,n,d,f,g,by simpa using JG r]
def Jv{b:v_ (v_ Key×V)}(ok:HOk P w H h)(e:Rd H a^.dT b):b.length<=sizeLine/\(a==sysModules)=u_ /\
  ∃d,KT H b d/\h.DictOfH (tupleKind^BM P w) a d:=by
 let#[z,y,d,r,o,f,g,i,j,k,n,s]:=(aL ok e);refine#[z,y,d,r,o,f,g,i,j,k,n,λx c=>?_,s]
 have all:∀{l:v_ _}{m:v_ _},KT H l m->∀x∈m,(tupleKind^BM P w).is h x.1 x.2.1:=by
  intro l m q
  induction q with
  |nil=>grind
  |@cons p q v A B t u=>
   intro x c
   rcases UF.mp c with e|c
   .exact HA ok^by grind
   .exact u x c
 exact all r x c
def fT{b:v_ (v_ Key×V)}(ok:HOk P w H h)(e:H a=P3^.dT b):b.length<=sizeLine/\(a==sysModules)=u_ /\
  ∃c,KT H b c/\h.DictOfH (tupleKind^BM P w) a c:=Jv ok^.inl e
end
def DGet(H:Hp)(a:Ch)(y:V)(r:w_ V):Prop:=
 (∃c k,Rd H a^.dK c/\y=kV k/\r=DD c k)\/∃c k b,Rd H a^.dT c/\y=.ref b/\H b=P3^.tup^k.map kV/\r=DD c k
def DPut(H:Hp)(a:Ch)(y v:V)(d:Hp):Prop:=
 (∃c k,H a=P3^.dK c/\y=kV k/\c.length<sizeLine/\d=BQ H a^.dK^putK c k v) \/
 ∃c k b,H a=P3^.dT c/\y=.ref b/\H b=P3^.tup^k.map kV/\c.length<sizeLine/\d=BQ H a^.dT^putK c k v
theorem DGet.k{H:Hp}{a:Ch}{b:v_ (Key×V)}{k:Key}(e:H a=P3^.dK b):DGet H a (kV k)^DD b k:=.inl #[_,k,.inl e,rfl,rfl]
theorem DPut.k{H:Hp}{a:Ch}{b:v_ (Key×V)}{k:Key}{v:V}(e:H a=P3^.dK b)(c:b.length<sizeLine):DPut H a (kV k) v^BQ H a^.dK^putK b k v:=.inl #[_,k,e,rfl,c,rfl]
def DPut.t{H:Hp}{a b:Ch}{c:v_ (v_ Key×V)}{k:v_ Key}{v:V}(e:H a=P3^.dT c)(eb:H b=P3^.tup^k.map kV)(d:c.length<sizeLine):
  DPut H a (.ref b) v (BQ H a^.dT^putK c k v):=.inr #[_,k,b,e,rfl,eb,d,rfl]
section
variable {X:Cx}{zH:v_ (Addr×Obj)}{Z:St}{H:Hp}{s:Shared}{a:Addr}{y v:V}{u r:Value}{o:w_ V}{A:Around}{E:Value->Shared->Prop}
def Inv.big(I:Inv X zH Z H s):sysModules<s.heap.objs.size:=nQ (by cbv) (I.mod.glob.keeps I.bk).lt
def V3{Q:Ev->On->Prop}(B:A.units+1<cLine)(I:Inv X zH Z H s)(g:DGet H a y^P3 v)(t:RelV y u)(h:∀f x,Inv X zH Z H x->RelV v f->Q f x):
  wpAny (model X.prog X.w) A (getItem (.ref a) u) Q E s:=by
 rcases g with⟨i,k,e,j,l⟩|⟨i,k,b,e,j,C,l⟩
 .subst j
  let#[z,D,F,c,m]:=IH I.hok e;let#[f,n,d]:=RelO.some_of (v:=v) (o:=valueAt F k) (by rw[l]; exact c.val k);exact wpAny_getItem_of (Js t) m.mapOf n^h f _ (I.tok _) d
 .subst j
  cases(show u=ja b from t);let#[z,D,G,c,m]:=Jv I.hok e;let#[f,n,d]:=RelO.some_of (v:=v) (o:=(atKey G k).map (·.2)) (by rw[l]; exact c.val k);let#[p,J,q]:=jY.mp n;refine wpAny_getItem_heap (lO B) (HA I.hok C) m J ?_;rw[q];exact h f _ (I.tok _) d
def gz{Q:Ev->On->Prop}(p:A.units+1<cLine)(I:Inv X zH Z H s)(g:DGet H a y o)(m:RelV y u)(h:∀n,Inv X zH Z H n->Q (.bool o.isSome) n):
  wpAny (model X.prog X.w) A (compareOp .In u^.ref a) Q E s:=by
 rcases g with⟨d,k,e,f,l⟩|⟨d,k,b,e,f,t,l⟩
 .subst f
  let#[z,i,x,c,j]:=IH I.hok e;refine wpAny_in_of (Js m) i j.mapOf ?_;rw[←(c.val k).isSome_eq,←l];exact h _^I.tok _
 .subst f
  cases(show u=ja b from m);let#[z,i,B,c,j]:=Jv I.hok e;refine wpAny_in_heap (lO p) (HA I.hok t) i j ?_;have q:=(c.val k).isSome_eq;rw[oW]at q;rw[←q,←l];exact h _^I.tok _
def Z7{Q:Ev->On->Prop}(p:A.units+1<cLine)(I:Inv X zH Z H s)(g:DGet H a y o)(m:RelV y u)(h:∀n,Inv X zH Z H n->Q (.bool (!o.isSome)) n):
  wpAny (model X.prog X.w) A (compareOp .NotIn u^.ref a) Q E s:=by
 rcases g with⟨d,k,e,f,l⟩|⟨d,k,b,e,f,t,l⟩
 .subst f
  let#[z,i,x,c,j]:=IH I.hok e;refine wpAny_notIn_of (Js m) i j.mapOf ?_;rw[←(c.val k).isSome_eq,←l];exact h _^I.tok _
 .subst f
  cases(show u=ja b from m);let#[z,i,B,c,j]:=Jv I.hok e;refine wpAny_notIn_heap (lO p) (HA I.hok t) i j ?_;have q:=(c.val k).isSome_eq;rw[oW]at q;rw[←q,←l];exact h _^I.tok _
def PP{c:i8}{e:Nat}{d:HO}(I:Inv X zH Z H s)(f:ft^H a)(g:me a s.heap c)(h:∃q,c.get? a=P3 q)(new:ObjOk X.prog X.w (BQ H a d) c a d):
  Inv X zH Z (BQ H a d) {s with heap:=c,toks:=e}:=
 I.write f (.inl rfl) (λb q i z=>(g.2 b i).trans z) h new
def YR{P:jK}{w:jQ}{f:Hp}{e:i8}{b:v_ (Key×V)}{c:v_ (Key×Ev)}(z:b.length<=sizeLine)(g:(a==sysModules)=u_)(d:KV b c)(h:e.DictOf (BM P w) a c):
  ObjOk P w f e a (.dK b):=#[z,g,c,d,h]
def V2{D:Hp}{Q:Unit->On->Prop}(M:A.units+1<cLine)(I:Inv X zH Z H s)(g:DPut H a y v D)(F:RelV y u)(rv:RelV v r)(h:∀G,Inv X zH Z D G->Q () G):
  wpAny (model X.prog X.w) A (setItem (.ref a) u r) Q E s:=by
 rcases g with⟨d,k,e,m,l,n⟩|⟨d,k,b,e,m,J,l,n⟩
 .subst m n
  let#[z,p,N,f,t]:=ak I.hok e;have x:N.length<=sizeLine:=by rw[←f.length]; exact z
  have B:(putK d k v).length<=sizeLine:=by have:=Ft d k v; omega
  refine wpAny_setItem_pairs (hsz:=x) (Js F) t λK i C=>h _ ?_;have O:∃q,K.get? a=P3 q:=let #[q,_,_,j,_]:=i; #[q,j]
  exact PP I (by rw[e]; exact lK) C O^YR B p (f.put k rv) i
 .subst m n
  cases(show u=ja b from F);let#[z,p,P,f,t]:=fT I.hok e;have x:P.length<=sizeLine:=by rw[←Paired.length f]; exact z
  have B:(putK d k v).length<=sizeLine:=by have:=Ft d k v; omega
  refine wpAny_setItem_heap (hsz:=x) (lO M) (HA I.hok J) t λK i C=>h _ ?_;let#[q,R,S,j,T,U,V,_,W]:=i;refine PP I (by rw[e]; exact lK) C #[q,j] #[B,p,_,(f.put k J rv).keeps λc Y L=>?_,q,R,S,j,T,U,V,W];rw[Ah^eg L e λz=>nomatch z];exact L
end
def aE(i:jJ):Prop:=∀a b,subscripted i u_ a b=operate [a,b]^getItem a b
def ZE{b:jK}{w:jQ}{A:jd}{E:Ev->On->Prop}{s:On}{g:Env}{c a:jJ}{pos:Pos}{T m:String}{Q:Ev->On->Prop}
  (n:typeLookup (.type T) "__getitem__"=pure^P3^.builtin m) (p:aE a)
  (h:wpAny (model b w) A (eval c g) (λo f=>wpAny (model b w) A (eval a g) (λi d=>d.TypeIs o T/\wpAny (model b w) A (getItem o i) Q E d) E f) E s):
  wpAny (model b w) A (eval (.Subscript c a pos) g) Q E s:=by
 refine Subscript_^jo h (λo f j=>jo j (λi d e=>?_) λ_ _ x=>x) λ_ _ x=>x;let#[q,e]:=e;refine Db ?_;refine Db^mX q n ?_
 first
  |exact T0 (Db (by
  rw[p o i];exact wpAny_operating^jo e (λr l k=>Db^wpAny_letTemporaryGo^T0 k) λ_ _ x=>x))
  |grind
  |grind
def RK{X:Cx}{f:v_ (Ch×Obj)}{Z:St}{H:Hp}{s:On}{a:Ch}{y:V}{o:w_ V}(I:Inv X f Z H s)(g:DGet H a y o):s.TypeIs (.ref a) "dict":=by
 rcases g with⟨c,k,e,_,_⟩|⟨c,k,b,e,_,_,_⟩
 .let#[_,_,h,_,d]:=IH I.hok e
  exact d.typeIs
 .let#[_,_,i,_,d]:=Jv I.hok e
  exact d.typeIs
def di(c ty:TE):TE:=λZ H Q=>c Z H λx d=>ty Z d λy b=>∃a v,x=.ref a/\DGet b a y^P3 v/\Q v b
def d6(c ty d:TE):TS:=λD Z H=>d Z H λv e=>c Z e λx f=>ty Z f λy g=>∃a b,x=.ref a/\DPut g a y v b/\D.nx Z b
section
variable {X:Cx}{o i value:Expr}{pos pos':Pos}{td ty tv:TE}
def Ke(d:X.A.units+1<cLine)(e:PE X o td)(f:PE X i ty)(j:aE i):PE X (.Subscript o i pos)^di td ty:=by
 intro z s Z H Q I h;refine ZE PySem.F.slot_dict_getitem.lookup j^thn (e _ s Z H _ I h) λu k #[x,l,m,n,p]=>thn (f _ k Z l _ m p) λB C #[y,q,c,r,a,v,ex,g,t]=>?_;subst ex;obtain rfl:u=ja a:=n;exact#[RK c g,V3 d c g r λD E w b=>#[v,q,w,b,t]]
def Hd(b:X.A.units+1<cLine)(c:PE X o td)(d:PE X i ty)(e:PE X value tv)(f:swapsWith value (P3^.Subscript o i pos') pos.line X.env=pure u_):
  PS X (.Assign [.Subscript o i pos'] value pos) (d6 td ty tv):=by
 intro J s Z H D I h;refine wpAny_Assign_Subscript (thn (e _ s Z H _ I h) λr j #[v,k,l,m,n]=>thn (c _ j Z k _ l n) λu p #[x,q,t,w,z]=>thn (d _ p Z q _ t z) λK L #[y,M,B,C,a,E,ex,g,F]=>?_) f;subst ex;obtain rfl:u=ja a:=w;exact V2 b B g C m λN G=>#[Z,E,G,F]
end
def RJ{P:jK}{w:jQ}{H:Hp}(h:i8)(a:sysModules<h.objs.size):ObjOk P w H (h.push {cls:=.type "dict",data:=.dict #[]}) h.objs.size^.dK []:=
 #[i6 _,beq_eq_false_iff_ne.mpr^jy^i_ a,[],.nil,Heap.DictOf.new h]
def YN{P:jK}{w:jQ}{H:Hp}(h:i8)(a:sysModules<h.objs.size):ObjOk P w H (h.push {cls:=.type "dict",data:=.dict #[]}) h.objs.size^.dT []:=
 #[i6 _,beq_eq_false_iff_ne.mpr^jy^i_ a,[],.nil,_,_,0,XV _ rfl,#[rfl,rfl,rfl],rfl,rfl,jT]
def bO:TE:=λ_ H Q=>∀p,H p=s_->Q (.ref p)^BQ H p^.dK []
def bN:TE:=λ_ H Q=>∀p,H p=s_->Q (.ref p)^BQ H p^.dT []
section
variable {X:Cx}{pos:Pos}
def Qj:PE X (.Dict [] [] pos) bO:=λa s Z H Q I h=>
 wpAny_Dict_empty #[.ref _,_,I.laid (λ_ _ q=>Go _ q) (Rs _)^RJ _ I.big,rfl,h _^I.hok.fresh^Rs _]
def Xb:PE X (.Dict [] [] pos) bN:=λa s Z H Q I h=>
 wpAny_Dict_empty #[.ref _,_,I.laid (λ_ _ q=>Go _ q) (Rs _)^YN _ I.big,rfl,h _^I.hok.fresh^Rs _]
end
def R6:v_ (TE×TE)->St->Hp->(v_ (V×V)->Hp->Prop)->Prop
 |[],_,H,Q=>Q [] H
 |(a,b)::r,Z,H,Q=>a Z H λx c=>b Z c λy d=>R6 r Z d λe f=>Q ((x,y)::e) f
abbrev VV:v_ (V×V)->v_ (Ev×Ev)->Prop:=Paired λp q=>RelV p.1 q.1/\RelV p.2 q.2
def gI(X:Cx)(pos:Pos)(b:v_^w_ jJ)(a:v_ jJ)(c:v_ (TE×TE)):Prop:=
 ∀(d:v_ (Ch×Obj)) (s:On) (Z:St) (H:Hp) (Q:v_ (V×V)->Hp->Prop),Inv X d Z H s->R6 c Z H Q->
  wpAny (model X.prog X.w) X.A (evalPairs^pairTrees b a X.env pos) (λg h=>∃e f,Inv X d Z f h/\VV e g/\Q e f) X.xe s
def ZO{X:Cx}{pos:Pos}:gI X pos [] [] []:=λa s Z H Q I h=>pairTrees_nil_walk #[[],H,I,.nil,h]
def XS{X:Cx}{pos:Pos}{k v:jJ}{c:v_^w_ jJ}{d:v_ jJ}{e f:TE}{a:v_ (TE×TE)}(g:PE X k e)(i:PE X v f)(j:gI X pos c d a):
  gI X pos (P3 k::c) (v::d) ((e,f)::a):=λD s Z H Q I h=>
 pairTrees_cons_walk (thn (g _ s Z H _ I h) λu l #[x,m,n,o,p]=>thn (i _ l Z m _ n p) λE q #[y,r,t,w,z]=>
  thn (j _ q Z r _ t z) λF G #[J,A,B,b,C]=>#[_,A,B,.cons #[o,w] b,C])
def Lu(a more:v_ (Key×V)):v_ (Key×V):=more.foldl (λb c=>putK b c.1 c.2) a
def KV.merge:∀{a:v_ (Key×V)}{d:v_ (Key×Ev)}{b:v_ (Key×V)}{c:v_ (Key×Ev)},KV a d->KV b c->KV (Lu b a)^merged c d:=by
 intro a d b c r
 induction r generalizing b c with
 |nil=>intro q; exact q
 | @cons p q g i h t e=>
  intro f
  exact e (by
   have:=f.put p.1 h.2
   simp_all)
theorem Gv:∀(more a:v_ (Key×V)),(Lu a more).length<=a.length+more.length
 |[],a=>by show a.length<=a.length+0; omega
 |p::r,a=>by
  have b:=Gv r^putK a p.1 p.2;have c:=Ft a p.1 p.2;show(Lu _ r).length<=_
  grind
theorem MJ{P:jK}{w:jQ}:∀{d:v_ (Key×V)}{f:v_ (Ev×Ev)},VV (d.map λg=>(kV g.1,g.2)) f->∃e,Carries (BM P w) f e/\KV d e
 |[],_,r=>by cases r; exact#[[],lK,.nil]
 | p::d,_,r=>by
  cases r with
  |@cons a b j k h t=>
   let#[e,c,q]:=MJ t;let#[l,i]:=b;exact#[(p.1,i)::e,#[Js h.1,rfl,c],.cons #[rfl,h.2] q]
def dh(b:v_ (TE×TE)):TE:=λZ H Q=>∀p,H p=s_->R6 b Z (BQ H p^.dK []) λe c=>c p=P3^.dK []/\∃a:v_ (Key×V),e=a.map (λd=>(kV d.1,d.2))/\a.length<=15/\Q (.ref p)^BQ c p^.dK^Lu [] a
def ZS{X:Cx}{pos:Pos}{b:v_^w_ jJ}{d:v_ jJ}{f:v_ (TE×TE)}(h:gI X pos b d f)(g:b.all (·.isSome)=t_)(n:b.length=d.length)(p:b≠[])
  (k:b.length<=15):PE X (.Dict b d pos)^dh f:=by
 intro r s Z H Q I q;have t:=I.hok.fresh^Rs s.heap.objs.size;have u:=I.laid (a:=s.heap.objs.size) (o:=.dK []) (h':=s.heap.push {cls:=.type "dict",data:=.dict #[]}) (t':=s.toks) (λ_ _ q=>Go _ q) (Rs _)^RJ s.heap I.big;refine wpAny_Dict_walk (knd:=BM X.prog X.w) g n p k^thn (h r _ Z _ _ u^q _ t) λM N #[O,R,m,l,e,i,v,S,x]=>?_;subst v;let#[y,c,A]:=MJ (P:=X.prog) (w:=X.w) l;let#[z,B,C,D,E]:=ak m.hok e;cases D;refine#[y,c,E,λh' j F=>#[.ref s.heap.objs.size,_,?_,rfl,x]]
 have G:(Lu [] i).length<=sizeLine:=by
  have J:=Gv i [];rw[ko]at J;rw[jX]; omega
 have K:∃q,h'.get? s.heap.objs.size=P3 q:=let #[q,_,_,L,_]:=j; #[q,L]
 exact PP m (by rw[e]; exact lK) F K^YR G B (A.merge .nil) j
structure M1 (X:Cx) (o:jJ) (m:Str) (apos:Pos) (e:jJ) (cpos:Pos):Prop where
 base:attributeBase o m X.env^eval o X.env=eval o X.env
 few:((backTo cpos^starEach [e] X.env).all (λx=>!x.1)&&(backToKw cpos^keywordEach [] X.env).all (λx=>x.1.isSome)
  && decide (([e]:List jJ).length+([]:List k7).length+(if([]:List k7).isEmpty then 0 else 1)<30))=t_
 line:(apos.endLine==cpos.line)=t_
 trees:backTo cpos^starEach [e] X.env=[(u_,eval e X.env)]
structure M2 (X:Cx) (o:jJ) (m:Str) (apos:Pos) (e f:jJ) (cpos:Pos):Prop where
 base:attributeBase o m X.env^eval o X.env=eval o X.env
 few:((backTo cpos^starEach [e,f] X.env).all (λx=>!x.1)&&(backToKw cpos^keywordEach [] X.env).all (λx=>x.1.isSome)
  && decide (([e,f]:List jJ).length+([]:List k7).length+(if([]:List k7).isEmpty then 0 else 1)<30))=t_
 line:(apos.endLine==cpos.line)=t_
 trees:backTo cpos^starEach [e,f] X.env=[(u_,eval e X.env),(u_,eval f X.env)]
def gK(H:Hp)(a:Ch):Prop:=(∃b,Rd H a^.dK b)\/∃b,Rd H a^.dT b
def Sz{X:Cx}{k:v_ (Ch×Obj)}{Z:St}{H:Hp}{s:On}{a:Ch}(I:Inv X k Z H s)(d:gK H a):
  s.TypeIs (.ref a) "dict"/\(∀b,ja a=.ref b->∃c,s.heap.get? b=P3 c/\c.dict=s_)/\(a==sysModules)=u_:=by
 rcases d with⟨g,e⟩|⟨g,e⟩
 .let#[_,h,l,_,f]:=IH I.hok e
  refine#[f.typeIs,λb q=>?_,h];cases q;let#[c,_,_,i,j,_]:=f;exact#[c,i,j.2.1]
 .let#[_,h,m,_,f]:=Jv I.hok e
  refine#[f.typeIs,λb q=>?_,h];cases q;let#[c,_,_,i,j,_]:=f;exact#[c,i,j.2.1]
section
variable {X:Cx}{zH:v_ (Addr×Obj)}{Z:St}{H:Hp}{s:Shared}{a:Addr}{y d:V}{u r:Value}{o:w_ V}{A:Around}{E:Value->Shared->Prop}
def cj{Q:Ev->On->Prop}(t:A.units+1<cLine)(I:Inv X zH Z H s)(g:DGet H a y o)(n:RelV y u)(h:∀p q,Inv X zH Z H q->RelV (o.getD .non) p->Q p q):
  wpAny (model X.prog X.w) A (call (.builtin "dict.get") [.ref a,u]) Q E s:=by
 rcases g with⟨i,k,e,j,l⟩|⟨i,k,b,e,j,v,l⟩
 .subst j
  let#[z,m,B,c,f]:=IH I.hok e;refine nR PySem.F.slot_dict_get f.typeIs PySem.F.entry_dict_get (PySem.F.args_dict_get_2 _ _) (meets_dict_get (BM X.prog X.w) a (Js n) m) #[_,f.mapOf,h _ _ (I.tok _) ?_];rw[l];exact(c.val k).getD rfl
 .subst j
  cases(n);let#[z,m,x,c,f]:=Jv I.hok e;refine nR PySem.F.slot_dict_get f.typeIs PySem.F.entry_dict_get (PySem.F.args_dict_get_2 _ _) (meetsH_dict_get _ a b m) #[lO t,k,x,HA I.hok v,f,h _ _ (I.tok _) ?_];rw[l];exact(c.val k).getD rfl
def ci{Q:Ev->On->Prop}(v:A.units+1<cLine)(I:Inv X zH Z H s)(g:DGet H a y o)(n:RelV y u)(p:RelV d r)(h:∀q t,Inv X zH Z H t->RelV (o.getD d) q->Q q t):
  wpAny (model X.prog X.w) A (call (.builtin "dict.get") [.ref a,u,r]) Q E s:=by
 rcases g with⟨i,k,e,j,l⟩|⟨i,k,b,e,j,x,l⟩
 .subst j
  let#[z,m,C,c,f]:=IH I.hok e;refine nR PySem.F.slot_dict_get f.typeIs PySem.F.entry_dict_get (PySem.F.args_dict_get_3 _ _ _) (meets_dict_get_default (BM X.prog X.w) a (Js n) m r) #[_,f.mapOf,h _ _ (I.tok _) ?_];rw[l];exact(c.val k).getD p
 .subst j
  cases(n);let#[z,m,B,c,f]:=Jv I.hok e;refine nR PySem.F.slot_dict_get f.typeIs PySem.F.entry_dict_get (PySem.F.args_dict_get_3 _ _ _) (meetsH_dict_get_default _ a b m r) #[lO v,k,B,HA I.hok x,f,h _ _ (I.tok _) ?_];rw[l];exact(c.val k).getD p
end
def bQ(d ty:TE):TE:=λZ H Q=>d Z H λx b=>∃a,x=.ref a/\gK b a/\ty Z b λy c=>∃o,DGet c a y o/\Q (o.getD .non) c
def bP(d ty e:TE):TE:=λZ H Q=>d Z H λx b=>∃a,x=.ref a/\gK b a/\ty Z b λy f=>e Z f λz c=>∃o,DGet c a y o/\Q (o.getD z) c
section
variable {X:Cx}{o e f:Expr}{apos cpos:Pos}{td ty tx:TE}
def Xd(i:X.A.units+1<cLine)(j:PE X o td)(k:PE X e ty)(m:M1 X o "get" apos e cpos):PE X (.Call (.Attribute o "get" apos) [e] [] cpos)^bQ td ty:=by
 intro D s Z H Q I h;refine wpAny_Call_method m.base m.few m.line PySem.F.plainAttrs_dict PySem.F.slot_dict_get PySem.F.type_dict_get^thn (j _ s Z H _ I h) λu l #[x,n,c,p,a,ex,d,q]=>?_;subst ex;obtain rfl:u=ja a:=p;let#[r,t,_]:=Sz c d;exists r,t;rw[m.trees];exact lL rfl (mN^kT^thn (k _ l Z n _ c q) λE G #[y,v,w,z,J,g,B]=>km^cj i w g z λK L C b=>#[_,v,C,b,B])
def Xc(i:X.A.units+1<cLine)(j:PE X o td)(k:PE X e ty)(l:PE X f tx)(m:M2 X o "get" apos e f cpos):PE X (.Call (.Attribute o "get" apos) [e,f] [] cpos)^bP td ty tx:=by
 intro N s Z H Q I h;refine wpAny_Call_method m.base m.few m.line PySem.F.plainAttrs_dict PySem.F.slot_dict_get PySem.F.type_dict_get^thn (j _ s Z H _ I h) λu n #[x,p,c,q,a,ex,d,r]=>?_;subst ex;obtain rfl:u=ja a:=q;let#[t,v,_]:=Sz c d;exists t,v;rw[m.trees]
 exact lL rfl (mN (kT (thn (k _ n Z p _ c r) λO w #[y,B,C,D,E]=>
  kT (thn (l _ w Z B _ C E) λP R #[z,G,J,K,S,g,L]=>km^ci i J g D K λT U M b=>#[_,G,M,b,L]))))
end
end L2
set_option maxHeartbeats 4000000
namespace L2
section
def S6{g:Env}:∀(f:v_ (Str×lH)) (h:v_ (Str×Ch)),(∀x,(x,jk)∈f->∃c,g.cells.lookup x=P3 c)->(∀x c,h.lookup x=P3 c->g.cells.lookup x=P3 c)->
  ∃i,(forIn f h fun(x:Str×lH) (r:v_ (Str×Ch))=>(if(x.2==jk)=t_ then do let a ←cellOf g x.1; pure^k9 ((x.1,a)::r) else pure^k9 r:Sem^ForInStep^v_ (Str×Ch)))=(pure i:Sem _) /\
   (∀x c,i.lookup x=P3 c->g.cells.lookup x=P3 c)/\(∀x,((x,jk)∈f\/∃c,h.lookup x=P3 c)->∃c,i.lookup x=P3 c):=by
 intro f
 induction f with
 |nil=>
  intro h _ m;exact#[h,rfl,m,λx d=>d.elim (λz=>absurd z^by simp) λz=>z]
 | cons p r w=>
  intro h q m;let#[n,k]:=p
  by_cases s:k=jk
  .subst s
   let#[c,y]:=q n Op;have j:cellOf g n=pure c:=by simp only[cellOf,y]
   let#[i,e,a,b]:=w ((n,c)::h) (λx d=>q x^TW _ d) (λx o d=>by
    rw[lg]at d;cases t:x==n with
    |true=>
     rw[t]at d;have u:P3 c=P3 o:=d;cases u
     have:x=n:=by simpa using t
     rw[this]; exact y
    |false=>rw[t]at d; exact m x o d)
   refine#[i,?_,a,λx d=>b x ?_]
   .rw[lu]
    simp only[beq_self_eq_true,if_true,j,pure_bind];exact e
   .by_cases l:x=n
    .subst l
     exact .inr #[c,by simp[lg]]
    .rcases d with d|⟨o,d⟩
     .rcases UF.mp d with d|d
      .cases d; exact absurd rfl l
      .exact .inl d
     .refine .inr #[o,?_]
      have:(x==n)=u_:=by simpa using l
      rw[lg,this];exact d
  .have v:(k==jk)=u_:=by simpa using s
   let#[i,e,a,b]:=w h (λx d=>q x^TW _ d) m;refine#[i,?_,a,λx d=>b x ?_]
   .rw[lu]
    simp only[v,jD,if_false,pure_bind];exact e
   .rcases d with d|d
    .rcases UF.mp d with d|d
     .cases d; exact absurd rfl s
     .exact .inl d
    .exact .inr d
def MI{scope:lJ}{env:Env}(h:∀x,(x,jk)∈scope.names->∃c,env.cells.lookup x=P3 c):
  ∃d,closureFor scope env=pure d/\(∀x c,d.lookup x=P3 c->env.cells.lookup x=P3 c)/\(∀x,(x,jk)∈scope.names->∃c,d.lookup x=P3 c):=by
 let#[d,e,a,b]:=S6 _ [] h (λx c f=>by simp at f);refine#[d,?_,a,λx f=>b x^.inl f];simp[closureFor]
 simp_all
variable {prog:Program}{w:World}{A:Around}{R:Result->Shared->Prop}{s:Shared}
def PQ{t a u:jJ}{y:v_ jJ}{p:lJ}{pos:Pos}{it z:Ev}{b:Env}(I:Nat->On->Prop)
  (B:∀n s,I n s->wpAny (model prog w) A (pyNext it) (λr d=>match r with
   |none=>R (.ok .next) d
   | some v=>wpAny (model prog w) A (letOwnedTupleGo a it v) (λ_ e=>wpAny (model prog w) A (assign a b v) (λ_ i=>
     wpAny (model prog w) A (forIn y t_ λc r=>if r=t_ then do let ok ←isTrue c b^eval c b; pure^k9 ok else pure^k9 r) (λok f=>
      if ok=t_ then wpAny (model prog w) A (eval t b) (λx j=>
       wpAny (model prog w) A (call (.builtin "list.append") [z,x]) (λ_ k=>∃m,m<n/\I m k) (λ_ _=>False) j) (λ_ _=>False) f
      else ∃m,m<n/\I m f) (λ_ _=>False) i) (λ_ _=>False) e) (λ_ _=>False) d) (λ_ _=>False) s)
  (n:Nat) (h:I n s):
  codeAny (model prog w) A (.compLoop (.ListComp t [#[a,u,y,0]] p pos) 0 it z b) R s:=by
 refine codeAny_loop rfl I (λn s F=>?_) n h;refine wpAny_noted ?_;refine Db^oN^Db^jo (B n s F) (λr d l=>?_) λ_ _ g=>g.elim;cases r with
 |none=>exact T0 l
 | some v=>
  refine Db^jo l (λ_ e q=>?_) λ_ _ g=>g.elim;refine Db^jo q (λ_ i C=>Db^jo C (λok f o=>?_) λ_ _ g=>g.elim) λ_ _ g=>g.elim;cases ok with
  |false=>exact T0 #[rfl,o]
  |true=>
   exact Db^Db^jo o (λx j D=>Db^jo D (λ_ k E=>T0^T0 #[rfl,E]) λ_ _ g=>g.elim) λ_ _ g=>g.elim
end
def A_(X:Cx)(a:lJ)(b:v_ Str)(c:v_ (Str×Ch))(C:Ch)(s:On)(H:Hp)(ex:v_ Ch):Cx where
 prog:=X.prog
 w:=X.w
 K:=X.K
 mg:=X.mg
 base:=X.base
 A:=X.A
 N:=b
 s₀:=s
 H₀:=H
 env:=compEnvC a c C X.env
 outer:=X.stack
 stack:=X.stack
 ex:=ex
 fn:=λ_=>u_
 calm:=t_
 pn:=[]
 xe:=λ_ _=>False
def Cc(a:v_^w_ Nat)(Z:St):St:=a.map λo=>match o with
 |some i=>(Z[i]?).getD s_
 |none=>s_
def Zj(o:w_ lH):Bool:=match o with
 |some .cell=>t_
 |some .free=>t_
 |_=>u_
def Ua{o:w_ lH}(h:Zj o=t_):o=P3 .cell\/o=P3 .free:=by
 unfold Zj at h
 split at h
 .grind
 .grind
 .cases h
def isFree(o:w_ lH):Bool:=match o with
 |some .free=>t_
 |_=>u_
def Vu{o:w_ lH}(h:isFree o=t_):o=P3 .free:=by
 unfold isFree at h
 split at h
 .rfl
 .cases h
def X1(o:w_ lH):Bool:=match o with
 |some .local=>t_
 |_=>u_
def X0{o:w_ lH}(h:X1 o=t_):o=P3 .local:=by
 unfold X1 at h
 split at h
 .rfl
 .cases h
def X3(k:ScopeKind):Bool:=match k with
 |.function=>t_
 |_=>u_
def X2{k:ScopeKind}(h:X3 k=t_):k=.function:=by
 unfold X3 at h
 split at h
 .rfl
 .cases h
def gg(b a:lJ)(p:Str×lH):Bool:=match p.2 with
 |.cell=>u_
 |.free=>Zj^a.names.lookup p.1
 |.local=>X1^b.names.lookup p.1
 |_=>t_
def gy(x:w_ Str)(y:Str):Bool:=match x with
 |some z=>z==y
 |none=>u_
def cZ{x:w_ Str}{y:Str}(h:gy x y=t_):x=P3 y:=by
 unfold gy at h
 split at h
 .grind
 .cases h
def MK(b a:lJ)(N:v_ Str):v_ Str->v_^w_ Nat->Bool
 |[],[]=>t_
 |x::c,P3 j::d=>isFree^b.names.lookup x&&gy (N[j]?) x&&Zj^a.names.lookup x&&MK b a N c d
 |_::c,s_::d=>MK b a N c d
 |_,_=>u_
def IJ(b a:lJ)(N c:v_ Str)(d:v_^w_ Nat):Bool:=X3 b.kind&&b.names.all^gg b a&&MK b a N c d
theorem F4{d b:lJ}{N:v_ Str}:∀{c:v_ Str}{a:v_^w_ Nat},MK d b N c a=t_->a.length=c.length
 |[],[],_=>rfl
 |x::e,P3 j::a,h=>by
  unfold MK at h;rw[iq]at h;rw[iu,iu,F4 h.2]
 |x::e,s_::a,h=>by
  unfold MK at h;rw[iu,iu,F4 h]
 |[],P3 _::_,h=>by cases h
 |[],s_::_,h=>by cases h
 |_::_,[],h=>by cases h
theorem PR{e a:lJ}{N:v_ Str}:∀{f:v_ Str}{d:v_^w_ Nat},MK e a N f d=t_->∀{k:Nat}{x:Str}{j:Nat},f[k]?=P3 x->d[k]?=P3^P3 j->
  e.names.lookup x=P3 .free/\N[j]?=P3 x/\(a.names.lookup x=P3 .cell\/a.names.lookup x=P3 .free)
 |[],_,_,k,x,j,b,_=>by simp at b
 |_::_,[],h,_,_,_,_,_=>by unfold MK at h; cases h
 | y::g,P3 i::d,h,k,x,j,b,c=>by
  unfold MK at h;rw[iq,iq,iq]at h;cases k with
  |zero=>
   simp at b c;subst b c;exact#[Vu h.1.1.1,cZ h.1.1.2,Ua h.1.2]
  |succ k=>exact PR h.2 (k:=k) (by simpa using b)^by simpa using c
 |y::g,s_::d,h,k,x,j,b,c=>by
  unfold MK at h;cases k with
  |zero=>simp at c
  |succ k=>exact PR h (k:=k) (by simpa using b)^by simpa using c
def Vp{a:v_^w_ Nat}{Z:St}{k:Nat}{v:V}(h:(Cc a Z)[k]?=P3^P3 v):∃j,a[k]?=P3^P3 j/\Z[j]?=P3^P3 v:=by
 unfold Cc at h;rw[ir]at h;cases e:a[k]? with
 |none=>simp_all
 | some o=>
  rw[e]at h;cases o with
  |none=>cases h
  |some j=>
   cases q:Z[j]? with
   |none=>simp_all
   |some w=>simp_all
theorem DR{a:Env}:∀{b:v_ (Str×lH)}{x:Str},b.lookup x=P3 .free->
  (b.map fun(n,k)=>if(k==jk&&a.scope.kind==.function&&a.kindOf n==P3 .cell)then(n,nC)else(n,k)).lookup x=P3 .cell \/
  (b.map fun(n,k)=>if(k==jk&&a.scope.kind==.function&&a.kindOf n==P3 .cell)then(n,nC)else(n,k)).lookup x=P3 .free
 |[],_,h=>by simp at h
 | (n,k)::r,x,h=>by
  have d:=@DR a r x;show List.lookup x ((if(k==jk&&a.scope.kind==.function&&a.kindOf n==P3 .cell)=t_ then(n,nC)else(n,k))::_)=_\/List.lookup x ((if(k==jk&&a.scope.kind==.function&&a.kindOf n==P3 .cell)=t_ then(n,nC)else(n,k))::_)=_
  by_cases e:(k==jk&&a.scope.kind==.function&&a.kindOf n==P3 .cell)=t_
  .rw[if_pos e]
   cases c:x==n with
   |true=>exact .inl^by simp only[lg,c]
   |false=>
    simp only[lg,c]at h ⊢;exact d h
  .rw[if_neg e]
   cases c:x==n with
   |true=>
    simp_all
   |false=>
    simp only[lg,c]at h ⊢;exact d h
def SK{env:Env}{a:lJ}(c:∀y∈a.names,y.2≠.cell){x:Str}(h:(relabel a env).names.lookup x=P3 .cell\/(relabel a env).names.lookup x=P3 .free):(x,jk)∈a.names:=by
 have e:(x,nC)∈(relabel a _).names\/(x,jk)∈(relabel a _).names:=h.elim (λz=>.inl^PySem.mem_of_lookup z) λz=>.inr^PySem.mem_of_lookup z
 have d:∀k,(k=.cell\/k=.free)->(x,k)∈(relabel a env).names->(x,jk)∈a.names:=by
  intro k f b;unfold relabel at b
  grind
 exact e.elim (d _ (.inl rfl))^d _ (.inr rfl)
section
variable {X:Cx}{zH:v_ (Addr×Obj)}{Z:St}{H:Hp}{s:Shared}
structure CompOk (X:Cx) (sc:lJ) (N':List Str) (js:List^Option Nat):Prop where
 kind:sc.kind=.function
 cell:∀y∈sc.names,y.2≠.cell
 free:∀x,(x,jk)∈sc.names->X.env.scope.names.lookup x=P3 .cell\/X.env.scope.names.lookup x=P3 .free
 names:∀y∈sc.names,y.2=.local->sc.names.lookup y.1=P3 .local
 cap:MK sc X.env.scope X.N N' js=t_
def CompOk.of{c:lJ}{d:v_ Str}{f:v_^w_ Nat}(h:IJ c X.env.scope X.N d f=t_):CompOk X c d f:=by
 unfold IJ at h;rw[iq,iq,jh]at h;let#[#[g,a],i]:=h;refine#[X2 g,λy b e=>?_,λx j=>?_,λy b e=>?_,i]
 .have q:=a y b
  unfold gg at q
  simp_all
 .have q:=a _ j
  exact Ua q
 .have q:=a y b
  unfold gg at q;rw[e]at q;exact X0 q
def Q_{D:lJ}{E:v_ Str}{K:v_^w_ Nat}{B:v_ (Str×Ch)}{F:v_ Ch}{f:i8}{V:Nat}(I:Inv X zH Z H s)(W:X.calm=t_)(O:CompOk X D E K)
  (d:∀x c,B.lookup x=P3 c->X.env.cells.lookup x=P3 c) (k:∀x,(x,jk)∈D.names->∃c,B.lookup x=P3 c)
  (G:∀b∈F,Gg X zH H b) (Y:∀b∈F,∃o,s.heap.get? b=P3 o)
  (L:f.Ns (s.heap.objs.size+1) λ_=>s_) (J:∀b o,s.heap.get? b=P3 o->f.get? b=P3 o) (hD:∃n,f.get? s.heap.objs.size=P3 {cls:=.type "list",data:=.seq #[] n}):
  Inv (A_ X D E B (s.heap.objs.size+1) s H F) [] (Cc K Z) (BQ H s.heap.objs.size^.lst []) {s with heap:=f,toks:=V}:=by
 have fr:∀a,s.heap.objs.size<=a->H a=s_:=λa ha=>I.hok.fresh ha
 have h:∀x c,B.lookup x=P3 c->c<s.heap.objs.size:=λx c e=>by
  let#[v,q]:=I.cell x c^d x c e;exact q.lt
 have ok:(A_ X D E B (s.heap.objs.size+1) s H F).Ok:=by
  refine#[I.ok.mod,O.kind,I.ok.glob,I.ok.blt,kJ _,λx y c C M=>I.ok.inj x y c (d x c C)^d y c M,λx N=>?_,λx c N=>?_,λ_=>I.ok.hd W,I.ok.frames,.inl rfl,λb t=>#[?_,λx c e=>?_],I.bs,iz I.ok.bsz I.sz,λb o e t=>?_,λb t P=>?_,I.stack,I.stkFree]
  .exact k x^SK (env:=X.env) O.cell N
  .exact absurd (show u_=t_ from N) jF
  .let#[o,e]:=Y b t
   exact i_^jx^ZB e
  .exact(G b t).2.2.2.2.1 x c^d x c e
  .rcases(G b t).2.2.2.1 with z|z
   .exact I.ok.noex b o e z
   .have C:b<X.base.objs.size:=ZB e
    exact absurd (jU C^iz I.ok.bsz z)^jr _
  .rcases UF.mp^I.stkSub b P with z|z
   .exact(G b t).2.1 z
   .exact(G b t).2.2.1 z
 exists ok,rfl,I.bare,?_,#[_,L,λi x v C M h3=>?_],λx c e=>?_,?_,λx c e=>?_,λp hp=>absurd (show p∈([]:v_ (Ch×Obj))from hp)^by simp,?_
 .exact Un.laid J (Rs _)^fr _^Rs _
 .let#[j,e1,e2]:=Vp M
  let#[T,c2,A]:=PR O.cap C e1;let#[m,_,hl]:=I.loc;let#[u,r,l]:=hl j x v c2 e2^.inr A;refine#[u,r,.inr #[DR T,?_]]
  rcases l with⟨l1,_⟩|⟨_,c,l2,l3⟩
  .have Q:X.env.scope.names.lookup x=P3 .local:=l1
   rcases A with A|A <;>(rw[Q]at A; cases A)
  .let#[R,U]:=k x^PySem.mem_of_lookup T
   have:R=c:=iw^(d x R U).symm.trans l2
   subst this;let#[S,w,g]:=id l3;exact#[R,U,S,J _ _ w,g]
 .let#[v,S,w,g]:=I.cell x c^d x c e
  exact#[v,S,J _ _ w,g]
 .show BQ H s.heap.objs.size (.lst []) (s.heap.objs.size+1)=s_
  rw[Ah^oz _];exact fr _^kJ _
 .show BQ H s.heap.objs.size (.lst []) c=s_
  rw[Ah^i_^h x c e];exact I.freeC x c^d x c e
 .refine I.hok.laid J (Rs _) ?_
  let#[n,e]:=hD;exact#[i6 _,[],n,.nil,e]
 .unfold Cc
  show(K.map _).length=E.length;rw[FM];exact F4 O.cap
def Un.but{fs ex:v_ Ch}{H d:Hp}{h a f:i8}{C:Ch}(u:Un fs ex H d h a)(k:h.get? C=s_)(g:∀b,b≠C->f.get? b=a.get? b):Un fs ex H d h f:=by
 have i:∀{b:Ch}{o:Obj},h.get? b=P3 o->b≠C:=λ{b o} e z=>by grind
 refine#[λb o e n a c=>(g b^i e).trans^u.keep b o e n a c,λb o e n a c=>?_,u.free,λb o e a=>?_,u.tups,u.frzs,u.tbls]
 .let#[j,q]:=u.slot b o e n a c
  exact#[j,(g b^i e).trans q]
 .let#[l,q]:=u.there b o e a
  simp_all
def L1{j:lJ}{k:v_ Str}{l:v_ (Str×Ch)}{C:Ch}{g:v_ Ch}{c:v_ (Ch×Obj)}{m:St}{d:Hp}{f:On}{h':i8}(I:Inv X zH Z H s)(n:∀b∈g,Gg X zH H b)(p:s.heap.objs.size<=C)
  (J:Inv (A_ X j k l C s H g) c m d f) (h:∀b,b≠C->h'.get? b=f.heap.get? b):Inv X zH Z d {f with heap:=h'}:=by
 have r:d C=s_:=J.free
 refine I.call' J.os (Un.but J.base (by
  cases e:s.heap.get? C with
  |none=>rfl
  |some o=>exact absurd (ZB e)^mO.mpr p) h) (λa o e=>(J.hok a o e).stay (λb u i q=>(h b (λz=>by
   grind)).trans q) (λ_ q=>q) λ_ _ q=>q) J.bare λb i=>?_
 .let#[y,t,A,v,w,x]:=n b i
  exact#[v,t,w,x]
end
def fo(X:Cx)(a:v_ jJ)(t:TT):Prop:=
 ∀(b:v_ (Ch×Obj)) (s:On) (Z:St) (H:Hp) (Q:Bool->Hp->Prop),Inv X b Z H s->t Z H Q->
  wpAny (model X.prog X.w) X.A (forIn a t_ λc r=>if r=t_ then do let ok ←isTrue c X.env^eval c X.env; pure^k9 ok else pure^k9 r) (TP X b Z Q) X.xe s
def gQ:TT:=λ_ H Q=>Q t_ H
def UJ{X:Cx}:fo X [] gQ:=λa s Z H Q I h=>wpAny_tests_nil #[H,I,h]
def ZP{X:Cx}{c:jJ}{t:TT}(h:PT X c t):fo X [c] t:=λa s Z H Q I q=>wpAny_tests_one^h _ s Z H Q I q
def Wl(X:Cx)(e:lJ)(f:v_ Str)(A:v_^w_ Nat)(B h:jJ)(j:v_ jJ)(D:TI):TE:=λZ H Q=>D Z H λJ q=>∀l,q l=s_->X.K.lookup l=s_->∀k C s n o,∃(g:TG) (r:TT) (t:TE) (W:Nat->Nat->St->Hp->Prop),
 PG (A_ X e f k C s n o) B g/\fo (A_ X e f k C s n o) j r/\PE (A_ X e f k C s n o) h t/\(∃m,W 0 m (Cc A Z)^BQ q l^.lst [])/\∀i m u a,W i m u a->
 (J.stop i a/\Q (.ref l) a)\/(J.go i a/\∀x v,J.yld i a x v->g x u v λd E=>r d E λb w=>if b=t_ then t d w λy z=>∃p,z l=P3^.lst p/\p.length<sizeLine/\∃c,c<m/\W (i+1) c d^BQ z l^.lst (p++[y]) else ∃c,c<m/\W (i+1) c d w)
section
variable {X:Cx}{tg elt iter:Expr}{ifs:v_ Expr}{sc:Scope}{pos:Pos}{N':v_ Str}{js:v_^w_ Nat}{wi:TI}{g:TG}{tt:TT}{te:TE}
def OA{zH:v_ (Ch×Obj)}{Z:St}{H:Hp}{s:On}{h:v_ (Str×Ch)}{C l it:Ch}{a:v_ Ch}{U:Nat->i8->Prop}{J:It}{s3:On}{Q:VK}{R:Result->On->Prop}{W:Nat->Nat->St->Hp->Prop}{m0:Nat}{zI:St}{V:Hp}
  (I:Inv X zH Z H s) (hf:∀b∈a,Gg X zH H b) (a3:∀b∈a,b<s.heap.objs.size) (hC:s.heap.objs.size<=C)
  (T:Turn X.prog X.w X.K tg J a it U)
  (hg:PG (A_ X sc N' h C s H a) tg g) (ht:fo (A_ X sc N' h C s H a) ifs tt) (he:PE (A_ X sc N' h C s H a) elt te)
  (hW:∀i m k c,W i m k c->
   (J.stop i c/\Q (.ref l) c)\/(J.go i c/\∀x H2,J.yld i c x H2->g x k H2 λY H3=>tt Y H3 λb z=>if b=t_ then te Y z λy H5=>∃E,H5 l=P3^.lst E/\E.length<sizeLine/\∃f,f<m/\W (i+1) f Y^BQ H5 l^.lst (E++[y]) else ∃f,f<m/\W (i+1) f Y z))
  (hR:∀k c G,Inv (A_ X sc N' h C s H a) [] k c G->Q (.ref l) c->R (.ok .next) G)
  (I3:Inv (A_ X sc N' h C s H a) [] zI V s3) (t3:U 0 s3.heap) (f3:∀b∈a,V b=s_) (w0:W 0 m0 zI V):
  codeAny (model X.prog X.w) X.A (.compLoop (.ListComp elt [#[tg,iter,ifs,0]] sc pos) 0 (.ref it) (.ref l)^compEnvC sc h C X.env) R s3:=by
 have j:∀{c:Hp},(∀b∈a,c b=s_)->∀b∈a,Gg (A_ X sc N' h C s H a) [] c b:=λhn b t=>by
  have q:=I3.ok.exf b t;refine#[hn b t,q.1,I3.ok.exfs b t,.inl t,q.2,λp hp=>absurd (show p∈([]:v_ (Ch×Obj))from hp)^by simp]
 refine PQ (λn G=>∃i k c,Inv (A_ X sc N' h C s H a) [] k c G/\U i G.heap/\(∀b∈a,c b=s_)/\W i n k c) ?_ m0 #[0,zI,V,I3,t3,f3,w0];rintro n s4 ⟨i,L,z,I4,M,N,w4⟩
 rcases hW i n L z w4 with⟨O,qn⟩|⟨go,step⟩
 .refine thn (T.done (A_ X sc N' h C s H a) rfl rfl rfl rfl i [] s4 L z (λ_ _=>False) I4 (j N) M O) λr s5 #[hr,I5]=>?_
  subst hr;exact hR L z s5 I5 qn
 .refine thn (T.item (A_ X sc N' h C s H a) rfl rfl rfl rfl i [] s4 L z (λ_ _=>False) I4 (j N) M go) λr s5 #[u,hr,h5]=>?_
  subst hr;refine thn h5 λ_ s6 #[x,H6,I6,r6,y6,B,a0]=>?_;have a1:=I6.pinned (j a0)^T.obj _ _ B;refine thn (hg _ s6 L H6 x u _ a1 r6^step x H6 y6) λ_ s7 #[zL,H7,I7,q7]=>?_
  have again:∀{zJ:St}{D:Hp}{F:On}{f:Nat},Inv (A_ X sc N' h C s H a) ([]++Lf a s6.heap) zJ D F->f<n->W (i+1) f zJ D->∃m,m<n/\∃i k c,Inv (A_ X sc N' h C s H a) [] k c F/\U i F.heap/\(∀b∈a,c b=s_)/\W i m k c:=λ{zJ D F f} P S w9=>by
   refine#[f,S,i+1,zJ,D,P.unpinned,T.keep _ _ _ B λb t o e=>(P.pin (b,o)^f8 _^f8 _^E_ t e).1,λb t=>?_,w9];let#[o,e,d]:=T.obj _ _ B b t;exact(P.pin (b,o)^f8 _^f8 _^E_ t e).2.1
  refine thn (ht _ s7 zL H7 _ I7 q7) λok s8 #[H8,I8,q8]=>?_;cases ok with
  |false=>
   have a2:∃f,f<n/\W (i+1) f zL H8:=q8;let#[f,S,w8]:=a2;show ∃m,m<n/\_;exact again I8 S w8
  |true=>
   refine thn (he _ s8 zL H8 _ I8 q8) λy F #[yv,D,P,ry,q9]=>?_;let#[E,hl,hz,f,S,w9]:=q9;refine thn (Bc (X:=A_ X sc N' h C s H a) _ F zL D (.ref l) [yv] (.ref l) [y] (λv c=>v=.non/\c=BQ D l^.lst (E++[yv])) P rfl (.cons ry .nil) #[l,E,yv,rfl,rfl,hl,hz,rfl,rfl]) λ_ sa #[v,Ha,Ia,_,_,eH]=>?_;subst eH;exact again Ia S w9
def UL(hc:X.calm=t_)(N':v_ Str)(js:v_^w_ Nat)(hi:PI X tg iter wi)
  (hB:IJ sc X.env.scope X.N N' js=t_)
  (hs:∀x,foldedSetIterable iter X.env x=pure x:=by intro _; rfl):
  PE X (.ListComp elt [#[tg,iter,ifs,0]] sc pos) (Wl X sc N' js tg elt ifs wi):=by
 intro U s Z H Q I h;have O:CompOk X sc N' js:=CompOk.of hB;let#[z,l,P,B]:=MI (scope:=sc) (env:=X.env) λx hx=>I.ok.has x^O.free x hx;rw[eval_ListComp];refine wpAny_comprehension_free (use:=s_) rfl hs l O.kind O.names (thn (hi U s Z H _ I h) λv s1 h1=>thn h1 λa0 c h2=>?_);let#[V,G,tn,J,L,e,C,T,p,M,hq]:=h2;subst e
 have r:X.K.lookup c.heap.objs.size=s_:=by
  cases q:X.K.lookup c.heap.objs.size with
  |none=>rfl
  |some o=>exact absurd (ZB^C.kIn _ _ q)^jr _
 let#[g,tt,te,W,hg,ht,he,#[m0,w0],hW]:=hq c.heap.objs.size (C.hok.fresh^Rs _) r z (c.heap.objs.size+1) c L G;refine lD^wpAny_newFunctionEnv O.cell (by intro y hy; simp at hy) (λf d a=>?_) O.kind
 dsimp only at d a ⊢
 generalize t:c.heap.push {cls:=.type "list",dict:=s_,data:=.seq ([]:v_ Ev).toArray}=Hh at d a ⊢;have i:Hh.objs.size=c.heap.objs.size+1:=by rw[←t,j7]
 have D:∀b∈G,b<c.heap.objs.size:=λb j=>by
  let#[o,e,_]:=T.obj _ _ p b j;exact ZB e
 have E:∀b o,c.heap.get? b=P3 o->f.get? b=P3 o:=λb o e=>a.extBut b o (by rw[i]; exact i_^jx^ZB e)^Go _ (t▸Go _ e);have hD:∃n,f.get? c.heap.objs.size=P3 {cls:=.type "list",data:=.seq #[] n}:=#[_,a.extBut _ _ (by rw[i]; exact i_^lI _)^Go _ (t▸XV _ rfl)]
 have I3:∀u,Inv (A_ X sc N' z (c.heap.objs.size+1) c L G) [] (Cc js Z) (BQ L c.heap.objs.size^.lst []) {c with heap:=f,toks:=u}:=λu=>
  Q_ C hc O P B M (λb j=>let #[o,e,_]:=T.obj _ _ p b j; #[o,e]) (by rw[←i]; exact d) E hD
 have F:tn 0 f:=T.keep _ _ _ p λb j o e=>E b o e
 have R:∀b∈G,BQ L c.heap.objs.size (.lst []) b=s_:=λb j=>by
  rw[Ah^i_^D b j];exact(M b j).1
 have k:∀u,codeAny (model X.prog X.w) X.A (.compLoop (.ListComp elt [#[tg,iter,ifs,0]] sc pos) 0 (.ref V) (.ref c.heap.objs.size)^compEnvC sc z (c.heap.objs.size+1) X.env)
   (compPost (model X.prog X.w) X.A X.xe s_ (EP X U Z Q) (.ref c.heap.objs.size) (c.heap.objs.size+1)) {c with heap:=f,toks:=u}:=λu=>by
  refine OA (W:=W) (m0:=m0) (Q:=Q) C M D (kJ _) T hg ht he hW (λzZ H' s' Y q'=>?_) (I3 u) F R w0;let#[m,hn,_]:=Y.loc;exact#[m,hn,λh' S=>#[.ref _,H',L1 C M (kJ _) Y λb j=>S.2 b j,rfl,q']]
 rw[show(newEnv sc Hh.objs.size X.env.globals z X.env.qual s_ .none (P3 X.env) builtinsNs).locals=c.heap.objs.size+1 from i];show codeAny (model X.prog X.w) X.A (.compStart (.ListComp elt [#[tg,iter,ifs,0]] sc pos) 0 (.ref V) (.ref c.heap.objs.size)^compEnvC sc z (c.heap.objs.size+1) X.env) _ _;exact codeAny_compStart_list (k _)^T.self _ 0 _ _ _ F^k _
end
structure ii (B:i8) (l:List Env) (a C:Ch) (dx:Option Ch) (h:i8):Prop where
 stays:B.StaysIn h
 new:B.get? a=s_
 frames:h.FunFrames B l
 obj:∃vs sl tb,h.get? a=P3 #[.ref C,dx,.fields vs,sl]/\vs[2]?=P3 .none/\vs[1]?=P3 tb/\(tb=.none\/∃T oT ts,tb=.ref T/\B.get? T=s_/\T≠a/\h.get? T=P3 oT/\oT.data=.fields ts/\3<ts.size)
def fY:v_ Ev:=[.type "ValueError",.type "Exception",.type "BaseException",.type "object"]
structure XC (K:Frag) (nm:Str) (C U:Ch):Prop where
 obj:∃q N bs sn sub ab col dd k0 k1 k2 k3 k5,K.lookup C=P3 (excClassObj nm q C N bs (.ref U::fY) t_ sn sub ab col dd k0 k1 k2 k3 k5 "ValueError.__new__")
 up:∃q N bs sn sub ab col dd k0 k1 k2 k3 k5 hd,K.lookup U=P3 (excClassObj "ThinError" q U N bs fY hd sn sub ab col dd k0 k1 k2 k3 k5 "ValueError.__new__")
 kp:keepIn K^.ref C=t_
 ga:PySem.W.findIn K (.ref C) "__getattribute__"=P3 (P3^.builtin "BaseException.__getattribute__")
 gt:PySem.W.findIn K (.ref C) "__getattr__"=P3 s_
 sa:PySem.W.findIn K (.ref C) "__setattr__"=P3 (P3^.builtin "object.__setattr__")
 at_:nsIn K mainGlobals nm=P3 (P3^.ref C)
 atU:nsIn K mainGlobals "ThinError"=P3 (P3^.ref U)
 ca:PySem.W.findIn K (.ref C) "__class__"=P3 (P3^.builtin "object.__class__")
 nw:PySem.W.findIn K (.ref C) "word"=P3 s_
 nn:PySem.W.findIn K (.ref C) "number"=P3 s_
 nr:PySem.W.findIn K (.ref C) "row"=P3 s_
structure io (P:jK) (w:jQ) (outer:List Env) (H:Hp) (s:On) (a C:Ch) (dx:Option Ch) (B:i8) (H':Hp) (s':On):Prop where
 os:s'.os=s.os
 bare:my s'.gens
 un:Un (Ue outer) [] H H' s.heap s'.heap
 hok:HOk P w H' B
 all:∀b o o',s.heap.get? b=P3 o->b∉Ue outer->s'.heap.get? b=P3 o'->B.get? b=P3 o'
 fly:ii B outer a C dx s'.heap
 new:s.heap.objs.size<=a
 free:H' a=s_
def XF(d:Ch)(fs:v_ (Str×V))(h:i8):Prop:=∃a,h.Ns1 d a/\(∀f,RelO (fs.lookup f)^a f)/\PySem.Within a (fs.map (·.1))/\fs.length<=1000
def XT(C:Ch)(c:w_ Ch)(a:Ch)(u:HO):Prop:=∃b d,u=.frz #[.ref C,c,.fields b,d]^.own a/\b[2]?=P3 .none
end L2
namespace Dp
open L2
inductive D where
 |non|bl (b:Bool)|int (i:Int)|str (x:Str)|tup (xs:List D)|lst (xs:List D)|dic (ks:List Key) (xs:List D)|fdi (ks:List Key) (xs:List D)|dit (ks:List^List Key) (xs:List D)
 deriving Inhabited
def NdT(M:Ch->Prop)(H:Hp)(a:Ch)(b:v_ V):Prop:=H a=P3^.tup b
def NdL(M:Ch->Prop)(H:Hp)(a:Ch)(b:v_ V):Prop:=¬M a/\H a=P3^.lst b
def NdD(M:Ch->Prop)(H:Hp)(a:Ch)(b:v_ Key)(c:v_ V):Prop:=¬M a/\H a=P3^.dK^b.zip c
def NdF(M:Ch->Prop)(H:Hp)(a:Ch)(b:v_ Key)(c:v_ V):Prop:=∃o,¬M a/\H a=P3^.frz o^.dK^b.zip c
def NdU(M:Ch->Prop)(H:Hp)(a:Ch)(b:v_^v_ Key)(c:v_ V):Prop:=¬M a/\H a=P3^.dT^b.zip c
mutual
def At(K:Frag)(M:Ch->Prop)(H:Hp):D->V->Prop
 |.non,v=>v=.non
 |.bl b,v=>v=.bl b
 |.int i,v=>v=.int i
 |.str x,v=>v=.str x/\x.length<=sizeLine
 |.tup ds,v=>∃a vs,v=.ref a/\NdT M H a vs/\Ats K M H ds vs
 |.lst ds,v=>∃a vs,v=.ref a/\NdL M H a vs/\Ats K M H ds vs
 |.dic ks ds,v=>∃a vs,v=.ref a/\NdD M H a ks vs/\ks.length=ds.length/\Ats K M H ds vs
 |.fdi ks ds,v=>∃a vs,v=.ref a/\NdF M H a ks vs/\ks.length=ds.length/\Ats K M H ds vs
 |.dit ks ds,v=>∃a vs,v=.ref a/\NdU M H a ks vs/\ks.length=ds.length/\Ats K M H ds vs
def Ats(K:Frag)(M:Ch->Prop)(H:Hp):v_ D->v_ V->Prop
 |[],vs=>vs=[]
 |d::ds,vs=>∃v r,vs=v::r/\At K M H d v/\Ats K M H ds r
end
section
variable {K:Frag}{M M':Addr->Prop}{H H':Hp}{a:Addr}{vs:v_ V}{ks:v_ Key}
def NdT.sq(h:NdT M H a vs):SqT K H a vs:=.inl^.inl h
def NdL.sq(h:NdL M H a vs):SqL K H a vs:=.inl^.inl h.2
def Pres(M:Ch->Prop)(H:Hp)(M':Ch->Prop)(H':Hp):Prop:=(∀b o,H b=P3 o->¬M b->H' b=P3 o)/\(∀b,M' b->M b\/H b=s_)/\∀b vs,H b=P3^.tup vs->H' b=P3^.tup vs
def Pres.nd{u:HO}(p:Pres M H M' H')(n:¬M a)(h:H a=P3 u):¬M' a/\H' a=P3 u:=by
 refine#[λz=>?_,p.1 _ _ h n]
 rcases p.2.1 a z with z|z
 .exact n z
 grind
def NdT.pres(p:Pres M H M' H')(h:NdT M H a vs):NdT M' H' a vs:=p.2.2 _ _ h
def NdL.pres(p:Pres M H M' H')(h:NdL M H a vs):NdL M' H' a vs:=p.nd h.1 h.2
def NdD.pres(p:Pres M H M' H')(h:NdD M H a ks vs):NdD M' H' a ks vs:=p.nd h.1 h.2
def NdU.pres{ks:v_^v_ Key}(p:Pres M H M' H')(h:NdU M H a ks vs):NdU M' H' a ks vs:=p.nd h.1 h.2
def NdF.pres(p:Pres M H M' H')(h:NdF M H a ks vs):NdF M' H' a ks vs:=let #[o,b,c]:=h; #[o,p.nd b c]
mutual
theorem At.pres(p:Pres M H M' H'):∀{d:D}{v:V},At K M H d v->At K M' H' d v
 |.non,v,h=>h
 |.bl b,v,h=>h
 |.int i,v,h=>h
 |.str x,v,h=>h
 |.tup ds,v,h=>by
  let#[a,vs,e,hn,hs]:=h;exact#[a,vs,e,hn.pres p,Ats.pres p hs]
 |.lst ds,v,h=>by
  let#[a,vs,e,hn,hs]:=h;exact#[a,vs,e,hn.pres p,Ats.pres p hs]
 |.dic ks ds,v,h=>by
  let#[a,vs,e,hn,hl,hs]:=h;exact#[a,vs,e,hn.pres p,hl,Ats.pres p hs]
 |.fdi ks ds,v,h=>by
  let#[a,vs,e,hn,hl,hs]:=h;exact#[a,vs,e,hn.pres p,hl,Ats.pres p hs]
 |.dit ks ds,v,h=>by
  let#[a,vs,e,hn,hl,hs]:=h;exact#[a,vs,e,hn.pres p,hl,Ats.pres p hs]
theorem Ats.pres(p:Pres M H M' H'):∀{ds:v_ D}{vs:v_ V},Ats K M H ds vs->Ats K M' H' ds vs
 |[],vs,h=>h
 |d::ds,vs,h=>by
  let#[v,r,e,h1,h2]:=h;exact#[v,r,e,At.pres p h1,Ats.pres p h2]
end
def Pres.trans{M1 M2 d:Ch->Prop}{c f g:Hp}(p:Pres M1 c M2 f)(q:Pres M2 f d g):Pres M1 c d g:=by
 refine#[λb o e n=>?_,λb z=>?_,λb vs e=>q.2.2 b vs^p.2.2 b vs e]
 .refine q.1 b o (p.1 b o e n) λz=>?_
  rcases p.2.1 b z with z|z
  .exact n z
  grind
 .rcases q.2.1 b z with z|z
  .exact p.2.1 b z
  .cases e:c b with
   |none=>grind
   |some o=>
    by_cases n:M1 b
    .exact .inl n
    .rw[p.1 b o e n]at z; cases z
def Pres.refl(M:Ch->Prop)(H:Hp):Pres M H M H:=#[λ_ _ e _=>e,λ_ z=>.inl z,λ_ _ e=>e]
def Pres.less(h:∀b,M' b->M b):Pres M H M' H:=#[λ_ _ e _=>e,λb z=>.inl^h b z,λ_ _ e=>e]
theorem Ats.length:∀{b:v_ D}{vs:v_ V},Ats K M H b vs->vs.length=b.length
 |[],vs,h=>by cases h; rfl
 |d::b,vs,h=>by
  let#[v,r,e,f,c]:=h;subst e;rw[iu,iu,Ats.length c]
theorem Ats.get:∀{b:v_ D}{vs:v_ V}{i:Nat}{d:D},Ats K M H b vs->b[i]?=P3 d->∃v,vs[i]?=P3 v/\At K M H d v
 |[],vs,i,d,h,e=>by simp at e
 |f::b,vs,0,d,h,e=>by
  let#[v,r,g,j,c]:=h
  simp_all
 |f::b,vs,i+1,d,h,e=>by
  let#[v,r,g,j,c]:=h;let#[u,k,l]:=Ats.get c^by simpa using e
  simp_all
theorem Ats.append:∀{f b:v_ D}{vs c:v_ V},Ats K M H f vs->Ats K M H b c->Ats K M H (f++b) (vs++c)
 |[],b,vs,c,h,g=>by cases h; exact g
 |d::f,b,vs,c,h,g=>by
  let#[v,r,e,i,j]:=h;subst e;exact#[v,_,rfl,i,Ats.append j g]
theorem Ats.drop:∀{b:v_ D}{vs:v_ V} (n:Nat),Ats K M H b vs->Ats K M H (b.drop n)^vs.drop n
 |b,vs,0,h=>h
 |[],vs,n+1,h=>by cases h; exact rfl
 |d::b,vs,n+1,h=>by
  let#[v,r,e,f,c]:=h;subst e;exact Ats.drop n c
theorem Ats.take:∀{b:v_ D}{vs:v_ V} (n:Nat),Ats K M H b vs->Ats K M H (b.take n)^vs.take n
 |b,vs,0,h=>rfl
 |[],vs,n+1,h=>by cases h; exact rfl
 |d::b,vs,n+1,h=>by
  let#[v,r,e,c,f]:=h;subst e;exact#[v,_,rfl,c,Ats.take n f]
def Ats.one{d:D}{v:V}(h:At K M H d v):Ats K M H [d] [v]:=#[v,[],rfl,h,rfl]
theorem Ats.eraseIdx:∀{b:v_ D}{vs:v_ V} (i:Nat),Ats K M H b vs->Ats K M H (b.eraseIdx i)^vs.eraseIdx i
 |[],vs,i,h=>by cases h; exact rfl
 |f::b,vs,0,h=>by
  let#[u,r,c,d,e]:=h
  grind
 |f::b,vs,i+1,h=>by
  let#[u,r,c,d,e]:=h;subst c;exact#[u,_,rfl,d,Ats.eraseIdx i e]
theorem Ats.reverse:∀{b:v_ D}{vs:v_ V},Ats K M H b vs->Ats K M H b.reverse vs.reverse
 |[],vs,h=>by cases h; exact rfl
 |d::b,vs,h=>by
  let#[v,r,e,c,f]:=h;subst e;rw[m9,m9];exact Ats.append (Ats.reverse f)^Ats.one c
end
inductive Kd where
 |sh|tp|fr
def Tops(K:Frag)(M:Ch->Prop)(H:Hp)(a:Ch):D->Prop
 |.lst c=>∃b,H a=P3^.lst b/\Ats K M H c b
 |.dic d c=>∃b,H a=P3^.dK^d.zip b/\d.length=c.length/\Ats K M H c b
 |.dit d c=>∃b,H a=P3^.dT^d.zip b/\d.length=c.length/\Ats K M H c b
 |_=>False
def Tops.notT{K:Frag}{M:Ch->Prop}{H:Hp}{a:Ch}{d:D}(h:Tops K M H a d){f:v_ V}:H a≠P3^.tup f:=λq=>by
 cases d with
 |lst b=>let#[c,e,_]:=h; grind
 |dic g b=>let#[c,e,_]:=h; grind
 |dit g b=>let#[c,e,_]:=h; grind
 |_=>exact h.elim
def Tops.pres{K:Frag}{M j:Ch->Prop}{H g:Hp}{a:Ch}{d:D}(h:Tops K M H a d)(p:Pres M H j g)(e:∀o,H a=P3 o->g a=P3 o):Tops K j g a d:=by
 cases d with
 |lst k=>let#[b,c,f]:=h; exact#[b,e _ c,f.pres p]
 |dic l k=>let#[b,c,f,i]:=h; exact#[b,e _ c,f,i.pres p]
 |dit l k=>let#[b,c,f,i]:=h; exact#[b,e _ c,f,i.pres p]
 |_=>assumption
def Tops.at{K:Frag}{M:Ch->Prop}{H:Hp}{a:Ch}{d:D}(h:Tops K M H a d)(n:¬M a):At K M H d^.ref a:=by
 cases d with
 |lst g=>let#[b,c,e]:=h; exact#[a,b,rfl,#[n,c],e]
 |dic i g=>let#[b,c,e,f]:=h; exact#[a,b,rfl,#[n,c],e,f]
 |dit i g=>let#[b,c,e,f]:=h; exact#[a,b,rfl,#[n,c],e,f]
 |_=>exact(h).elim
def AtT(K:Frag)(U:Ch->Prop)(M:Ch->Prop)(H:Hp):D->V->Prop
 |.lst c,v=>∃a b,v=.ref a/\¬U a/\Rd H a^.lst b/\Ats K M H c b
 |.dic e c,v=>∃a b,v=.ref a/\¬U a/\H a=P3^.dK^e.zip b/\e.length=c.length/\Ats K M H c b
 |.dit e c,v=>∃a b,v=.ref a/\¬U a/\H a=P3^.dT^e.zip b/\e.length=c.length/\Ats K M H c b
 |d,v=>At K M H d v
def Tops.att{K:Frag}{U M:Ch->Prop}{H:Hp}{a:Ch}{d:D}(h:Tops K M H a d)(n:¬U a):AtT K U M H d^.ref a:=by
 cases d with
 |lst g=>let#[b,c,e]:=h; exact#[a,b,rfl,n,.inl c,e]
 |dic i g=>let#[b,c,e,f]:=h; exact#[a,b,rfl,n,c,e,f]
 |dit i g=>let#[b,c,e,f]:=h; exact#[a,b,rfl,n,c,e,f]
 |_=>exact(h).elim
def VR(K:Frag)(U:Ch->Prop)(M:Ch->Prop)(H c:Hp):Kd->V->D->Prop
 |.sh,v,d=>At K M c d v
 |.tp,v,d=>AtT K U M c d v
 |.fr,v,d=>∃a,v=.ref a/\H a=s_/\Tops K (λb=>M b\/b=a) c a d
def FeedOk(K:Frag)(M:Ch->Prop)(H:Hp)(f:Ch×Ch)(n:Nat):Prop:=
 ∃(at_ b:Int) (a:v_ Int),H f.1=P3^.lst [.ref f.2,.int at_,.int b]/\f.2≠f.1/\NdL M H f.2^a.map V.int/\a.length<=63/\0<=at_/\at_+n<=2 ^ 60
def FeedC(K:Frag)(F:w_ (Ch×Ch))(M:Ch->Prop)(H:Hp)(n:Nat):Prop:=∀f,F=P3 f->FeedOk K M H f n
def Ext(U:Ch->Prop)(H c:Hp):Prop:=∀b o,H b=P3 o->∃a,c b=P3 a/\(¬U b->a=o)/\∀d,o=.tup d->a=o
def Ext.keep{U:Ch->Prop}{H a:Hp}(p:Ext U H a){b:Ch}{o:HO}(e:H b=P3 o)(n:¬U b):a b=P3 o:=by
 let#[c,q,r,_]:=p b o e;rw[q,r n]
def Ext.tup{U:Ch->Prop}{H a:Hp}(p:Ext U H a){b:Ch}{c:v_ V}(e:H b=P3^.tup c):a b=P3^.tup c:=by
 let#[d,q,_,r]:=p b _ e
 grind
def Ext.free{U:Ch->Prop}{H a:Hp}(p:Ext U H a){b:Ch}(e:a b=s_):H b=s_:=by
 cases q:H b with
 |none=>rfl
 |some o=>
  let#[c,z,_]:=p b o q
  grind
def Ext.refl(U:Ch->Prop)(H:Hp):Ext U H H:=λ_ o e=>#[o,e,λ_=>rfl,λ_ _=>rfl]
def Ext.trans{U:Ch->Prop}{c d f:Hp}(p:Ext U c d)(q:Ext U d f):Ext U c f:=λb o e=>by
 let#[h,i,j,g]:=p b o e;let#[k,l,m,r]:=q b h i;exact#[k,l,λn=>(m n).trans^j n,λa z=>(r a^(g a z).trans z).trans^g a z]
def Grow(H a:Hp):Prop:=a=H\/∃p o,H p=s_/\a=BQ H p o
def Grow.all{H a:Hp}(g:Grow H a):∀b o,H b=P3 o->a b=P3 o:=by
 intro b o e
 rcases g with rfl|⟨p,u,n,rfl⟩
 .exact e
 .rw[Ah^BB e n]; exact e
def Grow.refl{H:Hp}:Grow H H:=.inl rfl
def Grow.ext{U:Ch->Prop}{H a:Hp}(g:Grow H a):Ext U H a:=λb o e=>#[o,g.all b o e,λ_=>rfl,λ_ _=>rfl]
def Grow.pres{M:Ch->Prop}{H a:Hp}(g:Grow H a):Pres M H M a:=#[λb o e _=>g.all b o e,λ_ z=>.inl z,λb c e=>g.all b _ e]
def FeedOk.pres{K:Frag}{M c:Ch->Prop}{H b:Hp}{f:Ch×Ch}{n:Nat}(h:FeedOk K M H f n)(p:Pres M H c b)(e:∀o,H f.1=P3 o->b f.1=P3 o):FeedOk K c b f n:=by
 let#[a,r,d,g,i,j,k]:=h;exact#[a,r,d,e _ g,i,j.pres p,k]
def FeedC.pres{K:Frag}{F:w_ (Ch×Ch)}{M b:Ch->Prop}{H a:Hp}{n:Nat}(h:FeedC K F M H n)(p:Pres M H b a)(e:∀f o,F=P3 f->H f.1=P3 o->a f.1=P3 o):FeedC K F b a n:=λf c=>(h f c).pres p λo q=>e f o c q
def FeedC.grow{K:Frag}{F:w_ (Ch×Ch)}{M:Ch->Prop}{H a:Hp}{n:Nat}(h:FeedC K F M H n)(g:Grow H a):FeedC K F M a n:=h.pres g.pres λf o _ e=>g.all _ o e
def FeedC.more{K:Frag}{F:w_ (Ch×Ch)}{M:Ch->Prop}{H:Hp}{n:Nat}(h:FeedC K F M H n)(a:Ch)(e:∀f,F=P3 f->f.2≠a):FeedC K F (λb=>M b\/b=a) H n:=λf c=>by
 let#[x,r,g,i,j,d,k]:=h f c;exact#[x,r,g,i,j,#[λz=>z.elim d.1^e f c,d.2],k]
def AtX(K:Frag)(M:Ch->Prop)(H:Hp)(a:Ch)(g:Str)(b:v_ Str)(f:v_ D):Prop:=∃C U c u e,XC K g C U/\(¬M a/\H a=P3 u)/\XT C c a u/\(c=s_/\b=[]/\e=[]\/∃d,c=P3 d/\¬M d/\H d=P3^.ext^XF d^b.zip e)/\b.length=f.length/\Ats K M H f e
def AtX.pres{K:Frag}{M b:Ch->Prop}{H e:Hp}{a:Ch}{f:Str}{g:v_ Str}{i:v_ D}(h:AtX K M H a f g i)(p:Pres M H b e):AtX K b e a f g i:=by
 let#[C,U,j,u,k,c,#[n,l],x,m,o,q]:=h;refine#[C,U,j,u,k,c,p.nd n l,x,?_,o,q.pres p]
 rcases m with z|⟨d,r,s,t⟩
 .exact .inl z
 .exact .inr #[d,r,p.nd s t]
inductive Slot where
 |no|sh (d:D)|br (d:D)|fd|ow (d:D)|lt (a:Ch) (d:D)|ex (a:Ch) (nm:Str) (ks:List Str) (ds:List D)
def Slot.owns:Slot->Bool
 |.ow _=>t_
 |.lt _ _=>t_
 |_=>u_
def SlotOk(K:Frag)(F:w_ (Ch×Ch))(U:Ch->Prop)(M:Ch->Prop)(H:Hp):Slot->w_ V->Prop
 |.no,_=>True
 |.sh d,o=>∃v,o=P3 v/\At K M H d v
 |.br d,o=>∃v,o=P3 v/\AtT K U M H d v
 |.fd,o=>∃f,o=P3^.ref f.1/\F=P3 f
 |.ow d,o=>∃a,o=P3^.ref a/\M a/\¬U a/\Tops K M H a d
 |.lt a d,o=>o=P3^.ref a/\M a/\¬U a/\Tops K M H a d
 |.ex a b c e,o=>o=P3^.ref a/\AtX K M H a b c e
structure Fm where
 M0:Ch->Prop
 F:Option (Ch×Ch)
 U:Ch->Prop
 V:Ch->Prop
 H0:Hp
 zH:List ((Ch->Prop)×Hp)
 kp:List (Ch×HO)
def Apart(b:v_ Slot)(Z:L2.St):Prop:=∀(i j:Nat) (s t:Slot) (a:Ch),b[i]?=P3 s->s.owns=t_->b[j]?=P3 t->t.owns=t_->(Z[i]?).getD s_=P3^.ref a->(Z[j]?).getD s_=P3^.ref a->i=j
structure Rel (K:Frag) (C:Fm) (M:Ch->Prop) (H:Hp) (n:Nat) (ρ:List Slot) (Z:L2.St):Prop where
 len:ρ.length=Z.length
 sub:∀a,C.M0 a->M a
 dom:∀a,M a->∃o,H a=P3 o
 ext:Ext C.U C.H0 H
 fU:∀f,C.F=P3 f->C.U f.1
 uV:∀a,C.U a->C.V a
 vM:∀a,C.V a->M a
 feed:FeedC K C.F M H n
 sl:∀(i:Nat) (s:Slot),ρ[i]?=P3 s->SlotOk K C.F C.V M H s ((Z[i]?).getD s_)
 pin:∀p∈C.zH,Pres p.1 p.2 M H
 br0:∀(i:Nat) (d:D) (a:Ch),ρ[i]?=P3^.br d->(Z[i]?).getD s_=P3^.ref a->∃o,C.H0 a=P3 o
 new:∀(i:Nat) (s:Slot) (a:Ch),ρ[i]?=P3 s->s.owns=t_->(Z[i]?).getD s_=P3^.ref a->¬C.M0 a/\C.H0 a=s_
 two:Apart ρ Z
 kept:∀p∈C.kp,H p.1=P3 p.2/\M p.1/\¬C.V p.1/\∀(i:Nat) (d:D),ρ[i]?=P3^.ow d->(Z[i]?).getD s_≠P3^.ref p.1
section
variable {K:Frag}{C:Fm}{M:Addr->Prop}{H H':Hp}{n n':Nat}{ρ:v_ Slot}{Z:L2.St}{d:D}{v:V}{κ:Kd}
def Rel.pres(R:Rel K C M H n ρ Z)(e:Ext C.U H H'):Pres M H M H':=#[λb o q a=>e.keep q λz=>a^R.vM b^R.uV b z,λ_ z=>.inl z,λb c q=>e.tup q]
def AtT.pres{U q:Ch->Prop}{s:Ch->Prop}(h:AtT K q M H d v)(p:Pres M H s H')(e:Ext U H H')(l:∀a,U a->q a):AtT K q s H' d v:=by
 cases d with
 |lst m=>
  let#[a,g,j,c,f,k]:=h;refine#[a,g,j,c,?_,k.pres p]
  rcases f with f|⟨o,f⟩
  .exact .inl^e.keep f λz=>c^l a z
  .exact .inr #[o,e.keep f λz=>c^l a z]
 |dic t m=>
  let#[a,g,j,c,f,r,k]:=h;exact#[a,g,j,c,e.keep f λz=>c^l a z,r,k.pres p]
 |dit t m=>
  let#[a,g,j,c,f,r,k]:=h;exact#[a,g,j,c,e.keep f λz=>c^l a z,r,k.pres p]
 |non=>assumption
 |bl b=>assumption
 |int i=>assumption
 |str x=>assumption
 |tup m=>exact At.pres p h
 |fdi t m=>exact At.pres p h
def AtT.same{U r:Ch->Prop}{s:Ch->Prop}(h:AtT K U M H d v)(p:Pres M H s H')(e:∀a o,v=.ref a->H a=P3 o->H' a=P3 o)(m:∀a,v=.ref a->¬U a->¬r a):AtT K r s H' d v:=by
 cases d with
 |lst l=>
  let#[a,g,c,j,f,k]:=h;refine#[a,g,c,m a c j,?_,k.pres p]
  rcases f with f|⟨o,f⟩
  .exact .inl^e a _ c f
  .exact .inr #[o,e a _ c f]
 |dic t l=>
  let#[a,g,c,j,f,q,k]:=h;exact#[a,g,c,m a c j,e a _ c f,q,k.pres p]
 |dit t l=>
  let#[a,g,c,j,f,q,k]:=h;exact#[a,g,c,m a c j,e a _ c f,q,k.pres p]
 |non=>assumption
 |bl b=>assumption
 |int i=>assumption
 |str x=>assumption
 |tup l=>exact At.pres p h
 |fdi t l=>exact At.pres p h
def AtT.lies{U:Ch->Prop}{a:Ch}(h:AtT K U M H d^.ref a):∃o,H a=P3 o:=by
 cases d with
 |lst f=>
  let#[b,g,e,_,c,_]:=h;cases e
  rcases c with c|⟨o,c⟩
  .exact#[_,c]
  grind
 |dic j f=>
  let#[b,g,e,_,c,_]:=h
  grind
 |dit j f=>
  let#[b,g,e,_,c,_]:=h
  grind
 |non=>cases(h)
 |bl b=>cases(h)
 |int i=>cases(h)
 |str x=>cases(h).1
 |tup f=>
  let#[b,g,e,c,_]:=h;cases e;exact#[_,c]
 |fdi j f=>
  let#[b,g,e,#[o,_,c],_]:=h
  simp_all
def SlotOk.pres{F:w_ (Ch×Ch)}{U g i:Ch->Prop}{s:Slot}{o:w_ V}(h:SlotOk K F g M H s o)(p:Pres M H i H')(m:∀a,M a->i a)(e:Ext U H H')(j:∀a,U a->g a):SlotOk K F g i H' s o:=by
 cases s with
 |no=>trivial
 |sh d=>let#[v,b,c]:=h; exact#[v,b,c.pres p]
 |ex a l r t=>let#[b,c]:=h; exact#[b,c.pres p]
 |br d=>let#[v,b,c]:=h; exact#[v,b,c.pres p e j]
 |fd=>exact h
 |ow d=>let#[a,b,c,f,k]:=h; exact#[a,b,m a c,f,k.pres p λo q=>e.keep q λz=>f^j a z]
 |lt a d=>let#[b,c,f,k]:=h; exact#[b,m a c,f,k.pres p λo q=>e.keep q λz=>f^j a z]
def Rel.step(R:Rel K C M H n ρ Z)(e:Ext C.U H H')(f:FeedC K C.F M H' n'):Rel K C M H' n' ρ Z:=by
 have p:=R.pres e;refine#[R.len,R.sub,λa z=>?_,R.ext.trans e,R.fU,R.uV,R.vM,f,λi s q=>(R.sl i s q).pres p (λ_ z=>z) e R.uV,λq b=>(R.pin q b).trans p,R.br0,R.new,R.two,λq b=>?_]
 .let#[o,c]:=R.dom a z
  let#[k,g,_]:=e a o c
  grind
 .let#[c,g,h,j]:=R.kept q b
  exact#[e.keep c λz=>h^R.uV _ z,g,h,j]
def Rel.udom(R:Rel K C M H n ρ Z):∀a,C.U a->∃o,H a=P3 o:=λa z=>R.dom a^R.vM a^R.uV a z
def At.tp{U:Ch->Prop}(k:∀a,U a->M a)(h:At K M H d v):AtT K U M H d v:=by
 cases d with
 |lst j=>
  let#[a,f,e,c,g]:=h;exact#[a,f,e,λz=>c.1^k a z,.inl c.2,g]
 |dic m j=>
  let#[a,f,e,c,l,g]:=h;exact#[a,f,e,λz=>c.1^k a z,c.2,l,g]
 |dit m j=>
  let#[a,f,e,c,l,g]:=h;exact#[a,f,e,λz=>c.1^k a z,c.2,l,g]
 |non=>exact h
 |bl b=>exact h
 |int i=>exact h
 |str x=>exact h
 |tup j=>exact h
 |fdi m j=>exact h
def VR.back{U b:Ch->Prop}{c:Hp}(e:Ext U H c)(h:VR K b M c H' κ v d):VR K b M H H' κ v d:=by
 cases κ with
 |sh=>exact h
 |tp=>exact h
 |fr=>
  let#[a,f,g,i]:=h;exact#[a,f,e.free g,i]
def VR.shOf{U:Ch->Prop}(b:∀a,M a->∃o,H a=P3 o)(h:VR K U M H H' κ v d)(e:κ≠.tp):At K M H' d v:=by
 cases κ with
 |sh=>exact h
 |tp=>grind
 |fr=>
  let#[a,rfl,f,c]:=h;refine(c.pres (Pres.less λ_ z=>.inl z) λ_ z=>z).at λz=>?_
  grind
def VR.tpOf{U:Ch->Prop}(b:∀a,M a->∃o,H a=P3 o)(c:∀a,U a->M a)(h:VR K U M H H' κ v d):AtT K U M H' d v:=by
 cases κ with
 |sh=>exact At.tp c h
 |tp=>exact h
 |fr=>exact At.tp c^VR.shOf b h^by grind
def G5{a:Type}{l:v_ a}{i j:Nat}{x y:a}(h:(l.set i x)[j]?=P3 y):(j=i/\i<l.length/\y=x)\/(j≠i/\l[j]?=P3 y):=by
 rw[List.getElem?_set]at h
 by_cases e:i=j
 .simp_all
 .rw[if_neg e]at h
  exact .inr #[λz=>e z.symm,h]
def LB{l:L2.St}{i j:Nat}{x:w_ V}(h:j≠i):((l.set i x)[j]?).getD s_=(l[j]?).getD s_:=by
 rw[List.getElem?_set,if_neg λz=>h z.symm]
def Wu{l:L2.St}{i:Nat}{x:w_ V}(h:i<l.length):((l.set i x)[i]?).getD s_=x:=by
 simp_all
def Rel.set(R:Rel K C M H n ρ Z){i:Nat}(h:At K M H d v):Rel K C M H n (ρ.set i^.sh d)^Z.set i^P3 v:=by
 have b:∀(j:Nat) (s:Slot),(ρ.set i^.sh d)[j]?=P3 s->s.owns=t_->ρ[j]?=P3 s/\((Z.set i^P3 v)[j]?).getD s_=(Z[j]?).getD s_:=λj s q o=>by
  rcases G5 q with⟨_,_,rfl⟩|⟨f,q⟩
  .cases o
  .exact#[q,LB f]
 refine#[by rw[k_,k_]; exact R.len,R.sub,R.dom,R.ext,R.fU,R.uV,R.vM,R.feed,λj s q=>?_,R.pin,λj e a q c=>?_,λj s a q o c=>?_,λj k s t a g m c r u w=>?_,λp x=>?_]
 .rcases G5 q with⟨rfl,y,rfl⟩|⟨f,q⟩
  .rw[Wu^by rw[←R.len]; exact y]
   exact#[v,rfl,h]
  .rw[LB f]
   exact R.sl j s q
 .rcases G5 q with⟨_,_,e⟩|⟨f,q⟩
  .cases e
  .rw[LB f]at c
   exact R.br0 j e a q c
 .let#[g,e]:=b j s q o
  rw[e]at c;exact R.new j s a g o c
 .let#[z,A]:=b j s g m
  let#[B,l]:=b k t c r;rw[A]at u;rw[l]at w;exact R.two j k s t a z m B r u w
 .let#[D,E,F,G]:=R.kept p x
  refine#[D,E,F,λj e q=>?_];let#[g,l]:=b j _ q rfl;rw[l];exact G j e g
def Rel.owner(R:Rel K C M H n ρ Z){i:Nat}{s:Slot}(h:ρ[i]?=P3 s)(o:s.owns=t_):∃a e,(Z[i]?).getD s_=P3^.ref a/\M a/\¬C.V a/\Tops K M H a e/\¬C.M0 a/\C.H0 a=s_:=by
 have q:=R.sl i s h;cases s with
 |ow d=>let#[a,b,c,f,g]:=q; exact#[a,d,b,c,f,g,R.new i _ a h o b]
 |lt a d=>let#[b,c,f,g]:=q; exact#[a,d,b,c,f,g,R.new i _ a h o b]
 |_=>cases o
def Rel.setOw(R:Rel K C M H n ρ Z){i:Nat}{a:Ch}(e:Ext C.U H H')(f:FeedC K C.F M H' n')(G:H a=s_)(h:Tops K (λb=>M b\/b=a) H' a d):
  Rel K C (λb=>M b\/b=a) H' n' (ρ.set i^.ow d) (Z.set i^P3^.ref a):=by
 have J:=R.step e f
 have I:∀b,M b->b≠a:=λb z q=>by
  let#[o,w]:=R.dom b z;rw[q,G]at w; cases w
 have X:¬C.M0 a/\C.H0 a=s_:=#[λz=>I a (R.sub a z) rfl,R.ext.free G];have P:Pres M H (λb=>M b\/b=a) H':=#[λb o q Y=>e.keep q λz=>Y^R.vM b^R.uV b z,λb z=>z.elim .inl λz=>.inr (by rw[z]; exact G),λb L q=>e.tup q]
 have r:∀(j:Nat) (s:Slot),(ρ.set i^.ow d)[j]?=P3 s->(j=i/\s=.ow d/\((Z.set i^P3^.ref a)[j]?).getD s_=P3^.ref a)\/(j≠i/\ρ[j]?=P3 s/\((Z.set i^P3^.ref a)[j]?).getD s_=(Z[j]?).getD s_):=λj s q=>by
  rcases G5 q with⟨rfl,hl,rfl⟩|⟨A,q⟩
  .exact .inl #[rfl,rfl,Wu^by rw[←R.len]; exact hl]
  .exact .inr #[A,q,LB A]
 have D:∀(j:Nat) (s:Slot) (b:Ch),ρ[j]?=P3 s->s.owns=t_->(Z[j]?).getD s_=P3^.ref b->b≠a:=λj s b q o z=>by
  let#[c,_,l,m,_]:=R.owner q o;rw[l]at z;cases z;exact I _ m
 have hd:∃o,H' a=P3 o:=by
  cases d with
  |lst Q=>let#[L,q,_]:=h; exact#[_,q]
  |dic ks Q=>let#[L,q,_]:=h; exact#[_,q]
  |dit ks Q=>let#[L,q,_]:=h; exact#[_,q]
  |_=>exact(show False from h).elim
 refine#[by rw[k_,k_]; exact R.len,λb z=>.inl^R.sub b z,λb z=>?_,J.ext,R.fU,R.uV,λb z=>.inl^R.vM b z,f.more a λg hg q=>?_,λj s q=>?_,λq hq=>(R.pin q hq).trans P,λj x b q u=>?_,λj s b q o u=>?_,λj k s t b y S u T E B=>?_,λp hp=>?_]
 .rcases z with z|z
  .exact J.dom b z
  .rw[z]; exact hd
 .let#[_,_,_,_,_,N,_]:=R.feed g hg
  have:=N.2
  rw[q,G]at this; cases this
 .rcases r j s q with⟨rfl,rfl,l⟩|⟨A,y,l⟩
  .rw[l]
   exact#[a,rfl,.inr rfl,λz=>I a (R.vM a z) rfl,h]
  .rw[l]
   exact(R.sl j s y).pres P (λ_ z=>.inl z) e R.uV
 .rcases r j _ q with⟨_,l,_⟩|⟨A,y,l⟩
  .cases l
  .rw[l]at u
   exact R.br0 j x b y u
 .rcases r j s q with⟨_,_,l⟩|⟨A,y,l⟩
  .rw[l]at u
   cases u;exact X
  .rw[l]at u
   exact R.new j s b y o u
 .rcases r j s y with⟨rfl,_,l⟩|⟨A,V,l⟩
  .rw[l]at E
   cases E
   rcases r k t u with⟨rfl,_,_⟩|⟨hk,O,x⟩
   .rfl
   .rw[x]at B
    exact absurd rfl (D k t a O T B)
  .rw[l]at E
   rcases r k t u with⟨rfl,_,x⟩|⟨hk,O,x⟩
   .rw[x]at B
    cases B;exact absurd rfl (D j s a V S E)
   .rw[x]at B
    exact R.two j k s t b V S O T E B
 .let#[h1,W,N,h4]:=J.kept p hp
  refine#[h1,.inl W,N,λj x q=>?_]
  rcases r j _ q with⟨_,_,l⟩|⟨A,y,l⟩
  .rw[l]
   intro z;cases z;exact I _ W rfl
  .rw[l]
   exact h4 j x y
def Rel.mut(R:Rel K C M H n ρ Z){i:Nat}{a:Ch}{e:D}{o:HO}(E:ρ[i]?=P3^.ow d)(N:(Z[i]?).getD s_=P3^.ref a)(h:Tops K M (BQ H a o) a e):
  Rel K C M (BQ H a o) n (ρ.set i^.ow e) Z:=by
 let#[b,_,c,m,U,t,n0,V]:=R.owner E rfl;rw[N]at c;cases c;have F:Pres M H M^BQ H a o:=#[λb A q Y=>by rw[Ah λz=>Y^by rw[z]; exact m]; exact q,λ_ z=>.inl z,λb vs q=>by rw[Ah λz=>t.notT^by rw[←z]; exact q]; exact q]
 have l:∀(j:Nat) (s:Slot),(ρ.set i^.ow e)[j]?=P3 s->(j=i/\s=.ow e)\/(j≠i/\ρ[j]?=P3 s):=λj s q=>by
  rcases G5 q with⟨rfl,hl,rfl⟩|⟨y,q⟩
  .exact .inl #[rfl,rfl]
  .exact .inr #[y,q]
 have I:∀(j:Nat) (s:Slot) (b:Ch),j≠i->ρ[j]?=P3 s->s.owns=t_->(Z[j]?).getD s_=P3^.ref b->b≠a:=λj s b y q o z w=>by
  subst w;exact y (R.two j i s _ b q o E rfl z N)
 refine#[by rw[k_]; exact R.len,R.sub,λb z=>?_,λb A q=>?_,R.fU,R.uV,R.vM,R.feed.pres F λf A hf q=>?_,λj s q=>?_,λq hq=>(R.pin q hq).trans F,λj O b q g=>?_,λj s b q G g=>?_,λj k s t b u W g G P Q=>?_,λp hp=>?_]
 .by_cases B:b=a
  .exact#[o,by rw[B,An]]
  .let#[A,q]:=R.dom b z
   exact#[A,by rw[Ah B]; exact q]
 .let#[G,g,r]:=R.ext b A q
  have B:b≠a:=λz=>by rw[z,V]at q; cases q
  exact#[G,by rw[Ah B]; exact g,r]
 .have B:f.1≠a:=λz=>U^by rw[←z]; exact R.uV _^R.fU f hf
  rw[Ah B]; exact q
 .rcases l j s q with⟨rfl,rfl⟩|⟨y,u⟩
  .rw[N]
   exact#[a,rfl,m,U,h]
  .have g:=R.sl j s u
   cases s with
   |no=>trivial
   |sh d=>let#[v,c,x]:=g; exact#[v,c,x.pres F]
   |ex a nm ks ds=>let#[c,x]:=g; exact#[c,x.pres F]
   |br d=>
    let#[v,c,x]:=g;refine#[v,c,x.same F (λb A z q=>?_) λ_ _ z=>z];subst z;let#[o3,w]:=R.br0 j d b u c;rw[Ah λz=>by rw[z,V]at w; cases w];exact q
   |fd=>exact g
   |ow d=>
    let#[b,c,x,J,L]:=g;exact#[b,c,x,J,L.pres F λA w=>by rw[Ah (I j _ b y u rfl c)]; exact w]
   |lt b d=>
    let#[c,x,J,L]:=g;exact#[c,x,J,L.pres F λA w=>by rw[Ah (I j _ b y u rfl c)]; exact w]
 .rcases l j _ q with⟨_,c⟩|⟨y,u⟩
  .cases c
  .exact R.br0 j O b u g
 .rcases l j s q with⟨rfl,_⟩|⟨y,u⟩
  .exact R.new j _ b E rfl g
  .exact R.new j s b u G g
 .rcases l j s u with⟨rfl,rfl⟩|⟨y,X⟩
  .rcases l k t g with⟨rfl,_⟩|⟨hk,S⟩
   .rfl
   .exact R.two j k _ t b E rfl S G P Q
  .rcases l k t g with⟨rfl,rfl⟩|⟨hk,S⟩
   .exact R.two j k s _ b X W E rfl P Q
   .exact R.two j k s t b X W S G P Q
 .let#[x,J,L,T]:=R.kept p hp
  have B:p.1≠a:=λz=>T i d E (by rw[N,z]);refine#[by rw[Ah B]; exact x,J,L,λj O q=>?_]
  rcases l j _ q with⟨rfl,_⟩|⟨y,u⟩
  .exact T j d E
  .exact T j O u
def Rel.freeze(R:Rel K C M H n ρ Z){i:Nat}{a:Ch}(E:ρ[i]?=P3^.ow d)(x:(Z[i]?).getD s_=P3^.ref a):Rel K C (λb=>M b/\b≠a) H n (ρ.set i^.sh d) Z:=by
 let#[b,_,c,m,J,_,L,V]:=R.owner E rfl;rw[x]at c;cases c;have y:∀b,M b/\b≠a->M b:=λ_ z=>z.1;have r:Pres M H (λb=>M b/\b≠a) H:=Pres.less y
 have e:∀(j:Nat) (s:Slot),(ρ.set i^.sh d)[j]?=P3 s->(j=i/\s=.sh d)\/(j≠i/\ρ[j]?=P3 s):=λj s q=>by
  rcases G5 q with⟨rfl,W,rfl⟩|⟨l,q⟩
  .exact .inl #[rfl,rfl]
  .exact .inr #[l,q]
 have A:∀(j:Nat) (s:Slot) (b:Ch),j≠i->ρ[j]?=P3 s->s.owns=t_->(Z[j]?).getD s_=P3^.ref b->b≠a:=λj s b l q o z w=>by
  subst w;exact l (R.two j i s _ b q o E rfl z x)
 have t:Tops K M H a d:=by
  let#[b,c,_,_,u]:=R.sl i _ E;rw[x]at c;cases c;exact u
 refine#[by rw[k_]; exact R.len,λb z=>#[R.sub b z,λw=>L^by rw[←w]; exact z],λb z=>R.dom b z.1,R.ext,R.fU,R.uV,λb z=>#[R.vM b z,λw=>J^by rw[←w]; exact z],R.feed.pres r λ_ _ _ q=>q,λj s q=>?_,λq N=>(R.pin q N).trans r,λj F b q f=>?_,λj s b q B f=>?_,λj k s t b g G f B O P=>?_,λp Q=>?_]
 .rcases e j s q with⟨rfl,rfl⟩|⟨l,g⟩
  .rw[x]
   exact#[_,rfl,(t.pres r λ_ z=>z).at λz=>z.2 rfl]
  .have f:=R.sl j s g
   cases s with
   |no=>trivial
   |sh d=>let#[v,c,h]:=f; exact#[v,c,h.pres r]
   |ex a X Y ds=>let#[c,h]:=f; exact#[c,h.pres r]
   |br d=>let#[v,c,h]:=f; exact#[v,c,h.same r (λ_ _ _ z=>z) λ_ _ z=>z]
   |fd=>exact f
   |ow d=>
    let#[b,c,h,D,u]:=f;exact#[b,c,#[h,A j _ b l g rfl c],D,u.pres r λ_ z=>z]
   |lt b d=>
    let#[c,h,D,u]:=f;exact#[c,#[h,A j _ b l g rfl c],D,u.pres r λ_ z=>z]
 .rcases e j _ q with⟨_,c⟩|⟨l,g⟩
  .cases c
  .exact R.br0 j F b g f
 .rcases e j s q with⟨_,rfl⟩|⟨l,g⟩
  .cases B
  .exact R.new j s b g B f
 .rcases e j s g with⟨_,rfl⟩|⟨l,S⟩
  .cases G
  .rcases e k t f with⟨_,rfl⟩|⟨hk,T⟩
   .cases B
   .exact R.two j k s t b S G T B O P
 .let#[h,D,u,I]:=R.kept p Q
  have U:p.1≠a:=λz=>I i d E (by rw[x,z]);refine#[h,#[D,U],u,λj F q=>?_]
  rcases e j _ q with⟨_,c⟩|⟨l,g⟩
  .cases c
  .exact I j F g
end
abbrev DW:=Nat->v_ Slot->(D->Nat->Prop)->Prop
abbrev Ij:=Nat->v_ Slot->(Bool->Nat->Prop)->Prop
abbrev EW:=Nat->v_ Slot->(v_ D->Nat->Prop)->Prop
abbrev av:=Nat->v_ Slot->(v_ Slot->Nat->Prop)->Prop
section
variable (X:Cx)
def DE(e:jJ)(f:Kd)(w:DW):Prop:=∃t,PE X e t/\∀(C:Fm) (M:Ch->Prop) (H:Hp) (n:Nat) (b:v_ Slot) (Z:L2.St) (P:D->Nat->Prop) (Q:VK),Rel X.K C M H n b Z->w n b P->
 (∀v a d c,Ext C.U H a->FeedC X.K C.F M a c->VR X.K C.V M H a f v d->P d c->Q v a)->t Z H Q
def DT(e:jJ)(w:Ij):Prop:=∃t,PT X e t/\∀(C:Fm) (M:Ch->Prop) (H:Hp) (n:Nat) (c:v_ Slot) (Z:L2.St) (P:Bool->Nat->Prop) (Q:Bool->Hp->Prop),Rel X.K C M H n c Z->w n c P->
 (∀b a d,Ext C.U H a->FeedC X.K C.F M a d->P b d->Q b a)->t Z H Q
def DTW(e:jJ)(w:Ij):Prop:=∃t,PW X e t/\∀(C:Fm) (M:Ch->Prop) (H:Hp) (n:Nat) (c:v_ Slot) (Z:L2.St) (P:Bool->Nat->Prop) (Q:Bool->Hp->Prop),Rel X.K C M H n c Z->w n c P->
 (∀b a d,Ext C.U H a->FeedC X.K C.F M a d->P b d->Q b a)->t Z H Q
def aF(g:v_ jJ)(w:EW):Prop:=∃t,PA X g t/\∀(C:Fm) (M:Ch->Prop) (H:Hp) (n:Nat) (b:v_ Slot) (Z:L2.St) (P:v_ D->Nat->Prop) (Q:v_ V->Hp->Prop),Rel X.K C M H n b Z->w n b P->
 (∀c a e f,Ext C.U H a->FeedC X.K C.F M a f->Paired (λv d=>AtT X.K C.V M a d v) c e->P e f->Q c a)->t Z H Q
def aw(f:v_ jJ)(w:EW):Prop:=∃t,PA X f t/\∀(C:Fm) (M:Ch->Prop) (H:Hp) (n:Nat) (b:v_ Slot) (Z:L2.St) (P:v_ D->Nat->Prop) (Q:v_ V->Hp->Prop),Rel X.K C M H n b Z->w n b P->
 (∀c a d e,Ext C.U H a->FeedC X.K C.F M a e->Ats X.K M a d c->P d e->Q c a)->t Z H Q
def OP(K:Frag)(F:w_ (Ch×Ch))(a M:Ch->Prop)(H:Hp)(v:V)(s:Slot):Prop:=SlotOk K F a M H s^P3 v/\s.owns=u_
def gL(e:jJ)(w:Nat->v_ Slot->(Slot->Nat->Prop)->Prop):Prop:=∃t,PE X e t/\∀(C:Fm) (M:Ch->Prop) (H:Hp) (n:Nat) (b:v_ Slot) (Z:L2.St) (P:Slot->Nat->Prop) (Q:VK),Rel X.K C M H n b Z->w n b P->
 (∀v a s c,Ext C.U H a->FeedC X.K C.F M a c->OP X.K C.F C.V M a v s->P s c->Q v a)->t Z H Q
def dW(f:v_ jJ)(w:av):Prop:=∃t,PA X f t/\∀(C:Fm) (M:Ch->Prop) (H:Hp) (n:Nat) (b:v_ Slot) (Z:L2.St) (P:v_ Slot->Nat->Prop) (Q:v_ V->Hp->Prop),Rel X.K C M H n b Z->w n b P->
 (∀c a d e,Ext C.U H a->FeedC X.K C.F M a e->Paired (OP X.K C.F C.V M a) c d->P d e->Q c a)->t Z H Q
end
def AC(i:Nat):DW:=λn a P=>match a[i]? with
 |some (.sh d)=>P d n
 |_=>False
def As(i:Nat):DW:=λn a P=>match a[i]? with
 |some (.sh d)=>P d n
 |some (.br d)=>P d n
 |some (.ow d)=>P d n
 |some (.lt _ d)=>P d n
 |_=>False
def wC(d:D):DW:=λn _ P=>P d n
section
variable {X:Cx}{a b c e:Expr}{κ zU zO:Kd}{wa wb:DW}{pos:Pos}
def getD_some{Z:L2.St}{i:Nat}{v:V}(h:(Z[i]?).getD s_=P3 v):Z[i]?=P3^P3 v:=by
 cases q:Z[i]? with
 |none=>simp_all
 |some o=>simp_all
def Z4{i:Nat}(h:PE X e^CC i):DE X e .sh^AC i:=by
 refine#[_,h,λC M H n j Z P Q R w q=>?_];unfold AC at w
 split at w
 .rename_i d c
  let#[v,f,g]:=R.sl i _ c;exact#[v,getD_some f,q v H d n (Ext.refl _ _) R.feed g w]
 grind
def YX{i:Nat}(h:PE X e^CC i):DE X e .tp^As i:=by
 refine#[_,h,λC M H n l Z P Q R w q=>?_];unfold As at w
 split at w
 .rename_i d c
  let#[v,f,g]:=R.sl i _ c;exact#[v,getD_some f,q v H d n (Ext.refl _ _) R.feed (At.tp R.vM g) w]
 .rename_i d c
  let#[v,f,g]:=R.sl i _ c;exact#[v,getD_some f,q v H d n (Ext.refl _ _) R.feed g w]
 .rename_i d c
  let#[a,f,_,j,k]:=R.sl i _ c;exact#[.ref a,getD_some f,q _ H d n (Ext.refl _ _) R.feed (k.att j) w]
 .rename_i a d c
  let#[f,_,j,k]:=R.sl i _ c;exact#[.ref a,getD_some f,q _ H d n (Ext.refl _ _) R.feed (k.att j) w]
 .exact w.elim
def dv(i:Nat){x:Str}{pos:Pos}(d:X.N[i]?=P3 x:=by rfl)(e:dB X.env.scope x:=by first|exact TM rfl|exact kG (TM rfl)|exact kG (kG rfl))(f:(x==("__debug__":Str))=u_:=by cbv)
  (c:(x==("__classdict__":Str))=u_:=by cbv):DE X (.Name x pos) .sh^AC i:=Z4^Ou d e f c
def D5(i:Nat){x:Str}{pos:Pos}(d:X.N[i]?=P3 x:=by rfl)(e:dB X.env.scope x:=by first|exact TM rfl|exact kG (TM rfl)|exact kG (kG rfl))(f:(x==("__debug__":Str))=u_:=by cbv)
  (c:(x==("__classdict__":Str))=u_:=by cbv):DE X (.Name x pos) .tp^As i:=YX^Ou d e f c
def II{d:D}{v:V}(h:PE X e^tC v)(c:∀M H,At X.K M H d v):DE X e .sh^wC d:=
 #[_,h,λC M H n f Z P Q R w q=>q v H d n (Ext.refl _ _) R.feed (c M H) w]
def AF{i:Int}{j pos}:DE X (.Constant (.int i) j pos) .sh^wC^.int i:=II BL λ_ _=>rfl
def Bs{b:Bool}{j pos}:DE X (.Constant (.bool b) j pos) .sh^wC^.bl b:=II eW λ_ _=>rfl
def A3{j pos}:DE X (.Constant .none j pos) .sh^wC .non:=II bq λ_ _=>rfl
def Ay{x:Str}{j pos}(c:decide (x.length<=1000)=t_:=by rfl):DE X (.Constant (.str x) j pos) .sh^wC^.str x:=
 II bo λ_ _=>#[rfl,iz (of_decide_eq_true c)^by cbv]
def DE.sh(h:DE X e κ wa)(c:κ≠.tp:=by intro z; cases z):DE X e .sh wa:=by
 let#[t,g,i]:=h;exact#[t,g,λC M H n j Z P Q R w q=>i C M H n j Z P Q R w λv k d l e f r p=>q v k d l e f (r.shOf R.dom c) p]
def GI(K:Frag)(κ:Kd)(r:R2)(f:D->D->(D->Prop)->Prop):Prop:=∀(U:Ch->Prop) (M:Ch->Prop) (H:Hp) (d e:D) (x y:V) (P:D->Prop) (Q:VK),(∀a,M a->∃o,H a=P3 o)->(∀a,U a->M a)->
 AtT K U M H d x->AtT K U M H e y->f d e P->(∀v c z,Grow H c->VR K U M H c κ v z->P z->Q v c)->r x y H Q
def Ac(f:D->D->(D->Prop)->Prop)(wa wb:DW):DW:=λn c P=>wa n c λx d=>wb d c λy e=>f x y λz=>P z e
def FH{r:R2}{f:D->D->(D->Prop)->Prop}(u:GI X.K κ r f){o s:TE}(A:∀(C:Fm) (M:Ch->Prop) (H:Hp) (n:Nat) (h:v_ Slot) (Z:L2.St) (P:D->Nat->Prop) (Q:VK),Rel X.K C M H n h Z->wa n h P->
   (∀v c d i,Ext C.U H c->FeedC X.K C.F M c i->VR X.K C.V M H c zU v d->P d i->Q v c)->o Z H Q)
  (B:∀(C:Fm) (M:Ch->Prop) (H:Hp) (n:Nat) (h:v_ Slot) (Z:L2.St) (P:D->Nat->Prop) (Q:VK),Rel X.K C M H n h Z->wb n h P->
   (∀v c d i,Ext C.U H c->FeedC X.K C.F M c i->VR X.K C.V M H c zO v d->P d i->Q v c)->s Z H Q)
  (C:Fm) (M:Ch->Prop) (H:Hp) (n:Nat) (h:v_ Slot) (Z:L2.St) (P:D->Nat->Prop) (Q:VK) (R:Rel X.K C M H n h Z) (w:Ac f wa wb n h P)
  (q:∀v c d i,Ext C.U H c->FeedC X.K C.F M c i->VR X.K C.V M H c κ v d->P d i->Q v c):EX r o s Z H Q:=by
 refine A C M H n h Z _ _ R w λx E d G m I J L=>?_;have j:=R.step m I;refine B C M E G h Z _ _ j L λy N e O k t S T=>?_;have l:=j.step k t;exact u _ M N d e x y _ _ l.dom l.vM ((J.tpOf R.dom R.vM).pres (j.pres k) k R.uV) (S.tpOf j.dom j.vM) T λv W z g Y p=>q v W z O ((m.trans k).trans g.ext) (t.grow g) (VR.back (m.trans k) Y) p
def A7{h:Operator}{r:R2}{f:D->D->(D->Prop)->Prop}(i:OpR X (binaryOp h) r)(j:GI X.K κ r f)(k:DE X a zU wa)(l:DE X b zO wb):DE X (.BinOp a h b pos) κ^Ac f wa wb:=by
 let#[o,c,d]:=k;let#[p,e,g]:=l;exact#[_,CL i c e,λC M H n m Z P Q R w q=>FH j d g C M H n m Z P Q R w q]
def Aa{r:R2}{f:D->D->(D->Prop)->Prop}(h:IxR X r)(i:GI X.K κ r f)(j:DE X a zU wa)(k:DE X b zO wb)(l:U5 b:=by intro _ _; rfl):DE X (.Subscript a b pos) κ^Ac f wa wb:=by
 let#[o,c,d]:=j;let#[p,e,g]:=k;exact#[_,FN h c e l,λC M H n m Z P Q R w q=>FH i d g C M H n m Z P Q R w q]
def C_{c:CmpOp}{r:R2}{f:D->D->(D->Prop)->Prop}(i:OpR X (compareOp c) r)(j:GI X.K .sh r f)(k:DE X a zU wa)(l:DE X b zO wb)(m:behindInMarks c b=u_):DE X (.Compare a [c] [b] pos) .sh^Ac f wa wb:=by
 let#[p,d,e]:=k;let#[s,g,h]:=l;exact#[_,ZT i d g m,λC M H n o Z P Q R w q=>FH j e h C M H n o Z P Q R w q]
def AX(w:DW):Ij:=λn c P=>w n c λd e=>match d with
 |.bl b=>P b e
 |_=>False
def Ka{U:Ch->Prop}{K:Frag}{M:Ch->Prop}{H c:Hp}{v:V}{b:Bool}(h:VR K U M H c κ v^.bl b):v=.bl b:=by
 cases κ with
 |sh=>exact h
 |tp=>exact h
 |fr=>let#[a,_,_,t]:=h; exact(t).elim
def Ai{c:CmpOp}{r:R2}{f:D->D->(D->Prop)->Prop}(k:OpR X (compareOp c) r)(l:GI X.K .sh r f)(m:DE X a zU wa)(o:DE X b zO wb)(s:behindInMarks c b=u_):DT X (.Compare a [c] [b] pos)^AX^Ac f wa wb:=by
 let#[y,g,h]:=m;let#[z,i,j]:=o;refine#[_,Hc k g i s,λC M H n t Z P Q R w q=>?_];refine FH l h j C M H n t Z _ _ R w λv u d x e f r p=>?_;cases d with
 |bl b=>exact#[b,Ka r,q b u x e f p]
 |_=>exact p.elim
def A2(h:DE X e κ wa)(g:∀c,isTrue e X.env c=(do let v ←c; standAt e.pos; holding [v]^truthy v):=by intro _; rfl):DT X e^AX wa:=by
 let#[t,i,j]:=h;refine#[_,bg i g,λC M H n k Z P Q R w q=>?_];refine j C M H n k Z _ _ R w λv l d m e f r p=>?_;cases d with
 |bl b=>exact#[b,Ka r,q b l m e f p]
 |_=>exact p.elim
def HI(u v:Ij):Ij:=λn d P=>u n d λc e=>if c=t_ then v e d P else P u_ e
def B7(u v:Ij):Ij:=λn d P=>u n d λc e=>if c=t_ then P t_ e else v e d P
def BP(u:Ij):Ij:=λn d P=>u n d λc e=>P (!c) e
variable {wA wB:Ij}{rest:v_ Expr}
def Kj(h:DT X a wA):DTW X (.BoolOp .And [a] pos) wA:=by
 let#[t,c,d]:=h;exact#[t,UC c,d]
def Bt(h:DT X a wA):DTW X (.BoolOp .Or [a] pos) wA:=by
 let#[t,c,d]:=h;exact#[t,be c,d]
def MB(i:DT X a wA)(j:DTW X (.BoolOp .And (b::rest) pos) wB):DTW X (.BoolOp .And (a::b::rest) pos)^HI wA wB:=by
 let#[t,k,l]:=i;let#[u,m,o]:=j;refine#[_,XI k m,λC M H n e Z P Q R w q=>?_];refine l C M H n e Z _ _ R w λc f g d h p=>?_;cases c with
 |false=>exact q _ f g d h p
 |true=>exact o C M f g e Z P Q (R.step d h) p λb r s v x y=>q b r s (d.trans v) x y
def Bg(i:DT X a wA)(j:DTW X (.BoolOp .Or (b::rest) pos) wB):DTW X (.BoolOp .Or (a::b::rest) pos)^B7 wA wB:=by
 let#[t,k,l]:=i;let#[u,m,o]:=j;refine#[_,eU k m,λC M H n e Z P Q R w q=>?_];refine l C M H n e Z _ _ R w λc f g d h p=>?_;cases c with
 |true=>exact q _ f g d h p
 |false=>exact o C M f g e Z P Q (R.step d h) p λb r s v x y=>q b r s (d.trans v) x y
def DTW.dt(h:DTW X e wA):DT X e wA:=by
 let#[t,c,d]:=h;exact#[t,c.pt,d]
def BC(d:DT X a wA):DT X (.UnaryOp .Not a pos)^BP wA:=by
 let#[t,e,f]:=d;exact#[_,bh e,λC M H n g Z P Q R w q=>f C M H n g Z _ _ R w λc h i j k p=>q _ h i j k p]
def J7(u v:DW):DW:=λn d P=>u n d λc e=>match c with
 |.bl t_=>v e d P
 |.bl u_=>P (.bl u_) e
 |_=>False
def bC(u:DW):DW:=λn d P=>u n d λc e=>match c with
 |.bl b=>P (.bl (!b)) e
 |_=>False
def Dr{op}(h:DE X a κ wa):DE X (.BoolOp op [a] pos) κ wa:=by
 assumption
def DP(j:DE X a zU wa)(l:DE X (.BoolOp .And (b::rest) pos) .sh wb):DE X (.BoolOp .And (a::b::rest) pos) .sh^J7 wa wb:=by
 let#[t,m,o]:=j;let#[u,r,s]:=l;refine#[_,bv m r,λC M H n g Z P Q R w q=>?_];refine o C M H n g Z _ _ R w λc e d h f i x p=>?_;cases d with
 | bl k=>
  exists k,Ka x;cases k with
  |false=>exact q _ e _ h f i (show VR _ _ M H e _ _^.bl _ from rfl) p
  |true=>
   exact s C M e h g Z P Q (R.step f i) p λv y d z A B D E=>q v y d z (f.trans A) B D E
 |_=>exact p.elim
def S4(f:DE X a zU wa):DE X (.UnaryOp .Not a pos) .sh^bC wa:=by
 let#[t,g,h]:=f;refine#[_,bp g,λC M H n i Z P Q R w q=>?_];refine h C M H n i Z _ _ R w λc e d j l m o p=>?_;cases d with
 |bl k=>exact#[k,Ka o,q _ e _ j l m (show VR _ _ M H e _ _^.bl _ from rfl) p]
 |_=>exact p.elim
def WO(t:Ij)(u v:DW):DW:=λn d P=>t n d λc e=>if c=t_ then u e d P else v e d P
def F2(s:DT X c wA)(x:DE X a κ wa)(y:DE X b κ wb):DE X (.IfExp c a b pos) κ^WO wA wa wb:=by
 let#[t,z,A]:=s;let#[u,B,D]:=x;let#[G,E,F]:=y;refine#[_,Qi z B E,λC M H n f Z P Q R w q=>?_];refine A C M H n f Z _ _ R w λc m o e r p=>?_;cases c with
 |true=>exact D C M m o f Z P Q (R.step e r) p λv g d h i j k l=>q v g d h (e.trans i) j (VR.back e k) l
 |false=>exact F C M m o f Z P Q (R.step e r) p λv g d h i j k l=>q v g d h (e.trans i) j (VR.back e k) l
def AQ:EW:=λn _ P=>P [] n
def AE(w:DW)(e:EW):EW:=λn c P=>w n c λd f=>e f c λg h=>P (d::g) h
variable {es:v_ Expr}{ws:EW}
def AV:aF X [] AQ:=#[_,C4,λC M H n c Z P Q R w q=>q [] H [] n (Ext.refl _ _) R.feed .nil w]
def AM:aw X [] AQ:=#[_,C4,λC M H n c Z P Q R w q=>q [] H [] n (Ext.refl _ _) R.feed rfl w]
def AN(i:DE X e κ wa)(j:aF X es ws)(k:starEach (e::es) X.env=(u_,eval e X.env)::starEach es X.env:=by rfl):aF X (e::es)^AE wa ws:=by
 let#[t,l,m]:=i;let#[u,o,r]:=j;refine#[_,B8 l o k,λC M H n f Z P Q R w q=>?_];refine m C M H n f Z _ _ R w λv s d x g y z p=>?_;have h:=R.step g y;exact r C M s x f Z _ _ h p λG A I B c D E F=>q _ A _ B (g.trans c) D (.cons ((z.tpOf R.dom R.vM).pres (h.pres c) c R.uV) E) F
def AB(i:DE X e κ wa)(j:aw X es ws)(k:κ≠.tp:=by intro z; cases z)(l:starEach (e::es) X.env=(u_,eval e X.env)::starEach es X.env:=by rfl):aw X (e::es)^AE wa ws:=by
 let#[t,m,o]:=i;let#[u,r,s]:=j;refine#[_,B8 m r l,λC M H n c Z P Q R w q=>?_];refine o C M H n c Z _ _ R w λv x d y f A B p=>?_;have g:=R.step f A;exact s C M x y c Z _ _ g p λD E F G h I J K=>q _ E (d::F) G (f.trans h) I #[v,D,rfl,(B.shOf R.dom k).pres^g.pres h,J] K
def Az(ws:EW):DW:=λn d P=>ws n d λc e=>c.length<=sizeLine/\P (.tup c) e
def Bq(ws:EW):DW:=λn d P=>ws n d λc e=>c.length<=sizeLine/\P (.lst c) e
def HC{M:Ch->Prop}{H:Hp}{p:Ch}{o:HO}(h:H p=s_):Pres M H (λb=>M b\/b=p)^BQ H p o:=#[λb u e _=>by rw[Ah^BB e h]; exact e,λb z=>z.elim .inl λz=>.inr^by grind,λb c e=>by rw[Ah^BB e h]; exact e]
def BE{H:Hp}{p:Ch}{o:HO}(h:H p=s_):Grow H^BQ H p o:=.inr #[p,o,h,rfl]
def Ao{x1}(h:aw X es ws):DE X (.Tuple es x1 pos) .sh^Az ws:=by
 let#[t,f,i]:=h;refine#[_,bj f,λC M H n j Z P Q R w q=>?_];refine i C M H n j Z _ _ R w λc d k l m o e p=>?_;refine#[by rw[e.length]; exact p.1,λa r=>?_];have g:Grow d^BQ d a^.tup c:=BE r;refine q _ _ (.tup k) l (m.trans g.ext) (o.grow g) #[a,c,rfl,An,e.pres g.pres] p.2
def A6(h:aw X es ws):DE X (.List es pos) .fr^Bq ws:=by
 let#[t,j,k]:=h;refine#[_,Sg j,λC M H n l Z P Q R w q=>?_];refine k C M H n l Z _ _ R w λd e m o f r i p=>?_;refine#[by rw[i.length]; exact p.1,λa c=>?_];have g:Grow e^BQ e a^.lst d:=BE c;exact q _ _ (.lst m) o (f.trans g.ext) (r.grow g) (VR.back f #[a,rfl,c,d,An,i.pres^HC c]) p.2
def D1(K:Frag)(κ:Kd)(r:v_ V->Hp->VK->Prop)(f:v_ D->(D->Prop)->Prop):Prop:=∀(U:Ch->Prop) (M:Ch->Prop) (H:Hp) (e:v_ D) (g:v_ V) (P:D->Prop) (Q:VK),(∀a,M a->∃o,H a=P3 o)->(∀a,U a->M a)->
 Paired (λv d=>AtT K U M H d v) g e->f e P->(∀v c z,Grow H c->VR K U M H c κ v z->P z->Q v c)->r g H Q
def Bl(f:v_ D->(D->Prop)->Prop)(ws:EW):DW:=λn c P=>ws n c λd e=>f d λz=>P z e
def al{r:v_ V->Hp->VK->Prop}{f:v_ D->(D->Prop)->Prop}{t:TA}(o:D1 X.K κ r f)(s:∀(C:Fm) (M:Ch->Prop) (H:Hp) (n:Nat) (e:v_ Slot) (Z:L2.St) (P:v_ D->Nat->Prop) (Q:v_ V->Hp->Prop),Rel X.K C M H n e Z->ws n e P->
   (∀i c j h,Ext C.U H c->FeedC X.K C.F M c h->Paired (λv d=>AtT X.K C.V M c d v) i j->P j h->Q i c)->t Z H Q)
  (C:Fm) (M:Ch->Prop) (H:Hp) (n:Nat) (e:v_ Slot) (Z:L2.St) (P:D->Nat->Prop) (Q:VK) (R:Rel X.K C M H n e Z) (w:Bl f ws n e P)
  (q:∀v c d h,Ext C.U H c->FeedC X.K C.F M c h->VR X.K C.V M H c κ v d->P d h->Q v c):f9 r t Z H Q:=by
 refine s C M H n e Z _ _ R w λi u j x k l y p=>?_;have m:=R.step k l;exact o _ M u j i _ _ m.dom m.vM y p λv A z g B E=>q v A z x (k.trans g.ext) (l.grow g) (VR.back k B) E
def Ag{x:Str}{g:String}{p:Pos}{r:v_ V->Hp->VK->Prop}{f:v_ D->(D->Prop)->Prop}(h:DL X (.builtin g) r)(i:D1 X.K κ r f)(j:Gl X x)(k:X.mg x=s_)(l:bootBuiltins x=P3^.builtin g)(m:aF X (e::es) ws)
  (o:x ≠ "__name__":=by cbv) (c:(x==("__debug__":Str))=u_:=by cbv)
  (s:starEach (e::es) X.env=(u_,eval e X.env)::starEach es X.env:=by rfl) (d:(backTo pos^starEach es X.env).any (·.1)=u_:=by rfl):DE X (.Call (.Name x p) (e::es) [] pos) κ^Bl f ws:=by
 let#[t,u,v]:=m;exact#[_,Hg h j k l u o c s d,λC M H n y Z P Q R w q=>al i v C M H n y Z P Q R w q]
def BD{x:Str}{T:String}{p:Pos}{r:v_ V->Hp->VK->Prop}{f:v_ D->(D->Prop)->Prop}(g:DL X (.type T) r)(h:D1 X.K κ r f)(i:Gl X x)(j:X.mg x=s_)(k:bootBuiltins x=P3^.type T)(l:aF X (e::es) ws)
  (m:x ≠ "__name__":=by cbv) (c:(x==("__debug__":Str))=u_:=by cbv)
  (o:starEach (e::es) X.env=(u_,eval e X.env)::starEach es X.env:=by rfl) (d:(backTo pos^starEach es X.env).any (·.1)=u_:=by rfl):DE X (.Call (.Name x p) (e::es) [] pos) κ^Bl f ws:=by
 let#[t,s,u]:=l;exact#[_,Nk g i j k s m c o d,λC M H n v Z P Q R w q=>al h u C M H n v Z P Q R w q]
end
end Dp
namespace L2
def h9(z:Str):It:=#[λi _=>i<z.cps.size,λi H x a=>a=H/\∃c,z.cps[i]?=P3 c/\x=.str #[#[ c]],λi _=>z.cps.size<=i]
def QB{P:jK}{w:jQ}{K:Frag}{S:jJ}(it:Ch)(z:Str)(t:Tok)(ty:String)(g:ty="str_ascii_iterator"\/ty="str_iterator")
  (W:∀M:jd,M.handled=s_->Walks P w M it [it] [it] z.cps.size (SignAt z) λi h=>h.IsStrIter it ty z t i):Turn P w K S (h9 z) [it] it (λi h=>h.IsStrIter it ty z t i) where
 mem:=by simp
 obj:=λi h a b f=>by
  have e:b=it:=by simpa using f
  subst e;let#[o,e,c,d]:=a;exact#[o,e,λv z=>by rw[d]at z; cases z]
 keep:=λi h j a k=>let #[o,T,r]:=a; #[o,k it (by simp) o T,r]
 item:=by
  intro X C D F m i N s Z H E I n a G;subst C D F;let#[p,q,U,x,y,B]:=n it (by simp);refine(W X.A^I.ok.hd m).item i s _ _ G a λv j O V l Y=>?_;let#[c,u,J,rfl]:=V;have I1:Inv X N Z H {s with heap:=j,toks:=O}:=I.turned (λb o f e=>Y b o (by simpa using f) e) p q x y B;let#[o,e,cc,d]:=id l;exact#[_,rfl,Uc (s:={s with heap:=j,toks:=O}) e cc d (by rcases g with rfl|rfl <;>decide) #[.str #[#[ c]],H,I1,#[_,rfl],#[rfl,c,J,rfl],l,λb f=>(n b f).1]]
 done:=by
  intro X C D F m i N s Z H E I n a G;subst C D F;let#[p,q,U,x,y,B]:=n it^by simp
  have R:z.cps[i]?=s_:=by
   have:z.cps.size<=i:=G
   simp[this]
  rcases g with rfl|rfl
  .exact wpAny_pyNext_ascii_end (I.ok.hd m) a R λj L=>#[rfl,I.turned (t':=s.toks) (λb o f e=>L b o f e) p q x y B]
  .exact wpAny_pyNext_wide_end (I.ok.hd m) a R λj L=>#[rfl,I.turned (t':=s.toks) (λb o f e=>L b o f e) p q x y B]
 self:=λA i s Q E a h=>by
  rcases g with rfl|rfl
  .exact wpAny_pyIter_striter_ascii a h
  .exact wpAny_pyIter_striter_wide a h
section
variable {X:Cx}{tg:Expr}
def gp(K:Frag)(d:TE):TI:=λZ H R=>d Z H λx b=>
 (∃a,x=.ref a/\(∃c,SqL K b a c)/\R (h_ K a) b)\/(∃a,x=.ref a/\(∃c,SqT K b a c)/\R (dH K a) b)\/∃z,x=.str z/\R (h9 z) b
def Se{l:jJ}{n:TE}(w:PE X l n):PI X tg l^gp X.K n:=by
 intro r s Z H R I h;refine thn (w r s Z H _ I h) λv c #[x,g,f,j,y]=>?_
 have d:∀b,b∈[c.heap.objs.size]->Gg X r g b:=λb A=>by
  have e:b=c.heap.objs.size:=by simpa using A
  subst e;exact f.fpOk (Rs _)^f.hok.fresh^Rs _
 rcases y with⟨a,e,⟨B,k⟩,q⟩|⟨a,e,⟨B,k⟩,q⟩|⟨z,e,q⟩
 .subst e
  cases j;let#[i,C,p,D]:=f.list k;refine kO p.isList ?_;exact#[c.heap.objs.size,[c.heap.objs.size],_,_,g,rfl,f.kept (t':=c.toks) λb o e=>Go _ e,U9 a _,#[_,XV _ rfl,rfl,rfl],d,q]
 .subst e
  cases j;let#[i,C,p,D]:=f.tuple k;refine jz (show c.heap.IsTuple a i.toArray from p) ?_;exact#[c.heap.objs.size,[c.heap.objs.size],_,_,g,rfl,f.kept (t':=c.toks) λb o e=>Go _ e,Kz a _,#[_,XV _ rfl,rfl,rfl],d,q]
 .subst e
  let#[t,rfl]:=j;cases u:z.cps.all (·<128)
  .refine wpAny_pyIter_wide u ?_
   exact#[c.heap.objs.size,[c.heap.objs.size],_,_,g,rfl,f.kept (t':=c.toks) λb o e=>Go _ e,QB _ z t "str_iterator" (.inr rfl) λE m=>Walks.strWide m _ z t,#[_,XV _ rfl,rfl,rfl],d,q]
  .refine wpAny_pyIter_ascii u ?_
   exact#[c.heap.objs.size,[c.heap.objs.size],_,_,g,rfl,f.kept (t':=c.toks) λb o e=>Go _ e,QB _ z t "str_ascii_iterator" (.inl rfl) λE m=>Walks.strAscii m _ z t,#[_,XV _ rfl,rfl,rfl],d,q]
end
section
variable {X:Cx}
def Mz(bs:v_ Bool):((jL bs.length).all λi=>(bs[i]?).getD t_)=bs.all id:=by
 induction bs with
 |nil=>rfl
 |cons b r a=>
  rw[iu,pL,nE,List.all_map]
  congr 1
def Ct(t:X.calm=t_):DL X (.builtin "all") (λj H Q=>∃(p:Ch) (c:v_ Bool),j=[.ref p]/\SqL X.K H p^c.map V.bl/\Q (.bl^c.all id) H):=by
 intro J s Z H j L Q I r h;let#[p,c,rfl,w,q]:=h;let#[u,rfl,y]:=vals1 r;cases y;let#[a,k,z,M]:=I.list w;have d:=k.length;have f:s.heap.IsList p a.toArray:=z.isList;have g:p<s.heap.objs.size:=by let#[_,e,_]:=id f; exact ZB e
 refine call_all_walk^kO f ?_
 refine#[s.heap.objs.size,[s.heap.objs.size,p],[s.heap.objs.size],a.toArray.size,_,_,λi=>(c[i]?).getD t_,rfl,Walks.list (A:=X.A.in1) (I.ok.hd t) _ p (i_ g) a.toArray,
  #[#[_,XV _ rfl,rfl,rfl],f.push _],λi v N O P B l=>?_,λR C D=>?_]
 .have m:a[i]?=P3 v:=by simpa using B
  have E:∃b,c[i]?=P3 b:=by
   have S:i<a.length:=(Uf.mp m).1;rw[FM]at d;exact#[c[i]'(by lk),No^by lk]
  let#[b,n]:=E;let#[u,o,F]:=k.get (i:=i) (x:=.bl b) (by rw[ir,n]; rfl);rw[m]at o;cases o;cases F;simp only[n,Option.getD_some]at l;exact lC l
 .have e:((jL a.toArray.size).all λi=>(c[i]?).getD t_)=c.all id:=by
   rw[iy,←d,FM]; exact Mz c
  rw[e];exact#[.bl _,H,I.kept (t':=C) λb x e=>D b x (λG=>by rw[Re.mp G]at e; exact jr _^ZB e)^Go _ e,rfl,q]
def RS:DL X (.builtin "isinstance") (λa H Q=>∃x T t b,a=[x,.ty T]/\HG X.K H x t/\PySem.W.kitOne X.K t^.type T=P3 b/\Q (.bl b) H):=by
 intro f s Z H a g Q I r h;let#[x,T,t,b,rfl,ty,e,q]:=h;let#[u,i,rfl,c,d]:=vals2 r;cases d;exact Vt I c ty e λj=>#[.bl b,H,I.tok _,rfl,q]
def VX:OpR X (compareOp .LtE) (λx y H Q=>∃i j,x=.str i/\y=.str j/\Q (.bl (!(j.cps.toList<i.cps.toList))) H):=by
 intro c s Z H x y v u Q I a b h;let#[i,j,rfl,rfl,q]:=h;let#[t,rfl]:=a;let#[d,rfl]:=b;exact PySem.P.le_str #[.bl _,H,I,rfl,q]
def R9{b:v_ Str}:∀{a:v_ Ev},Vals (b.map V.str) a->StrsAre a b:=by
 induction b with
 |nil=>intro a r; cases r; exact .nil
 | cons n g c=>
  intro a r;cases r with
  |cons d f=>
   let#[t,e]:=d;subst e;exact .cons n t^c f
def bU:SlR X (λx f g H Q=>∃z,x=.str z/\z.length<=sizeLine/\Q (.str^Txt.slice z f g) H):=by
 intro o s Z H x v w y f g A Q I p c r m h;let#[z,rfl,d,q]:=h;let#[t,rfl]:=p;exists "str",_,F.slot_str_getitem.lookup,mz _ _ _;have b:∀a k,EP X o Z Q (.str _ a) {s with toks:=k}:=λa k=>#[.str _,H,I.tok _,#[_,rfl],q];cases r with
 |none=>
  cases m with
  |none=>exact lj (l:=s_) (u:=s_) (st:=s_) c rfl (nS #[iz (Txt.slice_le z _ _) d,λa k=>b a k])
  |int j e=>exact lj (l:=s_) (u:=P3 (j,e)) (st:=s_) c rfl (nS #[iz (Txt.slice_le z _ _) d,λa k=>b a k])
 |int i n=>
  cases m with
  |none=>exact lj (l:=P3 (i,n)) (u:=s_) (st:=s_) c rfl (nS #[iz (Txt.slice_le z _ _) d,λa k=>b a k])
  |int j e=>exact lj (l:=P3 (i,n)) (u:=P3 (j,e)) (st:=s_) c rfl (nS #[iz (Txt.slice_le z _ _) d,λa k=>b a k])
def VU(d:X.A.units<cLine):OpR X (compareOp .NotEq) (λx y H Q=>∃a b c,x=.ref a/\y=.ref b/\SqL X.K H a c/\SqL X.K H b []/\Q (.bl (!c.isEmpty)) H):=by
 intro w s Z H x y v u Q I m n h;let#[a,b,c,rfl,rfl,o,p,q]:=h;cases m;cases n;let#[r,f,g,_]:=I.list o;let#[i,k,l,_]:=I.list p;cases k;cases f with
 |nil=>exact SeqAt.RcNeAt.lists (e:=λ_=>t_) g.isList l.isList rfl d (λj t z=>absurd t^by simp) _ _ _ _ #[.bl _,H,I,rfl,q]
 |cons f k=>exact SeqAt.RcNeAt.lists_lengths g.isList l.isList (by simp) d _ _ _ _ #[.bl _,H,I,rfl,q]
end
end L2
namespace Dp
open L2
def fk(K:Frag)(F:w_ (Ch×Ch))(U b M:Ch->Prop)(H:Hp)(n:Nat)(c:v_ Slot)(d:v_ V):Prop:=
 (∀a,M a->∃o,H a=P3 o)/\(∀f,F=P3 f->U f.1)/\(∀a,U a->b a)/\(∀a,b a->M a)/\FeedC K F M H n/\Paired (OP K F b M H) d c
abbrev W2:=v_ Slot->Nat->(D->Nat->Prop)->Prop
def ZF(K:Frag)(g:Kd)(W:W2)(h:Nat):Sp:=λb H Q _=>b.length=h/\∃(F:w_ (Ch×Ch)) (U c M:Ch->Prop) (n:Nat) (e:v_ Slot) (P:D->Nat->Prop),fk K F U c M H n e b/\W e n P /\
 ∀v a d f,Ext U H a->FeedC K F M a f->VR K c M H a g v d->P d f->Q v a
def AH(w:DW):Nat->v_ Slot->(Slot->Nat->Prop)->Prop:=λn a P=>w n a λd b=>P (.sh d) b
def B6(w:DW):Nat->v_ Slot->(Slot->Nat->Prop)->Prop:=λn a P=>w n a λd b=>P (.br d) b
def BR(i:Nat):Nat->v_ Slot->(Slot->Nat->Prop)->Prop:=λn a P=>match a[i]? with
 |some .fd=>P .fd n
 |_=>False
def AY:av:=λn _ P=>P [] n
def AD(w:Nat->v_ Slot->(Slot->Nat->Prop)->Prop)(b:av):av:=λn a P=>w n a λs c=>b c a λd e=>P (s::d) e
def AW(W:W2)(a:av):DW:=λn b P=>a n b λc d=>W c d P
section
variable {X:Cx}{a e:Expr}{es:v_ Expr}{κ zU:Kd}{wa:DW}{pos:Pos}{w1:Nat->v_ Slot->(Slot->Nat->Prop)->Prop}{was:av}{ws:EW}
def AI(h:DE X e κ wa)(b:κ≠.tp:=by intro z; cases z):gL X e^AH wa:=by
 let#[t,c,g]:=h;exact#[t,c,λC M H n i Z P Q R w q=>g C M H n i Z _ _ R w λv j d k e f r p=>q v j (.sh d) k e f #[#[v,rfl,r.shOf R.dom b],rfl] p]
def EI(h:DE X e κ wa):gL X e^B6 wa:=by
 let#[t,b,c]:=h;exact#[t,b,λC M H n g Z P Q R w q=>c C M H n g Z _ _ R w λv i d j e f r p=>q v i (.br d) j e f #[#[v,rfl,r.tpOf R.dom R.vM],rfl] p]
def Bh(i:Nat){x:Str}{pos:Pos}(d:X.N[i]?=P3 x:=by rfl)(e:dB X.env.scope x:=by first|exact TM rfl|exact kG (TM rfl)|exact kG (kG rfl))(b:(x==("__debug__":Str))=u_:=by cbv)
  (c:(x==("__classdict__":Str))=u_:=by cbv):gL X (.Name x pos)^BR i:=by
 refine#[_,Ou d e b c,λC M H n j Z P Q R w q=>?_];unfold BR at w
 split at w
 .rename_i b
  let#[f,g,h]:=R.sl i _ b;exact#[_,getD_some g,q _ H .fd n (Ext.refl _ _) R.feed #[#[f,rfl,h],rfl] w]
 grind
def AL:dW X [] AY:=#[_,C4,λC M H n b Z P Q R w q=>q [] H [] n (Ext.refl _ _) R.feed .nil w]
def AA(i:gL X e w1)(j:dW X es was)(k:starEach (e::es) X.env=(u_,eval e X.env)::starEach es X.env:=by rfl):dW X (e::es)^AD w1 was:=by
 let#[t,l,m]:=i;let#[u,o,r]:=j;refine#[_,B8 l o k,λC M H n c Z P Q R w q=>?_];refine m C M H n c Z _ _ R w λv s d x f y g p=>?_;have h:=R.step f y;exact r C M s x c Z _ _ h p λG A I B b D E F=>q _ A _ B (f.trans b) D (.cons #[g.1.pres (h.pres b) (λ_ z=>z) b R.uV,g.2] E) F
def Z6{k:Nat}{f:Ch}{fd:jt}{b:v_ Str}{W:W2}{x:Str}{p:Pos}(G:D6 X.prog X.w X.K X.mg X.base J6 k f fd b^ZF X.K κ W b.length)(o:∀c n P,W c n P->c.length=b.length)
  (r:Room k X.A) (s:Gl X x) (u:X.mg x=P3^.ref f) (y:keepIn X.K^.ref f=t_) (z:Binds X.K fd b []) (B:dW X (e::es) was)
  (h:(x==("__debug__":Str))=u_:=by cbv) (D:starEach (e::es) X.env=(u_,eval e X.env)::starEach es X.env:=by rfl) (i:(backTo pos^starEach es X.env).any (·.1)=u_:=by rfl):
  DE X (.Call (.Name x p) (e::es) [] pos) κ (AW W was):=by
 let#[t,E,F]:=B;refine#[_,UM G r s u y z .nil aX E h D i,λC M H n I Z P Q R w q=>?_];refine F C M H n I Z _ _ R w λV Y c J j l m p=>?_;have g:=R.step j l;rw[jE];exact#[(Paired.length m).trans^o _ _ _ p,_,_,_,M,J,c,P,#[g.dom,g.fU,g.uV,g.vM,l,m],p,λv L d N O S T U=>q v L d N (j.trans O) S (VR.back j T) U]
def h7(K:Frag)(κ:Kd)(T:String)(r:V->v_ V->Hp->VK->Prop)(f:D->v_ D->(D->Prop)->Prop):Prop:=∀(U:Ch->Prop) (M:Ch->Prop) (H:Hp) (d:D) (c:v_ D) (x:V) (e:v_ V) (P:D->Prop) (Q:VK),(∀a,M a->∃o,H a=P3 o)->(∀a,U a->M a)->
 AtT K U M H d x->Paired (λv d=>AtT K U M H d v) e c->f d c P->(∀v b z,Grow H b->VR K U M H b κ v z->P z->Q v b)->r x e H Q
def gC(T:String)(d:D):Prop:=match d with
 |.str _=>T="str"
 |.int _=>T="int"
 |.lst _=>T="list"
 |_=>False
def iB(T:String)(f:D->v_ D->(D->Prop)->Prop)(c:DW)(ws:EW):DW:=λn b P=>c n b λd e=>gC T d/\ws e b λg h=>f d g λz=>P z h
def O8{T:String}{K:Frag}{U:Ch->Prop}{M:Ch->Prop}{H:Hp}{d:D}{x:V}(h:gC T d)(b:AtT K U M H d x):gN K T x H:=by
 cases d with
 |str z=>let#[e,_]:=b; subst e; exact h
 |int i=>cases(b); exact h
 |lst g=>let#[a,c,e,_,f,_]:=b; subst e; exact .inl #[h,c,.inl f]
 |_=>exact(h).elim
def fV{c:Str}{i b:Pos}{T y:String}{r:V->v_ V->Hp->VK->Prop}{f:D->v_ D->(D->Prop)->Prop}(J:PlainAttrs T)(l:PySem.Slot T c y)(A:typeOf^.builtin y=pure^.type "method_descriptor")(L:au X y r)
  (N:h7 X.K κ T r f) (O:DE X a zU wa) (S:aF X (e::es) ws)
  (j:attributeBase a c X.env^eval a X.env=eval a X.env:=by rfl)
  (m:((backTo b^starEach (e::es) X.env).all (λx=>!x.1)&&(backToKw b^keywordEach [] X.env).all (λx=>x.1.isSome)
   && decide ((e::es).length+([]:v_ k7).length+(if([]:v_ k7).isEmpty then 0 else 1)<30))=t_:=by rfl)
  (k:(i.endLine==b.line)=t_:=by rfl) (U:starEach (e::es) X.env=(u_,eval e X.env)::starEach es X.env:=by rfl) (h:(backTo b^starEach es X.env).any (·.1)=u_:=by rfl):
  DE X (.Call (.Attribute a c i) (e::es) [] b) κ (iB T f wa ws):=by
 let#[t,W,Y]:=O;let#[u,g1,g2]:=S;refine#[_,Qk J l A L W g1 j m k U h,λC M H n F Z P Q R w q=>?_];refine Y C M H n F Z _ _ R w λx H1 d n1 B f1 r1 p=>?_;have E:=R.step B f1;have G:=r1.tpOf R.dom R.vM;exists O8 p.1 G;refine g2 C M H1 n1 F Z _ _ E p.2 λvs H2 ds n2 o I r2 p2=>?_;have s:=E.step o I;refine N C.V M H2 d ds x vs _ _ s.dom s.vM (G.pres (E.pres o) o R.uV) r2 p2 λv H3 z g vr pz=>?_;exact q v H3 z n2 ((B.trans o).trans g.ext) (I.grow g) (VR.back (B.trans o) vr) pz
def DO(X:Cx)(e:w_ jJ)(w:Nat->v_ Slot->(w_ Int->Nat->Prop)->Prop):Prop:=∃t,PO X e t/\∀(C:Fm) (M:Ch->Prop) (H:Hp) (n:Nat) (c:v_ Slot) (Z:L2.St) (P:w_ Int->Nat->Prop) (Q:w_ Int->Hp->Prop),Rel X.K C M H n c Z->w n c P->
 (∀o b d,Ext C.U H b->FeedC X.K C.F M b d->P o d->Q o b)->t Z H Q
def DA:Nat->v_ Slot->(w_ Int->Nat->Prop)->Prop:=λn _ P=>P s_ n
def Gh(w:DW):Nat->v_ Slot->(w_ Int->Nat->Prop)->Prop:=λn b P=>w n b λd c=>match d with
 |.int i=>P (P3 i) c
 |_=>False
def FF:DO X s_ DA:=#[_,UI,λC M H n b Z P Q R w q=>q _ H n (Ext.refl _ _) R.feed w]
def L3{U:Ch->Prop}{K:Frag}{M:Ch->Prop}{H b:Hp}{v:V}{i:Int}(h:VR K U M H b κ v^.int i):v=.int i:=by
 cases κ with
 |sh=>exact h
 |tp=>exact h
 |fr=>let#[a,_,_,t]:=h; exact(t).elim
def FE(h:DE X e κ wa):DO X (P3 e)^Gh wa:=by
 let#[t,b,c]:=h;refine#[_,UH b,λC M H n f Z P Q R w q=>?_];refine c C M H n f Z _ _ R w λv g d j k l m p=>?_;cases d with
 |int i=>exact#[i,L3 m,q _ g j k l p]
 |_=>exact p.elim
def iM(K:Frag)(κ:Kd)(r:V->w_ Int->w_ Int->Hp->VK->Prop)(f:D->w_ Int->w_ Int->(D->Prop)->Prop):Prop:=∀(U:Ch->Prop) (M:Ch->Prop) (H:Hp) (d:D) (x:V) (c e:w_ Int) (P:D->Prop) (Q:VK),(∀a,M a->∃o,H a=P3 o)->(∀a,U a->M a)->
 AtT K U M H d x->f d c e P->(∀v b z,Grow H b->VR K U M H b κ v z->P z->Q v b)->r x c e H Q
def Y4(f:D->w_ Int->w_ Int->(D->Prop)->Prop)(w:DW)(c e:Nat->v_ Slot->(w_ Int->Nat->Prop)->Prop):DW:=λn b P=>w n b λd g=>c g b λh i=>e i b λj k=>f d h j λz=>P z k
def ME{i j:w_ jJ}{k:Pos}{r:V->w_ Int->w_ Int->Hp->VK->Prop}{f:D->w_ Int->w_ Int->(D->Prop)->Prop}{s x:Nat->v_ Slot->(w_ Int->Nat->Prop)->Prop}(B:SlR X r)(E:iM X.K κ r f)(F:DE X e zU wa)(G:DO X i s)(I:DO X j x):
  DE X (.Subscript e (.Slice i j s_ k) pos) κ (Y4 f wa s x):=by
 let#[t,J,L]:=F;let#[u,N,O]:=G;let#[u',S,T]:=I;refine#[_,Qh B J N S,λC M H n l Z P Q R w q=>?_];refine L C M H n l Z _ _ R w λv U d W m Y r1 p=>?_;have o:=R.step m Y;have tv:=r1.tpOf R.dom R.vM;refine O C M U W l Z _ _ o p λi H2 n2 c f2 k=>?_;have b:=o.step c f2;refine T C M H2 n2 l Z _ _ b k λj H3 n3 h y p3=>?_;have A:=b.step h y;refine E C.V M H3 d v i j _ _ A.dom A.vM ((tv.pres (o.pres c) c R.uV).pres (b.pres h) h R.uV) p3 λv H4 z g vr pz=>?_;exact q v H4 z n3 (((m.trans c).trans h).trans g.ext) (y.grow g) (VR.back ((m.trans c).trans h) vr) pz
end
structure E2 where
 nx:Nat->List Slot->Prop
 rt:D->Nat->Prop
 bk:Nat->List Slot->Prop:=λ_ _=>False
 ct:Nat->List Slot->Prop:=λ_ _=>False
abbrev Ad:=E2->Nat->v_ Slot->Prop
structure Y1 (K:Frag) (C:Fm) (κ:Kd) (D2:E2) (E:Ends):Prop where
 nx:∀M H n ρ Z,Rel K C M H n ρ Z->D2.nx n ρ->E.nx Z H
 rt:∀v H d n,Ext C.U C.H0 H->FeedC K C.F C.M0 H n->VR K C.V C.M0 C.H0 H κ v d->D2.rt d n->E.rt v H
 bk:∀M H n ρ Z,Rel K C M H n ρ Z->D2.bk n ρ->E.bk Z H
 ct:∀M H n ρ Z,Rel K C M H n ρ Z->D2.ct n ρ->E.ct Z H
def DS(X:Cx)(c:Kd)(st:jH)(w:Ad):Prop:=∃t,PS X st t/\∀(C:Fm) (M:Ch->Prop) (H:Hp) (n:Nat) (a:v_ Slot) (Z:L2.St) (b:E2) (E:Ends),Rel X.K C M H n a Z->Y1 X.K C c b E->w b n a->t E Z H
def Rt(X:Cx)(c:Kd)(st:v_ jH)(w:Ad):Prop:=∃t,PSs X st t/\∀(C:Fm) (M:Ch->Prop) (H:Hp) (n:Nat) (a:v_ Slot) (Z:L2.St) (b:E2) (E:Ends),Rel X.K C M H n a Z->Y1 X.K C c b E->w b n a->t E Z H
def Au:Ad:=λa n b=>a.nx n b
def Af(u v:Ad):Ad:=λa n b=>u {a with nx:=v a} n b
def Ap(w:DW):Ad:=λa n b=>w n b λd c=>a.rt d c
def A8(t:Ij)(u v:Ad):Ad:=λb n a=>t n a λc d=>if c=t_ then u b d a else v b d a
def BA(i:Nat)(w:DW):Ad:=λb n a=>w n a λd c=>b.nx c^a.set i^.sh d
section
variable {X:Cx}{κ zR:Kd}{st:Stmt}{rest:v_ Stmt}{u v:Ad}{wa:DW}{wA:Ij}{e c:Expr}{pos:Pos}
def Al:Rt X κ [] Au:=#[_,Oo,λC M H n a Z b E R L w=>L.nx M H n a Z R w]
def AG(c:DS X κ st u)(d:Rt X κ rest v):Rt X κ (st::rest)^Af u v:=by
 let#[t,e,f]:=c;let#[i,g,h]:=d;exact#[_,BY e g,λC M H n a Z b E R L w=>f C M H n a Z {b with nx:=v b} _ R #[λM H n a Z R w=>h C M H n a Z b E R L w,L.rt,L.bk,L.ct] w]
def AJ(a:DS X κ st u):Rt X κ [st] u:=by
 let#[t,b,c]:=a;exact#[t,D_ b,c]
def bZ{K:Frag}{C:Fm}{M:Ch->Prop}{H g:Hp}{n h:Nat}{j:v_ Slot}{Z:L2.St}{i:E2}{E:Ends}{d:D}{v:V}(R:Rel K C M H n j Z)(L:Y1 K C κ i E)(e:Ext C.U H g)(f:FeedC K C.F M g h)(r:VR K C.V M H g κ v d)(o:κ≠.tp)(p:i.rt d h):E.rt v g:=by
 have c:Pres M g _ g:=Pres.less R.sub;refine L.rt v g d h (R.ext.trans e) (f.pres c λ_ _ _ z=>z) ?_ p;cases κ with
 |sh=>exact At.pres c r
 |tp=>grind
 |fr=>
  let#[a,k,l,m]:=VR.back R.ext r;exact#[a,k,l,m.pres (Pres.less λb z=>z.imp (R.sub b) id) λ_ z=>z]
def AZ(h:DE X e κ wa)(a:κ≠.tp:=by intro z; cases z):DS X κ (.Return (P3 e) pos)^Ap wa:=by
 let#[t,b,c]:=h;exact#[_,G7 b,λC M H n f Z k E R L w=>c C M H n f Z _ _ R w λv l d m g i j p=>bZ R L g i j a p]
def Aw{a b:v_ jH}(j:DT X c wA)(k:Rt X κ a u)(l:Rt X κ b v):DS X κ (.If c a b pos)^A8 wA u v:=by
 let#[t,m,o]:=j;let#[z,q,r]:=k;let#[s,x,y]:=l;refine#[_,XO m q x,λC M H n d Z e E R L w=>?_];refine o C M H n d Z _ _ R w λb f g h i p=>?_;cases b with
 |true=>exact r C M f g d Z e E (R.step h i) L p
 |false=>exact y C M f g d Z e E (R.step h i) L p
def Ar{i:Nat}{x:Str}{a:Pos}(b:X.N.Nodup)(c:X.N[i]?=P3 x)(f:Loc X.env.scope x)(g:DE X e zR wa)(h:zR≠.tp:=by intro z; cases z)(j:swapsWith e (P3^.Name x a) pos.line X.env=pure u_:=by rfl)
  (k:X.fn x=t_\/X.env.scope.names.lookup x=P3 .local:=by first|exact .inl rfl|exact .inr rfl|assumption):DS X κ (.Assign [.Name x a] e pos)^BA i wa:=by
 let#[t,l,m]:=g;exact#[_,E6 b c f l j k,λC M H n o Z B E R L w=>m C M H n o Z _ _ R w λv q d r s y A p=>L.nx M q r _ _ ((R.step s y).set^A.shOf R.dom h) p]
end
section
variable {X:Cx}{κ:Kd}{e:Expr}{wa:DW}{pos:Pos}
def CU(i:Nat)(w:DW):Ad:=λb n a=>w n a λd c=>b.nx c^a.set i^.ow d
def Bn{i:Nat}{x:Str}{b:Pos}(c:X.N.Nodup)(f:X.N[i]?=P3 x)(g:Loc X.env.scope x)(h:DE X e .fr wa)(j:swapsWith e (P3^.Name x b) pos.line X.env=pure u_:=by rfl)
  (k:X.fn x=t_\/X.env.scope.names.lookup x=P3 .local:=by first|exact .inl rfl|exact .inr rfl|assumption):DS X κ (.Assign [.Name x b] e pos)^CU i wa:=by
 let#[t,l,m]:=h;refine#[_,E6 c f g l j k,λC M H n o Z B E R L w=>?_];refine m C M H n o Z _ _ R w λv q d r s u y p=>?_;let#[a,rfl,z,A]:=y;exact L.nx _ q r _ _ (R.setOw s u z A) p
def JZ(i:Nat):Ad:=λa n b=>∃d,b[i]?=P3^.ow d/\a.rt d n
def Kl{x:Str}{p:Pos}(i:Nat)(h:PE X (.Name x p)^CC i):DS X .fr (.Return (P3^.Name x p) pos)^JZ i:=by
 refine#[_,G7 h,λC M H n g Z j E R L #[d,c,f]=>?_];let#[a,e,m,k,t]:=R.sl i _ c;exact#[_,getD_some e,L.rt _ H d n R.ext (R.feed.pres (Pres.less R.sub) λ_ _ _ z=>z) #[a,rfl,(R.new i _ a c rfl e).2,t.pres (Pres.less λb z=>z.elim (R.sub b) λz=>by grind) λ_ z=>z] f]
def Y0(K:Frag)(r:V->v_ V->Hp->VK->Prop)(f:D->v_ D->(D->D->Prop)->Prop):Prop:=∀(M:Ch->Prop) (H:Hp) (a:Ch) (d:D) (b:v_ D) (c:v_ V) (P:D->D->Prop) (Q:VK),M a->Tops K M H a d->Ats K M H b c->f d b P->
 (∀o e z v,Tops K M (BQ H a o) a e->At K M (BQ H a o) z v->P e z->Q v^BQ H a o)->r (.ref a) c H Q
def Kw(i:Nat)(T:String)(f:D->v_ D->(D->D->Prop)->Prop)(b:EW):Ad:=λc n a=>∃d,a[i]?=P3^.ow d/\gC T d/\b n a λg h=>f d g λe _=>c.nx h^a.set i^.ow e
def Cr{M:Ch->Prop}{H:Hp}{a:Ch}{o u:HO}(m:M a)(e:H a=P3 u)(t:∀c,u≠.tup c:=by intro _ z; cases z):Pres M H M^BQ H a o:=#[λb f q d=>by rw[Ah λz=>d^by simp_all]; exact q,λ_ z=>.inl z,λb c q=>by rw[Ah λz=>by grind]; exact q]
def DK{x c:Str}{p g b:Pos}{T y:String}{r:V->v_ V->Hp->VK->Prop}{f:D->v_ D->(D->D->Prop)->Prop}{k:v_ jJ}{J:EW}(i:Nat)(O:PlainAttrs T)(s:PySem.Slot T c y)(A:typeOf^.builtin y=pure^.type "method_descriptor")
  (P:au X y r) (Q:Y0 X.K r f) (h:PE X (.Name x p)^CC i) (S:aw X (e::k) J)
  (l:attributeBase (.Name x p) c X.env^eval (.Name x p) X.env=eval (.Name x p) X.env:=by rfl)
  (u:((backTo b^starEach (e::k) X.env).all (λx=>!x.1)&&(backToKw b^keywordEach [] X.env).all (λx=>x.1.isSome)
   && decide ((e::k).length+([]:v_ k7).length+(if([]:v_ k7).isEmpty then 0 else 1)<30))=t_:=by rfl)
  (q:(g.endLine==b.line)=t_:=by rfl) (U:starEach (e::k) X.env=(u_,eval e X.env)::starEach k X.env:=by rfl) (j:(backTo b^starEach k X.env).any (·.1)=u_:=by rfl)
  (B:swapsWith (.Call (.Attribute (.Name x p) c g) (e::k) [] b) s_ pos.line X.env=pure u_:=by rfl):
  DS X κ (.Expr (.Call (.Attribute (.Name x p) c g) (e::k) [] b) pos) (Kw i T f J):=by
 let#[t,W,Y]:=S;refine#[_,UG (Qk O s A P h W l u q U j) B,λC M H n ρ Z D2 E R L #[d,F,hT,hw]=>?_];let#[a,G,m,nv,tt]:=R.sl i _ F;exists .ref a,getD_some G,O8 hT^tt.att nv;refine Y C M H n ρ Z _ _ R hw λvs H1 ds n1 ee f1 r1 p=>?_;have N:=R.step ee f1;let#[a',w,m',a0,I]:=N.sl i _ F;rw[G]at w;cases w;exact Q M H1 a d ds vs _ _ m' I r1 p λo d' z v t2 hz pp=>L.nx M _ n1 _ Z (N.mut F G t2) pp
def Fx(d:D)(b:v_ D)(P:D->D->Prop):Prop:=∃a y,d=.lst a/\b=[y]/\a.length<sizeLine/\P (.lst (a++[y])) .non
def Ew{K:Frag}:Y0 K UB Fx:=by
 intro M H a d j k P Q m t e w q;let#[l,y,rfl,rfl,f,w]:=w;let#[g,b,c]:=t;let#[u,r,rfl,h,i]:=e;cases(i);exact#[a,g,u,rfl,rfl,b,by rw[c.length]; exact f,q _ (.lst _) .non _ #[_,An,(c.append^Ats.one h).pres^Cr m b] rfl w]
def Zt(d:D)(c:v_ D)(P:D->D->Prop):Prop:=∃a b,d=.lst a/\c=[.lst b]/\a.length+b.length<=sizeLine/\P (.lst (a++b)) .non
def Yt{K:Frag}:Y0 K UA Zt:=by
 intro M H a d o p P Q m t g w q;let#[s,v,rfl,rfl,h,w]:=w;let#[i,c,e]:=t;let#[u,r,rfl,j,k]:=g;cases(k);let#[b,l,rfl,n,f]:=j;exact#[a,b,i,l,rfl,rfl,c,n.2,by rw[e.length,f.length]; exact h,q _ (.lst _) .non _ #[_,An,(e.append f).pres^Cr m c] rfl w]
end
def Yields(K:Frag)(M:Ch->Prop)(H:Hp)(J:It)(f:v_ D):Prop:=∀(i:Nat) (c:Ch->Prop) (b:Hp),Pres M H c b->(∀a,c a->∃o,b a=P3 o)->
 (∀d,f[i]?=P3 d->J.go i b/\∀x e,J.yld i b x e->Grow b e/\At K c e d x)/\(f.length<=i->J.stop i b)
def U3(K:Frag)(U M:Ch->Prop)(H:Hp)(J:It)(f:v_ D):Prop:=∀(i:Nat) (c:Ch->Prop) (b:Hp),Pres M H c b->Ext U H b->(∀a,c a->∃o,b a=P3 o)->
 (∀d,f[i]?=P3 d->J.go i b/\∀x e,J.yld i b x e->Grow b e/\At K c e d x)/\(f.length<=i->J.stop i b)
def Yields.e{K:Frag}{U M:Ch->Prop}{H:Hp}{J:It}{a:v_ D}(h:Yields K M H J a):U3 K U M H J a:=λi b c p _ d=>h i b c p d
def dJ(X:Cx)(g a:jJ)(w:EW):Prop:=∃c,PI X g a c/\∀(C:Fm) (M:Ch->Prop) (H:Hp) (n:Nat) (d:v_ Slot) (Z:L2.St) (P:v_ D->Nat->Prop) (R:It->Hp->Prop),Rel X.K C M H n d Z->w n d P->
 (∀J b e f,Ext C.U H b->FeedC X.K C.F M b f->U3 X.K C.U M b J e->P e f->R J b)->c Z H R
def DI(X:Cx)(g a:jJ)(w:EW):Prop:=∃c,PI X g a c/\∀(C:Fm) (M:Ch->Prop) (H:Hp) (n:Nat) (d:v_ Slot) (Z:L2.St) (P:v_ D->Nat->Prop) (R:It->Hp->Prop),Rel X.K C M H n d Z->w n d P->
 (∀J b e f,Ext C.U H b->FeedC X.K C.F M b f->Yields X.K M b J e->P e f->R J b)->c Z H R
def signs(x:Str):v_ D:=x.cps.toList.map λc=>.str #[#[ c]]
def Av(w:DW):EW:=λn c P=>w n c λd a=>match d with
 |.lst b=>P b a
 |.tup b=>P b a
 |.str x=>P (signs x) a
 |_=>False
def P5{K:Frag}{M:Ch->Prop}{H:Hp}{a:Ch}{b:v_ V}{f:v_ D}(h:NdL M H a b)(g:Ats K M H f b):Yields K M H (h_ K a) f:=by
 intro i o j p _;have c:SqL K j a b:=(h.pres p).sq;refine#[λd k=>?_,λl=>#[b,c,by rw[g.length]; exact l]];let#[v,e,m]:=(g.pres p).get k;refine#[#[b,v,c,e],λx q y=>?_];let#[n,y]:=y;subst n
 have:=e.symm.trans^y b c
 cases this;exact#[.refl,m]
def Ku{K:Frag}{M:Ch->Prop}{H:Hp}{a:Ch}{b:v_ V}{f:v_ D}(h:NdT M H a b)(g:Ats K M H f b):Yields K M H (dH K a) f:=by
 intro i o j p _;have c:SqT K j a b:=(h.pres p).sq;refine#[λd k=>?_,λl=>#[b,c,by rw[g.length]; exact l]];let#[v,e,m]:=(g.pres p).get k;refine#[#[b,v,c,e],λx q y=>?_];let#[n,y]:=y;subst n
 have:=e.symm.trans^y b c
 cases this;exact#[.refl,m]
def yields_str{K:Frag}{M:Ch->Prop}{H:Hp}{z:Str}:Yields K M H (h9 z)^signs z:=by
 intro i h j p _;refine#[λd a=>?_,λe=>?_]
 .unfold signs at a
  rw[ir]at a
  have f:i<z.cps.size:=by
   cases q:z.cps.toList[i]? with
   |none=>simp_all
   |some c=>simpa using (Uf.mp q).1
  refine#[f,λx k y=>?_];let#[g,c,l,rfl]:=y;subst g
  have:z.cps.toList[i]?=P3 c:=by grind
  rw[this]at a;have b:D.str #[#[ c]]=d:=iw a;subst b;exact#[.refl,rfl,by rw[jX]; show 1<=16777216; decide]
 .show z.cps.size<=i
  unfold signs at e
  simp_all
def DH(a:Int)(n:Nat):v_ D:=(jL n).map fun(i:Nat)=>.int (a+(i:Int))
def OQ{K:Frag}{M:Ch->Prop}{H:Hp}{e:Int}{m:Nat}:Yields K M H (gJ e m)^DH e m:=by
 intro i k l p _;refine#[λd a=>?_,λg=>?_]
 .unfold DH at a
  rw[ir]at a
  have f:=by
   cases q:(jL m)[i]? with
   |none=>simp_all
   |some c=>simpa using (Uf.mp q).1
  rw[List.getElem?_range f]at a;have b:=iw a;subst b;refine#[f,λx n y=>?_];let#[h,j]:=y;subst h;exact#[.refl,j]
 .show m<=i
  unfold DH at g
  simp_all
section
variable {X:Cx}{tg e e2:Expr}{κ:Kd}{wa:DW}{ws:EW}{p pos:Pos}
def CT(h:DE X e κ wa)(o:κ≠.tp:=by intro z; cases z):DI X tg e^Av wa:=by
 let#[t,r,s]:=h;refine#[_,Se r,λC M H n u Z P y R w q=>?_];refine s C M H n u Z _ _ R w λv c d f g i x p=>?_;have j:=x.shOf R.dom o;cases d with
 |lst k=>
  let#[a,l,e,b,m]:=j;exact .inl #[a,e,#[l,b.sq],q _ c k f g i (P5 b m) p]
 |tup k=>
  let#[a,l,e,b,m]:=j;exact .inr^.inl #[a,e,#[l,b.sq],q _ c k f g i (Ku b m) p]
 |str z=>exact .inr^.inr #[z,j.1,q _ c _ f g i yields_str p]
 |_=>exact p.elim
def FZ(ws:EW):EW:=λn a P=>ws n a λb c=>∃j:Int,b=[.int j]/\(-(2 ^ 62)<=j/\j<2 ^ 62)/\P (DH 0 j.toNat) c
def Ci(b:Gl X "range")(c:X.mg "range"=s_)(d:aF X [e] ws)(f:starEach [e] X.env=[(u_,eval e X.env)]:=by rfl):DI X tg (.Call (.Name "range" p) [e] [] pos)^FZ ws:=by
 let#[t,g,h]:=d;refine#[_,VP b c g f,λC M H n i Z P v R w q=>?_];refine h C M H n i Z _ _ R w λx k y l m o s p=>?_;let#[j,rfl,a,p]:=p;cases s with
 |cons r u=>
  cases u;exact#[j,by rw[r],a.1,a.2,q _ k _ l m o OQ p]
def DI.c(h:DI X tg e ws):dJ X tg e ws:=by
 let#[a,b,d]:=h;exact#[a,b,λC M H n f Z P g R w q=>d C M H n f Z P g R w λJ i j k l m y p=>q J i j k l m y.e p]
def BI(h:DE X e κ wa):dJ X tg e^Av wa:=by
 let#[t,B,D]:=h;refine#[_,Se B,λC M H n E Z P N R w q=>?_];refine D C M H n E Z _ _ R w λv g d k l m F p=>?_;have f:AtT X.K C.V M g d v:=F.tpOf R.dom R.vM;cases d with
 | lst r=>
  let#[a,b,e,u,c,j]:=f;refine .inl #[a,e,#[b,.inl c],q _ g r k l m (λi O G I ex _=>?_) p]
  have s:SqL X.K G a b:=by
   rcases c with c|⟨o,c⟩
   .exact .inl^.inl^ex.keep c λz=>u^R.uV a z
   .exact .inl^.inr #[o,ex.keep c λz=>u^R.uV a z]
  refine#[λd J=>?_,λL=>#[b,s,by rw[j.length]; exact L]];let#[v,e,f]:=(j.pres I).get J;refine#[#[b,v,s,e],λx Q y=>?_];let#[e2,y]:=y;subst e2
  have:P3 v=P3 x:=e.symm.trans^y b s
  cases this;exact#[.refl,f]
 |tup r=>
  let#[a,b,e,A,j]:=f;exact .inr^.inl #[a,e,#[b,A.sq],q _ g r k l m (Ku A j).e p]
 |str z=>exact .inr^.inr #[z,f.1,q _ g _ k l m yields_str.e p]
 |_=>exact p.elim
end
abbrev BW:=D->v_ Slot->(v_ Slot->Prop)->Prop
def DG(X:Cx)(f:jJ)(b:BW):Prop:=∃g,PG X f g/\∀(C:Fm) (M:Ch->Prop) (H:Hp) (n:Nat) (a:v_ Slot) (Z:L2.St) (d:D) (v:V) (P:v_ Slot->Prop) (Q:L2.St->Hp->Prop),Rel X.K C M H n a Z->At X.K M H d v->b d a P->
 (∀c e,Rel X.K C M H n c e->P c->Q e H)->g v Z H Q
def AT(i:Nat):BW:=λd a P=>P^a.set i^.sh d
def AU{X:Cx}{i:Nat}{x:Str}{pos:Pos}(a:X.N.Nodup)(b:X.N[i]?=P3 x)(c:Loc X.env.scope x)(e:X.fn x=t_\/X.env.scope.names.lookup x=P3 .local:=by first|exact .inl rfl|exact .inr rfl|assumption):DG X (.Name x pos)^AT i:=
 #[_,GP a b c e,λC M H n f Z d v P Q R h w q=>q _ _ (R.set h) w]
def BF(b:BW)(a:Ad)(c:E2):v_ D->Nat->v_ Slot->Prop
 |[],n,e=>c.nx n e
 |d::f,n,e=>b d e λg=>a {c with nx:=BF b a c f,ct:=BF b a c f,bk:=c.nx} n g
def CZ(c:EW)(b:BW)(a:Ad):Ad:=λe n d=>c n d λf g=>BF b a e f g d
def Rel.unpin{K:Frag}{C:Fm}{p:(Ch->Prop)×Hp}{M:Ch->Prop}{H:Hp}{n:Nat}{a:v_ Slot}{Z:L2.St}(R:Rel K {C with zH:=p::C.zH} M H n a Z):Rel K C M H n a Z:=
 #[R.len,R.sub,R.dom,R.ext,R.fU,R.uV,R.vM,R.feed,R.sl,λq b=>R.pin q^TW _ b,R.br0,R.new,R.two,R.kept]
def Rel.pinned{K:Frag}{C:Fm}{M:Ch->Prop}{H:Hp}{n:Nat}{a:v_ Slot}{Z:L2.St}(R:Rel K C M H n a Z):Rel K {C with zH:=(M,H)::C.zH} M H n a Z:=
 #[R.len,R.sub,R.dom,R.ext,R.fU,R.uV,R.vM,R.feed,R.sl,λq b=>(UF.mp b).elim (λe=>e▸Pres.refl M H)^R.pin q,R.br0,R.new,R.two,R.kept]
section
variable {X:Cx}{κ:Kd}{tg iter:Expr}{body:v_ Stmt}{src:EW}{b:BW}{wb:Ad}{pos:Pos}
def Bb(T:pE (model X.prog X.w) X.A X.env X.xe)(U:X.calm=t_)(N:DI X tg iter src)(V:DG X tg b)(W:Rt X κ body wb)
  (Y:∀x,foldedSetIterable iter X.env x=pure x:=by intro _; rfl):DS X κ (.For tg iter body [] pos)^CZ src b wb:=by
 let#[wi,a1,a2]:=N;let#[g,g1,g2]:=V;let#[tb,b1,b2]:=W;refine#[_,Oq T U a1 g1 b1 Y,λC M H n O Z h E R L w=>?_];refine a2 C M H n O Z _ _ R w λJ v a n1 e1 f1 y w1=>?_;have R1:=R.step e1 f1;exists λi m z j=>m=a.length - i/\i<=a.length/\∃c k p,Rel X.K {C with zH:=(M,v)::C.zH} c j k p z/\BF b wb h (a.drop i) k p,#[a.length,by simp,i6 _,M,n1,O,R1.pinned,w1];rintro i m z j ⟨rfl,N,c,k,p,l,B⟩;have P:Pres M v c j:=l.pin (M,v) Op
 by_cases d:i<a.length
 .have ed:a.drop i=a[i]::a.drop (i+1):=kM d
  rw[ed]at B;let#[go,yl]:=(y i c j P l.dom).1 a[i] (No d);refine .inr #[go,λQ o=>∃M2 D F,Rel X.K {C with zH:=(M,v)::C.zH} M2 o D F Q/\BF b wb h (a.drop (i+1)) D F,λQ o #[M2,D,F,f,w2]=>#[a.length - (i+1),by lk,rfl,d,M2,D,F,f,w2],λx o hy=>?_];let#[S,hx]:=yl x o hy;have f:=l.step S.ext^l.feed.grow S;refine g2 _ c o k p z a[i] x _ _ f hx B λzP zV R3 w3=>?_;refine b2 _ c o k zP zV {h with nx:=BF b wb h^a.drop (i+1),ct:=BF b wb h^a.drop (i+1),bk:=h.nx} _ R3 #[λq G r s I t u=>#[q,r,s,t,u],L.rt,λq G r s I t u=>L.nx q G r s I t.unpin u,λq G r s I t u=>#[q,r,s,t,u]] w3
 .have e:i=a.length:=by lk
  subst e;rw[lh]at B;exact .inl #[(y _ c j P l.dom).2 (Rs _),L.nx c j k p z l.unpin B]
end
def EG(b:BW)(f:Ij)(g:DW)(P:v_ D->Nat->Prop):v_ D->v_ D->Nat->v_ Slot->Prop
 |[],a,n,_=>P a n
 |d::h,a,n,j=>b d j λe=>f n e λc i=>if c=t_ then g i e λy k=>EG b f g P h (a++[y]) k e else EG b f g P h a i e
def Xq:Slot->Slot
 |.ow d=>.br d
 |.lt _ d=>.br d
 |s=>s
def Vn(s:Slot):(Xq s).owns=u_:=by cases s <;>rfl
def FA{a:v_^w_ Nat}{b:v_ Slot}{i:Nat}{s:Slot}(h:(a.map λo=>match o with|some i=>Xq^(b[i]?).getD .no|none=>Slot.no)[i]?=P3 s):s.owns=u_:=by
 rw[ir]at h;cases q:a[i]? with
 |none=>grind
 | some o=>
  rw[q]at h;cases o with
  |none=>
   rw[←iw h]; rfl
  |some j=>
   rw[←iw h]; exact Vn _
def Hz(a:v_^w_ Nat)(b:v_ Slot):v_ Slot:=a.map λo=>match o with
 |some i=>Xq^(b[i]?).getD .no
 |none=>.no
def BU(f:v_^w_ Nat)(a:EW)(b:BW)(g:Ij)(h:DW):DW:=λn d P=>a n d λe i=>e.length<=10000000/\EG b g h (λc j=>P (.lst c) j) e [] i^Hz f d
def dU(X:Cx)(a:v_ jJ)(w:Ij):Prop:=∃t,fo X a t/\∀(C:Fm) (M:Ch->Prop) (H:Hp) (n:Nat) (d:v_ Slot) (Z:L2.St) (P:Bool->Nat->Prop) (Q:Bool->Hp->Prop),Rel X.K C M H n d Z->w n d P->
 (∀b c e,Ext C.U H c->FeedC X.K C.F M c e->P b e->Q b c)->t Z H Q
def CY:Ij:=λn _ P=>P t_ n
def BV{X:Cx}:dU X [] CY:=#[_,UJ,λC M H n a Z P Q R w q=>q _ H n (Ext.refl _ _) R.feed w]
def DC{X:Cx}{c:jJ}{w:Ij}(h:DT X c w):dU X [c] w:=by
 let#[t,a,b]:=h;exact#[t,ZP a,b]
def Np{c:v_^w_ Nat}{d:v_ Slot}{Z:L2.St}{i:Nat}{s:Slot}(a:(Hz c d)[i]?=P3 s):s=.no\/∃(j:Nat) (b:Slot),d[j]?=P3 b/\s=Xq b/\((Cc c Z)[i]?).getD s_=(Z[j]?).getD s_:=by
 unfold Hz at a;unfold Cc;rw[ir]at a ⊢;cases q:c[i]? with
 |none=>simp_all
 | some o=>
  rw[q]at a;cases o with
  |none=>simp_all
  | some j=>
   have e:Xq _=s:=iw a;cases f:d[j]? with
   |none=>rw[f]at e; exact .inl e.symm
   |some b=>
    rw[f]at e;exact .inr #[j,b,f,e.symm,rfl]
def Q4{K:Frag}{F:w_ (Ch×Ch)}{U m M g:Ch->Prop}{H h:Hp}{n:v_^w_ Nat}{o:v_ Slot}{Z:L2.St}(k:∀(i:Nat) (s:Slot),o[i]?=P3 s->SlotOk K F U M H s^(Z[i]?).getD s_)
  (p:Pres M H g h) (br:∀d v,AtT K U M H d v->AtT K m g h d v):∀(i:Nat) (s:Slot),(Hz n o)[i]?=P3 s->SlotOk K F m g h s^((Cc n Z)[i]?).getD s_:=by
 intro i s u
 rcases Np u with rfl|⟨j,r,q,rfl,e⟩
 .trivial
 .rw[e]
  have c:=k j r q;cases r with
  |no=>trivial
  |sh d=>let#[v,b,f]:=c; exact#[v,b,f.pres p]
  |ex a w x y=>let#[b,f]:=c; exact#[b,f.pres p]
  |br d=>let#[v,b,f]:=c; exact#[v,b,br d v f]
  |fd=>exact c
  |ow d=>let#[a,b,_,l,t]:=c; exact#[_,b,br d _^t.att l]
  |lt a d=>let#[b,_,l,t]:=c; exact#[_,b,br d _^t.att l]
def UU{K:Frag}{F:w_ (Ch×Ch)}{U M:Ch->Prop}{H:Hp}{k:v_^w_ Nat}{l:v_ Slot}{Z:L2.St}(g:∀(i:Nat) (s:Slot),l[i]?=P3 s->SlotOk K F U M H s^(Z[i]?).getD s_){i:Nat}{d:D}{a:Ch}
  (p:(Hz k l)[i]?=P3^.br d) (m:((Cc k Z)[i]?).getD s_=P3^.ref a):∃o,H a=P3 o:=by
 rcases Np p with z|⟨j,n,q,z,e⟩
 .cases z
 .rw[e]at m
  have f:=g j n q;rw[m]at f;cases n with
  |br d=>let#[v,c,r]:=f; cases c; exact r.lies
  |ow d=>let#[b,c,_,h,t]:=f; cases c; exact(t.att h).lies
  |lt b d=>let#[c,_,h,t]:=f; cases c; exact(t.att h).lies
  |no=>cases z
  |sh d=>cases z
  |ex a u w x=>cases z
  |fd=>cases z
section
variable {X:Cx}{zR:Kd}{tg elt iter:Expr}{ifs:v_ Expr}{sc:Scope}{pos:Pos}{src:EW}{b:BW}{tt:Ij}{te:DW}
def PN(hc:X.calm=t_)(N':v_ Str)(js:v_^w_ Nat)(hi:dJ X tg iter src)(hg:∀I C s H L,DG (A_ X sc N' I C s H L) tg b)(ht:∀I C s H L,dU (A_ X sc N' I C s H L) ifs tt)(he:∀I C s H L,DE (A_ X sc N' I C s H L) elt zR te)
  (hB:IJ sc X.env.scope X.N N' js=t_) (hk:zR≠.tp:=by intro z; cases z)
  (hs:∀x,foldedSetIterable iter X.env x=pure x:=by intro _; rfl):DE X (.ListComp elt [#[tg,iter,ifs,0]] sc pos) .fr^BU js src b tt te:=by
 let#[wi,a1,a2]:=hi;refine#[_,UL hc N' js a1 hB hs,λC M H n ρ Z P Q R w q=>?_];refine a2 C M H n ρ Z _ _ R w λJ O r n1 u f1 y w1=>?_;let#[b2,w1]:=w1;have R1:=R.step u f1;intro l hl b4 I Ca s0 H0 L;let#[g,g1,g2]:=hg I Ca s0 H0 L;let#[tc,c1,c2]:=ht I Ca s0 H0 L;let#[tx,x1,x2]:=he I Ca s0 H0 L
 have a3:¬C.U l:=λz=>by
  let#[o,z]:=R1.udom l z;rw[hl]at z; cases z
 generalize S:(λb=>M b\/b=l)=M';have a4:M' l:=by rw[←S]; exact .inr rfl
 have M'of:∀b,M b->M' b:=λb z=>by rw[←S]; exact .inl z
 have a0:∀b,M' b->M b\/b=l:=λb z=>by rw[←S]at z; exact z
 have a9:∀b,C.V b\/b=l->M' b:=λb z=>z.elim (λz=>M'of b^R1.vM b z) λz=>by rw[z]; exact a4
 have b3:js.length=N'.length:=F4 (CompOk.of hB).cap
 exists g,tc,tx,λi m zZ D=>m=r.length - i/\i<=r.length/\∃n' zY k E,Rel X.K #[M',C.F,C.U,λb=>C.V b\/b=l,O,[],[]] M' D n' zY zZ/\D l=P3^.lst E/\Ats X.K M' D k E/\k.length<=i/\Pres M O M' D /\
   EG b tt te (λk n2=>P (.lst k) n2) (r.drop i) k n' zY,g1,c1,x1,#[r.length,by simp,i6 _,n1,Hz js ρ,[],[],?_]
 .have G:Grow O^BQ O l^.lst []:=BE hl
  have T:Pres M O M'^BQ O l^.lst []:=#[λb o e _=>G.all b o e,λb z=>(a0 b z).elim .inl λz=>.inr (by rw[z]; exact hl),λb E e=>G.all b _ e];refine#[#[?_,λa z=>z,λa z=>?_,G.ext,R1.fU,λa z=>.inl^R1.uV a z,a9,f1.pres T λf o _ e=>G.all f.1 o e,?_,λp hp=>absurd hp^by simp,λi d a q z=>UU R1.sl q z,λi s a q o _=>absurd o (by rw[FA q]; decide),λi j s t a q o _ _ _ _=>absurd o (by rw[FA q]; decide),λp hp=>absurd hp^by simp],An,rfl,i6 _,T,w1]
  .unfold Hz Cc
   rw[FM,FM]
  .rcases a0 a z with z|z
   .let#[o,z]:=R1.dom a z
    exact#[o,G.all a o z]
   .subst z
    exact#[_,An]
  .refine Q4 R1.sl T λd v h=>h.same T (λa o _ e=>G.all a o e) λa e n1 z=>z.elim n1 λz=>?_
   subst e;let#[o,w]:=h.lies;rw[z,hl]at w;cases w
 .rintro i m zZ D ⟨rfl,hi,n',zY,k,E,R',a6,W,a7,T,w'⟩
  by_cases Y:i<r.length
  .have ed:r.drop i=r[i]::r.drop (i+1):=kM Y
   rw[ed]at w';let#[go,yl]:=(y i M' D T R'.ext R'.dom).1 r[i] (No Y);refine .inr #[go,λx H2 hy=>?_];let#[G,hx]:=yl x H2 hy;have b0:=R'.step G.ext^R'.feed.grow G;refine g2 _ M' H2 n' zY zZ r[i] x _ _ b0 hx w' λzP zV R3 w3=>?_;refine c2 _ M' H2 n' zP zV _ _ R3 w3 λc H4 n4 e4 f4 w4=>?_;have R4:=R3.step e4 f4;have p4:Pres M' D M' H4:=G.pres.trans^R3.pres e4;have l4:H4 l=P3^.lst E:=e4.keep (G.all _ _ a6) a3;cases c with
   |false=>exact#[r.length - (i+1),by lk,rfl,Y,n4,zP,k,E,R4,l4,W.pres p4,by lk,T.trans p4,w4]
   | true=>
    refine x2 _ M' H4 n4 zP zV _ _ R4 w4 λyv H5 d5 n5 e5 f5 r5 w5=>?_;have A:=R4.step e5 f5;have p5:Pres M' H4 M' H5:=R4.pres e5;have l5:H5 l=P3^.lst E:=e5.keep l4 a3;have b1:=r5.shOf R4.dom hk;have a5:=(W.pres p4).pres p5;have pu:Pres M' H5 M'^BQ H5 l^.lst (E++[yv]):=Cr a4 l5;have b5:E.length=k.length:=W.length;refine#[E,l5,by rw[jX]; omega,r.length - (i+1),by lk,rfl,Y,n5,zP,k++[d5],E++[yv],?_,An,(a5.append^Ats.one b1).pres pu,by rw[eq,jI]; omega,(T.trans p4).trans^p5.trans pu,w5];refine#[A.len,A.sub,λa z=>?_,λb o e=>?_,A.fU,A.uV,A.vM,?_,λj s hs=>?_,λp hp=>absurd hp^by simp,A.br0,A.new,A.two,λp hp=>absurd hp^by simp]
    .by_cases ha:a=l
     .subst ha; exact#[_,An]
     .rw[Ah ha]; exact A.dom a z
    .let#[o',q1,q2]:=A.ext b o e
     by_cases hb:b=l
     .subst hb
      have e':O b=P3 o:=e;rw[hl]at e'; cases e'
     .exact#[o',by rw[Ah hb]; exact q1,q2]
    .refine f5.pres pu λf o hf e=>?_
     rw[Ah λz=>a3^by rw[←z]; exact R1.fU f hf];exact e
    .have B:=A.sl j s hs
     cases s with
     |no=>trivial
     |sh d=>let#[v,u,h2]:=B; exact#[v,u,h2.pres pu]
     |ex a nm ks r=>let#[u,h2]:=B; exact#[u,h2.pres pu]
     | br d=>
      let#[v,u,h2]:=B;refine#[v,u,h2.same pu (λa o z e=>?_) λ_ _ z=>z];subst z;let#[o3,w]:=A.br0 j d a hs u
      have a7:a≠l:=λz=>by
       have w':O a=P3 o3:=w;rw[z,hl]at w'; cases w'
      rw[Ah a7]; exact e
     |ow d=>
      let#[a,u,h2,_]:=B;exact absurd h2 (A.new j _ a hs rfl u).1
     |lt a d=>
      let#[u,h2,_]:=B;exact absurd h2 (A.new j _ a hs rfl u).1
     |fd=>exact B
  .have e:i=r.length:=by lk
   subst e;rw[lh]at w';refine .inl #[(y _ M' D T R'.ext R'.dom).2 (Rs _),?_];have eb:Ext C.U O D:=R'.ext;have a8:Pres M' D M D:=Pres.less M'of;refine q _ D (.lst k) n' (u.trans eb) (R'.feed.pres a8 λ_ _ _ z=>z) (VR.back u ?_) w';exact#[l,rfl,hl,E,a6,by rw[S]; exact W]
end
def VF{K:Frag}{F:w_ (Ch×Ch)}{U k M:Ch->Prop}{H:Hp}{n:Nat}{c:v_ Slot}{f:v_ V}{N:v_ Str}(h:fk K F U k M H n c f)(I:f.length<=N.length):
  Rel K #[M,F,U,k,H,[],[]] M H n (c++Tk (N.length - c.length) .no) (L2.start N f):=by
 let#[u,A,B,C,fd,q]:=h;have D:f.length=c.length:=Paired.length q
 have E:∀{f:v_ V}{c:v_ Slot}{i:Nat}{s:Slot},Paired (OP K F k M H) f c->c[i]?=P3 s->∃v,f[i]?=P3 v/\OP K F k M H v s:=by
  intro f c i s q
  induction q generalizing i with
  |nil=>intro e; simp at e
  | cons r t G=>
   intro e;cases i with
   |zero=>simp at e; subst e; exact#[_,rfl,r]
   |succ i=>
    let#[v,l,m]:=G (i:=i) (by simpa using e);exact#[v,by simpa using l,m]
 have g:∀(i:Nat) (s:Slot),(c++Tk (N.length - c.length) Slot.no)[i]?=P3 s->s=.no\/∃v,((L2.start N f)[i]?).getD s_=P3 v/\OP K F k M H v s:=by
  intro i s b
  by_cases x:i<c.length
  .rw[kL x]at b
   let#[v,l,m]:=E q b;refine .inr #[v,?_,m];unfold L2.start;rw[kL (by rw[FM,D]; exact x),ir,l];rfl
  .rw[ju^by lk,m6]at b
   split at b
   .exact .inl (iw b).symm
   .cases b
 refine#[?_,λa z=>z,u,Ext.refl _ _,A,B,C,fd,λi s b=>?_,λp w=>absurd w^by simp,λi d a b y=>?_,λi s a b o _=>?_,λi j s t a b o _ _ _ _=>?_,λp w=>absurd w^by simp]
 .unfold L2.start
  simp only[eq,FM,pQ];lk
 .rcases g i s b with rfl|⟨v,e,h⟩
  .trivial
  .rw[e]; exact h.1
 .rcases g i _ b with z|⟨v,e,h⟩
  .cases z
  .rw[e]at y
   cases y;let#[v,l,m]:=h.1;cases l;exact m.lies
 .rcases g i s b with rfl|⟨v,e,h⟩
  .cases o
  .rw[h.2]at o; cases o
 .rcases g i s b with rfl|⟨v,e,h⟩
  .cases o
  .rw[h.2]at o; cases o
def gv{P:jK}{w:jQ}{K:Frag}{u:Str->w_ Ev}{e:i8}{x b:Str}{st:jH}{f:Ch}{fd:jt}{N g:v_ Str}{k:Nat}{l:Kd}{W:W2}{y:Ad}(F:Fun K x b st f fd)(S:Ae N g^AR st)(D:g.length<=N.length)
  (G:∀(c:Ev) (A:jd) (a:v_ Env) (s:On) (H:Hp) (E:XK),Room k^A.deeper^envOfC b (AR st) s.heap.objs.size f c->Rt (MF J6 P w K u e N b (AR st) f c A a s H E).nox l (CP st) y)
  (hW:∀j n i,j.length=g.length->W j n i->y {nx:=λn _=>l=.sh/\i .non n,rt:=i} n (j++Tk (N.length - g.length) .no)):
  D6 P w K u e J6 (k+1) f fd g (ZF K l W g.length):=by
 refine F.ok S (λB H Q E h=>h.1) λc A a s H B Q E I h=>?_;let#[hl,J,U,L,M,n,j,i,C,hw,q]:=h;let#[t,O,T]:=G c A a s H E I;exists t,O;have el:B.length=j.length:=Paired.length C.2.2.2.2.2;have R:=VF (N:=N) C (by lk);refine T #[M,J,U,L,H,[],[]] M H n _ _ {nx:=λn _=>l=.sh/\i .non n,rt:=i} _ R #[λM1 m o zT zK r p=>?_,λv m d o V X Y p=>q v m d o V X Y p,λ_ _ _ _ _ _ z=>z.elim,λ_ _ _ _ _ _ z=>z.elim] ?_
 .let#[Z,p]:=p
  subst Z;exact q .non m .non o r.ext (r.feed.pres (Pres.less r.sub) λ_ _ _ z=>z) rfl p
 grind
end Dp
namespace L2
section
variable {X:Cx}
def Inv.rdl{c:v_ (Ch×Obj)}{Z:L2.St}{H:Hp}{s:On}{l:Ch}{b:v_ V}(I:Inv X c Z H s)(h:Rd H l^.lst b):b.length<=sizeLine/\∃(a:v_ Ev) (n:Nat),Vals b a/\b.length=a.length/\s.heap.get? l=P3 {cls:=.type "list",data:=.seq a.toArray n}:=by
 let#[z,a,n,r,e]:=h.ok I.hok;exact#[z,_,n,r,r.length,e]
def UO:OpR X (binaryOp .Add) (λx y H Q=>∃l b d f,x=.ref l/\y=.ref b/\Rd H l^.lst d/\Rd H b^.lst f/\d.length+f.length<=sizeLine/\∀p,H p=s_->Q (.ref p)^BQ H p^.lst (d++f)):=by
 intro A s Z H x y v u Q I g i h;let#[l,b,d,f,rfl,rfl,j,k,B,q]:=h;cases g;cases i;let#[z,c,n,r,C,e]:=I.rdl j;let#[D,a,E,m,o,t]:=I.rdl k;refine PySem.P.add_list e t ?_ (by grind);have w:c.toArray++a.toArray=(c++a).toArray:=by simp
 rw[w];exact#[.ref _,_,I.lnew (r.append m)^by grind,rfl,q _ I.fresh]
end
end L2
namespace Dp
open L2
section
variable {K:Frag}
def AtT.int{U M:Ch->Prop}{H:Hp}{i:Int}{v:V}(h:AtT K U M H (.int i) v):v=.int i:=h
def AtT.bl{U M:Ch->Prop}{H:Hp}{i:Bool}{v:V}(h:AtT K U M H (.bl i) v):v=.bl i:=h
def AtT.str{U M:Ch->Prop}{H:Hp}{x:Str}{v:V}(h:AtT K U M H (.str x) v):v=.str x/\x.length<=sizeLine:=h
def AtT.tup{U M:Ch->Prop}{H:Hp}{b:v_ D}{v:V}(h:AtT K U M H (.tup b) v):∃a c,v=.ref a/\NdT M H a c/\Ats K M H b c:=h
def gF(g:Int->Int->(D->Prop)->Prop)(d e:D)(P:D->Prop):Prop:=match d,e with
 |.int i,.int j=>g i j P
 |_,_=>False
def PD{g:Int->Int->(D->Prop)->Prop}{d e:D}{P:D->Prop}(w:gF g d e P):∃i j,d=.int i/\e=.int j/\g i j P:=by
 unfold gF at w
 split at w
 .grind
 grind
def f2(g:Int->Int->D):D->D->(D->Prop)->Prop:=gF λi j P=>P^g i j
def YF(C:Int->Int->Prop)(g:Int->Int->D):D->D->(D->Prop)->Prop:=gF λi j P=>C i j/\P^g i j
def Ys{g:Int->Int->Int}:GI K .sh (Jm λi j=>.int^g i j) (f2 λi j=>.int^g i j):=by
 intro U M H d e x y P Q a f b c w q;let#[i,j,rfl,rfl,w]:=PD w;exact#[i,j,b,c,q _ H (.int _) .refl rfl w]
def Pb{g:Int->Int->Bool}:GI K .sh (Jm λi j=>.bl^g i j) (f2 λi j=>.bl^g i j):=by
 intro U M H d e x y P Q a f b c w q;let#[i,j,rfl,rfl,w]:=PD w;exact#[i,j,b,c,q _ H (.bl _) .refl rfl w]
def EU{C:Int->Int->Prop}{g:Int->Int->Int}:GI K .sh (rI C λi j=>.int^g i j) (YF C λi j=>.int^g i j):=by
 intro U M H d e x y P Q a f b c w q;let#[i,j,rfl,rfl,w]:=PD w;exact#[i,j,b,c,w.1,q _ H (.int _) .refl rfl w.2]
def gD(g:Str->Str->(D->Prop)->Prop)(d e:D)(P:D->Prop):Prop:=match d,e with
 |.str i,.str j=>g i j P
 |_,_=>False
def Uk{g:Str->Str->(D->Prop)->Prop}{d e:D}{P:D->Prop}(w:gD g d e P):∃i j,d=.str i/\e=.str j/\g i j P:=by
 unfold gD at w
 split at w
 .grind
 grind
def Yp{g:Str->Str->Bool}:GI K .sh (λx y H Q=>∃i j,x=.str i/\y=.str j/\Q (.bl^g i j) H) (gD λi j P=>P^.bl^g i j):=by
 intro U M H d e x y P Q a f b c w q;let#[i,j,rfl,rfl,w]:=Uk w;exact#[i,j,b.1,c.1,q _ H (.bl _) .refl rfl w]
def WF:GI K .sh (λx y H Q=>∃i j,x=.str i/\y=.str j/\i.length+j.length<=sizeLine/\Q (.str (i++j)) H) (gD λi j P=>i.length+j.length<=sizeLine/\P^.str (i++j)):=by
 intro U M H d e x y P Q a f b c w q;let#[i,j,rfl,rfl,w]:=Uk w;exact#[i,j,b.1,c.1,w.1,q _ H (.str _) .refl #[rfl,by rw[Str.length_append i j]; exact w.1] w.2]
def gx(g:v_ D->v_ D->(D->Prop)->Prop)(d e:D)(P:D->Prop):Prop:=match d,e with
 |.tup i,.tup j=>g i j P
 |_,_=>False
def gE(g:v_ D->v_ D->(D->Prop)->Prop)(d e:D)(P:D->Prop):Prop:=match d,e with
 |.lst i,.lst j=>g i j P
 |_,_=>False
def Zq{g:v_ D->v_ D->(D->Prop)->Prop}{d e:D}{P:D->Prop}(w:gx g d e P):∃i j,d=.tup i/\e=.tup j/\g i j P:=by
 unfold gx at w
 split at w
 .grind
 grind
def Zr{g:v_ D->v_ D->(D->Prop)->Prop}{d e:D}{P:D->Prop}(w:gE g d e P):∃i j,d=.lst i/\e=.lst j/\g i j P:=by
 unfold gE at w
 split at w
 .grind
 grind
def Do{M:Ch->Prop}{H:Hp}{p:Ch}{b:v_ V}{c:v_ D}(d:∀a,M a->∃o,H a=P3 o)(e:H p=s_)(h:Ats K M H c b):At K M (BQ H p^.tup b) (.tup c)^.ref p:=#[p,b,rfl,An,h.pres (BE e).pres]
def Dq{U M:Ch->Prop}{H:Hp}{p:Ch}{a:v_ V}{b:v_ D}(c:H p=s_)(h:Ats K M H b a):VR K U M H (BQ H p^.lst a) .fr (.ref p)^.lst b:=
 #[p,rfl,c,a,An,h.pres^HC c]
def WE:GI K .sh (XG K) (gx λi j P=>i≠[]/\i.length+j.length<=sizeLine/\P^.tup (i++j)):=by
 intro U M H d e x y P Q c u o r w q;let#[i,j,rfl,rfl,w]:=Zq w;let#[a,g,rfl,h,f]:=o.tup;let#[b,s,rfl,t,k]:=r.tup;have l:=f.length;have m:=k.length;refine#[a,b,g,s,rfl,rfl,h.sq,t.sq,λz=>w.1 ?_,by simp_all,λz=>?_,λz p n=>?_]
 .rw[z]at l; exact kj.mp l.symm
 .rw[z]at m
  have:j=[]:=kj.mp m.symm
  subst this;exact q _ H (.tup i) .refl #[a,g,rfl,h,f]^by grind
 .exact q _ _ (.tup (i++j)) (BE n) (Do c n^f.append k) w.2.2
def OJ:GI K .fr (λx y H Q=>∃l b c f,x=.ref l/\y=.ref b/\Rd H l^.lst c/\Rd H b^.lst f/\c.length+f.length<=sizeLine/\∀p,H p=s_->Q (.ref p)^BQ H p^.lst (c++f)) (gE λi j P=>i.length+j.length<=sizeLine/\P^.lst (i++j)):=by
 intro U M H d e x y P Q m v n o w q;let#[i,j,rfl,rfl,w]:=Zr w;let#[a,r,rfl,_,s,g]:=n;let#[b,t,rfl,_,u,h]:=o;exact#[a,b,r,t,rfl,rfl,s,u,by rw[g.length,h.length]; exact w.1,λp k=>q _ _ _ (BE k) (Dq k^g.append h) w.2]
def Ge(a:Bool)(d e:D)(P:D->Prop):Prop:=match d,e with
 |.bl i,.bl j=>P^.bl (if a then !(i==j)else i==j)
 |.int i,.int j=>P^.bl (if a then !(i==j)else i==j)
 |.str i,.str j=>P^.bl (if a then !(i==j)else i==j)
 |_,_=>False
def Um{a:Bool}{d e:D}{P:D->Prop}(w:Ge a d e P):(∃i j,d=.bl i/\e=.bl j/\P^.bl (if a then !(i==j)else i==j))\/(∃i j,d=.int i/\e=.int j/\P^.bl (if a then !(i==j)else i==j))\/∃i j,d=.str i/\e=.str j/\P^.bl (if a then !(i==j)else i==j):=by
 unfold Ge at w
 split at w
 .simp_all
 .simp_all
 .simp_all
 grind
def IZ:GI K .sh iH^Ge u_:=by
 intro U M H d e x y P Q c f a b w q
 rcases Um w with⟨i,j,rfl,rfl,w⟩|⟨i,j,rfl,rfl,w⟩|⟨i,j,rfl,rfl,w⟩
 .rw[a.bl,b.bl]; exact#[rfl,q _ H _ .refl (by rw[PM]; rfl) w]
 .rw[a.int,b.int]; exact#[rfl,q _ H _ .refl (by rw[Kq]; rfl) w]
 .rw[a.str.1,b.str.1]; exact#[rfl,q _ H _ .refl (by rw[Kp]; rfl) w]
def IY:GI K .sh iE^Ge t_:=by
 intro U M H d e x y P Q c f a b w q
 rcases Um w with⟨i,j,rfl,rfl,w⟩|⟨i,j,rfl,rfl,w⟩|⟨i,j,rfl,rfl,w⟩
 .rw[a.bl,b.bl]; exact#[rfl,q _ H _ .refl (by rw[PM]; rfl) w]
 .rw[a.int,b.int]; exact#[rfl,q _ H _ .refl (by rw[Kq]; rfl) w]
 .rw[a.str.1,b.str.1]; exact#[rfl,q _ H _ .refl (by rw[Kp]; rfl) w]
def Xz:D->Bool
 |.non=>t_
 |_=>u_
def Q9{U M:Ch->Prop}{H:Hp}{d:D}{x:V}(h:AtT K U M H d x):decide (x=.non)=Xz d:=by
 cases d with
 |non=>rw[h]; rfl
 |bl b=>rw[h.bl]; rfl
 |int i=>rw[h.int]; rfl
 |str z=>rw[h.str.1]; rfl
 |tup c=>let#[a,e,rfl,_]:=h.tup; rfl
 |lst c=>let#[a,e,rfl,_]:=h; rfl
 |dic f c=>let#[a,e,rfl,_]:=h; rfl
 |fdi f c=>let#[a,e,rfl,_]:=h; rfl
 |dit f c=>let#[a,e,rfl,_]:=h; rfl
def A5(d e:D)(P:D->Prop):Prop:=match d,e with
 |.lst a,.int i=>∃z,atI a i=P3 z/\P z
 |.tup a,.int i=>∃z,atI a i=P3 z/\P z
 |.str x,.int i=>∃c,atI x.cps.toList i=P3 c/\P^.str #[#[ c]]
 |_,_=>False
def Zs{d e:D}{P:D->Prop}(w:A5 d e P):(∃a i z,d=.lst a/\e=.int i/\atI a i=P3 z/\P z)\/(∃a i z,d=.tup a/\e=.int i/\atI a i=P3 z/\P z)\/∃x i c,d=.str x/\e=.int i/\atI x.cps.toList i=P3 c/\P^.str #[#[ c]]:=by
 unfold A5 at w
 split at w
 .simp_all
 .simp_all
 .simp_all
 grind
theorem Ats.atI{M:Ch->Prop}{H:Hp}{a:v_ D}{b:v_ V}{i:Int}{z:D}(h:Ats K M H a b)(e:atI a i=P3 z):∃v,L2.atI b i=P3 v/\At K M H z v:=by
 unfold L2.atI at e ⊢;rw[h.length];cases q:Xx _ i with
 |none=>grind
 |some j=>
  rw[q]at e;exact h.get e
def Am:GI K .sh (iF K) A5:=by
 intro U M H d e x y P Q n r f g w q
 rcases Zs w with⟨o,i,z,rfl,rfl,h,w⟩|⟨o,i,z,rfl,rfl,h,w⟩|⟨x,i,c,rfl,rfl,p,w⟩
 .let#[a,j,rfl,_,k,l]:=f
  let#[v,m,b]:=l.atI h;exact .inl #[a,j,i,v,rfl,g,.inl k,m,q v H z .refl b w]
 .let#[a,j,rfl,k,l]:=f.tup
  let#[v,m,b]:=l.atI h;exact .inr^.inl #[a,j,i,v,rfl,g,k.sq,m,q v H z .refl b w]
 .exact .inr^.inr #[x,i,c,f.str.1,g,f.str.2,p,q _ H (.str _) .refl #[rfl,by show 1<=16777216; decide] w]
def cutD{b:Type}(a:v_ b)(c d:w_ Int):v_ b:=(a.drop^HT.sIx a.length 0 c).take (HT.sIx a.length a.length d - HT.sIx a.length 0 c)
def Ei{R:V->D->Prop}{a:v_ V}{d:D}(h:Paired R a [d]):∃v,a=[v]/\R v d:=by
 cases h with
 |cons r t=>cases t; grind
def gi:D->w_ Nat
 |.str x=>P3 x.length
 |.tup a=>P3 a.length
 |.lst a=>P3 a.length
 |_=>s_
def CS(a:v_ D)(P:D->Prop):Prop:=∃d n,a=[d]/\gi d=P3 n/\P^.int (n:Int)
def B4:D1 K .sh (λe H Q=>∃x n,e=[x]/\dG K x H n/\Q (.int n) H) CS:=by
 intro U M H k l P Q i m j w q;let#[d,n,rfl,b,w]:=w;let#[v,rfl,c]:=Ei j;refine#[v,n,rfl,?_,q _ H (.int _) .refl rfl w];cases d with
 |str z=>cases b; rw[c.str.1]; exact#[c.str.2,rfl]
 |tup e=>
  cases b;let#[a,f,rfl,g,h]:=c.tup;exact .inr #[f,g.sq,h.length.symm]
 |lst e=>
  cases b;let#[a,f,rfl,_,g,h]:=c;exact .inl #[f,.inl g,h.length.symm]
 |_=>cases b
def allB:v_ D->w_^v_ Bool
 |[]=>P3 []
 |.bl b::r=>(allB r).map (b::·)
 |_::_=>s_
theorem U0{M:Ch->Prop}{H:Hp}:∀{d:v_ D}{a:v_ V}{c:v_ Bool},allB d=P3 c->Ats K M H d a->a=c.map V.bl
 |[],a,c,e,h=>by cases e; exact h
 |.bl b::r,a,c,e,h=>by
  let#[v,l,f,g,i]:=h;let#[j,k,rfl]:=jY.mp e;rw[f,U0 k i,g];rfl
 |.non::r,a,c,e,h=>by cases e
 |.int _::r,a,c,e,h=>by cases e
 |.str _::r,a,c,e,h=>by cases e
 |.tup _::r,a,c,e,h=>by cases e
 |.lst _::r,a,c,e,h=>by cases e
 |.dic _ _::r,a,c,e,h=>by cases e
 |.fdi _ _::r,a,c,e,h=>by cases e
 |.dit _ _::r,a,c,e,h=>by cases e
def HE(c:v_ D)(P:D->Prop):Prop:=∃a b,c=[.lst a]/\allB a=P3 b/\P^.bl^b.all id
def Ib:D1 K .sh (λc H Q=>∃(p:Ch) (b:v_ Bool),c=[.ref p]/\SqL K H p^b.map V.bl/\Q (.bl^b.all id) H) HE:=by
 intro U M H j k P Q d l f w q;let#[c,b,rfl,e,w]:=w;let#[v,rfl,g]:=Ei f;let#[a,m,rfl,_,h,i]:=g
 have:=U0 e i
 subst this;exact#[a,b,rfl,.inl h,q _ H (.bl _) .refl rfl w]
def TB:v_ D->w_^v_ Str
 |[]=>P3 []
 |.str b::r=>(TB r).map (b::·)
 |_::_=>s_
theorem Uy{M:Ch->Prop}{H:Hp}:∀{d:v_ D}{a:v_ V}{c:v_ Str},TB d=P3 c->Ats K M H d a->a=c.map V.str
 |[],a,c,e,h=>by cases e; exact h
 |.str b::r,a,c,e,h=>by
  let#[v,l,f,g,i]:=h;let#[j,k,rfl]:=jY.mp e;rw[f,Uy k i,g.1];rfl
 |.non::r,a,c,e,h=>by cases e
 |.int _::r,a,c,e,h=>by cases e
 |.bl _::r,a,c,e,h=>by cases e
 |.tup _::r,a,c,e,h=>by cases e
 |.lst _::r,a,c,e,h=>by cases e
 |.dic _ _::r,a,c,e,h=>by cases e
 |.fdi _ _::r,a,c,e,h=>by cases e
 |.dit _ _::r,a,c,e,h=>by cases e
def YE(a:v_ D)(P:D->Prop):Prop:=match a with
 |[.int i]=>P^.int i
 |[.bl k]=>P^.int (if k then 1 else 0)
 |_=>False
def c9:D1 K .sh (λb H Q=>(∃i,b=[.int i]/\Q (.int i) H)\/∃k,b=[.bl k]/\Q (.int (if k then 1 else 0)) H) YE:=by
 intro U M H e f P Q d g c w q;unfold YE at w
 split at w
 .rename_i i
  let#[v,rfl,a]:=Ei c;rw[a.int]; exact .inl #[i,rfl,q _ H (.int i) .refl rfl w]
 .rename_i k
  let#[v,rfl,a]:=Ei c;rw[a.bl]; exact .inr #[k,rfl,q _ H (.int _) .refl rfl w]
 grind
def L_(b:v_ D)(P:D->Prop):Prop:=match b with
 |[.lst a]=>P^.lst a
 |[.tup a]=>P^.lst a
 |_=>False
def Pa:D1 K .fr (λi H Q=>∃p c,i=[.ref p]/\(SqL K H p c\/SqT K H p c)/\∀l,H l=s_->Q (.ref l)^BQ H l^.lst c) L_:=by
 intro U M H k m P Q j n h w q;unfold L_ at w
 split at w
 .let#[v,rfl,d]:=Ei h
  let#[a,e,rfl,_,f,g]:=d;exact#[a,e,rfl,.inl^.inl f,λl b=>q _ _ _ (BE b) (Dq b g) w]
 .let#[v,rfl,d]:=Ei h
  let#[a,e,rfl,f,g]:=d.tup;exact#[a,e,rfl,.inr f.sq,λl b=>q _ _ _ (BE b) (Dq b g) w]
 grind
end
def f7:D->String
 |.non=>"NoneType"
 |.bl _=>"bool"
 |.int _=>"int"
 |.str _=>"str"
 |.tup _=>"tuple"
 |.lst _=>"list"
 |.dic _ _=>"dict"
 |.fdi _ _=>"dict"
 |.dit _ _=>"dict"
def fA(t T:String):Bool:=t==T||(t=="bool"&&T=="int")
def D4(T:String)(a:DW):DW:=λn b P=>a n b λd c=>P (.bl^fA (f7 d) T) c
structure Y2 (K:Frag) (T:String):Prop where
 ans:∀t∈["NoneType","bool","int","str","tuple","list","dict"],PySem.W.kitOne K (.type t)^.type T=P3^fA t T
def Y8{K:Frag}{M U:Ch->Prop}{H:Hp}{d:D}{x:V}(h:AtT K U M H d x):HG K H x^.type^f7 d:=by
 cases d with
 |non=>cases(h); exact .non
 |bl b=>cases h.bl; exact .bl b
 |int i=>cases h.int; exact .int i
 |str z=>cases h.str.1; exact .str z
 |tup e=>
  let#[a,f,rfl,c,j]:=h.tup;exact .tup c
 |lst e=>
  let#[a,f,rfl,_,c,j]:=h
  rcases c with c|⟨o,c⟩
  .exact .lst c
  .exact .frz c
 |dic g e=>
  let#[a,f,rfl,_,c,_]:=h;exact .dK c
 |fdi g e=>
  let#[a,f,rfl,#[o,_,c],_]:=h;exact .dF c
 |dit g e=>
  let#[a,f,rfl,_,c,_]:=h;exact .dT c
def Y9(d:D):f7 d∈["NoneType","bool","int","str","tuple","list","dict"]:=by cases d <;>simp[f7]
def Bu{X:Cx}{a:jJ}{o:Kd}{l:DW}{T:String}{b:Str}{p c pos:Pos}(r:Y2 X.K T)(s:DE X a o l)(u:Gl X "isinstance")(x:X.mg "isinstance"=s_)(e:Gl X b)(f:X.mg b=s_)(g:bootBuiltins b=P3^.type T)
  (h:b ≠ "__name__":=by cbv) (i:(b==("__debug__":Str))=u_:=by cbv)
  (m:starEach [a,.Name b c] X.env=(u_,eval a X.env)::starEach [.Name b c] X.env:=by rfl) (j:starEach [.Name b c] X.env=[(u_,eval (.Name b c) X.env)]:=by rfl)
  (k:(backTo pos^starEach [.Name b c] X.env).any (·.1)=u_:=by rfl):DE X (.Call (.Name "isinstance" p) [a,.Name b c] [] pos) .sh^D4 T l:=by
 let#[t,y,z]:=s;have A:PE X (.Name b c)^tC^.ty T:=ZU e f g rfl h i;exact#[_,Hg RS u x (by decide +kernel) (B8 y (B8 A C4 j) m) (by cbv) (by cbv) m k,λC M H n B Z P Q R w q=>z C M H n B Z _ _ R w λv D d E F G I p=>#[v,T,_,_,rfl,Y8^I.tpOf R.dom R.vM,r.ans _^Y9 d,q _ D (.bl _) E F G rfl p]]
section
variable {K:Frag}{X:Cx}
def ah(d e:D)(P:D->Prop):Prop:=match d,e with
 |.int i,.int j=>P^.int (i+j)
 |.str i,.str j=>i.length+j.length<=sizeLine/\P^.str (i++j)
 |.tup i,.tup j=>i≠[]/\i.length+j.length<=sizeLine/\P^.tup (i++j)
 |.lst i,.lst j=>i.length+j.length<=sizeLine/\P^.lst (i++j)
 |_,_=>False
def eT:R2:=λx y H Q=>∃l b a c,x=.ref l/\y=.ref b/\Rd H l^.lst a/\Rd H b^.lst c/\a.length+c.length<=sizeLine/\∀p,H p=s_->Q (.ref p)^BQ H p^.lst (a++c)
def eS:R2:=λx y H Q=>∃i j,x=.str i/\y=.str j/\i.length+j.length<=sizeLine/\Q (.str (i++j)) H
def aN(g:Str->Str->Bool):R2:=λx y H Q=>∃i j,x=.str i/\y=.str j/\Q (.bl^g i j) H
def XH(K:Frag):R2:=λx y H Q=>(Jm λi j=>.int (i+j)) x y H Q\/eS x y H Q\/XG K x y H Q\/eT x y H Q
def op_addU:OpR X (binaryOp .Add)^XH X.K:=op_add.or^(Sl).or^op_catT.or^UO
def Pc:GI X.K .sh (XH X.K) ah:=λU M H d e x y P Q a b c f w q=>by
 unfold ah at w
 split at w
 .exact .inl^Ys U M H _ _ x y P Q a b c f w q
 .exact .inr^.inl^WF U M H _ _ x y P Q a b c f w q
 .exact .inr^.inr^.inl^WE U M H _ _ x y P Q a b c f w q
 .exact .inr^.inr^.inr^OJ U M H _ _ x y P Q a b c f w λv h z g r p=>q v h z g (r.shOf a^by grind) p
 grind
def fL(d e:D)(P:D->Prop):Prop:=match d,e with
 |.int i,.int j=>P^.bl (decide (i<j))
 |.str i,.str j=>P^.bl (decide (i.cps.toList<j.cps.toList))
 |_,_=>False
def bb:R2:=λx y H Q=>(Jm λi j=>.bl (decide (i<j))) x y H Q\/aN (λi j=>decide (i.cps.toList<j.cps.toList)) x y H Q
def op_ltU:OpR X (compareOp .Lt) bb:=op_lt.or VW
def ao:GI X.K .sh bb fL:=λU M H d e x y P Q a b c f w q=>by
 unfold fL at w
 split at w
 .exact .inl^Pb U M H _ _ x y P Q a b c f w q
 .exact .inr^Yp U M H _ _ x y P Q a b c f w q
 grind
def YD(d e:D)(P:D->Prop):Prop:=match d,e with
 |.int i,.int j=>P^.bl (decide (i<=j))
 |.str i,.str j=>P^.bl (!(decide (j.cps.toList<i.cps.toList)))
 |_,_=>False
def eI:R2:=λx y H Q=>(Jm λi j=>.bl (decide (i<=j))) x y H Q\/aN (λi j=>!(decide (j.cps.toList<i.cps.toList))) x y H Q
def Sj:OpR X (compareOp .LtE) eI:=op_le.or VX
def Yr:GI X.K .sh eI YD:=λU M H d e x y P Q a b c f w q=>by
 unfold YD at w
 split at w
 .exact .inl^Pb U M H _ _ x y P Q a b c f w q
 .exact .inr^Yp U M H _ _ x y P Q a b c f w q
 grind
def eO:R2:=Jm λi j=>.bl (decide (j<i))
def Fp:OpR X (compareOp .Gt) eO:=aY
def J5:GI X.K .sh eO (f2 λi j=>.bl (decide (j<i))):=Pb
def eP:R2:=Jm λi j=>.bl (decide (j<=i))
def Xg:OpR X (compareOp .GtE) eP:=aZ
def aq:GI X.K .sh eP (f2 λi j=>.bl (decide (j<=i))):=Pb
def d8:V->w_ Int->w_ Int->Hp->VK->Prop:=λx a b H Q=>∃z,x=.str z/\z.length<=sizeLine/\Q (.str^Txt.slice z a b) H
def sl_U:SlR X d8:=bU
def bD(w:DW):DW:=λn a P=>w n a λd b=>∃i,d=.int i/\P (.int (-i)) b
def YW{a:jJ}{c:Kd}{b:DW}{pos:Pos}(h:DE X a c b):DE X (.UnaryOp .USub a pos) .sh^bD b:=by
 let#[t,e,f]:=h;refine#[_,eV bF e,λC M H n g Z P Q R w q=>?_];refine f C M H n g Z _ _ R w λv j d k l m o p=>?_;let#[i,rfl,p]:=p;exact#[i,L3 o,q _ j (.int _) k l m rfl p]
def Got(P:jK)(w:jQ)(K:Frag)(c:Str->w_ Ev)(a:i8)(x:Str)(k:Nat)(b:v_ Str)(e:Kd)(W:W2):Prop:=
 ∃f fd,D6 P w K c a J6 k f fd b^ZF K e W b.length/\c x=P3^.ref f/\keepIn K^.ref f=t_/\Binds K fd b []/\∀d n P,W d n P->d.length=b.length
def BJ{e:jJ}{a:v_ jJ}{k:Nat}{h:v_ Str}{g:Kd}{W:W2}{x:Str}{p pos:Pos}{b:av}(G:Got X.prog X.w X.K X.mg X.base x k h g W)
  (i:Room k X.A) (j:Gl X x) (l:dW X (e::a) b)
  (c:(x==("__debug__":Str))=u_:=by cbv) (m:starEach (e::a) X.env=(u_,eval e X.env)::starEach a X.env:=by rfl) (d:(backTo pos^starEach a X.env).any (·.1)=u_:=by rfl):
  DE X (.Call (.Name x p) (e::a) [] pos) g (AW W b):=by
 let#[f,fd,G,n,o,q,r]:=G;exact Z6 G r i j n o q l c m d
def aW(b:Nat)(g:v_ D->D):W2:=λc n P=>∃a:v_ D,a.length=b/\c=a.map .sh/\P (g a) n
def Nj{a:Nat}{g:v_ D->D}{b:v_ Slot}{n:Nat}{P:D->Nat->Prop}(h:aW a g b n P):b.length=a:=by
 let#[c,e,rfl,_]:=h
 grind
def UX:Y2 K "int":=#[λt a=>by
 simp at a
 rcases a with rfl|rfl|rfl|rfl|rfl|rfl|rfl <;>kernel_rfl]
def Q6:Y2 K "bool":=#[λt a=>by
 simp at a
 rcases a with rfl|rfl|rfl|rfl|rfl|rfl|rfl <;>kernel_rfl]
def O6:Y2 K "str":=#[λt a=>by
 simp at a
 rcases a with rfl|rfl|rfl|rfl|rfl|rfl|rfl <;>kernel_rfl]
def kit_tuple:Y2 K "tuple":=#[λt a=>by
 simp at a
 rcases a with rfl|rfl|rfl|rfl|rfl|rfl|rfl <;>kernel_rfl]
end
theorem IX{b:Type}(p:b->Bool):∀l:v_ b,allB (l.map λc=>.bl^p c)=P3^l.map p
 |[]=>rfl
 |a::l=>by
  rw[jc];unfold allB;rw[IX p l];rfl
def Ye{a b:Bool}{P:D->Nat->Prop}{n:Nat}{k:(D->Nat->Prop)->Prop}(c:a=t_->P (.bl b) n->k P)(h:P (.bl (a&&b)) n):(match (.bl a:D)with|.bl t_=>k P|.bl u_=>P (.bl u_) n|_=>False):=by
 cases a with
 |false=>exact h
 |true=>grind
def X9{P:jK}{w:jQ}{K:Frag}{d:Str->w_ Ev}{a:i8}{x:Str}{st:jH}{f:Ch}{fd:jt}{k:Nat}{c:v_ Str}{e:Kd}{W:W2}(F:Fun K x x st f fd)(m:d x=P3^.ref f)(b:Binds K fd c [])
  (h:∀g n P,W g n P->g.length=c.length) (ok:D6 P w K d a J6 k f fd c^ZF K e W c.length):Got P w K d a x k c e W:=#[f,fd,ok,m,F.kp,b,h]
def QM(K:Frag):Sp:=λc H Q _=>∃a b,c=[V.ref a]/\(l7 (α:=Int) b<=63/\SqL K H a^b.map V.int)/\∀d,Q (.bl t_) d
def OV(K:Frag):Sp:=λe H Q _=>∃a b,e=[V.ref a]/\(l7 (α:=Int) b<=63/\SqL K H a^b.map V.int) /\
 ∀(c f:Ch) (d:Hp),c≠f->d c=P3^.lst^b.map V.int->d f=P3^.lst [.ref c,.int 0,.int 0]->Q (.ref f) d
def fW{a:v_ Int}(h:a.length<=63):RM (a.map V.int) s_^P3 63=a.map V.int:=by
 have e:HT.sIx (a.map V.int).length (a.map V.int).length^P3 63=a.length:=by
  rw[show(63:Int)=(63:Nat)from rfl,HT.sIx_nat,FM,Nat.min_eq_right h]
 unfold RM;rw[HT.sIx_none]
 grind
theorem Nn{b:BW}{c:Ad}{g:E2}(I:Nat->Nat->v_ Slot->Prop)(e:∀n a,I 0 n a->g.nx n a):
  ∀(f:v_ D) (n:Nat) (a:v_ Slot) (_:∀(k:Nat) (d:D) (n:Nat) (a:v_ Slot) (nx:Nat->v_ Slot->Prop),d∈f->I (k+1) n a->(∀i j,I k i j->nx i j)->b d a λm=>c {g with nx:=nx,ct:=nx,bk:=g.nx} n m),
   I f.length n a->BF b c g f n a
 |[],n,a,_,h=>e n a h
 |d::f,n,a,l,h=>l _ d n a _ Op h λi j o=>Nn I e f i _ (λk d n a nx p=>l k d n a nx^TW _ p) o
def fI{P:jK}{w:jQ}{K:Frag}{I:Str->w_ Ev}{u:i8}{st N:jH}{B:v_ jH}{f:Ch}{fd:jt}{C:v_ Str}{k n0:Nat}{O:Ad}(F:Fun K "law" "law" st f fd)
  (S:Ae ("_law_script"::"_law_feed_here"::C) ["_law_script"]^AR st) (J:CP st=N::B) (X:n0<=2 ^ 60)
  (Y:∀(n:Ev) (A:jd) (l:v_ Env) (s:On) (H:Hp) (E:XK),Room k^A.deeper^envOfC "law" (AR st) s.heap.objs.size f n->
   PS (MF J6 P w K I u ("_law_script"::"_law_feed_here"::C) "law" (AR st) f n A l s H E).nox N (QG (Wm (OV K) [] E0^QF (CC 0) Wi)^Gw 1))
  (Z:∀(n:Ev) (A:jd) (l:v_ Env) (s:On) (H:Hp) (E:XK),Room k^A.deeper^envOfC "law" (AR st) s.heap.objs.size f n->
   Rt (MF J6 P w K I u ("_law_script"::"_law_feed_here"::C) "law" (AR st) f n A l s H E).nox .sh B O)
  (hW:O {nx:=λ_ _=>False,rt:=λd _=>d=.bl t_} n0 (.no::.fd::Tk C.length .no)):D6 P w K I u J6 (k+1) f fd ["_law_script"]^QM K:=by
 refine F.ok S (λvs H Q E h=>?_) λn A l s H vs Q E T h=>?_
 .let#[a,L,rfl,_]:=h
  rfl
 .let#[a,L,rfl,#[U,hS],q]:=h
  let#[t,t1,t2]:=Z n A l s H E T;refine#[VB (QG (Wm (OV K) [] E0^QF (CC 0) Wi)^Gw 1) t,by rw[J]; exact BY (Y n A l s H E T) t1,?_];refine#[_,rfl,a,L,rfl,#[U,hS],λc g G D hc W=>?_]
  have y:∀(i:Nat) (x:Slot),(Slot.no::Slot.fd::Tk C.length Slot.no)[i]?=P3 x->Slot.no=x\/(Slot.fd=x/\i=1):=by
   intro i x m
   match i,m with
   |0,m=>exact .inl^iw m
   |1,m=>exact .inr #[iw m,rfl]
   |i+2,m=>
    rw[m7,m7,m6]at m
    split at m
    .exact .inl^iw m
    .cases m
  have R:Rel K #[λb=>b=g,P3 (g,c),λb=>b=g,λb=>b=g,G,[],[]] (λb=>b=g) G n0 (.no::.fd::Tk C.length .no)^(start ("_law_script"::"_law_feed_here"::C) [V.ref a]).set 1^P3^.ref g:=by
   refine#[by simp[L2.start],λ_ z=>z,λb z=>#[_,(congrArg G z).trans W],Ext.refl _ _,λb z=>by rw[←iw z],λ_ z=>z,λ_ z=>z,λb z=>?_,λi x m=>?_,λp M=>absurd M^by simp,λi d b m _=>?_,λi x b m o _=>?_,λi j x t b m o _ _ _ _=>?_,λp M=>absurd M^by simp]
   .have e:(g,c)=b:=iw z
    subst e;exact#[0,0,L,W,D,#[D,hc],U,by cbv,by lk]
   .rcases y i x m with e|⟨e,rfl⟩
    .rw[←e]; trivial
    .rw[←e]
     exact#[(g,c),by simp[L2.start],rfl]
   .rcases y i _ m with e|⟨e,_⟩ <;>cases e
   .rcases y i x m with e|⟨e,_⟩ <;>(rw[←e]at o; cases o)
   .rcases y i x m with e|⟨e,_⟩ <;>(rw[←e]at o; cases o)
  refine t2 _ _ G n0 _ _ {nx:=λ_ _=>False,rt:=λd _=>d=.bl t_} _ R #[λ_ _ _ _ _ _ z=>z.elim,λv H2 d n' _ _ r p=>?_,λ_ _ _ _ _ _ z=>z.elim,λ_ _ _ _ _ _ z=>z.elim] hW;have e:d=.bl t_:=p;subst e;have e2:v=.bl t_:=r;subst e2;exact q H2
end Dp
namespace L2
section
variable {X:Cx}
theorem HJ:∀{a:v_ Ev}{b:v_ Str},StrsAre a b->Vals (b.map V.str) a
 |_,_,.nil=>.nil
 |_,_,.cons x t r=>.cons #[t,rfl]^HJ r
def W_(K:Frag):v_ V->Hp->VK->Prop:=λc H Q=>∃(p:Ch) (b:v_ Str),c=[.ref p]/\SqL K H p^b.map V.str/\b.length<64/\∀(a:v_ Str) (l:Ch),a.Perm b->sortedS a=t_->H l=s_->Q (.ref l)^BQ H l^.lst^a.map V.str
def MM:DL X (.builtin "sorted")^W_ X.K:=by
 intro y s Z H A B Q I r h;let#[p,C,rfl,f,g,q]:=h;let#[u,rfl,i]:=vals1 r;cases i;let#[j,c,k,D]:=I.list f;have a:=c.length;rw[FM]at a;refine sorted_strs k.isList (R9 c) (by lk) λl m n d t=>?_;let#[e,v]:=sortedAll_at _ _ _;have w:=d.length_eq;have x:=I.hok.fresh^kJ _;refine#[.ref _,_,I.laid (λb o z=>sortedAll_old z) (kJ _) (show ObjOk _ _ _ _ _^.lst _ from#[?_,_,e,HJ n,?_]),rfl,q _ _ d t x]
 .grind
 .exact v
def aQ:R2:=λx y H Q=>∃z k,x=.str z/\y=.int k/\MulOk z k/\Q (.str^Txt.mul z k) H
def ZW:OpR X (binaryOp .Mult) aQ:=by
 intro e s Z H x y v u Q I a b h;let#[z,k,rfl,rfl,c,q]:=h;let#[t,rfl]:=a;let#[d,rfl]:=b;exact SB.mul c λd k=>#[.str _,H,I.tok _,#[_,rfl],q]
end
end L2
namespace Dp
open L2
section
variable {K:Frag}
def BH(b:v_ D)(P:D->Prop):Prop:=match b with
 |[.lst a]=>P^.tup a
 |[.tup a]=>P^.tup a
 |_=>False
def Bk:D1 K .sh (λj H Q=>∃p d,j=[.ref p]/\((SqL K H p d/\∀l,H l=s_->Q (.ref l)^BQ H l^.tup d)\/(SqT K H p d/\Q (.ref p) H))) BH:=by
 intro U M H k m P Q e n h w q;unfold BH at w
 split at w
 .let#[v,rfl,f]:=Ei h
  let#[a,b,rfl,_,c,g]:=f;exact#[a,b,rfl,.inl #[.inl c,λl i=>q _ _ (.tup _) (BE i) (Do e i g) w]]
 .let#[v,rfl,f]:=Ei h
  let#[a,b,rfl,c,g]:=f.tup;exact#[a,b,rfl,.inr #[c.sq,q _ H (.tup _) .refl #[a,b,rfl,c,g] w]]
 grind
theorem Ats.strs{M:Ch->Prop}{H:Hp}:∀{a:v_ Str},(∀x∈a,x.length<=sizeLine)->Ats K M H (a.map D.str)^a.map V.str
 |[],_=>rfl
 |x::r,h=>#[_,_,rfl,#[rfl,h x Op],Ats.strs λy b=>h y^TW _ b]
theorem Ats.strs_le{M:Ch->Prop}{H:Hp}:∀{b:v_ Str}{c:v_ V},Ats K M H (b.map D.str) c->∀x∈b,x.length<=sizeLine
 |[],_,_=>λx a=>by cases a
 |y::r,c,h=>λx a=>by
  let#[v,t,e,d,f]:=h
  rcases UF.mp a with rfl|a
  .exact d.2
  .exact Ats.strs_le f x a
def S1(d:v_ D)(P:D->Prop):Prop:=∃(c:v_ D) (b:v_ Str),d=[.lst c]/\TB c=P3 b/\b.length<64/\∀a:v_ Str,a.Perm b->sortedS a=t_->P^.lst^a.map .str
theorem Uz:∀{c:v_ D}{a:v_ Str},TB c=P3 a->c=a.map .str
 |[],a,h=>by cases h; rfl
 |.str b::r,a,h=>by
  let#[t,e,rfl]:=jY.mp h;rw[jc,←Uz e]
 |.non::r,a,h=>by cases h
 |.int _::r,a,h=>by cases h
 |.bl _::r,a,h=>by cases h
 |.tup _::r,a,h=>by cases h
 |.lst _::r,a,h=>by cases h
 |.dic _ _::r,a,h=>by cases h
 |.fdi _ _::r,a,h=>by cases h
 |.dit _ _::r,a,h=>by cases h
def U2:D1 K .fr (W_ K) S1:=by
 intro U M H p r P Q h s i w q;let#[t,j,rfl,e,b,w]:=w;let#[v,rfl,c]:=Ei i;let#[a,u,rfl,_,k,d]:=c
 have:=Uy e d
 subst this;have m:=Uz e;subst m;exact#[a,j,rfl,.inl k,b,λn l f o g=>q _ _ _ (BE g) (Dq g^Ats.strs λx c=>d.strs_le x^f.mem_iff.mp c)^w _ f o]
def FP(d e:D)(P:D->Prop):Prop:=match d,e with
 |.int i,.int j=>CMul i j/\P^.int (i*j)
 |.str z,.int k=>MulOk z k/\(Txt.mul z k).length<=sizeLine/\P^.str^Txt.mul z k
 |_,_=>False
def aR:R2:=λx y H Q=>(rI CMul λi j=>.int (i*j)) x y H Q\/aQ x y H Q
def DB{X:Cx}:OpR X (binaryOp .Mult) aR:=op_mul.or ZW
def ET:GI K .sh aR FP:=λU M H d e x y P Q a f b c w q=>by
 unfold FP at w
 split at w
 .exact .inl^EU U M H _ _ x y P Q a f b c w q
 .rename_i z k
  exact .inr #[z,k,b.1,c,w.1,q _ H (.str _) .refl #[rfl,w.2.1] w.2.2]
 grind
end
section
variable {X:Cx}{tg e:Expr}{es:v_ Expr}{p pos:Pos}
def fu(X:Cx)(h:v_ jJ)(b:v_ D->v_ Slot->(v_ Slot->Prop)->Prop):Prop:=∃g,dP X h g/\∀(C:Fm) (M:Ch->Prop) (H:Hp) (n:Nat) (a:v_ Slot) (Z:L2.St) (c:v_ D) (d:v_ V) (P:v_ Slot->Prop) (Q:L2.St->Hp->Prop),Rel X.K C M H n a Z->Ats X.K M H c d->b c a P->
 (∀e f,Rel X.K C M H n e f->P e->Q f H)->g d Z H Q
def BN:v_ D->v_ Slot->(v_ Slot->Prop)->Prop:=λa b P=>a=[]/\P b
def Ab(b:BW)(bs:v_ D->v_ Slot->(v_ Slot->Prop)->Prop):v_ D->v_ Slot->(v_ Slot->Prop)->Prop:=λa c P=>match a with
 |d::r=>b d c λe=>bs r e P
 |[]=>False
def BX:fu X [] BN:=#[_,UK,λC M H n a Z b c P Q R h w q=>by
 let#[rfl,w]:=w;exact#[h,q a Z R w]]
def Aj{b:BW}{bs:v_ D->v_ Slot->(v_ Slot->Prop)->Prop}(c:DG X e b)(f:fu X es bs)(i:(assignEach (e::es) X.env).map (·.2)=assign e X.env::(assignEach es X.env).map (·.2):=by rfl):fu X (e::es)^Ab b bs:=by
 let#[g,j,k]:=c;let#[z,l,m]:=f;refine#[_,Hf j l i,λC M H n o Z s A P Q R h w q=>?_];cases s with
 |nil=>exact w.elim
 |cons d r=>
  let#[v,a,e,t,u]:=h;exact#[v,a,e,k C M H n o Z d v _ _ R t w λB E x y=>m C M H n _ _ r a _ _ x u y q]
def B3(k:Nat)(bs:v_ D->v_ Slot->(v_ Slot->Prop)->Prop):BW:=λd b P=>match d with
 |.tup a=>a.length=k/\bs a b P
 |_=>False
def B0{bs:v_ D->v_ Slot->(v_ Slot->Prop)->Prop}{k:Nat}{j:Nat}(f:X.calm=t_)(h:fu X es bs)(i:(assignEach es X.env).length=k:=by rfl)(b:(assignEach es X.env).findIdx? (·.1)=s_:=by rfl):DG X (.Tuple es j pos)^B3 k bs:=by
 let#[g,l,m]:=h;refine#[_,XZ f l i b,λC M H n o Z d v P Q R h w q=>?_];cases d with
 |tup r=>
  let#[a,c,rfl,s,e]:=h;exact#[a,c,rfl,s.sq,by rw[e.length]; exact w.1,m C M H n o Z r c P Q R e w.2 q]
 |_=>exact w.elim
def bE(c:DW)(b:BW):Ad:=λe n a=>c n a λd f=>b d a λg=>e.nx f g
def YQ{j a:Kd}{c:DW}{b:BW}(k:DE X e a c)(l:DG X tg b)(m:a≠.tp:=by intro z; cases z)(o:swapsWithSole [tg] e pos.line X.env=pure u_:=by rfl)(q:swappedStores [tg] e X.env=pure s_:=by rfl)
  (r:(assignEach [tg] X.env).map (·.2)=[assign tg X.env]:=by rfl):DS X j (.Assign [tg] e pos)^bE c b:=by
 let#[t,s,u]:=k;let#[g,x,y]:=l;exact#[_,I0 s x o q r,λC M H n f Z I E R L w=>u C M H n f Z _ _ R w λv h d i A B D p=>y C M h i f Z d v _ _ (R.step A B) (D.shOf R.dom m) p λJ K F G=>L.nx M h i _ _ F G]
end
end Dp
namespace L2
mutual
def RV(H:Hp):lv->V->Prop
 |.none,v=>v=.non
 |.bool b,v=>v=.bl b
 |.int i,v=>v=.int i
 |.str x,v=>v=.str x
 |.tuple xs,v=>∃a vs,v=.ref a/\H a=P3^.tup vs/\RVs H xs vs
 |.list xs,v=>∃a vs,v=.ref a/\Rd H a^.lst vs/\RVs H xs vs
 |.dict _,_=>False
def RVs(H:Hp):v_ lv->v_ V->Prop
 |[],vs=>vs=[]
 |x::xs,vs=>∃v r,vs=v::r/\RV H x v/\RVs H xs r
end
section
variable {X:Cx}{zH:v_ (Addr×Obj)}{Z:L2.St}{H:Hp}{s:Shared}
mutual
theorem RV.reads(I:Inv X zH Z H s):∀{d:lv}{v:V}{u:Ev},RV H d v->RelV v u->∃as,Reads s.heap u d as
 |.none,v,u,h,r=>by
  cases(show v=.non from h);cases(show u=jg from r);exact#[_,.none]
 |.bool b,v,u,h,r=>by
  cases(show v=.bl b from h);cases(show u=og b from r);exact#[_,.bool b]
 |.int i,v,u,h,r=>by
  cases(show v=.int i from h);let#[t,rfl]:=r;exact#[_,.int i t]
 |.str x,v,u,h,r=>by
  cases(show v=.str x from h);let#[t,rfl]:=r;exact#[_,.str x t]
 |.tuple xs,v,u,h,r=>by
  let#[a,vs,rfl,hq,hs]:=h;cases r;let#[its,rv,#[o,e,c,n,d],_]:=I.tuple (X:=X) (xs:=vs)^.inl^.inl hq;let#[as,ra]:=RVs.reads I hs rv;exact#[_,.tuple e c d ra]
 |.list xs,v,u,h,r=>by
  let#[a,vs,rfl,hq,hs]:=h;cases r;let#[its,rv,pl,_]:=I.list (X:=X) (xs:=vs)^.inl hq;let#[o,e,c,n,d]:=pl.isList;let#[as,ra]:=RVs.reads I hs rv;exact#[_,.list e c d ra]
 |.dict _,v,u,h,r=>h.elim
theorem RVs.reads(I:Inv X zH Z H s):∀{ds:v_ lv}{vs:v_ V}{us:v_ Ev},RVs H ds vs->Vals vs us->∃as,ReadsAll s.heap us ds as
 |[],vs,us,h,r=>by
  cases(show vs=[]from h);cases r;exact#[_,.nil]
 | d::ds,vs,us,h,r=>by
  let#[v,w,rfl,h1,h2]:=h;cases r with
  |cons r1 r2=>
   let#[as,a1]:=RV.reads I h1 r1;let#[bs,a2]:=RVs.reads I h2 r2;exact#[_,.cons a1 a2]
end
end
section
variable {X:Cx}
def eQ:R2:=λx y H Q=>∃d e,RV H d x/\RV H e y/\d.canLay0=t_/\e.canLay0=t_/\d.depth<=100/\Q (.bl^ji d e) H
def bz{k:Nat}(a:Room k X.A):OpR X (compareOp .Eq) eQ:=by
 intro n s Z H x y v u Q I b c h;let#[d,e,f,g,i,j,o,q]:=h;let#[p,l]:=RV.reads I f b;let#[r,m]:=RV.reads I g c;have t:=a.un;have w:min _ e.depth<=d.depth:=Nat.min_le_left _ _;exact PySem.SeqAt.compareEq_reads l m i j (by lk) #[.bl _,H,I,rfl,q]
def bd(b:Bool):R2:=λx y H Q=>∃d a,RV H d x/\(RV H (.list a) y\/RV H (.tuple a) y)/\d.canLay0=t_/\kn a=t_/\d.depth<=100/\Q (.bl (if b then !(a.any λy=>ji y d)else a.any λy=>ji y d)) H
def Lh{k:Nat}(i:Room k X.A):OpR X (compareOp .In)^bd u_:=by
 intro o s Z H x y v u Q I j c h;let#[d,l,m,a,e,f,p,q]:=h;let#[r,g]:=RV.reads I m j;have t:=i.un;have w:min (kR l) _<=d.depth:=mP _ _
 rcases a with a|a
 .let#[n,b]:=RV.reads I a c
  exact PySem.SeqAt.in_list_reads b g f e (by lk) #[.bl _,H,I,rfl,q]
 .let#[n,b]:=RV.reads I a c
  exact PySem.SeqAt.in_tuple_reads b g f e (by lk) #[.bl _,H,I,rfl,q]
def C5{k:Nat}(i:Room k X.A):OpR X (compareOp .NotIn)^bd t_:=by
 intro o s Z H x y v u Q I j c h;let#[d,l,m,a,e,f,p,q]:=h;let#[r,g]:=RV.reads I m j;have t:=i.un;have w:min (kR l) _<=d.depth:=mP _ _
 rcases a with a|a
 .let#[n,b]:=RV.reads I a c
  exact PySem.SeqAt.notIn_list_reads b g f e (by lk) #[.bl _,H,I,rfl,q]
 .let#[n,b]:=RV.reads I a c
  exact PySem.SeqAt.notIn_tuple_reads b g f e (by lk) #[.bl _,H,I,rfl,q]
end
end L2
namespace Dp
open L2
mutual
def toPy:D->lv
 |.non=>.none
 |.bl b=>.bool b
 |.int i=>.int i
 |.str x=>.str x
 |.tup ds=>.tuple^Bj ds
 |.lst ds=>.list^Bj ds
 |.dic _ _=>.dict []
 |.fdi _ _=>.dict []
 |.dit _ _=>.dict []
def Bj:v_ D->v_ lv
 |[]=>[]
 |d::ds=>toPy d::Bj ds
end
mutual
def Hx:D->Bool
 |.tup ds=>ES ds
 |.lst ds=>ES ds
 |.dic _ _=>u_
 |.fdi _ _=>u_
 |.dit _ _=>u_
 |_=>t_
def ES:v_ D->Bool
 |[]=>t_
 |d::ds=>Hx d&&ES ds
end
def Cf(a:v_ D):Bj a=a.map toPy:=by
 induction a with
 |nil=>rfl
 |cons d r b=>rw[Bj,b,jc]
section
variable {K:Frag}{M:Addr->Prop}{H:Hp}
mutual
theorem At.rv:∀{d:D}{v:V},At K M H d v->Hx d=t_->RV H (toPy d) v
 |.non,v,h,_=>h
 |.bl b,v,h,_=>h
 |.int i,v,h,_=>h
 |.str x,v,h,_=>h.1
 |.tup ds,v,h,n=>by
  let#[a,vs,e,hn,hs]:=h;exact#[a,vs,e,hn,Ats.rv hs n]
 |.lst ds,v,h,n=>by
  let#[a,vs,e,hn,hs]:=h;exact#[a,vs,e,.inl hn.2,Ats.rv hs n]
 |.dic ks ds,v,h,n=>by cases n
 |.fdi ks ds,v,h,n=>by cases n
 |.dit ks ds,v,h,n=>by cases n
theorem Ats.rv:∀{ds:v_ D}{vs:v_ V},Ats K M H ds vs->ES ds=t_->RVs H (Bj ds) vs
 |[],vs,h,_=>h
 |d::ds,vs,h,n=>by
  let#[v,r,e,h1,h2]:=h;have n':(Hx d&&ES ds)=t_:=n;rw[iq]at n';exact#[v,r,e,At.rv h1 n'.1,Ats.rv h2 n'.2]
end
def AtT.rv{U:Ch->Prop}{d:D}{v:V}(h:AtT K U M H d v)(n:Hx d=t_):RV H (toPy d) v:=by
 cases d with
 |lst c=>
  let#[a,g,e,_,j,k]:=h;exact#[a,g,e,j,Ats.rv k n]
 |dic f c=>cases n
 |fdi f c=>cases n
 |dit f c=>cases n
 |non=>exact h
 |bl b=>exact h
 |int i=>exact h
 |str x=>exact h.1
 |tup c=>exact At.rv h n
def Cs(d:D):Prop:=Hx d=t_/\(toPy d).canLay0=t_/\(toPy d).depth<=100
def C2(d e:D):Bool:=ji (toPy d)^toPy e
def fN(d e:D)(P:D->Prop):Prop:=Cs d/\Cs e/\P^.bl^C2 d e
def fh:GI K .sh eQ fN:=λU M H d e x y P Q a f b c w q=>
 #[_,_,b.rv w.1.1,c.rv w.2.1.1,w.1.2.1,w.2.1.2.1,w.1.2.2,q _ H (.bl _) .refl rfl w.2.2]
def E5:D->w_^v_ D
 |.lst a=>P3 a
 |.tup a=>P3 a
 |_=>s_
def Gd(a:Bool)(d e:D)(P:D->Prop):Prop:=Cs d/\Cs e/\∃b,E5 e=P3 b/\P^.bl (if a then !(b.any λy=>C2 y d)else b.any λy=>C2 y d)
def FW{c:Bool}:GI K .sh (bd c)^Gd c:=λU M H d e x y P Q k m i j w q=>by
 let#[b,f,g,h,w]:=w;have a:∀g:v_ D,(g.map _).any (λy=>ji y _)=g.any λy=>C2 y d:=λg=>by rw[List.any_map]; rfl
 cases e with
 |lst l=>
  cases h;exists _,_,i.rv b.1,.inl^j.rv f.1,b.2.1,by simpa [toPy,PyData.canLay0]using f.2.1,b.2.2;rw[Cf,a];exact q _ H (.bl _) .refl rfl w
 |tup l=>
  cases h;exists _,_,i.rv b.1,.inr^j.rv f.1,b.2.1,by simpa [toPy,PyData.canLay0]using f.2.1,b.2.2;rw[Cf,a];exact q _ H (.bl _) .refl rfl w
 |_=>cases h
def PC(d e:D)(P:D->Prop):Prop:=Cs d/\Cs e/\P^.bl (!C2 d e)
end
end Dp
namespace L2
def eB:R2:=λx y H Q=>∃d e,RV H d x/\RV H e y/\d.canLay0=t_/\e.canLay0=t_/\d.depth<=100/\Q (.bl (!PyData.eqv d e)) H
def G9{X:Cx}{k:Nat}(a:Room k X.A):OpR X (compareOp .NotEq) eB:=by
 intro n s Z H x y v u Q I b c h;let#[d,e,f,g,i,j,o,q]:=h;let#[p,l]:=RV.reads I f b;let#[r,m]:=RV.reads I g c;have t:=a.un;have w:min _ e.depth<=d.depth:=Nat.min_le_left _ _;exact PySem.SeqAt.compareNe_reads l m i j (by lk) #[.bl _,H,I,rfl,q]
end L2
namespace Dp
open L2
def MU{K:Frag}:GI K .sh eB PC:=λU M H d e x y P Q a f b c w q=>
 #[_,_,b.rv w.1.1,c.rv w.2.1.1,w.1.2.1,w.2.1.2.1,w.1.2.2,q _ H (.bl _) .refl rfl w.2.2]
end Dp
namespace L2
def kOf:Key->V
 |.inl i=>.int i
 |.inr x=>.str x
def gB:Key->Key->Bool
 |.inl i,.inl j=>decide (i<j)
 |.inr x,.inr y=>decide (x.cps.toList<y.cps.toList)
 |_,_=>u_
def Na:Key->Key->Bool
 |.inl _,.inl _=>t_
 |.inr _,.inr _=>t_
 |_,_=>u_
def Gb:v_ Key->v_ Key->Bool
 |[],[]=>u_
 |[],_::_=>t_
 |_::_,[]=>u_
 |x::a,y::b=>if x=y then Gb a b else gB x y
def Cb:v_ Key->v_ Key->Bool
 |x::a,y::b=>Na x y&&Cb a b
 |_,_=>t_
def YI{A:jd}{s:On}{x y:Key}{u v:Ev}(a:RelV (kOf x) u)(b:RelV (kOf y) v):∃e,SeqAt.EqAt A s u v e/\(e=t_↔x=y):=by
 cases x with
 |inl i=>
  cases y with
  |inl j=>exact#[_,PH a b rfl rfl,by simp[kOf,fP]]
  |inr z=>exact#[_,PH a b rfl rfl,by simp[kOf,fP]]
 |inr z=>
  cases y with
  |inl j=>exact#[_,PH a b rfl rfl,by simp[kOf,fP]]
  |inr c=>exact#[_,PH a b rfl rfl,by simp[kOf,fP]]
def W7(A:jd)(s:On){x y:Key}{u v:Ev}(b:RelV (kOf x) u)(c:RelV (kOf y) v)(d:Na x y=t_)(a:jK)(w:jQ)(E:Ev->On->Prop)(Q:Ev->On->Prop)(h:Q (.bool^gB x y) s):
  wpAny (model a w) A (richCompare .Lt u v) Q E s:=by
 cases x with
 | inl i=>
  cases y with
  |inl j=>
   let#[t,rfl]:=b;let#[e,rfl]:=c;exact pK h
  |inr z=>cases d
 | inr z=>
  cases y with
  |inl j=>cases d
  |inr f=>
   let#[t,rfl]:=b;let#[e,rfl]:=c;exact PySem.P.lt_str h
section
open PySem.SeqAt
open PySem.AutoSeq1 (wpAny_loadPart')
open PySem.MeetsSeq PySem.MeetsSeq2 PySem.MeetsSeq3
def Gi(l b:Ch)(items items2:Array Ev)(n n2:Nat)(dd dd2:w_ Ch)(sl sl2:Array^w_ Ev)(ns ms:v_ Key)(hi:Vals (ns.map kOf) items.toList)(hj:Vals (ms.map kOf) items2.toList)(hsame:Cb ns ms=t_):
  Meets (ll.«tuple.__lt__» #[[.ref l,.ref b],[]])
   (λ_ R s=>s.heap.get? l=P3 {cls:=.type "tuple",dict:=dd,data:=.seq items n,slots:=sl}/\s.heap.get? b=P3 {cls:=.type "tuple",dict:=dd2,data:=.seq items2 n2,slots:=sl2} /\
    R (.ok^.ret^.bool^Gb ns ms) s):=
 .of_wp λprog w A R s h=>by
  let#[hp,g,d,tk,os]:=s; let#[hl,hb,h]:=h
  have f2:=AutoSeq1.sub_tuple_tuple;have z1:items.size=ns.length:=by have:=hi.length; rw[FM]at this; rw[this]; simp
  have z2:items2.size=ms.length:=by have:=hj.length; rw[FM]at this; rw[this]; simp
  wp_walk using j8 hl,j8 hb,o0 _ (λrest b s'=>b.1=s_/\s'=#[hp,g,d,tk,os]/\∃(vs ws:v_ Ev) (ns' ms':v_ Key),rest=vs.zip ws /\
   Vals (ns'.map kOf) vs/\Vals (ms'.map kOf) ws/\Cb ns' ms'=t_/\ns'.length+items2.size=ms'.length+items.size/\R (.ok^.ret^.bool^Gb ns' ms') #[hp,g,d,tk,os]) _
  case turn=>
   rintro⟨y,x⟩ rest b s' ⟨hb',rfl,vs,ws,ns',ms',hz,hvi,hwi,hsm,hlen,hR⟩;cases ns' with
   |nil=>cases hvi; rw[List.zip_nil_left]at hz; cases hz
   | cons a ns'=>
    cases ms' with
    |nil=>cases hwi; rw[List.zip_nil_right]at hz; cases hz
    | cons c ms'=>
     rw[jc]at hvi hwi;cases hvi with
     | cons ra hvi'=>
      cases hwi with
      | cons rc hwi'=>
       rw[oG]at hz;injection hz with hyx hrest
       injection hyx with hy hx
       subst hy hx;have hR':R (.ok^.ret^.bool (if a=c then Gb ns' ms' else gB a c)) #[hp,g,d,tk,os]:=hR;have hsm':(Na a c&&Cb ns' ms')=t_:=hsm;rw[iq]at hsm';simp only[iu]at hlen;let#[e,he,hiff]:=YI (A:=A.in1) (s:=#[hp,g,d,tk,os]) ra rc;refine Db^he prog w _ _ ?_;cases e with
       |true=>
        rw[if_pos (hiff.mp rfl)]at hR'
        wp_walk
        exact#[rfl,rfl,_,_,_,_,hrest,hvi',hwi',hsm'.2,by lk,hR']
       |false=>
        rw[if_neg λq=>absurd (hiff.mpr q) jF]at hR';have hri:=W7 A.in1 #[hp,g,d,tk,os] ra rc hsm'.1 prog w
        wp_walk using hri
        exact#[_,rfl,by simpa using hR']
  case fin=>
   rintro⟨b1,b2⟩ s' ⟨hb',rfl,vs,ws,ns',ms',hz,hvi,hwi,hsm,hlen,hR⟩;simp only at hb';subst hb'
   have hv:Gb ns' ms'=decide (items.size<items2.size):=by
    cases ns' with
    | nil=>
     cases ms' with
     |nil=>
      simp only[ko]at hlen;exact(decide_eq_false^by lk).symm
     |cons c u=>
      simp only[ko,iu]at hlen;exact(decide_eq_true^by lk).symm
    | cons a t=>
     cases ms' with
     |nil=>
      simp only[ko,iu]at hlen;exact(decide_eq_false^by lk).symm
     |cons c u=>
      rw[jc]at hvi hwi;cases hvi;cases hwi;rw[oG]at hz;cases hz
   rw[hv]at hR
   wp_walk
   exact#[_,rfl,by simpa [Builtin.Tuple.tupleCompareSizes]using hR]
  case h=>
   exact#[rfl,rfl,items.toList,items2.toList,ns,ms,rfl,hi,hj,hsame,by lk,h]
end
section
variable {X:Cx}
def eC(K:Frag):R2:=λx y H Q=>∃a b c d,x=.ref a/\y=.ref b/\SqT K H a^c.map kOf/\SqT K H b^d.map kOf/\Cb c d=t_/\Q (.bl^Gb c d) H
def bw(m:X.A.units<cLine):OpR X (compareOp .Lt)^eC X.K:=by
 intro T s Z H x y v u Q I o p h;let#[a,b,r,t,rfl,rfl,w,z,d,q]:=h;cases o;cases p;let#[B,C,D,_]:=I.tuple w;let#[i,E,G,_]:=I.tuple z;let#[#[J,L,j,M],k,N,n,O]:=id D;let#[#[l,P,e,R],c,f,S,g]:=id G;subst N O f g
 exact richCompare_meets_room (op:=.Lt) #[_,k,rfl] #[_,c,rfl] PySem.F.slot_tuple_lt PySem.F.entry_tuple_lt (PySem.F.args_tuple_lt_2 _ _) (Gi a b _ _ n S L _ M _ r t C E d)
  #[k,c,#[(λx=>nomatch x),#[.bl _,H,I,rfl,q]]] m
end
def ItAt(a:Bool)(h:i8)(it l:Ch)(k:Nat):Prop:=match a with
 |true=>h.IsListIter it l k
 |false=>h.IsTupleIter it l k
def SqAt(b:Bool)(h:i8)(l:Ch)(a:Array Ev):Prop:=match b with
 |true=>h.IsList l a
 |false=>h.IsTuple l a
section
variable {κ:Bool}{h h':Heap}{it l b:Addr}{k:Nat}{items:Array Value}
def ItAt.mv(x:ItAt κ h it l k)(e:∀o,h.get? it=P3 o->h'.get? it=P3 o):ItAt κ h' it l k:=by
 cases κ with
 |true=>let#[o,a,r]:=x; exact#[o,e o a,r]
 |false=>let#[o,a,r]:=x; exact#[o,e o a,r]
def SqAt.mv(x:SqAt κ h l items)(e:∀o,h.get? l=P3 o->h'.get? l=P3 o):SqAt κ h' l items:=by
 cases κ with
 |true=>let#[o,a,r]:=x; exact#[o,e o a,r]
 |false=>let#[o,a,r]:=x; exact#[o,e o a,r]
def ItAt.eb(x:ItAt κ h it l k)(a:Heap.ExtBut b h h')(n:it≠b):ItAt κ h' it l k:=x.mv λo e=>a it o n e
def SqAt.eb(x:SqAt κ h l items)(a:Heap.ExtBut b h h')(n:l≠b):SqAt κ h' l items:=x.mv λo e=>a l o n e
def ItAt.lies(x:ItAt κ h it l k):∃o,h.get? it=P3 o/\∀v,o.data≠.cell v:=by
 cases κ with
 |true=>let#[o,a,_,d]:=x; simp_all
 |false=>let#[o,a,_,d]:=x; simp_all
def SqAt.lies(x:SqAt κ h l items):∃o,h.get? l=P3 o:=by
 cases κ with
 |true=>let#[o,a,_]:=x; grind
 |false=>let#[o,a,_]:=x; grind
end
section
variable {prog:Program}{w:World}{A:Around}{E:Value->Shared->Prop}{s:Shared}
def GW{f:Bool}{c l:Ch}{i:Nat}{a:Array Ev}{x:Ev}{Q:Ev->On->Prop}(d:ItAt f s.heap c l i)(n:SqAt f s.heap l a)(p:a[i]?=P3 x)
  (q:∀h,ItAt f h c l (i+1)->me c s.heap h->Q x {s with heap:=h}):wpAny (model prog w) A (kN^.ref c) Q E s:=by
 cases f with
 |true=>exact wpAny_nextOf_list_item d n p q
 |false=>
  have b:s.heap.IsTupleIter c l i:=d;have j:s.heap.IsTuple l a:=n;let#[o,g,t,e]:=id b; let#[u,k,_,v,m]:=j
  unfold kN;refine Db^ki (name:=lZ "__next__") b.typeIs lU^lc lU b.typeIs oH ?_^oA _;show wpAny (model prog w) _ (field (.ref c) 0 >>=_) _ _ s; refine Db (kQ g e (x:=.ref l) rfl ?_)
  show wpAny (model prog w) _ (if(ja l==jg)=t_ then _ else _) _ _ s; rw[if_neg (show ¬((ja l==jg)=t_)from jF)]
  show wpAny (model prog w) _ (field (.ref c) 1 >>=_) _ _ s; refine Db (kQ g e (x:=.int i 0) rfl ?_)
  show wpAny (model prog w) _ (seqItems?^.ref l >>=_) _ _ s; refine Db^kH k m ?_; simp only[mE,p]
  refine Db^wpAny_setField g e (by simp)^T0 #[x,rfl,T0^q _ (show Heap.IsTupleIter _ c l (i+1)from ?_) (n6 ..)];exact#[_,lT _ g^Obj.isFreed_of_fields^Obj.data_mapFields e _,(Obj.cls_mapFields ..).trans t,by(rw[Obj.data_mapFields e]; simp[rawInt])]
def IG{g:Bool}{f l:Ch}{i:Nat}{b:Array Ev}{Q:Ev->On->Prop}(r:A.handled=s_)(d:ItAt g s.heap f l i)(t:SqAt g s.heap l b)(u:b[i]?=s_)
  (v:∀h e,Heap.ExtBut f s.heap h->(∃o,h.get? e=P3 o/\o.cls=.type "StopIteration")->E (.ref e) {s with heap:=h}):wpAny (model prog w) A (kN^.ref f) Q E s:=by
 cases g with
 |true=>exact wpAny_nextOf_list_end r d t u v
 |false=>
  have c:=d;have j:s.heap.IsTuple l b:=t;let#[o,k,z,n]:=id c; let#[B,p,_,C,q]:=j
  refine Db^ki c.typeIs lU^lc lU c.typeIs oH ?_^oA _;show wpAny (model prog w) _ (field (.ref f) 0 >>=_) _ _ s; refine Db (kQ k n (x:=.ref l) rfl ?_)
  refine Db (kQ k n (x:=.int i 0) rfl ?_);refine Db^kH p q ?_; simp only[mE,u]
  refine Db^oi^Db^wpAny_setField k n (by simp) ?_; refine Db ?_; refine Db (m:=firstArgMember _ _)^pM (a:=jg) (by first|rfl|omega) ?_; refine lD ?_^by size_fits
  simp only[raiseNew]; refine Db^wpAny_handled ?_; first|grind|rw[r]
  refine Db^T0^wpAny_throw ?_; exact v _ _ (((n6 ..).extBut.push _).push _) #[_,XV _ rfl,rfl]
structure dO (z TI TO i1 i2 l1 l2:Ch):Prop where
 TIz:TI≠z
 TOz:TO≠z
 i1z:i1≠z
 i2z:i2≠z
 TOi1:TO≠i1
 TOi2:TO≠i2
 i12:i1≠i2
 l1z:l1≠z
 l1TO:l1≠TO
 l1i1:l1≠i1
 l1i2:l1≠i2
 l2z:l2≠z
 l2TO:l2≠TO
 l2i1:l2≠i1
 l2i2:l2≠i2
def WQ{S T:Bool}{z TI TO p q J K:Ch}{k:Nat}{xs ys:Array Ev}{x y a b:Ev}{Q:Ev->On->Prop}(D:dO z TI TO p q J K)
  (L:mF s.heap z TI TO .none) (W:kY s.heap TI (.ref p)^.ref q) (X:kY s.heap TO a b) (h1:ItAt S s.heap p J k) (h2:ItAt T s.heap q K k) (Y:SqAt S s.heap J xs) (Z:SqAt T s.heap K ys) (hx:xs[k]?=P3 x) (hy:ys[k]?=P3 y)
  (hQ:∀r,mF r z TI TO^rawInt s.heap.objs.size->kY r TO x y->ItAt S r p J (k+1)->ItAt T r q K (k+1)->kY r s.heap.objs.size x y->r.objs.size=s.heap.objs.size+1->(∀c o,c≠z->c≠TO->c≠p->c≠q->s.heap.get? c=P3 o->r.get? c=P3 o)->Q (.ref s.heap.objs.size) {s with heap:=r}):
  wpAny (model prog w) A (ll.«zip.__next__» #[[.ref z],[]]) (λa0 s'=>∃v,a0=.done^.ret v/\Q v s') E s:=by
 show wpAny (model prog w) A (field (.ref z) 2 >>=_) _ _ _; refine Db (kQ L rfl (x:=.bool u_) rfl ?_)
 show wpAny (model prog w) A (field (.ref z) 3 >>=_) _ _ _; refine Db (kQ L rfl (x:=.ref TI) rfl ?_); refine Db (kH W rfl ?_)
 show wpAny (model prog w) A (kh^.ref z >>=_) _ _ _; refine Db ?_; unfold kh
 refine Db (kQ L rfl (x:=.none) rfl (T0 ?_)); simp only[if_true]; refine Db^oi ?_; refine Db (kQ L rfl (x:=.ref TO) rfl ?_)
 refine Db^lP L (by simp) λha C d=>?_;replace C:mF ha z TI TO .ellipsis:=C;refine Db ?_; simp only[List.zipIdx_cons,List.zipIdx_nil,lu,List.forIn_nil]
 refine Db^Db^oP ?_; show wpAny (model prog w) _ (kN^.ref p >>=_) _ _ _
 refine Db^GW (h1.eb d.extBut D.i1z) (Y.eb d.extBut D.l1z) hx λhb a1 h=>T0 ?_;have t:kY hb TO a b:=h.extBut _ _ D.TOi1^d.extBut _ _ D.TOz X;refine Db (kH t rfl ?_); refine Db (nW t λhc j i=>?_)
 replace j:kY hc TO x b:=j;refine Db^l8^T0 ?_; refine Db^Db^oP ?_; show wpAny (model prog w) _ (kN^.ref q >>=_) _ _ _
 refine Db^GW (((h2.eb d.extBut D.i2z).eb h.extBut D.i12.symm).eb i.extBut D.TOi2.symm) (((Z.eb d.extBut D.l2z).eb h.extBut D.l2i1).eb i.extBut D.l2TO) hy λhd a2 l=>T0 ?_;have u:kY hd TO x b:=l.extBut _ _ D.TOi2 j;refine Db (kH u rfl ?_); refine Db (nW u λf g m=>?_)
 replace g:kY f TO x y:=g;refine Db^l8^T0^T0 ?_; refine Db (kH g rfl ?_); refine Db^wpAny_newTuple ?_
 have M:f.objs.size=s.heap.objs.size:=by rw[m.1,l.1,i.1,h.1,d.1]
 have N:mF f z TI TO .ellipsis:=m.extBut _ _ D.TOz.symm^l.extBut _ _ D.i2z.symm^i.extBut _ _ D.TOz.symm^h.extBut _ _ D.i1z.symm C;have a3:∀c o,c≠z->c≠TO->c≠p->c≠q->s.heap.get? c=P3 o->f.get? c=P3 o:=λc o F U c3 c4 e=>m.extBut _ _ U^l.extBut _ _ c4^i.extBut _ _ U^h.extBut _ _ c3^d.extBut _ _ F e;have a4:ItAt S f p J (k+1):=((a1.eb i.extBut D.TOi1.symm).eb l.extBut D.i12).eb m.extBut D.TOi1.symm;have a5:ItAt T f q K (k+1):=a2.eb m.extBut D.TOi2.symm;have B:z<f.objs.size:=ZB N;show wpAny (model prog w) _ (mn (.ref z)^.ref f.objs.size >>=_) _ _ _; refine Db ?_; unfold mn
 have a6:mF (f.push {cls:=.type "tuple",data:=.seq #[ x,y]}) z TI TO .ellipsis:=Go _ N;refine Db^lP a6 (by simp) λhg G H=>?_;replace G:mF hg z TI TO^rawInt f.objs.size:=G;refine lP G (by simp) λO n I=>?_;replace n:mF O z TI TO^rawInt f.objs.size:=n;have V:∀c o,c≠z->f.get? c=P3 o->O.get? c=P3 o:=λc o F e=>I.extBut _ _ F^H.extBut _ _ F^Go _ e;have P:kY O f.objs.size x y:=I.extBut _ _ (mH B)^H.extBut _ _ (mH B) (XV _ rfl);have R:O.objs.size=f.objs.size+1:=by rw[I.1,H.1,j7]
 rw[M]at n P R;refine T0 #[_,rfl,?_];show Q (.ref f.objs.size) _; rw[M]
 exact hQ O n (V _ _ D.TOz g) (a4.mv λo e=>V _ o D.i1z e) (a5.mv λo e=>V _ o D.i2z e) P R λc o F U c3 c4 e=>V c o F^a3 c o F U c3 c4 e
def Y7{U V:Bool}{z TI TO p q G H:Ch}{k:Nat}{I J:Array Ev}{a b:Ev}{Q:Fin->On->Prop}(W:A.handled=s_)(D:dO z TI TO p q G H)
  (r:mF s.heap z TI TO .none) (K:kY s.heap TI (.ref p)^.ref q) (L:kY s.heap TO a b) (X:ItAt U s.heap p G k) (h2:ItAt V s.heap q H k) (t:SqAt U s.heap G I) (M:SqAt V s.heap H J) (u:I[k]?=s_\/J[k]?=s_)
  (Y:∀N e,(∀c o,c≠z->c≠TO->c≠p->c≠q->s.heap.get? c=P3 o->N.get? c=P3 o)->(∃o,N.get? e=P3 o/\o.cls=.type "StopIteration")->E (.ref e) {s with heap:=N}):
  wpAny (model prog w) A (ll.«zip.__next__» #[[.ref z],[]]) Q E s:=by
 show wpAny (model prog w) A (field (.ref z) 2 >>=_) _ _ _; refine Db (kQ r rfl (x:=.bool u_) rfl ?_)
 show wpAny (model prog w) A (field (.ref z) 3 >>=_) _ _ _; refine Db (kQ r rfl (x:=.ref TI) rfl ?_); refine Db (kH K rfl ?_)
 show wpAny (model prog w) A (kh^.ref z >>=_) _ _ _; refine Db ?_; unfold kh
 refine Db (kQ r rfl (x:=.none) rfl (T0 ?_)); simp only[if_true]; refine Db^oi ?_; refine Db (kQ r rfl (x:=.ref TO) rfl ?_)
 refine Db^lP r (by simp) λha l d=>?_;replace l:mF ha z TI TO .ellipsis:=l;refine Db ?_; simp only[List.zipIdx_cons,List.zipIdx_nil,lu,List.forIn_nil]
 refine Db^Db^oP ?_; show wpAny (model prog w) _ (kN^.ref p >>=_) _ _ _
 cases O:I[k]? with
 |none=>
  refine Db^IG W (X.eb d.extBut D.i1z) (t.eb d.extBut D.l1z) O λP e f R=>?_;let#[S,g,j]:=R;have v:mF P z TI TO .ellipsis:=f _ _ D.i1z.symm l;have n:e≠z:=λx=>by subst x; rw[v]at g; cases g; simp at j
  exact lP v (by simp) λZ _ i=>Y Z e (λc o y _ T _ x=>i.extBut _ _ y^f _ _ T^d.extBut _ _ y x) #[S,i.extBut _ _ n g,j]
 | some x=>
  have hy:J[k]?=s_:=by
   rcases u with h|h
   .rw[O]at h; cases h
   .exact h
  refine Db^GW (X.eb d.extBut D.i1z) (t.eb d.extBut D.l1z) O λP a1 f=>T0 ?_;have m:kY P TO a b:=f.extBut _ _ D.TOi1^d.extBut _ _ D.TOz L;refine Db (kH m rfl ?_); refine Db^nW m λZ a0 i=>?_
  refine Db^l8^T0 ?_; refine Db^Db^oP ?_; show wpAny (model prog w) _ (kN^.ref q >>=_) _ _ _
  refine Db^IG W (((h2.eb d.extBut D.i2z).eb f.extBut D.i12.symm).eb i.extBut D.TOi2.symm) (((M.eb d.extBut D.l2z).eb f.extBut D.l2i1).eb i.extBut D.l2TO) hy λhd e B R=>?_;let#[S,g,j]:=R;have C:mF hd z TI TO .ellipsis:=B _ _ D.i2z.symm^i.extBut _ _ D.TOz.symm^f.extBut _ _ D.i1z.symm l;have n:e≠z:=λx=>by subst x; rw[C]at g; cases g; simp at j
  exact lP C (by simp) λhf _ F=>Y hf e (λc o y c2 T c4 x=>F.extBut _ _ y^B _ _ c4^i.extBut _ _ c2^f.extBut _ _ T^d.extBut _ _ y x) #[S,F.extBut _ _ n g,j]
end
def cR(a:Bool):String:=match a with
 |true=>"list_iterator"
 |false=>"tuple_iterator"
def Jt(a:Bool)(l:Ch):Obj:={cls:=.type^cR a,data:=.fields #[ .ref l,.int 0 0]}
abbrev zA(a:Bool)(h:i8)(b:Ch):i8:=h.push^Jt a b
abbrev zB(a b:Bool)(h:i8)(c d:Ch):i8:=(zA a h c).push^Jt b d
abbrev zC(a c:Bool)(h:i8)(b d:Ch):i8:=(zB a c h b d).push {cls:=.type "tuple",data:=.seq #[ .ref h.objs.size,.ref (zA a h b).objs.size]}
abbrev zD(a b:Bool)(h:i8)(c d:Ch):i8:=(zC a b h c d).push {cls:=.type "tuple",data:=.seq #[ .none,.none]}
abbrev zE(a b:Bool)(h:i8)(c d:Ch):i8:=(zD a b h c d).push {cls:=.type "zip",data:=.fields #[ .none,.bool u_,.bool u_,.ref (zB a b h c d).objs.size,.ref (zC a b h c d).objs.size]}
def Zb(zX zW:Bool)(l1 l2:Ch)(xs ys:Array Ev):Meets (ll.«zip.__new__» #[[.type "zip",.ref l1,.ref l2],[]])
  (λ_ R s=>SqAt zX s.heap l1 xs/\SqAt zW s.heap l2 ys/\R (.ok^.ret^.ref (zD zX zW s.heap l1 l2).objs.size) {s with heap:=zE zX zW s.heap l1 l2}):=
 .of_wp λprog w A R s h=>by
  let#[hp,g,d,tk,os]:=s; let#[hl1,hl2,h]:=h
  have hsub:=sub_zip;have hL2:SqAt zW (zA zX hp l1) l2 ys:=hl2.mv λo e=>Go _ e;cases zX with
  | true=>
   have g1:pN (l9 #[hp,g,d,tk,os]) l1 xs:=hl1;cases zW with
   |true=>
    have g2:pN (l9 #[hp.push {cls:=.type "list_iterator",data:=.fields #[ .ref l1,.int 0 0]},g,d,tk,os]) l2 ys:=hL2
    wp_walk using kO g1,kO g2
    exact#[_,rfl,h]
   |false=>
    have g2:o5 (l9 #[hp.push {cls:=.type "list_iterator",data:=.fields #[ .ref l1,.int 0 0]},g,d,tk,os]) l2 ys:=hL2
    wp_walk using kO g1,jz g2
    exact#[_,rfl,h]
  | false=>
   have g1:o5 (l9 #[hp,g,d,tk,os]) l1 xs:=hl1;cases zW with
   |true=>
    have g2:pN (l9 #[hp.push {cls:=.type "tuple_iterator",data:=.fields #[ .ref l1,.int 0 0]},g,d,tk,os]) l2 ys:=hL2
    wp_walk using jz g1,kO g2
    exact#[_,rfl,h]
   |false=>
    have g2:o5 (l9 #[hp.push {cls:=.type "tuple_iterator",data:=.fields #[ .ref l1,.int 0 0]},g,d,tk,os]) l2 ys:=hL2
    wp_walk using jz g1,jz g2
    exact#[_,rfl,h]
def Lz(a:Bool)(h:i8)(l:Ch):ItAt a (h.push^Jt a l) h.objs.size l 0:=by
 cases a with
 |true=>exact#[_,XV _ rfl,rfl,rfl]
 |false=>exact#[_,XV _ rfl,rfl,rfl]
section
variable {prog:Program}{w:World}{A:Around}{E:Value->Shared->Prop}{s:Shared}
def PU{b f:Bool}{a d:Ch}{t u:Array Ev}{Q:Ev->On->Prop}(i:SqAt b s.heap a t)(j:SqAt f s.heap d u)
  (h:∀g,mF g (s.heap.objs.size+4) (s.heap.objs.size+2) (s.heap.objs.size+3) .none->kY g (s.heap.objs.size+2) (.ref s.heap.objs.size)^.ref (s.heap.objs.size+1)->kY g (s.heap.objs.size+3) .none .none->
   ItAt b g s.heap.objs.size a 0->ItAt f g (s.heap.objs.size+1) d 0->(∀c o,s.heap.get? c=P3 o->g.get? c=P3 o)->Q (.ref (s.heap.objs.size+4)) {s with heap:=g}):
  wpAny (model prog w) A (call (.type "zip") [.ref a,.ref d]) Q E s:=by
 refine callType_new F.called_zip (by cbv) (F.typeCall_zip_2 _ _) (F.newCall_zip_2 _ _) (λk=>F.args_object_init_3 k _ _) F.entry_zip_new (Zb b f a d t u) #[i,j,?_];have l:(zA b s.heap a).objs.size=s.heap.objs.size+1:=j7 ..;have m:(zB b f s.heap a d).objs.size=s.heap.objs.size+2:=by rw[j7,l]
 have n:(zC b f s.heap a d).objs.size=s.heap.objs.size+3:=by rw[j7,m]
 have p:(zD b f s.heap a d).objs.size=s.heap.objs.size+4:=by rw[j7,n]
 have q:(zE b f s.heap a d).get? (zD b f s.heap a d).objs.size=P3 _:=XV _ rfl;have v:(zE b f s.heap a d).get? (zC b f s.heap a d).objs.size=P3 _:=Go _ (XV _ rfl);have x:(zE b f s.heap a d).get? (zB b f s.heap a d).objs.size=P3 _:=Go _^Go _ (XV _ rfl);have y:ItAt f (zE b f s.heap a d) (zA b s.heap a).objs.size d 0:=(Lz f (zA b s.heap a) d).mv λo e=>Go _^Go _^Go _ e;have z:ItAt b (zE b f s.heap a d) s.heap.objs.size a 0:=(Lz b s.heap a).mv λo e=>Go _^Go _^Go _^Go _ e;rw[p]at q;rw[n]at v;rw[m]at x;rw[l]at y;have r:=h (zE b f s.heap a d) (by rw[mF,q,m,n]) (by rw[kY,x,l]) v z y λc o e=>Go _^Go _^Go _^Go _^Go _ e;exists#[_,by rw[p]; exact q,rfl];rw[p];exact r
def NB{i j:Bool}{z TI TO e f g h:Ch}{k:Nat}{q r:Array Ev}{x y a b:Ev}{Q:w_ Ev->On->Prop}(D:dO z TI TO e f g h)
  (t:mF s.heap z TI TO .none) (l:kY s.heap TI (.ref e)^.ref f) (m:kY s.heap TO a b) (v:ItAt i s.heap e g k) (B:ItAt j s.heap f h k) (n:SqAt i s.heap g q) (p:SqAt j s.heap h r) (C:q[k]?=P3 x) (G:r[k]?=P3 y)
  (H:∀d,mF d z TI TO^rawInt s.heap.objs.size->kY d TO x y->ItAt i d e g (k+1)->ItAt j d f h (k+1)->kY d s.heap.objs.size x y->d.objs.size=s.heap.objs.size+1->(∀c o,c≠z->c≠TO->c≠e->c≠f->s.heap.get? c=P3 o->d.get? c=P3 o)->Q (P3^.ref s.heap.objs.size) {s with heap:=d}):
  wpAny (model prog w) A (pyNext^.ref z) Q E s:=by
 have u:s.TypeIs (.ref z) "zip":=#[_,t,rfl];unfold pyNext
 exact Db (wpAny_attempt (ki (name:=lZ "__next__") u nX (lc nX u F.entry_zip_next
  (WQ D t l m v B n p C G λd I J K L M N O=>T0^H d I J K L M N O) (F.args_zip_next_1 _))))
def O0{r t:Bool}{z TI TO g h i j:Ch}{k:Nat}{u v:Array Ev}{a b:Ev}{Q:w_ Ev->On->Prop}(B:A.handled=s_)(D:dO z TI TO g h i j)
  (x:mF s.heap z TI TO .none) (l:kY s.heap TI (.ref g)^.ref h) (m:kY s.heap TO a b) (C:ItAt r s.heap g i k) (G:ItAt t s.heap h j k) (n:SqAt r s.heap i u) (p:SqAt t s.heap j v) (f:u[k]?=s_\/v[k]?=s_)
  (H:∀q,(∀c o,c≠z->c≠TO->c≠g->c≠h->s.heap.get? c=P3 o->q.get? c=P3 o)->Q s_ {s with heap:=q}):wpAny (model prog w) A (pyNext^.ref z) Q E s:=by
 have y:s.TypeIs (.ref z) "zip":=#[_,x,rfl];unfold pyNext;refine Db^wpAny_attempt^ki (name:=lZ "__next__") y nX^lc nX y F.entry_zip_next (Y7 B D x l m C G n p f λq e I J=>?_)^F.args_zip_next_1 _;let#[o,K,L]:=J;exact Db^wpAny_isInstance (T:="StopIteration") (b:=t_) #[o,K,L] isSubtype_stop^T0^H _ I
end
section
variable {X:Cx}{zH:v_ (Addr×Obj)}{Z:L2.St}{H:Hp}{s:Shared}{h':Heap}
def Inv.turnedL{t':Nat}{ch:v_ Ch}(I:Inv X zH Z H s)(d:∀b∈ch,Gg X zH H b)(k:∀b o,b∉ch->s.heap.get? b=P3 o->h'.get? b=P3 o):Inv X zH Z H {s with heap:=h',toks:=t'}:=by
 have f:∀b u,H b=P3 u->b∉ch:=λb u e z=>by rw[(d b z).1]at e; cases e
 refine I.step (λb g=>?_) (λb o _ _ a e _=>k b o a e) (λb o _ _ a e _=>#[_,k b o a e]) (λ_ _ _ _ n=>n) (λb o a e=>#[o,k b o a e]) (λ_ _ e=>e) (λ_ _ _ e=>e) (λb y e=>#[#[],by rw[e]; simp]) (λm h=>?_) (λb u e=>(I.hok b u e).stay (λc v a q=>k c v (a.elim (λz=>by grind) λz=>f c _ z) q) (λ_ q=>q) λ_ _ q=>q) I.bare
 .let#[A,i,B,j,l,p]:=d b g
  exact#[j,i,l,p]
 .let#[o,t,w,x,r]:=h
  exact#[o,t,w,k _ o (λz=>(d _ z).2.1 rfl) x,r]
def Inv.turnLaid{t':Nat}{ch:v_ Ch}{a:Ch}{o:HO}(I:Inv X zH Z H s)(h:∀b∈ch,Gg X zH H b)(k:∀b o,b∉ch->s.heap.get? b=P3 o->h'.get? b=P3 o)(j:s.heap.objs.size<=a)(new:ObjOk X.prog X.w (BQ H a o) h' a o):
  Inv X zH Z (BQ H a o) {s with heap:=h',toks:=t'}:=by
 have i:∀b u,H b=P3 u->b∉ch:=λb u e z=>by rw[(h b z).1]at e; cases e
 have l:H a=s_:=I.hok.fresh j;have f:∀b u,H b=P3 u->BQ H a o b=P3 u:=λb u e=>by rw[Ah^BB e l]; exact e
 refine I.step (g':=s.gens) (d':=s.drawn) (ch:=ch) (λb g=>?_) (λb o _ _ d e _=>k b o d e) (λb o _ _ d e _=>#[o.slots,k b o d e]) (λb u _ e n=>?_) (λb o d e=>#[o,k b o d e]) (λb p e=>f _ _ e) (λb o u e=>f _ _ e) (λb F e=>#[#[],by rw[f _ _ e]; simp]) (λm t=>?_) (λb u e=>?_) I.bare
 .let#[G,x,J,y,A,B]:=h b g
  exact#[y,x,A,B]
 .rw[Ah^i_^jU (ZB e) j]; exact n
 .let#[o,C,D,E,r]:=t
  exact#[o,C,D,k _ o (λz=>(h _ z).2.1 rfl) E,r]
 .by_cases g:b=a
  .subst g; rw[An]at e; cases e; exact new
  .rw[Ah g]at e
   exact(I.hok b u e).stay (λc v d q=>k c v (d.elim (λz=>by grind) λz=>i c _ z) q) (λc q=>f _ _ q) λc p q=>f _ _ q
end
def SqK(c:Bool)(K:Frag)(H:Hp)(a:Ch)(b:v_ V):Prop:=match c with
 |true=>SqL K H a b
 |false=>SqT K H a b
def SqK.at{c:Bool}{X:Cx}{e:v_ (Ch×Obj)}{Z:L2.St}{H:Hp}{s:On}{a:Ch}{d:v_ V}(I:Inv X e Z H s)(h:SqK c X.K H a d):∃b:v_ Ev,Vals d b/\SqAt c s.heap a b.toArray:=by
 cases c with
 |true=>let#[b,r,f,_]:=I.list h; exact#[_,r,f.isList]
 |false=>let#[b,r,p,_]:=I.tuple h; exact#[_,r,p]
def dQ (K:Frag) (e f:Bool) (a b:Ch) (c d:v_ V):It:=
  #[λi H=>SqK e K H a c ∧ SqK f K H b d ∧ i < c.length ∧ i < d.length,λi H x g=>∃ T p q,x=.ref T ∧ H T=s_ ∧ g=BQ H T^.tup [p,q] ∧ c[i]?=P3 p ∧ d[i]?=P3 q,
   λi H=>SqK e K H a c ∧ SqK f K H b d ∧ (c.length ≤ i ∨ d.length ≤ i)]
structure fi (zX zW:Bool) (z TI TO i1 i2 a b:Ch) (k:Nat) (h:i8):Prop where
 z:mF h z TI TO .none
 ti:kY h TI (.ref i1) (.ref i2)
 to:∃a b,kY h TO a b
 i1:ItAt zX h i1 a k
 i2:ItAt zW h i2 b k
def Wf{P:jK}{w:jQ}{K:Frag}{es:v_ jJ}{j:Nat}{pos:Pos}(zX zW:Bool)(z TI TO g l a b:Ch)(xs ys:v_ V)(D:dO z TI TO g l a b)(B:TI∉[z,TO,g,l]):
  Turn P w K (.Tuple es j pos) (dQ K zX zW a b xs ys) [z,TI,TO,g,l] z (fi zX zW z TI TO g l a b) where
 mem:=by simp
 obj:=λi h d c f=>by
  simp only[UF,ip,or_false]at f
  rcases f with rfl|rfl|rfl|rfl|rfl
  .exact#[_,d.z,λv q=>by cases q]
  .exact#[_,d.ti,λv q=>by cases q]
  .let#[a,b,e]:=d.to
   exact#[_,e,λv q=>by cases q]
  .exact d.i1.lies
  .exact d.i2.lies
 keep:=λi h h' d k=>by
  let#[p,q,e]:=d.to;exact#[k z (by simp) _ d.z,k TI (by simp) _ d.ti,#[p,q,k TO (by simp) _ e],d.i1.mv λo e=>k g (by simp) o e,d.i2.mv λo e=>k l (by simp) o e]
 item:=by
  intro X C F G f i zH s Z H E I r d J;subst C F G;let#[L,M,m,hj]:=J;let#[us,N,O]:=L.at I;let#[ws,R,S]:=M.at I;let#[u,hu,ru]:=N.get^No m;let#[v,hv,rv]:=R.get^No hj;let#[p,q,e]:=d.to;refine NB D d.z d.ti e d.i1 d.i2 O S (x:=u) (y:=v) (by simpa using hu) (by simpa using hv) λh' a1 a2 a3 a4 a5 a6 a7=>#[_,rfl,?_];refine wpAny_letOwnedTupleGo_zip a1 λT b1 n=>?_;have hT:H s.heap.objs.size=s_:=I.hok.fresh^Rs _
  have t:∀c o,c∉[z,TO,g,l]->s.heap.get? c=P3 o->T.get? c=P3 o:=λc o f e=>by
   simp only[UF,ip,or_false,not_or]at f;exact n.extBut _ _ f.1^a7 c o f.1 f.2.1 f.2.2.1 f.2.2.2 e
  have I2:Inv X zH Z (BQ H s.heap.objs.size^.tup [xs[i],ys[i]]) {s with heap:=T}:=by
   refine I.turnLaid (t':=s.toks) (ch:=[z,TO,g,l]) (λc f=>r c ?_) t (Rs _) ?_
   .simp only[UF,ip,or_false]at f ⊢
    rcases f with rfl|rfl|rfl|rfl <;>simp
   .have nT:s.heap.objs.size≠z:=mH^ZB d.z
    exact#[by show 2<=sizeLine; decide,[u,v],.cons ru^.cons rv .nil,#[_,n.extBut _ _ nT a5,rfl,_,rfl,rfl,rfl]]
  have U:kY T TI (.ref g)^.ref l:=t _ _ B d.ti;refine#[.ref s.heap.objs.size,_,I2,rfl,#[_,_,_,rfl,hT,rfl,No m,No hj],#[b1,U,#[_,_,n.extBut _ _ D.TOz a2],a3.eb n.extBut D.i1z,a4.eb n.extBut D.i2z],λc f=>?_];have W:H c=s_:=(r c f).1
  have Y:c≠s.heap.objs.size:=λz=>by
   obtain⟨o,ho,_⟩:∃o,s.heap.get? c=P3 o/\True:=by
    simp only[UF,ip,or_false]at f
    rcases f with rfl|rfl|rfl|rfl|rfl
    .exact#[_,d.z,trivial]
    .exact#[_,d.ti,trivial]
    .exact#[_,e,trivial]
    .let#[o,q,_]:=d.i1.lies; exact#[o,q,trivial]
    .let#[o,q,_]:=d.i2.lies; exact#[o,q,trivial]
   rw[z]at ho;exact jr _^ZB ho
  rw[Ah Y]; exact W
 done:=by
  intro X C F G f i zH s Z H E I r d J;subst C F G;let#[L,M,m]:=J;let#[us,N,O]:=L.at I;let#[ws,R,S]:=M.at I;let#[p,q,e]:=d.to;have l1:=N.length;have l2:=R.length;refine O0 (I.ok.hd f) D d.z d.ti e d.i1 d.i2 O S (m.imp (λm=>by simp; omega) λm=>by simp; omega) λh' t=>#[rfl,?_];refine I.turnedL (t':=s.toks) (ch:=[z,TO,g,l]) (λc f=>r c ?_) λc o f e=>?_
  .simp only[UF,ip,or_false]at f ⊢
   rcases f with rfl|rfl|rfl|rfl <;>simp
  .simp only[UF,ip,or_false,not_or]at f
   exact t c o f.1 f.2.1 f.2.2.1 f.2.2.2 e
 self:=λA i s Q E d h=>wpAny_pyIter_zip d.z h
section
variable {X:Cx}
def a9(n a b:Nat)(c:a<n)(d:b<n):dO (n+4) (n+2) (n+3) n (n+1) a b:=by
 constructor <;>(grind)
def az(n:Nat):(n+2)∉[n+4,n+3,n,n+1]:=by
 grind
def a_(n c:Nat)(h:c∈[n+4,n+2,n+3,n,n+1]):n<=c:=by
 grind
def gm(K:Frag)(h:TA):TI:=λZ H R=>h Z H λi c=>∃d e a b f g,i=[.ref a,.ref b]/\SqK d K c a f/\SqK e K c b g/\R (dQ K d e a b f g) c
def XW{m f:jJ}{G:v_ jJ}{j:Nat}{g:Pos}{y:TA}{p pos:Pos}(J:Gl X "zip")(L:X.mg "zip"=s_)(M:PA X [m,f] y)(N:starEach [m,f] X.env=[(u_,eval m X.env),(u_,eval f X.env)]:=by rfl)(i:starEach [f] X.env=[(u_,eval f X.env)]:=by rfl):
  PI X (.Tuple G j g) (.Call (.Name "zip" p) [m,f] [] pos) (gm X.K y):=by
 intro O s Z H R I h;refine Call_ (Dl I J L boot_zip^j_ (thn (M pos O s Z H _ I h) λP d #[vs,Q,k,S,n]=>?_) (by rw[N,i])^by rw[i]; rfl);let#[z,A,a,b,B,C,e,T,U,q]:=n;subst e;let#[u,v,rfl,V,W]:=vals2 S;cases V;cases W;let#[P,Y,n]:=T.at k;let#[ws,a0,E]:=U.at k;have la:a<d.heap.objs.size:=by let#[o,e]:=n.lies; exact ZB e
 have lb:b<d.heap.objs.size:=by let#[o,e]:=E.lies; exact ZB e
 refine PU n E λh' F r t w x hk=>?_;refine wpAny_pyIter_zip F ?_;have D:=a9 d.heap.objs.size a b la lb;refine#[d.heap.objs.size+4,[d.heap.objs.size+4,d.heap.objs.size+2,d.heap.objs.size+3,d.heap.objs.size,d.heap.objs.size+1],_,dQ X.K z A a b B C,Q,rfl,k.kept (t':=d.toks) hk,Wf z A _ _ _ _ _ a b B C D^az d.heap.objs.size,#[F,r,#[_,_,t],w,x],λc hc=>?_,q];have l:d.heap.objs.size<=c:=a_ d.heap.objs.size c hc;exact k.fpOk l^k.hok.fresh l
end
end L2
namespace Dp
open L2
def DM(a b:v_ D):v_ D:=kq (λd e=>.tup [d,e]) a b
section
variable {K:Frag}
def OX{U g M:Ch->Prop}{H:Hp}{d:D}{v:V}{l:v_ D}(h:AtT K g M H d v)(e:E5 d=P3 l)(m:∀a,U a->g a)(s:∀a,g a->M a):∃p a c,v=.ref a/\Ats K M H l c/\∀i f,Pres M H i f->Ext U H f->SqK p K f a c:=by
 cases d with
 |lst q=>
  cases e;let#[a,c,j,n,b,k]:=h;refine#[t_,a,c,j,k,λi f _ ex=>?_]
  rcases b with b|⟨o,b⟩
  .exact .inl^.inl^ex.keep b λz=>n^m a z
  .exact .inl^.inr #[o,ex.keep b λz=>n^m a z]
 |tup q=>
  cases e;let#[a,c,j,b,k]:=h;exact#[u_,a,c,j,k,λi f r _=>(b.pres r).sq]
 |_=>cases e
def SE{M:Ch->Prop}{H:Hp}{d:D}{v:V}{l:v_ D}(h:At K M H d v)(e:E5 d=P3 l):∃m a b,v=.ref a/\Ats K M H l b/\∀f c,Pres M H f c->SqK m K c a b:=by
 cases d with
 |lst n=>
  cases e;let#[a,b,g,i,j]:=h;exact#[t_,a,b,g,j,λf c k=>(i.pres k).sq]
 |tup n=>
  cases e;let#[a,b,g,i,j]:=h;exact#[u_,a,b,g,j,λf c k=>(i.pres k).sq]
 |_=>cases e
def Kt{M:Ch->Prop}{H:Hp}{l m:Bool}{a b:Ch}{f g:v_ V}{h j:v_ D}(v:Ats K M H h f)(w:Ats K M H j g){i:Nat}{s:Ch->Prop}{c:Hp}(z:Pres M H s c)(A:SqK l K c a f)(B:SqK m K c b g)(t:∀a,s a->∃o,c a=P3 o):
  (∀d,(DM h j)[i]?=P3 d->(dQ K l m a b f g).go i c/\∀x n,(dQ K l m a b f g).yld i c x n->Grow c n/\At K s n d x)/\((DM h j).length<=i->(dQ K l m a b f g).stop i c):=by
 have Q:=v.length;have R:=w.length;refine#[λd e=>?_,λG=>#[A,B,?_]]
 .unfold DM at e
  rw[nH]at e;cases k:h[i]? with
  |none=>rw[k]at e; simp at e
  | some I=>
   cases r:j[i]? with
   |none=>rw[k,r]at e; simp at e
   |some J=>
    rw[k,r]at e;have u:D.tup [I,J]=d:=iw e;have S:i<h.length:=(Uf.mp k).1;have U:i<j.length:=(Uf.mp r).1;refine#[#[A,B,by lk,by lk],λx n y=>?_];let#[T,p,q,rfl,C,rfl,L,N]:=y;let#[W,E,O]:=(v.pres z).get k;let#[X,F,P]:=(w.pres z).get r;rw[L]at E;rw[N]at F;cases E;cases F;subst u;exact#[BE C,Do t C #[p,[q],rfl,O,q,[],rfl,P,rfl]]
 .unfold DM at G
  grind
end
section
variable {X:Cx}{e1 e2:Expr}{es:v_ Expr}{j:Nat}{tpos p pos:Pos}{ws:EW}
def Mj(ws:EW):EW:=λn c P=>ws n c λf g=>∃d e a b,f=[d,e]/\E5 d=P3 a/\E5 e=P3 b/\P (DM a b) g
def Ur(z:Gl X "zip")(A:X.mg "zip"=s_)(B:aF X [e1,e2] ws)(D:starEach [e1,e2] X.env=[(u_,eval e1 X.env),(u_,eval e2 X.env)]:=by rfl)(c:starEach [e2] X.env=[(u_,eval e2 X.env)]:=by rfl):
  dJ X (.Tuple es j tpos) (.Call (.Name "zip" p) [e1,e2] [] pos) (Mj ws):=by
 let#[t,E,F]:=B;refine#[_,XW z A E D c,λC M H n G Z P W R w q=>?_];refine F C M H n G Z _ _ R w λY f ds I m o J p=>?_;let#[d,e,xs,ys,rfl,K,L,p]:=p;cases J with
 | cons r g=>
  cases g with
  |cons N g=>
   cases g;have s:=R.step m o;let#[O,a,Q,rfl,S,u]:=OX (U:=C.U) r K R.uV s.vM;let#[T,b,h,rfl,V,v]:=OX (U:=C.U) N L R.uV s.vM;refine#[O,T,a,b,Q,h,rfl,u M f (Pres.refl _ _)^Ext.refl _ _,v M f (Pres.refl _ _)^Ext.refl _ _,q _ f _ I m o (λi x y k ex l=>Kt S V k (u x y k ex) (v x y k ex) l) p]
def PL(x:Gl X "zip")(y:X.mg "zip"=s_)(z:aw X [e1,e2] ws)(A:starEach [e1,e2] X.env=[(u_,eval e1 X.env),(u_,eval e2 X.env)]:=by rfl)(c:starEach [e2] X.env=[(u_,eval e2 X.env)]:=by rfl):
  DI X (.Tuple es j tpos) (.Call (.Name "zip" p) [e1,e2] [] pos) (Mj ws):=by
 let#[t,B,D]:=z;refine#[_,XW x y B A c,λC M H n E Z P W R w q=>?_];refine D C M H n E Z _ _ R w λY f ds F G I g p=>?_;let#[d,e,xs,ys,rfl,J,K,p]:=p;let#[v,r,rfl,g,v',L,rfl,N,O]:=g;cases(show L=[]from O);let#[Q,a,S,rfl,T,m]:=SE g J;let#[U,b,h,rfl,V,o]:=SE N K;exact#[Q,U,a,b,S,h,rfl,m M f^Pres.refl _ _,o M f^Pres.refl _ _,q _ f _ F G I (λi s u k l=>Kt T V k (m s u k) (o s u k) l) p]
def gk:D->w_ Key
 |.int i=>P3^.inl i
 |.str x=>P3^.inr x
 |_=>s_
def Jr:v_ D->w_^v_ Key
 |[]=>P3 []
 |d::a=>match gk d,Jr a with
  |some k,P3 b=>P3 (k::b)
  |_,_=>s_
theorem IA{K:Frag}{M:Ch->Prop}{H:Hp}:∀{c:v_ D}{a:v_ V}{b:v_ Key},Jr c=P3 b->Ats K M H c a->a=b.map kOf
 |[],a,b,e,h=>by cases e; exact h
 | d::c,a,b,e,h=>by
  let#[v,r,e1,l,m]:=h;unfold Jr at e
  split at e
  .rename_i k n f g
   cases e;rw[e1,IA g m]
   congr 1
   cases d with
   |int i=>cases f; exact l
   |str x=>cases f; exact l.1
   |_=>cases f
  .cases e
def Gc(d e:D)(P:D->Prop):Prop:=match d,e with
 |.int i,.int j=>P^.bl (decide (i<j))
 |.str i,.str j=>P^.bl (decide (i.cps.toList<j.cps.toList))
 |.tup c,.tup f=>∃a b,Jr c=P3 a/\Jr f=P3 b/\Cb a b=t_/\P^.bl^Gb a b
 |_,_=>False
def eE(K:Frag):R2:=λx y H Q=>bb x y H Q\/eC K x y H Q
def Fo{k:Nat}(a:Room k X.A):OpR X (compareOp .Lt)^eE X.K:=op_ltU.or^bw a.units0
def J4:GI X.K .sh (eE X.K) Gc:=λU M H d e x y P Q c h f g w q=>by
 unfold Gc at w
 split at w
 .exact .inl^ao U M H _ _ x y P Q c h f g w q
 .exact .inl^ao U M H _ _ x y P Q c h f g w q
 .let#[i,k,l,m,n,w]:=w
  let#[a,u,rfl,o,r]:=f.tup;let#[b,v,rfl,s,t]:=g.tup;have e1:=IA l r;have e2:=IA m t;subst e1 e2;exact .inr #[a,b,i,k,rfl,rfl,o.sq,s.sq,n,q _ H (.bl _) .refl rfl w]
 grind
end
end Dp
namespace L2
section
variable {prog:Program}{w:World}{A:Around}{E:Value->Shared->Prop}{s:Shared}
def QC{t f:Ch}{a:Array Ev}{k l:Ev}{b e:w_ Int}{Q:Ev->On->Prop}(c:IsTup s.heap t a)(n:s.heap.IsSliceOf f k l .none)(p:nP k b)(q:nP l e)
  (o:HT.sIx a.size 0 b=0/\HT.sIx a.size a.size e=a.size) (h:Q (.ref t) s):wpAny (model prog w) A (getItem (.ref t)^.ref f) Q E s:=by
 let#[r,g,i,u]:=id n;have j:s.TypeIs (.ref f) "slice":=#[r,g,i];unfold getItem
 (try with_reducible refine jb ?_); (first|refine Db^T0 ?_|skip)
 refine Db^wpAny_sequenceKey c.typeIs (by cbv)^Db^ki (name:=lZ "__getitem__") c.typeIs jw^lc jw c.typeIs entry_tuple_getitem ?_^args_tuple_getitem _ _;show wpAny (model prog w) _ (oO^.ref t >>=_) _ _ s;refine Db^tupleItemsOf_ c^Db^mI j ?_; rw[if_pos^by cbv]
 refine Db^HT.sliceApplied_gen n p q ?_;have d:(((HT.sIx a.size 0 b:Nat):Int)==0&&(1:Int)==1&&(HT.sIx a.size a.size e - HT.sIx a.size 0 b)==a.size)=t_:=by rw[o.1,o.2]; simp
 show wpAny (model prog w) _ (if(((HT.sIx a.size 0 b:Nat):Int)==0&&(1:Int)==1&&(HT.sIx a.size a.size e - HT.sIx a.size 0 b)==a.size)=t_ then _ else _) _ _ s;rw[if_pos d];refine Db (m:=oQ _) ?_;unfold oQ;refine Db^mI c.typeIs^T0 ?_;show wpAny (model prog w) _ (if((lq "tuple"==lq "tuple")=t_)then _ else _) _ _ s;rw[if_pos^by cbv]
 first
  |grind
  |exact Db^oi^T0 #[_,rfl,T0 h]
  |grind
end
section
variable {X:Cx}
def aO(K:Frag):V->w_ Int->w_ Int->Hp->VK->Prop:=λx c d H Q=>∃a b,x=.ref a/\SqT K H a b/\(HT.sIx b.length 0 c=0/\HT.sIx b.length b.length d=b.length)/\Q (.ref a) H
def ZG:SlR X^aO X.K:=by
 intro k s Z H x v l m n o p Q I d e f g h;let#[a,t,rfl,i,u,q]:=h;cases d;let#[j,r,b,w]:=I.tuple i;have c:=r.length.symm;exact#[_,_,jw.lookup,b.typeIs,QC b e f g (by grind) #[.ref a,H,I,rfl,q]]
end
section
variable {X:Cx}
def XE(K:Frag):R2:=λx y H Q=>∃a b c,x=.ref a/\y=.ref b/\SqT K H a []/\SqT K H b c/\Q (.ref b) H
def Xh:OpR X (binaryOp .Add)^XE X.K:=by
 intro M s Z H x y v u Q I l m h;let#[a,b,N,rfl,rfl,o,p,q]:=h;cases l;cases m;let#[r,t,w,_]:=I.tuple o;let#[g,O,z,_]:=I.tuple p;cases t;let#[#[A,B,i,C],j,D,n,E]:=id w;let#[#[k,G,d,J],c,e,L,f]:=id z;subst D E e f;exact concat_meets #[_,j,rfl] #[_,c,rfl] ou seq_tuple_add PySem.F.slot_tuple_add PySem.F.entry_tuple_add (PySem.F.args_tuple_add_2 _ _) (tuple_addW0 a b _ _ n L B _ C _^by simp) #[j,c,#[.ref b,H,I,rfl,q]]
def bI(b:Bool):Int:=if b=t_ then 1 else 0
def f_(g:Int->Int->Int):R2:=λx y H Q=>∃k j,x=.bl k/\y=.int j/\Q (.int^g (bI k) j) H
def iG(g:Int->Int->Int):R2:=λx y H Q=>∃i k,x=.int i/\y=.bl k/\Q (.int^g i^bI k) H
def op_add_bi:OpR X (binaryOp .Add) (f_ λi j=>i+j):=by
 intro c s Z H x y v u Q I a b h;let#[k,j,rfl,rfl,q]:=h;cases a;let#[t,rfl]:=b;exact PySem.IntBool.add_bool_int #[.int _,H,I.tok _,#[_,rfl],q]
def op_sub_bi:OpR X (binaryOp .Sub) (f_ λi j=>i - j):=by
 intro c s Z H x y v u Q I a b h;let#[k,j,rfl,rfl,q]:=h;cases a;let#[t,rfl]:=b;exact PySem.IntBool.sub_bool_int #[.int _,H,I.tok _,#[_,rfl],q]
def VT:OpR X (binaryOp .Sub) (iG λi j=>i - j):=by
 intro c s Z H x y v u Q I a b h;let#[i,k,rfl,rfl,q]:=h;let#[t,rfl]:=a;cases b;exact PySem.IntBool.sub_int_bool #[.int _,H,I.tok _,#[_,rfl],q]
def eN(c:Bool):R2:=λx y H Q=>∃a b,x=.bl a/\y=.bl b/\Q (.bl (if c then !(a==b)else a==b)) H
def bx:OpR X (compareOp .Is)^eN u_:=by
 intro e s Z H x y v u Q I c d h;let#[a,b,rfl,rfl,q]:=h;cases c;cases d;exact is_bool #[.bl _,H,I,rfl,q]
end
end L2
namespace Dp
open L2
section
variable {K:Frag}{X:Cx}
def Br(d e:D)(P:D->Prop):Prop:=match d,e with
 |.int i,.int j=>P^.int (i+j)
 |.bl k,.int j=>P^.int (bI k+j)
 |.str i,.str j=>i.length+j.length<=sizeLine/\P^.str (i++j)
 |.tup i,.tup j=>i.length+j.length<=sizeLine/\P^.tup (i++j)
 |.lst i,.lst j=>i.length+j.length<=sizeLine/\P^.lst (i++j)
 |_,_=>False
def aV(K:Frag):R2:=λx y H Q=>XH K x y H Q\/(f_ λi j=>i+j) x y H Q\/XE K x y H Q
def Bp:OpR X (binaryOp .Add)^aV X.K:=op_addU.or^op_add_bi.or Xh
def CJ:GI X.K .sh (aV X.K) Br:=λU M H d e x y P Q c h f g w q=>by
 unfold Br at w
 split at w
 .exact .inl^Pc U M H (.int _) (.int _) x y P Q c h f g w q
 .rename_i k j
  exact .inr^.inl #[k,j,f,g,q _ H (.int _) .refl rfl w]
 .exact .inl^Pc U M H _ (.str _) x y P Q c h f g w q
 .rename_i i j
  cases i with
  |nil=>
   let#[a,r,rfl,n,o]:=f.tup;let#[b,l,rfl,m,p]:=g.tup;cases(o);exact .inr^.inr #[a,b,l,rfl,rfl,n.sq,m.sq,q _ H (.tup j) .refl #[b,l,rfl,m,p]^by grind]
  |cons s i=>exact .inl^Pc U M H _ (.tup j) x y P Q c h f g #[(by grind),w] q
 .exact .inl^Pc U M H (.lst _) (.lst _) x y P Q c h f g w q
 grind
def CV(d e:D)(P:D->Prop):Prop:=match d,e with
 |.int i,.int j=>P^.int (i - j)
 |.bl k,.int j=>P^.int (bI k - j)
 |.int i,.bl k=>P^.int (i - bI k)
 |_,_=>False
def aM:R2:=λx y H Q=>(Jm λi j=>.int (i - j)) x y H Q\/(f_ λi j=>i - j) x y H Q\/(iG λi j=>i - j) x y H Q
def B9:OpR X (binaryOp .Sub) aM:=op_sub.or^op_sub_bi.or VT
def Ce:GI K .sh aM CV:=λU M H d e x y P Q a f b c w q=>by
 unfold CV at w
 split at w
 .exact .inl^Ys U M H _ _ x y P Q a f b c w q
 .rename_i k j
  exact .inr^.inl #[k,j,b,c,q _ H (.int _) .refl rfl w]
 .rename_i i k
  exact .inr^.inr #[i,k,b,c,q _ H (.int _) .refl rfl w]
 grind
def cX(c:Bool)(d e:D)(P:D->Prop):Prop:=match d,e with
 |.bl a,.bl b=>P^.bl (if c then !(a==b)else a==b)
 |_,_=>False
def fe{c:Bool}:GI K .sh (eN c)^cX c:=λU M H d e x y P Q f i g h w q=>by
 unfold cX at w
 split at w
 .rename_i a b
  exact#[a,b,g,h,q _ H (.bl _) .refl rfl w]
 grind
def L9(d:D)(a b:w_ Int)(P:D->Prop):Prop:=match d with
 |.str z=>P^.str^Txt.slice z a b
 |.lst c=>P^.lst^cutD c a b
 |.tup c=>P^.tup^cutD c a b
 |_=>False
def eA(K:Frag):V->w_ Int->w_ Int->Hp->VK->Prop:=λx a b H Q=>d8 x a b H Q\/d_ K x a b H Q\/d9 K x a b H Q\/aO K x a b H Q
def SD:SlR X^eA X.K:=sl_U.or^sl_list.or^sl_tup.or ZG
def Uw{M:Ch->Prop}{H:Hp}{a:v_ D}{b:v_ V}(c d:w_ Int)(h:Ats K M H a b):Ats K M H (cutD a c d)^RM b c d:=by
 unfold cutD RM;rw[h.length];exact(h.drop _).take _
def MT:iM K .sh (eA K) L9:=by
 intro U M H d x c f P Q h n i w q;unfold L9 at w
 split at w
 .rename_i z
  exact .inl #[z,i.str.1,i.str.2,q _ H (.str^Txt.slice z c f) .refl #[rfl,iz (Txt.slice_le z c f) i.str.2] w]
 .rename_i l
  let#[a,b,rfl,_,j,g]:=i;exact .inr^.inl #[a,b,rfl,.inl j,λp k=>q _ _ (.lst _) (BE k) ((Dq (U:=U) k^Uw c f g).shOf h^by grind) w]
 .rename_i l
  let#[a,b,rfl,j,g]:=i.tup
  by_cases m:HT.sIx b.length 0 c=0/\HT.sIx b.length b.length f=b.length
  .refine .inr^.inr^.inr #[a,b,rfl,j.sq,m,?_]
   have e:cutD l c f=l:=by
    unfold cutD;rw[←g.length,m.1,m.2,pR,Nat.sub_zero,g.length,o6]
   rw[e]at w;exact q _ H (.tup l) .refl #[a,b,rfl,j,g] w
  .exact .inr^.inr^.inl #[a,b,rfl,j.sq,m,λp k=>q _ _ (.tup _) (BE k) (Do h k^Uw c f g) w]
 grind
def fO:D->D->(D->Prop)->Prop:=gE λi j P=>i.length+j.length<=sizeLine/\P^.lst (i++j)
end
end Dp
namespace Nt
open L2 Dp
def B5:W2:=λa n P=>∃m:Int,a=[.fd,.sh^.int m]/\1<=m/\m<1073741824/\1<=n/\∀r:Int,0<=r->r<m->P (.int r) (n - 1)
def cs(x:Str):v_ Nat:=x.cps.toList
def Yb{x y:Str}(h:cs x=cs y):x=y:=by
 let#[a]:=x;unfold cs at h
 simp_all
def UZ(x:Str):Prop:=1<=x.length/\x.length<=8/\∀c∈cs x,97<=c/\c<=122
def rising(a:v_ Str):Prop:=a.Pairwise λx y=>cs x<cs y
def Xn(a b:v_ Nat):ltCps a b=decide (a<b):=ltCps_eq a b
theorem Jq:∀(l:v_ Str) (p:Str),risingS p l=t_->(p::l).Pairwise λa b=>¬cs b<cs a
 |[],p,_=>m8 _ _
 |x::r,p,h=>by
  have c:(!ltCps _ _&&risingS x r)=t_:=h;rw[iq,oX,Xn,decide_eq_false_iff_not]at c;have e:=Jq r x c.2;refine j6.mpr #[λy d=>?_,e]
  rcases UF.mp d with rfl|d
  .exact c.1
  .exact List.le_trans c.1^(j6.mp e).1 y d
def Gj{l:v_ Str}(h:sortedS l=t_)(nd:l.Nodup):rising l:=by
 have c:l.Pairwise λa b=>¬cs b<cs a:=by
  cases l with
  |nil=>simp_all
  |cons x r=>exact Jq r x h
 exact(c.and nd).imp λ{a b} #[d,e]=>lW λf=>e^Yb^o7 d f
def DF(a:Int)(n:Nat):(DH a n).length=n:=by unfold DH; grind
def Hb{a:Int}{n:Nat}{d:D}(h:d∈DH a n):∃k:Nat,k<n/\d=.int (a+k):=by
 let#[k,b,rfl]:=Sc.mp h;exact#[k,jn.mp b,rfl]
end Nt
namespace K41
open L2 Dp Nt
def top(i:Nat):jH:=PySem.Challenge.pw_thinnet_k41_breaking_papers.main.body.getD i^.Pass #[0,0,0,0]
abbrev LK:jH:=top 1
abbrev Gm:jH:=top 2
abbrev Ji:jH:=top 3
abbrev Nc:jH:=top 4
abbrev LH:jH:=top 5
abbrev G6:jH:=top 6
abbrev Ww:jH:=top 7
abbrev Jh:jH:=top 8
abbrev Nd:jH:=top 9
abbrev LL:jH:=top 10
abbrev Nb:jH:=top 11
abbrev Jf:jH:=top 13
abbrev Eb:jH:=top 14
abbrev Jd:jH:=top 15
abbrev HM:jH:=top 16
abbrev HN:jH:=top 17
abbrev QS:jH:=top 18
abbrev HP:jH:=top 20
abbrev Je:jH:=top 21
abbrev Nf:jH:=top 22
abbrev Gk:jH:=top 23
abbrev Jg:jH:=top 25
abbrev Fd:jH:=top 26
abbrev LI:jH:=top 27
abbrev Jj:jH:=top 29
abbrev Ea:jH:=top 30
abbrev Nh:jH:=top 31
abbrev Ef:jH:=top 32
abbrev Ec:jH:=top 33
abbrev Jc:jH:=top 44
abbrev Fc:jH:=top 45
abbrev HQ:jH:=top 47
abbrev LG:jH:=top 48
abbrev Ng:jH:=top 49
abbrev Ee:jH:=top 50
abbrev FK:jH:=top 51
abbrev Fj:jH:=top 53
abbrev D9:jH:=top 54
abbrev HV:jH:=top 55
abbrev Gr:jH:=top 56
abbrev LN:jH:=top 57
abbrev HU:jH:=top 58
abbrev Fe:jH:=top 59
abbrev HS:jH:=top 60
abbrev Gn:jH:=top 61
abbrev HR:jH:=top 62
abbrev Fg:jH:=top 63
abbrev LP:jH:=top 64
abbrev Fh:jH:=top 65
abbrev LQ:jH:=top 66
abbrev LM:jH:=top 67
abbrev Gs:jH:=top 69
abbrev FL:jH:=top 70
abbrev Gp:jH:=top 71
abbrev Eg:jH:=top 72
abbrev Fi:jH:=top 73
abbrev HW:jH:=top 74
abbrev LR:jH:=top 75
abbrev LO:jH:=top 76
abbrev Gq:jH:=top 77
abbrev Jk:jH:=top 78
abbrev Eh:jH:=top 79
abbrev HY:jH:=top 80
abbrev Fk:jH:=top 81
abbrev HZ:jH:=top 82
abbrev LJ:jH:=top 83
structure Txt (K:Frag) (mg:Str->Option Ev):Prop where
 Gak:mg "abs"=s_
 Gaf:mg "all"=s_
 Gap:mg "bool"=s_
 Gaj:mg "enumerate"=s_
 Gal:mg "int"=s_
 Gaa:mg "isinstance"=s_
 Gac:mg "len"=s_
 Gai:mg "list"=s_
 Gam:mg "max"=s_
 Gag:mg "min"=s_
 Gae:mg "range"=s_
 Gan:mg "reversed"=s_
 Gaq:mg "set"=s_
 Gad:mg "sorted"=s_
 Gao:mg "str"=s_
 Gab:mg "tuple"=s_
 Gah:mg "zip"=s_
section
variable {P:Program}{w:World}{K:Frag}{mg:Str->w_ Value}{base:Heap}
def pk:Ae ["_law_feed_here","_law_many","_law_digit","_law_at","_law_cell","_law_first"] ["_law_feed_here","_law_many"]^AR D9:=#[rfl,rfl,rfl,by decide +kernel,rfl,by decide +kernel,by decide +kernel]
def ZY{f:Ch}{fd:jt}(F:Fun K "_law_next" "_law_next" D9 f fd)(ml:mg "len"=s_):D6 P w K mg base J6 1 f fd ["_law_feed_here","_law_many"]^ZF K .sh B5 2:=by
 refine F.ok pk (λvs H Q E h=>h.1) λa0 A a1 s H vs Q E hr h=>?_;let#[hl,F0,U,V',M,n,ss,Pd,ra,#[m,rfl,a8,T,hn,hP],q]:=h;let#[a9,fU,uV,vM,a2,W]:=ra;cases W with
 |cons r1 W=>
 cases W with
 |cons r2 W=>
 cases W;let#[#[d,c],e0,hF]:=r1.1;cases e0;let#[v2,e2,h2]:=r2.1;cases e2;cases(show _=V.int m from h2);let#[a,r,u,J,L,hc,a3,a4,b0]:=a2 (d,c) hF
 have N:∀(X r' z:Int) (y:Hp),(∀b o,H b=P3 o->b≠d->y b=P3 o)->y d=P3^.lst [.ref c,.int X,.int r']->0<=X->X<=a+1->0<=z->z<m->Q (.int z) y:=by
  intro X r' z y hk Y h0 h1 a5 a6;refine q (.int z) y (.int z) (n - 1) (λb o e=>?_) (λg hg=>?_) rfl (hP z a5 a6)
  .by_cases v:b=d
   .subst v
    exact#[_,Y,λnu=>absurd (fU (b,c) hF) nu,λvs z=>by rw[z,J]at e; cases e]
   .exact#[o,hk b o e v,λ_=>rfl,λ_ _=>rfl]
  .have:g=(d,c):=iw^hg.symm.trans hF
   subst this;exact#[X,r',u,Y,L,#[hc.1,hk c _ hc.2 L],a3,h0,by lk]
 have hu:(A.deeper^envOfC "_law_next" (AR D9) s.heap.objs.size f a0).units<cLine:=hr.units0;have l:∀{y:Hp}{xs:v_ V},y d=P3^.lst xs->SqL K y d xs:=λh=>SqL.of h;have R:∀z:Int,0<=z % m/\z % m<m:=λz=>#[pF _^by lk,oI _^by lk]
 exists _,BY (XO (Hc aY (FN ix_list (pv 0) BL λ_ _=>rfl) BL^Ak _)
   (BY (E6 (i:=2) pk.nd rfl (TM rfl) (CL Fn (FN ix_list (pv 0) BL λ_ _=>rfl)^pv 1))
   (BY (I0 (CL Hi (FN ix_list (pv 0) BL λ_ _=>rfl)^pv 1)^Sf (pv 0) BL set_list)
   (D_^G7^pv 2))) Oo)
  (BY (E6 (i:=3) pk.nd rfl (TM rfl) (FN ix_list (pv 0) BL λ_ _=>rfl))
  (BY (I0 (CL op_add (pv 3) BL)^Sf (pv 0) BL set_list)
  (BY (E6 (i:=4) pk.nd rfl (TM rfl) (Qi (Hc (VU hu) (FN ix_list (pv 0) BL λ_ _=>rfl) (Sg C4)^Ak _)
   (FN ix_list (FN ix_list (pv 0) BL λ_ _=>rfl) (CL Fn (pv 3) (Hg A0 rfl ml PySem.boot_len (B8 (FN ix_list (pv 0) BL λ_ _=>rfl) C4))) λ_ _=>rfl) BL))
  (BY (XO (PW.pt^XI (Hc aZ (pv 4) (CL G8 BL BL)^Ak _)^UC^Hc op_lt (pv 3) (Hg A0 rfl ml PySem.boot_len (B8 (FN ix_list (pv 0) BL λ_ _=>rfl) C4))^Ak _)
   (BY (I0 (CL Hi (pv 4)^pv 1)^Sf (pv 0) BL set_list)
   (D_^G7^CL Fn (pv 4)^pv 1)) Oo)
  (BY (E6 (i:=5) pk.nd rfl (TM rfl) (CL Fn (CL op_mul (CL op_add (CL op_add (CL op_add (CL Fn (pv 4) BL)^CL op_mul (CL op_mul BL^pv 3)^pv 3)^CL op_mul BL^pv 3) BL) BL) BL))
  (D_^G7^CL Fn (CL Hi (CL Fn (CL op_mul (CL op_add (pv 5)^CL op_mul BL^pv 3) BL) BL) BL)^pv 1))))))
 exists _,rfl,d,_,2,_,rfl,rfl,l J,rfl,_,_,rfl,rfl,_,rfl;refine CO (λc1=>?_) λc1=>?_
 .exists _,rfl,d,_,2,_,rfl,rfl,l J,rfl,_,rfl,_,_,rfl,rfl,(by show(0:Int)<m; omega)
  exists _,rfl,d,_,2,_,rfl,rfl,l J,rfl,_,rfl,_,_,rfl,rfl,#[(by show(0:Int)<m; omega),T],_,rfl,d,_,2,2,rfl,rfl,J,rfl;exists _,rfl;exact N a _ _ _ (λb o e v=>by rw[Ah v]; exact e) An a4 (by lk) (R _).1 (R _).2
 ·-- at=feed[1]; feed[1]=at+1
  exists _,rfl,d,_,1,_,rfl,rfl,l J,rfl;exists _,rfl,_,_,rfl,rfl,_,rfl,d,_,1,1,rfl,rfl,J,rfl;generalize Z:BQ H d^.lst^[V.ref c,V.int a,V.int r].set 1^V.int (a+1)=H1;have f1:H1 d=P3^.lst [.ref c,.int (a+1),.int r]:=by rw[←Z]; exact An
  have k1:∀b o,H b=P3 o->b≠d->H1 b=P3 o:=λb o e v=>by rw[←Z,Ah v]; exact e
  have B:H1 c=P3^.lst^u.map V.int:=k1 c _ hc.2 L
  have D:∀(z:Int) (S:Hp),(∀b o,H1 b=P3 o->S b=P3 o)->
    (VB (df (dq (Wh^EX (Jm λi j=>V.bl (decide (j<=i))) (CC 4)^EX (rI NO λi j=>V.int (i ^ j.toNat)) (tC^V.int 10)^tC^V.int 18)^Wh^EX (Jm λi j=>V.bl (decide (i<j))) (CC 3)^f9 (λxs H Q=>∃x n,xs=[x]/\dG K x H n/\Q (V.int n) H)^QF (EX (bc K) (CC 0)^tC^V.int 0) Wi) (VB (QG (EX (rI WN λi j=>V.int (i / j)) (CC 4)^CC 1)^fE (CC 0) (tC^V.int 2) aP)^ZC^EX (rI (λ_ j=>0<j) λi j=>V.int (i % j)) (CC 4)^CC 1) aJ)^VB (QG (EX (rI (λ_ j=>0<j) λi j=>V.int (i % j)) (EX (rI CMul λi j=>V.int (i*j)) (EX (Jm λi j=>V.int (i+j)) (EX (Jm λi j=>V.int (i+j)) (EX (Jm λi j=>V.int (i+j)) (EX (rI (λ_ j=>0<j) λi j=>V.int (i % j)) (CC 4)^tC^V.int 1000003)^EX (rI CMul λi j=>V.int (i*j)) (EX (rI CMul λi j=>V.int (i*j)) (tC^V.int 41)^CC 3)^CC 3)^EX (rI CMul λi j=>V.int (i*j)) (tC^V.int 17)^CC 3)^tC^V.int 3)^tC^V.int 51749)^tC^V.int 999917)^Gw 5)^ZC^EX (rI (λ_ j=>0<j) λi j=>V.int (i % j)) (EX (rI WN λi j=>V.int (i / j)) (EX (rI (λ_ j=>0<j) λi j=>V.int (i % j)) (EX (rI CMul λi j=>V.int (i*j)) (EX (Jm λi j=>V.int (i+j)) (CC 5)^EX (rI CMul λi j=>V.int (i*j)) (tC^V.int 8111)^CC 3)^tC^V.int 39373)^tC^V.int 2097143)^tC^V.int 3)^CC 1)
     {nx:=λ_ y=>Q .non y,rt:=Q} [P3^.ref d,P3^.int m,s_,P3^.int a,P3^.int z,s_] S:=by
   intro z S k2;have f2:=k2 _ _ f1;have c2:=k2 _ _ B
   have t:∀H3:Hp,H3=S->(VB (QG (EX (rI (λ_ j=>0<j) λi j=>V.int (i % j)) (EX (rI CMul λi j=>V.int (i*j)) (EX (Jm λi j=>V.int (i+j)) (EX (Jm λi j=>V.int (i+j)) (EX (Jm λi j=>V.int (i+j)) (EX (rI (λ_ j=>0<j) λi j=>V.int (i % j)) (CC 4)^tC^V.int 1000003)^EX (rI CMul λi j=>V.int (i*j)) (EX (rI CMul λi j=>V.int (i*j)) (tC^V.int 41)^CC 3)^CC 3)^EX (rI CMul λi j=>V.int (i*j)) (tC^V.int 17)^CC 3)^tC^V.int 3)^tC^V.int 51749)^tC^V.int 999917)^Gw 5)^ZC^EX (rI (λ_ j=>0<j) λi j=>V.int (i % j)) (EX (rI WN λi j=>V.int (i / j)) (EX (rI (λ_ j=>0<j) λi j=>V.int (i % j)) (EX (rI CMul λi j=>V.int (i*j)) (EX (Jm λi j=>V.int (i+j)) (CC 5)^EX (rI CMul λi j=>V.int (i*j)) (tC^V.int 8111)^CC 3)^tC^V.int 39373)^tC^V.int 2097143)^tC^V.int 3)^CC 1)
     {nx:=λ_ y=>Q .non y,rt:=Q} [P3^.ref d,P3^.int m,s_,P3^.int a,P3^.int z,s_] H3:=by
    intro H3 e3;subst e3;have v:CMul (41*a) a:=.inr #[by lk,by lk];exists _,rfl,_,_,rfl,rfl,(by show(0:Int)<1000003; decide),_,rfl,_,_,rfl,rfl,.inl #[by cbv,by cbv],_,rfl,_,_,rfl,rfl,v,_,_,rfl,rfl,_,rfl,_,_,rfl,rfl,.inl #[by cbv,by cbv],_,_,rfl,rfl,_,_,rfl,rfl,_,_,rfl,rfl,.inr #[by cbv,by cbv],_,_,rfl,rfl,(by show(0:Int)<999917; decide);exists _,rfl,_,rfl,_,_,rfl,rfl,.inl #[by cbv,by cbv],_,_,rfl,rfl,_,_,rfl,rfl,.inr #[by cbv,by cbv],_,_,rfl,rfl,(by show(0:Int)<2097143; decide),_,_,rfl,rfl,#[by cbv,by cbv],_,rfl,_,_,rfl,rfl,(by show(0:Int)<m; omega);exact N (a+1) r _ _ (λb o e v=>k2 b o^k1 b o e v) f2 (by lk) (by lk) (R _).1 (R _).2
   exists _,rfl,_,_,rfl,rfl,#[by cbv,by cbv,by cbv],_,_,rfl,rfl,_,rfl;refine CO (λc3=>?_) λc3=>?_
   .exists _,rfl,_,rfl,d,_,0,_,rfl,rfl,l f2,rfl,_,_,rfl,.inl #[_,SqL.of c2,rfl],_,_,rfl,rfl,_,rfl
    refine CO (λc4=>?_) λc4=>t S rfl;exists _,rfl,_,rfl,_,_,rfl,rfl,#[(by show(0:Int)<m; omega),T],_,rfl,d,_,2,2,rfl,rfl,f2,rfl;exists _,rfl,_,rfl,_,_,rfl,rfl,(by show(0:Int)<m; omega);exact N (a+1) _ _ _ (λb o e v=>by rw[Ah v]; exact k2 b o^k1 b o e v) An (by lk) (by lk) (R _).1 (R _).2
   .refine CO (λc4=>absurd c4^by simp) λ_=>t S rfl
  refine#[_,rfl,d,_,0,_,rfl,rfl,l f1,rfl,(by show 0<=sizeLine; decide),λp hp=>?_];have O:∀b o,H1 b=P3 o->BQ H1 p (.lst []) b=P3 o:=λb o e=>by rw[Ah^BB e hp]; exact e
  exists c,p,_,rfl,rfl,SqL.of^O _ _ B,SqL.of An,_,rfl;cases u with
  |nil=>exact Ba^D 0 _ O
  | cons G C=>
   refine C8 ?_;have a7:(((G::C).map V.int).length:Int)=(C.length:Int)+1:=by simp
   have I:(0:Int)<(((G::C).map V.int).length:Int):=by lk
   obtain⟨z,hz⟩:∃z,atI ((G::C).map V.int) (a % (((G::C).map V.int).length:Int))=P3^.int z:=by
    have h1:=pF a (show(((G::C).map V.int).length:Int)≠0 by lk);have h2:=oI a I;generalize a % (((G::C).map V.int).length:Int)=j at h1 h2;obtain⟨k,rfl⟩:∃k:Nat,j=(k:Int):=#[j.toNat,by lk];have hk:k<(G::C).length:=by rw[FM]at h2; omega
    refine#[(G::C)[k],AK ?_];rw[ir,No hk];rfl
   exists _,rfl,d,_,0,_,rfl,rfl,l^O _ _ f1,rfl,_,rfl,_,rfl,d,_,0,_,rfl,rfl,l^O _ _ f1,rfl,_,_,rfl,.inl #[_,SqL.of^O _ _ B,rfl],_,_,rfl,rfl,I,c,_,_,_,rfl,rfl,SqL.of^O _ _ B,hz;exact D z _ O
end
end K41
namespace Dp
open L2
end Dp
namespace L2
section
variable {X:Cx}{tg elt iter:Expr}{ifs:v_ Expr}{sc:Scope}{pos spos pos':Pos}{N':v_ Str}{js:v_^w_ Nat}{wi:TI}{i:Nat}{x:Str}
def ZM(hc:X.calm=t_)(N':v_ Str)(js:v_^w_ Nat)(hi:PI X tg iter wi)
  (hB:IJ sc X.env.scope X.N N' js=t_) (hN:X.N.Nodup) (a1:X.N[i]?=P3 x) (hx:Loc X.env.scope x)
  (a2:swapsWith (.ListComp elt [#[tg,iter,ifs,0]] sc pos) (P3^.Name x pos') spos.line X.env=pure t_)
  (hs:∀x,foldedSetIterable iter X.env x=pure x:=by intro _; rfl)
  (hf:X.fn x=t_\/X.env.scope.names.lookup x=P3 .local:=by first|exact .inl rfl|exact .inr rfl|assumption):
  PS X (.Assign [.Name x pos'] (.ListComp elt [#[tg,iter,ifs,0]] sc pos) spos) (QG (Wl X sc N' js tg elt ifs wi)^Gw i):=by
 intro P s Z H D I h;have O:CompOk X sc N' js:=CompOk.of hB;let#[R,t,a3,S]:=MI (scope:=sc) (env:=X.env) λx hx=>I.ok.has x^O.free x hx;rw[exec_Assign_Name_used _ _ _ _ a2];refine Db^oN^Db ?_;show wpAny _ _ (do let _ ←comprehension (.ListComp elt [#[tg,iter,ifs,0]] sc pos) sc X.env _ (newList []) u_ (eval iter X.env)^P3^assign (.Name x pos') X.env) _ _ s
 refine Db (jo (wpAny_comprehension_free (Q:=λ_ p=>SP X P D .next p) (use:=P3^assign (.Name x pos') X.env) rfl hs t O.kind O.names (thn (hi P s Z H _ I h) λv s1 h1=>thn h1 λa6 c h2=>?_))
  (λ_ p hq=>T0^T0 hq) λ_ _ e=>e)
 let#[it,fp,tn,J,G,e,L,T,u,f2,hq]:=h2;subst e
 have B:X.K.lookup c.heap.objs.size=s_:=by
  cases q:X.K.lookup c.heap.objs.size with
  |none=>rfl
  |some o=>exact absurd (ZB^L.kIn _ _ q)^jr _
 let#[g,tt,te,W,hg,ht,he,#[m0,w0],hW]:=hq c.heap.objs.size (L.hok.fresh^Rs _) B R (c.heap.objs.size+1) c G fp;refine lD^wpAny_newFunctionEnv O.cell (by intro y hy; simp at hy) (λj f d=>?_) O.kind
 dsimp only at f d ⊢
 generalize C:c.heap.push {cls:=.type "list",dict:=s_,data:=.seq ([]:v_ Ev).toArray}=Hh at f d ⊢;have k:Hh.objs.size=c.heap.objs.size+1:=by rw[←C,j7]
 have U:∀b∈fp,b<c.heap.objs.size:=λb l=>by
  let#[o,e,_]:=T.obj _ _ u b l;exact ZB e
 have V:∀b o,c.heap.get? b=P3 o->j.get? b=P3 o:=λb o e=>d.extBut b o (by rw[k]; exact i_^jx^ZB e)^Go _ (C▸Go _ e);have hD:∃n,j.get? c.heap.objs.size=P3 {cls:=.type "list",data:=.seq #[] n}:=#[_,d.extBut _ _ (by rw[k]; exact i_^lI _)^Go _ (C▸XV _ rfl)]
 have I3:∀M,Inv (A_ X sc N' R (c.heap.objs.size+1) c G fp) [] (Cc js Z) (BQ G c.heap.objs.size^.lst []) {c with heap:=j,toks:=M}:=λM=>
  Q_ L hc O a3 S f2 (λb l=>let #[o,e,_]:=T.obj _ _ u b l; #[o,e]) (by rw[←k]; exact f) V hD
 have Y:tn 0 j:=T.keep _ _ _ u λb l o e=>V b o e
 have a4:∀b∈fp,BQ G c.heap.objs.size (.lst []) b=s_:=λb l=>by
  rw[Ah^i_^U b l];exact(f2 b l).1
 have r:∀M,codeAny (model X.prog X.w) X.A (.compLoop (.ListComp elt [#[tg,iter,ifs,0]] sc pos) 0 (.ref it) (.ref c.heap.objs.size)^compEnvC sc R (c.heap.objs.size+1) X.env)
   (compPost (model X.prog X.w) X.A X.xe (P3^assign (.Name x pos') X.env) (λ_ p=>SP X P D .next p) (.ref c.heap.objs.size) (c.heap.objs.size+1)) {c with heap:=j,toks:=M}:=λM=>by
  refine OA (W:=W) (m0:=m0) (Q:=λv H1=>Gw i v Z H1 λzM G=>D.nx zM G) L f2 U (kJ _) T hg ht he hW (λzZ H' p J' q'=>?_) (I3 M) Y a4 w0;let#[m,hn,_]:=J'.loc;have a0:H' (c.heap.objs.size+1)=s_:=J'.free;have I4:Inv X P Z H' p:=L1 (h':=p.heap) L f2 (kJ _) J' λb _=>rfl;let#[g1,g2,g3,g4,g5,g6]:=L.fpOk (b:=c.heap.objs.size+1) (kJ _) a0;show wpAny (model X.prog X.w) X.A (assign (.Name x pos') X.env^.ref c.heap.objs.size) (λ_ E=>∃m,E.heap.Ns (c.heap.objs.size+1) m/\∀h',me (c.heap.objs.size+1) E.heap h'->SP X P D .next {E with heap:=h'}) X.xe p;refine wpAny_assign_Name (NW (v:=.ref c.heap.objs.size) I4 hN a1 hx rfl (λs5 I5 #[a,F,ha]=>?_) hf)
  have na:c.heap.objs.size+1≠a:=by
   rcases ha with rfl|ha
   .exact g2
   .exact λz=>g5 _ _ ha z.symm
  refine#[m,hn.sameBut F na,λh' a5=>?_];exact#[_,H',I5.turned (t':=s5.toks) (it:=c.heap.objs.size+1) (λb o l e=>a5.extBut b o l e) a0 g2 g4 g5 g6,q']
 rw[show(newEnv sc Hh.objs.size X.env.globals R X.env.qual s_ .none (P3 X.env) builtinsNs).locals=c.heap.objs.size+1 from k];show codeAny (model X.prog X.w) X.A (.compStart (.ListComp elt [#[tg,iter,ifs,0]] sc pos) 0 (.ref it) (.ref c.heap.objs.size)^compEnvC sc R (c.heap.objs.size+1) X.env) _ _;exact codeAny_compStart_list (r _)^T.self _ 0 _ _ _ Y^r _
end
end L2
namespace Dp
open L2
section
variable {X:Cx}{zR:Kd}{tg elt iter:Expr}{ifs:v_ Expr}{sc:Scope}{pos:Pos}{src:EW}{b:BW}{tt:Ij}{te:DW}
def Yd(hc:X.calm=t_)(N':v_ Str)(js:v_^w_ Nat)(hi:dJ X tg iter src)(hg:∀L C s H O,DG (A_ X sc N' L C s H O) tg b)(ht:∀L C s H O,dU (A_ X sc N' L C s H O) ifs tt)(he:∀L C s H O,DE (A_ X sc N' L C s H O) elt zR te)
  (hB:IJ sc X.env.scope X.N N' js=t_) (hk:zR≠.tp:=by intro z; cases z)
  (hs:∀x,foldedSetIterable iter X.env x=pure x:=by intro _; rfl):∃wi,PI X tg iter wi/\∀(C:Fm) (M:Ch->Prop) (H:Hp) (n:Nat) (ρ:v_ Slot) (Z:L2.St) (P:D->Nat->Prop) (Q:VK),Rel X.K C M H n ρ Z->BU js src b tt te n ρ P->
   (∀v r d S,Ext C.U H r->FeedC X.K C.F M r S->VR X.K C.V M H r .fr v d->P d S->Q v r)->Wl X sc N' js tg elt ifs wi Z H Q:=by
 let#[wi,a1,a2]:=hi;refine#[wi,a1,λC M H n ρ Z P Q R w q=>?_];refine a2 C M H n ρ Z _ _ R w λJ T u n1 A f1 y w1=>?_;let#[b4,w1]:=w1;have R1:=R.step A f1;intro l hl b6 L Ca s0 H0 O;let#[g,g1,g2]:=hg L Ca s0 H0 O;let#[tc,c1,c2]:=ht L Ca s0 H0 O;let#[tx,x1,x2]:=he L Ca s0 H0 O
 have a6:¬C.U l:=λz=>by
  let#[o,z]:=R1.udom l z;rw[hl]at z; cases z
 generalize W:(λb=>M b\/b=l)=M';have a7:M' l:=by rw[←W]; exact .inr rfl
 have M'of:∀b,M b->M' b:=λb z=>by rw[←W]; exact .inl z
 have a4:∀b,M' b->M b\/b=l:=λb z=>by rw[←W]at z; exact z
 have b1:∀b,C.V b\/b=l->M' b:=λb z=>z.elim (λz=>M'of b^R1.vM b z) λz=>by rw[z]; exact a7
 have b5:js.length=N'.length:=F4 (CompOk.of hB).cap
 exists g,tc,tx,λi m zZ r=>m=u.length - i/\i<=u.length/\∃S zY k G,Rel X.K #[M',C.F,C.U,λb=>C.V b\/b=l,T,[],[]] M' r S zY zZ/\r l=P3^.lst G/\Ats X.K M' r k G/\k.length<=i/\Pres M T M' r /\
   EG b tt te (λk n2=>P (.lst k) n2) (u.drop i) k S zY,g1,c1,x1,#[u.length,by simp,i6 _,n1,Hz js ρ,[],[],?_]
 .have I:Grow T^BQ T l^.lst []:=BE hl
  have Y:Pres M T M'^BQ T l^.lst []:=#[λb o e _=>I.all b o e,λb z=>(a4 b z).elim .inl λz=>.inr (by rw[z]; exact hl),λb G e=>I.all b _ e];refine#[#[?_,λa z=>z,λa z=>?_,I.ext,R1.fU,λa z=>.inl^R1.uV a z,b1,f1.pres Y λf o _ e=>I.all f.1 o e,?_,λp hp=>absurd hp^by simp,λi d a q z=>UU R1.sl q z,λi s a q o _=>absurd o (by rw[FA q]; decide),λi j s t a q o _ _ _ _=>absurd o (by rw[FA q]; decide),λp hp=>absurd hp^by simp],An,rfl,i6 _,Y,w1]
  .unfold Hz Cc
   rw[FM,FM]
  .rcases a4 a z with z|z
   .let#[o,z]:=R1.dom a z
    exact#[o,I.all a o z]
   .subst z
    exact#[_,An]
  .refine Q4 R1.sl Y λd v h=>h.same Y (λa o _ e=>I.all a o e) λa e n1 z=>z.elim n1 λz=>?_
   subst e;let#[o,w]:=h.lies;rw[z,hl]at w;cases w
 .rintro i m zZ r ⟨rfl,hi,S,zY,k,G,R',a8,a0,a9,Y,w'⟩
  by_cases a3:i<u.length
  .have ed:u.drop i=u[i]::u.drop (i+1):=kM a3
   rw[ed]at w';let#[go,yl]:=(y i M' r Y R'.ext R'.dom).1 u[i] (No a3);refine .inr #[go,λx H2 hy=>?_];let#[I,hx]:=yl x H2 hy;have b2:=R'.step I.ext^R'.feed.grow I;refine g2 _ M' H2 S zY zZ u[i] x _ _ b2 hx w' λzP zV R3 w3=>?_;refine c2 _ M' H2 S zP zV _ _ R3 w3 λc H4 n4 e4 f4 w4=>?_;have R4:=R3.step e4 f4;have p4:Pres M' r M' H4:=I.pres.trans^R3.pres e4;have l4:H4 l=P3^.lst G:=e4.keep (I.all _ _ a8) a6;cases c with
   |false=>exact#[u.length - (i+1),by lk,rfl,a3,n4,zP,k,G,R4,l4,a0.pres p4,by lk,Y.trans p4,w4]
   | true=>
    refine x2 _ M' H4 n4 zP zV _ _ R4 w4 λyv H5 d5 n5 e5 f5 r5 w5=>?_;have B:=R4.step e5 f5;have p5:Pres M' H4 M' H5:=R4.pres e5;have l5:H5 l=P3^.lst G:=e5.keep l4 a6;have b3:=r5.shOf R4.dom hk;have a5:=(a0.pres p4).pres p5;have pu:Pres M' H5 M'^BQ H5 l^.lst (G++[yv]):=Cr a7 l5;have b7:G.length=k.length:=a0.length;refine#[G,l5,by rw[jX]; omega,u.length - (i+1),by lk,rfl,a3,n5,zP,k++[d5],G++[yv],?_,An,(a5.append^Ats.one b3).pres pu,by rw[eq,jI]; omega,(Y.trans p4).trans^p5.trans pu,w5];refine#[B.len,B.sub,λa z=>?_,λb o e=>?_,B.fU,B.uV,B.vM,?_,λj s hs=>?_,λp hp=>absurd hp^by simp,B.br0,B.new,B.two,λp hp=>absurd hp^by simp]
    .by_cases ha:a=l
     .subst ha; exact#[_,An]
     .rw[Ah ha]; exact B.dom a z
    .let#[o',q1,q2]:=B.ext b o e
     by_cases hb:b=l
     .subst hb
      have e':T b=P3 o:=e;rw[hl]at e'; cases e'
     .exact#[o',by rw[Ah hb]; exact q1,q2]
    .refine f5.pres pu λf o hf e=>?_
     rw[Ah λz=>a6^by rw[←z]; exact R1.fU f hf];exact e
    .have E:=B.sl j s hs
     cases s with
     |no=>trivial
     |sh d=>let#[v,A,h2]:=E; exact#[v,A,h2.pres pu]
     |ex a nm ks u=>let#[A,h2]:=E; exact#[A,h2.pres pu]
     | br d=>
      let#[v,A,h2]:=E;refine#[v,A,h2.same pu (λa o z e=>?_) λ_ _ z=>z];subst z;let#[o3,w]:=B.br0 j d a hs A
      have a9:a≠l:=λz=>by
       have w':T a=P3 o3:=w;rw[z,hl]at w'; cases w'
      rw[Ah a9]; exact e
     |ow d=>
      let#[a,A,h2,_]:=E;exact absurd h2 (B.new j _ a hs rfl A).1
     |lt a d=>
      let#[A,h2,_]:=E;exact absurd h2 (B.new j _ a hs rfl A).1
     |fd=>exact E
  .have e:i=u.length:=by lk
   subst e;rw[lh]at w';refine .inl #[(y _ M' r Y R'.ext R'.dom).2 (Rs _),?_];have eb:Ext C.U T r:=R'.ext;have b0:Pres M' r M r:=Pres.less M'of;refine q _ r (.lst k) S (A.trans eb) (R'.feed.pres b0 λ_ _ _ z=>z) (VR.back A ?_) w';exact#[l,rfl,hl,G,a8,by rw[W]; exact a0]
def Kk{q:Kd}{i:Nat}{x:Str}{a c:Pos}(r:X.N.Nodup)(j:X.N[i]?=P3 x)(t:Loc X.env.scope x)(l:X.calm=t_)(e:v_ Str)(h:v_^w_ Nat)(u:dJ X tg iter src)(y:∀f C s H g,DG (A_ X sc e f C s H g) tg b)(A:∀f C s H g,dU (A_ X sc e f C s H g) ifs tt)(B:∀f C s H g,DE (A_ X sc e f C s H g) elt zR te)
  (m:IJ sc X.env.scope X.N e h=t_) (k:swapsWith (.ListComp elt [#[tg,iter,ifs,0]] sc pos) (P3^.Name x a) c.line X.env=pure t_:=by rfl) (D:zR≠.tp:=by intro z; cases z)
  (o:∀x,foldedSetIterable iter X.env x=pure x:=by intro _; rfl)
  (F:X.fn x=t_\/X.env.scope.names.lookup x=P3 .local:=by first|exact .inl rfl|exact .inr rfl|assumption):DS X q (.Assign [.Name x a] (.ListComp elt [#[tg,iter,ifs,0]] sc pos) c)^BA i^BU h src b tt te:=by
 let#[T,G,I]:=Yd l e h u y A B m D o;exact#[_,ZM l e h G m r j t k o F,λC M H n J Z U E R L w=>I C M H n J Z _ _ R w λv K d O P Q S p=>L.nx M K O _ _ ((R.step P Q).set^S.shOf R.dom^by grind) p]
end
abbrev Fu(K:Frag)(x:Str)(st:jH)(f:Ch)(fd:jt):Prop:=Fun K x x st f fd
def C1{P:jK}{w:jQ}{K:Frag}{i:Str->w_ Ev}{a:i8}{x:Str}{st:jH}{f:Ch}{fd:jt}{N c:v_ Str}{k:Nat}{e:Kd}{W:W2}{j:Ad}(F:Fu K x st f fd)(S:Ae N c^AR st)
  (l:∀{d:Ev}{A:jd}{b:v_ Env}{s:On}{H:Hp}{E:XK},Room k^A.deeper^envOfC x (AR st) s.heap.objs.size f d->Rt (MF J6 P w K i a N x (AR st) f d A b s H E).nox e (CP st) j)
  (m:∀{ss n Pd},W ss n Pd->j {nx:=λn _=>e=.sh/\Pd .non n,rt:=Pd} n (ss++Tk (N.length - c.length) .no)) (g:c.length<=N.length:=by cbv):
  D6 P w K i a J6 (k+1) f fd c (ZF K e W c.length):=gv F S g (λ_ _ _ _ _ _ h=>l h) λ_ _ _ _ h=>m h
section
variable {X:Cx}
def cg{m:Nat}(g:Room m X.A){e:jJ}{a:v_ jJ}{k:Nat}{h:v_ Str}{f:Kd}{W:W2}{x:Str}{p pos:Pos}{b:av}(G:Got X.prog X.w X.K X.mg X.base x k h f W)(i:dW X (e::a) b)(j:k<=m:=by cbv)(l:Gl X x:=by rfl)
  (c:(x==("__debug__":Str))=u_:=by cbv) (n:starEach (e::a) X.env=(u_,eval e X.env)::starEach a X.env:=by rfl) (d:(backTo pos^starEach a X.env).any (·.1)=u_:=by rfl):DE X (.Call (.Name x p) (e::a) [] pos) f^AW W b:=BJ G (g.mono j) l i c n d
variable {tg iter elt:Expr}{ifs:v_ Expr}{sc:Scope}{pos:Pos}{b:BW}{tt:Ij}{te:DW}{zR:Kd}{src:EW}
def Jy(a:v_ Str)(c:v_^w_ Nat)(d:dJ X tg iter src)(e:∀{cl C s H fp},DG (A_ X sc a cl C s H fp) tg b)(f:∀{cl C s H fp},dU (A_ X sc a cl C s H fp) ifs tt)(g:∀{cl C s H fp},DE (A_ X sc a cl C s H fp) elt zR te)
  (h:IJ sc X.env.scope X.N a c=t_) (i:X.calm=t_:=by rfl) (j:zR≠.tp:=by intro z; cases z) (k:∀x,foldedSetIterable iter X.env x=pure x:=by intro _; rfl):DE X (.ListComp elt [#[tg,iter,ifs,0]] sc pos) .fr^BU c src b tt te:=PN i a c d (λ_ _ _ _ _=>e) (λ_ _ _ _ _=>f) (λ_ _ _ _ _=>g) h j k
end
theorem Nz{P:jK}{w:jQ}{K:Frag}{p:Str->w_ Ev}{a:i8}{x:Str}{st:jH}{f:Ch}{fd:jt}{N e:v_ Str}{W:Nat->W2}{t:W2->Ad}(c:Nat)(F:Fu K x st f fd)(S:Ae N e^AR st)(m:p x=P3^.ref f)(b:Binds K fd e [])
  (q:∀{k:Nat}{o:W2}{i:Ev}{A:jd}{d:v_ Env}{s:On}{H:Hp}{E:XK},c+1<=k->Got P w K p a x k e .sh o->Room k^A.deeper^envOfC x (AR st) s.heap.objs.size f i->Rt (MF J6 P w K p a N x (AR st) f i A d s H E).nox .sh (CP st)^t o)
  (r:∀{o j g n Pd},(∀g n P,j≠0->W (j - 1) g n P->o g n P)->W j g n Pd->t o {nx:=λn _=>Kd.sh=.sh/\Pd .non n,rt:=Pd} n (g++Tk (N.length - e.length) .no)) (u:∀j g n P,W j g n P->g.length=e.length) (l:e.length<=N.length:=by cbv):
  ∀j,D6 P w K p a J6 (c+2+j) f fd e^ZF K .sh (W j) e.length
 |0=>gv (k:=c+1) F S l (λ_ _ _ _ _ _ h=>q (Rs _) (X9 (W:=λ_ _ _=>False) F m b (λ_ _ _ h=>h.elim)^F.ok (k:=c) S (λv H Q E h=>h.1) λi A d s H v Q E B h=>by let#[_,_,_,_,_,_,_,_,_,y,_]:=h; exact y.elim) h) λ_ _ _ _ h=>r (λ_ _ _ z _=>absurd rfl z) h
 |j+1=>gv (k:=c+2+j) F S l (λ_ _ _ _ _ _ h=>q (by lk) (X9 F m b (u j)^Nz c F S m b q r u l j) h) λ_ _ _ _ h=>r (j:=j+1) (λ_ _ _ _ h=>h) h
end Dp
namespace Nt
open L2 Dp
theorem Nm{c i:Type}{f:c->i}:∀{l:v_ c},l.Nodup->(∀a∈l,∀b∈l,f a=f b->a=b)->(l.map f).Nodup
 |[],_,_=>jT
 |a::l,h,d=>by
  rw[jA]at h;rw[jc,jA];refine#[λj=>?_,Nm h.2 λx k y m=>d x (TW _ k) y^TW _ m];let#[b,g,e]:=Sc.mp j;exact h.1 (d a Op b (TW _ g) e.symm▸g)
def Zd{f m j k:Nat}{M:Nat}(d:m<=M)(g:j<m)(i:k<m)(e:(f+j) % M=(f+k) % M):j=k:=by
 have h:∀a b,a<=b->b<m->(f+a) % M=(f+b) % M->a=b:=λa b c l e=>by
  have:=Nat.sub_mod_eq_zero_of_mod_eq e.symm
  rw[Nat.mod_eq_of_lt^by lk]at this;lk
 rcases Nat.le_total j k with c|c
 .grind
 grind
def Ra(a:v_ Str):TB^a.map .str=P3 a:=by
 induction a with
 |nil=>rfl
 |cons y r b=>
  rw[jc];unfold TB
  grind
theorem Ek{b:BW}{g:Ad}{l:E2}{all:v_ D}(I:v_ D->Nat->v_ Slot->Prop)(i:∀n c,I all n c->l.nx n c)
  (f:∀(a:v_ D) (d:D) (j:v_ D) (n:Nat) (c:v_ Slot) (nx:Nat->v_ Slot->Prop),all=a++d::j->I a n c->(∀m o,I (a++[d]) m o->nx m o)->b d c λp=>g {l with nx:=nx,ct:=nx,bk:=l.nx} n p):
  ∀(k a:v_ D) (n:Nat) (c:v_ Slot),all=a++k->I a n c->BF b g l k n c
 |[],a,n,c,e,h=>by
  rw[jE]at e;subst e;exact i n c h
 |d::k,a,n,c,e,h=>f _ d k n c _ e h λm o q=>Ek I i f k _ m _ (by grind) q
def T8{c:Int}{n:Nat}{a b:v_ D}{d:D}(h:DH c n=a++d::b):d=.int (c+(a.length:Int))/\a.length<n:=by
 have f:=congrArg l7 h;rw[DF]at f;have e:(DH c n)[a.length]?=P3 d:=by grind
 unfold DH at e
 simp_all
structure Aq where
 a:Str
 b:Str
 len:Int
structure Net where
 ps:List Str
 ts:List Aq
def AS(t:Aq):D:=.tup [.str t.a,.str t.b,.int t.len]
def enc(N:Net):D:=.tup [.tup^N.ps.map .str,.tup^N.ts.map AS]
def Bm(s t:Aq):Prop:=cs s.a<cs t.a\/(s.a=t.a/\cs s.b<cs t.b)
structure Net.Ok (N:Net):Prop where
 names:∀x∈N.ps,UZ x
 rise:rising N.ps
 tin:∀t∈N.ts,t.a∈N.ps/\t.b∈N.ps/\cs t.a<cs t.b/\1<=t.len/\t.len<=1000000
 trise:N.ts.Pairwise Bm
structure Ix where
 i:Nat
 j:Nat
 len:Int
def Ix.tie(a:v_ Str)(t:Ix):Aq:=#[a.getD t.i "",a.getD t.j "",t.len]
def cQ(s t:Ix):Prop:=s.i<t.i\/(s.i=t.i/\s.j<t.j)
def getD_at{xs:v_ Str}{i:Nat}(h:i<xs.length):xs[i]?=P3^xs.getD i "":=by
 simp_all
def getD_mem{a:v_ Str}{i:Nat}(h:i<a.length):a.getD i ""∈a:=jZ^getD_at h
def Kc{a:v_ Str}(h:rising a){i j:Nat}(b:i<j)(c:j<a.length):cs^a.getD i ""<cs^a.getD j "":=by
 have d:=oj.mp h i j (by lk) c b;have e:a.getD i ""=a[i]:=by rw[jN,No _]; rfl
 simp_all
def b8{a:v_ Str}{b:v_ Ix}(k:∀x∈a,UZ x)(c:rising a)(d:∀t∈b,t.i<t.j/\t.j<a.length/\1<=t.len/\t.len<=1000000)(l:b.Pairwise cQ):Net.Ok #[a,b.map^Ix.tie a]:=by
 exists k,c,λt h=>?_
 .let#[u,m,rfl]:=Sc.mp h
  let#[g,e,n,o]:=d u m;exact#[getD_mem (show u.i<a.length by lk),getD_mem e,Kc c g e,n,o]
 .show(b.map^Ix.tie a).Pairwise Bm
  rw[kE];refine List.Pairwise.imp_of_mem (λ{s t} p f h=>?_) l;let#[g,e,_]:=d s p;let#[v,q,_]:=d t f
  rcases h with h|⟨h,r⟩
  .exact .inl^Kc c h^by lk
  .refine .inr #[?_,Kc c r q]
   show a.getD s.i ""=a.getD t.i "";rw[h]
abbrev EE(a:D->Nat->Prop):E2:={nx:=λn _=>Kd.sh=.sh/\a .non n,rt:=a}
theorem BG{b:BW}{k:DW}{P:v_ D->Nat->Prop}(g:D->D)(I:v_ Slot->Prop):∀(e a:v_ D) (n:Nat) (c:v_ Slot),
  (∀d∈e,∀(c:v_ Slot) (n:Nat) (l:D->Nat->v_ Slot->Prop),I c->(∀i,I i->l (g d) n i)->b d c λm=>k n m λy p=>l y p m)->I c->P (a++e.map g) n->EG b CY k P e a n c
 |[],a,n,c,_,_,h=>by rw[List.map_nil,jE]at h; exact h
 |d::e,a,n,c,o,j,h=>o d Op c n _ j λi f=>
  BG g I e _ n _ (λd q=>o d^TW _ q) f (by simp_all)
def Fz{b:Type}{l:v_ b}{p:b->Bool}{P:D->Prop}(h:P^.bl^l.all p):HE [.lst^l.map λa=>.bl^p a] P:=
 #[_,_,rfl,IX p l,by simp_all]
def S_{b1 b2:Bool}{P:D->Nat->Prop}{n:Nat}{k:(D->Nat->Prop)->Prop}(a:b1=t_->P (.bl b2) n->k P)(h:P (.bl (b1&&b2)) n):(match (.bl b1:D)with|.bl t_=>k P|.bl u_=>P (.bl u_) n|_=>False):=Ye a h
abbrev Wb(g:D->Bool):W2:=aW 1 λa=>.bl^g^a.getD 0 .non
def Wb.out{g:D->Bool}{a:v_ Slot}{n:Nat}{P:D->Nat->Prop}(h:Wb g a n P):∃d,a=[.sh d]/\P (.bl^g d) n:=by
 let#[b,c,rfl,h]:=h
 match b,c with
 |[d],_=>simp_all
def Ik:D->Bool
 |.int _=>t_
 |_=>u_
def tupleOfB(k:Int):D->Bool
 |.tup a=>((a.length:Int)==k)
 |_=>u_
def Xm(d e:D):w_ Bool:=match d,e with
 |.int i,.int j=>P3 (decide (i<j))
 |.str i,.str j=>P3 (decide (cs i<cs j))
 |.tup c,.tup f=>match Jr c,Jr f with
  |some a,P3 b=>if Cb a b then P3^Gb a b else s_
  |_,_=>s_
 |_,_=>s_
def Ul{d e:D}{b:Bool}{P:D->Prop}(h:Xm d e=P3 b)(p:P^.bl b):Gc d e P:=by
 unfold Xm at h
 split at h
 .cases h; exact p
 .cases h; exact p
 .split at h
  .rename_i a c f g
   split at h
   .rename_i i
    cases h;exact#[a,c,f,g,i,p]
   .cases h
  .cases h
 .cases h
def WD:v_ D->Bool
 |x::y::r=>(Xm x y==P3 t_)&&WD (y::r)
 |_=>t_
abbrev FJ:W2:=Wb Ik
abbrev Cz:W2:=λa n P=>∃k d,a=[.sh^.int k,.sh d]/\P (.bl^tupleOfB k d) n
abbrev Kr:W2:=λc n P=>∃d a,c=[.sh d]/\E5 d=P3 a/\a.length<=200000/\(∀x∈a,∀y∈a,∃b,Xm x y=P3 b)/\P (.bl^WD a) n
def S7:Ad:=(Ap^J7 (D4 "int"^AC 0)^bC^D4 "bool"^AC 0)
def NG:Ad:=(Ap^J7 (D4 "tuple"^AC 1)^Ac (Ge u_) (Bl CS^AE (AC 1) AQ)^AC 0)
def RZ:Ad:=(Ap^Bl HE^AE (BU [s_,s_] (Mj^AE (AC 0)^AE (Y4 L9 (AC 0) (Gh^wC^D.int 1) DA) AQ) (B3 2^Ab (AT 0)^Ab (AT 1) BN) CY^Ac Gc (AC 0)^AC 1) AQ)
section
variable {ss:v_ Slot}{n:Nat}{Pd:D->Nat->Prop}
def Jl(h:FJ ss n Pd):S7 (EE Pd) n (ss++Tk 0 .no):=by
 let#[d,rfl,q]:=h.out;cases d <;>exact q
def LY(h:Cz ss n Pd):NG (EE Pd) n (ss++Tk 0 .no):=by
 let#[k,d,rfl,h]:=h;cases d with
 |tup a=>exact#[_,_,rfl,rfl,h]
 |_=>exact h
def V4{b:Type}(a:v_ b):Dp.cutD a (P3 1) s_=a.drop 1:=by
 unfold Dp.cutD;rw[HT.sIx_none,show 1=((1:Nat):Int)from rfl,HT.sIx_nat]
 by_cases h:1<=a.length
 .rw[Nat.min_eq_left h]
  exact kW^by simp_all
 grind
theorem U1:∀c:v_ D,((DM c^c.drop 1).all λd=>match d with|.tup [a,b]=>Xm a b==P3 t_|_=>u_)=WD c
 |[]=>rfl
 |[x]=>rfl
 |x::y::r=>by
  have e:=U1 (y::r);show((DM _ (y::r)).all _)=_;unfold DM WD;rw[List.zipWith_cons_cons,nE]
  congr 1
def Y6{c e:v_ D}{d:D}(h:d∈DM c e):∃a∈c,∃b∈e,d=.tup [a,b]:=by
 unfold DM at h;let#[i,f]:=List.getElem?_of_mem h;rw[nH]at f;cases g:c[i]? with
 |none=>simp_all
 | some a=>
  cases j:e[i]? with
  |none=>simp_all
  |some b=>
   rw[g,j]at f;exact#[a,jZ g,b,jZ j,(iw f).symm]
def Ol(h:Kr ss n Pd):RZ (EE Pd) n (ss++Tk 0 .no):=by
 let#[d,c,rfl,e,A,f,h]:=h
 have i:(DM c^c.drop 1).length<=10000000/\EG (B3 2^Ab (AT 0)^Ab (AT 1) BN) CY (Ac Gc (AC 0)^AC 1) (λg k=>HE [.lst g] λz=>Pd z k) (DM c^c.drop 1) [] n [.no,.no]:=by
  refine#[by unfold DM; rw[mV]; omega,?_];refine BG (λd=>.bl (match d with|.tup [a,b]=>Xm a b==P3 t_|_=>u_)) (λj=>∃s t,j=[s,t]) _ _ _ _ ?_ #[_,_,rfl] ?_
  .rintro z l j m o ⟨s,t,rfl⟩ q
   let#[a,u,b,v,rfl]:=Y6 l;let#[r,w]:=f a u b^List.mem_of_mem_drop v;exists rfl,rfl;show Gc a b λy=>o y m [.sh a,.sh b];refine Ul w ?_
   simp_all
  .rw[jB]
   refine Fz (p:=fun(d:D)=>match d with|.tup [a,b]=>Xm a b==P3 t_|_=>u_) ?_;rw[U1];exact h
 cases d with
 |lst x=>
  cases e;exact#[_,_,c,c.drop 1,rfl,rfl,by rw[V4]; rfl,i]
 |tup x=>
  cases e;exact#[_,_,c,c.drop 1,rfl,rfl,by rw[V4]; rfl,i]
 |_=>cases e
end
def strsOf(a:v_ D):v_ Str:=(TB a).getD []
def Yj{a:Type}(p:a->Bool)(l:v_ a):(l.map p).all id=l.all p:=by simp_all
def QJ{x:Str}(h:∀c∈cs x,c<1114112):PyData.strOk x=t_:=by
 unfold PyData.strOk;rw[←Array.all_toList,jh];intro c a;exact decide_eq_true^h c a
def Lx{x:Str}(h:UZ x):Cs^.str x:=#[rfl,QJ λc a=>by have:=h.2.2 c a; omega,i6 _]
def Q5{a:v_ Str}(h:∀p∈a,UZ p):ES^a.map .str=t_/\kn^Bj^a.map .str=t_/\kR^Bj^a.map .str=0:=by
 induction a with
 |nil=>exact#[rfl,rfl,rfl]
 | cons p r b=>
  let#[e,c,f]:=b λq d=>h q^TW _ d;exists by assumption,?_
  .rw[jc,Bj,kn,c,Bool.and_true]
   exact(Lx^h p Op).2.1
  assumption
def GR{a:v_ Str}(h:∀p∈a,UZ p):Cs^.tup^a.map .str:=by
 let#[b,c,d]:=Q5 h;exists b,c;show kR _+1<=100
 simp_all
def Ki(x y:Str):C2 (.str x)^.str y=(x==y):=rfl
def K5(a:v_ Str):strsOf^a.map .str=a:=by unfold strsOf; rw[Ra]; rfl
section
def gO{d:D}(h:tupleOfB 2 d=t_):∃a b,d=.tup [a,b]:=by
 cases d with
 |tup c=>
  have:=eq_of_beq h
  match c,this with
  |[a,b],_=>grind
  |[],h=>cases h
  |[_],h=>cases h
  |_::_::_::r,h=>grind
 |_=>cases h
end
mutual
def HD(B:Nat):D->Prop
 |.int i=>i.natAbs<=B
 |.str x=>∀c∈cs x,c<1114112
 |.tup ds=>Gx B ds
 |.lst ds=>Gx B ds
 |.dic _ _=>False
 |.fdi _ _=>False
 |.dit _ _=>False
 |_=>True
def Gx(B:Nat):v_ D->Prop
 |[]=>True
 |d::ds=>HD B d/\Gx B ds
end
mutual
def Rq:D->Nat
 |.int _=>200
 |.str x=>x.length
 |.tup ds=>K4 ds
 |.lst ds=>K4 ds
 |_=>0
def K4:v_ D->Nat
 |[]=>0
 |d::ds=>Rq d+1+K4 ds
end
mutual
def S3:D->Nat
 |.tup ds=>ND ds+1
 |.lst ds=>ND ds+1
 |_=>0
def ND:v_ D->Nat
 |[]=>0
 |d::ds=>max (S3 d)^ND ds
end
theorem fines_iff{B:Nat}:∀{b:v_ D},Gx B b↔∀d∈b,HD B d
 |[]=>#[(λ_ d h=>by cases h),λ_=>trivial]
 | d::b=>by
  have c:=@fines_iff B b;constructor
  .rintro⟨f,g⟩ e a
   rcases UF.mp a with rfl|a
   .exact f
   .exact c.mp g e a
  .exact λh=>#[h d Op,c.mpr λe a=>h e^TW _ a]
theorem dps_le{k:Nat}:∀{a:v_ D},ND a<=k↔∀d∈a,S3 d<=k
 |[]=>#[(λ_ d h=>by cases h),λ_=>i6 _]
 | d::a=>by
  have c:=@dps_le k a;show max (S3 d)^ND a<=k↔_;rw[Nat.max_le,c];constructor
  .rintro⟨f,g⟩ e b
   rcases UF.mp b with rfl|b
   .exact f
   .exact g e b
  .exact λh=>#[h d Op,λe b=>h e^TW _ b]
theorem T3:∀(a:v_ D),a.length<=K4 a
 |[]=>i6 _
 |d::a=>by
  have:=T3 a
  show a.length+1<=Rq d+1+K4 a;lk
def N0{B C:Nat}(h:B<=C):∀(n:Nat),(∀d:D,sizeOf d<=n->HD B d->HD C d)/\∀a:v_ D,sizeOf a<=n->Gx B a->Gx C a:=by
 intro n
 induction n with
 |zero=>
  refine#[λd e _=>?_,λa e _=>?_]
  .cases d <;>simp at e
  .cases a <;>simp at e
 | succ n f=>
  refine#[λd e c=>?_,λa e c=>?_]
  .cases d with
   |int i=>exact iz (show i.natAbs<=B from c) h
   |str x=>exact c
   |tup a=>exact f.2 a (by simp at e; omega) c
   |lst a=>exact f.2 a (by simp at e; omega) c
   |dic g a=>exact(show False from c).elim
   |fdi g a=>exact(show False from c).elim
   |dit g a=>exact(show False from c).elim
   |non=>trivial
   |bl b=>trivial
  .cases a with
   |nil=>trivial
   |cons d a=>exact#[f.1 d (by simp at e; omega) c.1,f.2 a (by simp at e; omega) c.2]
mutual
theorem Uh{B:Nat}(hB:B<10 ^ 45):∀{d:D},HD B d->Hx d=t_/\(toPy d).showable=t_/\(toPy d).canLay0=t_/\(toPy d).depth=S3 d/\(toPy d).leavesShort 60=t_/\(toPy d).weight<=Rq d
 |.non,_=>#[rfl,rfl,rfl,rfl,rfl,Rs _]
 |.bl b,_=>#[rfl,rfl,rfl,rfl,rfl,Rs _]
 | .int i,h=>by
  have h':i.natAbs<=B:=h;have hlt:i.natAbs<10 ^ 45:=lN h' hB;have h2:i.natAbs<2 ^ 150:=nQ hlt^by cbv
  have hl:i.natAbs.log2<150:=by
   by_cases h0:i.natAbs=0
   .rw[h0]; decide
   .exact(Nat.log2_lt h0).mpr h2
  refine#[rfl,?_,rfl,rfl,?_,?_]
  .show decide (i.natAbs.log2<1920)=t_
   exact decide_eq_true^by lk
  .show decide ((PyData.shown^.int i).length<=60)=t_
   refine decide_eq_true ?_
   have:=int_text_length_le10 (a:=i) (k:=45) (by cbv) hlt
   show(lZ^toString i).length<=60;rw[PySem.ofString_length];lk
  .show(if i==0 then 0 else i.natAbs.log2+1)<=200
   split <;>lk
 |.str x,h=>by
  have h':∀c∈cs x,c<1114112:=h;refine#[rfl,rfl,QJ h',rfl,?_,Rs _];show(x.cps.toList.all λc=>decide (c<16 ^ 8))=t_;rw[jh];intro c hc;exact decide_eq_true^nQ (h' c hc)^by cbv
 |.tup ds,h=>by
  let#[h1,h2,h3,h4,h5,h6]:=L8 hB (ds:=ds) h;refine#[h1,h2,h3,?_,h5,h6];show kR^Bj ds+1=ND ds+1;rw[h4]
 |.lst ds,h=>by
  let#[h1,h2,h3,h4,h5,h6]:=L8 hB (ds:=ds) h;refine#[h1,h2,h3,?_,h5,h6];show kR^Bj ds+1=ND ds+1;rw[h4]
 |.dic ks ds,h=>(show False from h).elim
 |.fdi ks ds,h=>(show False from h).elim
 |.dit ks ds,h=>(show False from h).elim
theorem L8{B:Nat}(hB:B<10 ^ 45):∀{ds:v_ D},Gx B ds->ES ds=t_/\PyData.showableAll^Bj ds=t_/\kn^Bj ds=t_/\kR^Bj ds=ND ds/\pS 60^Bj ds=t_/\PyData.weightAll^Bj ds<=K4 ds
 |[],_=>#[rfl,rfl,rfl,rfl,rfl,Rs _]
 | d::ds,h=>by
  let#[h1,h2,h3,h4,h5,h6]:=Uh hB (d:=d) h.1;let#[g1,g2,g3,g4,g5,g6]:=L8 hB (ds:=ds) h.2;refine#[?_,?_,?_,?_,?_,?_]
  .show(Hx d&&ES ds)=t_
   rw[h1,g1]; rfl
  .show((toPy d).showable&&PyData.showableAll^Bj ds)=t_
   rw[h2,g2]; rfl
  .show((toPy d).canLay0&&kn^Bj ds)=t_
   rw[h3,g3]; rfl
  .show max (toPy d).depth^kR^Bj ds=max (S3 d)^ND ds
   rw[h4,g4]
  .show((toPy d).leavesShort 60&&pS 60^Bj ds)=t_
   rw[h5,g5]; rfl
  .show(toPy d).weight+1+PyData.weightAll^Bj ds<=Rq d+1+K4 ds
   omega
end
def FC{B:Nat}{d:D}(a:B<10 ^ 45)(h:HD B d)(b:S3 d<=100):Cs d:=by
 let#[c,g,e,f,i,j]:=Uh a h;exact#[c,e,by rw[f]; exact b]
def cr(b:v_ D)(a:Nat):Dp.cutD b s_^P3 (a:Int)=b.take^min a b.length:=by
 unfold Dp.cutD;rw[HT.sIx_none,HT.sIx_nat,pR,Nat.sub_zero]
def item(d:D):Prop:=HD 1000001 d/\Rq d<=450/\S3 d<=1
theorem R7{k:Nat}:∀{a:v_ D},(∀d∈a,Rq d+1<=k)->K4 a<=k*a.length
 |[],_=>i6 _
 |d::a,h=>by
  have c:=R7 λe b=>h e^TW _ b;show Rq d+1+K4 a<=k*(a.length+1)
  grind
def IC{B:Nat}{a:v_ D}(h:∀d∈a,HD B d):HD B^.tup a:=fines_iff.mpr h
def item_str{x:Str}(b:x.length<=8)(a:∀c∈cs x,c<1114112):item^.str x:=#[a,by show x.length<=450; omega,i6 _]
def GV{x:Str}(h:UZ x):item^.str x:=item_str h.2.1 λc a=>by have:=h.2.2 c a; omega
def Xy{a b:Str}{l:Int}(e:item^.str a)(f:item^.str b)(h:a.length<=8)(i:b.length<=8)(g:l.natAbs<=1000001):item^.tup [.str a,.str b,.int l]:=by
 exists IC λd c=>?_,?_
 .simp at c
  rcases c with rfl|rfl|rfl
  .exact e.1
  .exact f.1
  .exact g
 .show a.length+1+(b.length+1+(200+1+0))<=450
  omega
 .show max 0^max 0^max 0 0+1<=1
  decide
def Ly{N:Net}(ok:N.Ok):∀d∈N.ts.map AS,item d:=λd c=>by
 let#[t,e,rfl]:=Sc.mp c;let#[f,g,_,h,i]:=ok.tin t e;have a:=ok.names _ f;have b:=ok.names _ g;exact Xy (GV a) (GV b) a.2.1 b.2.1^by lk
def Zi{N:Net}(ok:N.Ok):∀d∈N.ps.map D.str,item d:=λd a=>by
 let#[x,b,rfl]:=Sc.mp a;exact GV^ok.names x b
def bH{b c:v_ D}(e:∀d∈b,item d)(f:∀d∈c,item d)(g:b.length<=26)(h:c.length<=80):HD 1000001^.tup [.tup b,.tup c]/\Rq^.tup [.tup b,.tup c]<=48000/\S3^.tup [.tup b,.tup c]<=3:=by
 have i:=R7 λd a=>lf (e d a).2.1;have j:=R7 λd a=>lf (f d a).2.1;have k:=dps_le.mpr λd a=>(e d a).2.2;have l:=dps_le.mpr λd a=>(f d a).2.2;exists IC λd a=>?_,?_
 .simp at a
  rcases a with rfl|rfl
  .exact IC λd a=>(e d a).1
  .exact IC λd a=>(f d a).1
 .show K4 b+1+(K4 c+1+0)<=48000
  omega
 .show max (ND b+1)^max (ND c+1) 0+1<=3
  omega
def GC{p:D->Prop}{xs:v_ D}(h:∀d∈xs,p d){o:Int}(b:0<=o)(c:o<(xs.length:Int)):∃z,atI xs o=P3 z/\p z:=by
 obtain⟨k,rfl⟩:∃k:Nat,o=k:=#[o.toNat,by lk];have a:k<xs.length:=by lk
 exact#[_,AK^No a,h _^jv a]
def Bo(x:Str):¬cs x<cs x:=k8 _
def z1:1<=sizeLine:=by cbv
def z2:2<=sizeLine:=by cbv
def z3:3<=sizeLine:=by cbv
def z0:0<=sizeLine:=i6 _
def g0:NO 10 6:=#[by cbv,by cbv,by cbv]
end Nt
namespace L2
def eR:R2:=λy x H Q=>∃a o,x=.ref a/\DGet H a y o/\Q (.bl o.isSome) H
def XB:R2:=λy x H Q=>∃a o,x=.ref a/\DGet H a y o/\Q (.bl (!o.isSome)) H
def XD:R2:=λx y H Q=>∃a v,x=.ref a/\DGet H a y^P3 v/\Q v H
def Sk{X:Cx}{k:Nat}(b:Room k X.A):OpR X (compareOp .In) eR:=by
 intro f s Z H y x h u Q I c d #[a,i,ex,g,q];subst ex;obtain rfl:u=ja a:=d;exact gz (IB b) I g c λj e=>#[.bl _,H,e,rfl,q]
def Dd{X:Cx}{k:Nat}(b:Room k X.A):OpR X (compareOp .NotIn) XB:=by
 intro f s Z H y x h u Q I c d #[a,i,ex,g,q];subst ex;obtain rfl:u=ja a:=d;exact Z7 (IB b) I g c λj e=>#[.bl _,H,e,rfl,q]
end L2
namespace Dp
open L2
def Bi:v_ Key->v_ D->Key->w_ D
 |a::b,d::c,k=>if a=k then P3 d else Bi b c k
 |_,_,_=>s_
section
variable {K:Frag}{X:Cx}
theorem HK{M:Ch->Prop}{H:Hp}{k:Key}:∀{ks:v_ Key}{b:v_ D}{a:v_ V},Ats K M H b a->
  match Bi ks b k with
  |some z=>∃v,DD (ks.zip a) k=P3 v/\At K M H z v
  |none=>DD (ks.zip a) k=s_
 |[],b,a,h=>by exact rfl
 |c::ks,[],a,h=>by cases h; exact rfl
 | c::ks,d::b,a,h=>by
  let#[v,r,rfl,f,g]:=h;have i:=HK (k:=k) (ks:=ks) g;unfold Bi
  by_cases e:c=k
  .rw[if_pos e]
   refine#[v,?_,f];show DD ((c,v)::ks.zip r) k=P3 v;rw[EY e]
  .have:DD ((c,v)::ks.zip r) k=DD _ k:=EZ e
   simp_all
def keyOf:D->w_ Key
 |.int i=>P3^.inl i
 |.str x=>P3^.inr x
 |_=>s_
def Dn{U M:Ch->Prop}{H:Hp}{d:D}{v:V}{k:Key}(e:keyOf d=P3 k)(h:AtT K U M H d v):v=kV k:=by
 cases d with
 |int i=>cases e; exact h
 |str x=>cases e; exact h.str.1
 |_=>cases e
def MD:D->w_ (v_ Key×v_ D)
 |.dic a b=>P3 (a,b)
 |.fdi a b=>P3 (a,b)
 |_=>s_
def MC{U M:Ch->Prop}{H:Hp}{d:D}{x:V}{g:v_ Key}{i:v_ D}(e:MD d=P3 (g,i))(h:AtT K U M H d x):∃a b,x=.ref a/\Rd H a^.dK^g.zip b/\Ats K M H i b:=by
 cases d with
 |dic j k=>cases e; let#[a,b,rfl,_,c,_,f]:=h; exact#[a,b,rfl,.inl c,f]
 |fdi j k=>cases e; let#[a,b,rfl,#[o,_,c],_,f]:=h; exact#[a,b,rfl,.inr #[o,c],f]
 |_=>cases e
def Km{H:Hp}{a:Ch}{b:v_ (Key×V)}{k:Key}(e:Rd H a^.dK b):DGet H a (kV k)^DD b k:=.inl #[_,k,e,rfl,rfl]
def ID(a:Bool)(e d:D)(P:D->Prop):Prop:=∃b c k,MD d=P3 (b,c)/\keyOf e=P3 k/\P^.bl (if a then !(Bi b c k).isSome else(Bi b c k).isSome)
def Bx(d e:D)(P:D->Prop):Prop:=∃a b k z,MD d=P3 (a,b)/\keyOf e=P3 k/\Bi a b k=P3 z/\P z
def Yu:GI K .sh eR^ID u_:=λU M H e d y x P Q b o f g w q=>by
 let#[ks,i,k,j,l,w]:=w;let#[a,p,rfl,m,n]:=MC j g;refine#[a,_,rfl,by rw[Dn l f]; exact Km m,q _ H (.bl _) .refl rfl ?_];have h:=HK (k:=k) (ks:=ks) n;cases c:Bi ks i k with
 |none=>simp_all
 |some z=>rw[c]at h w; let#[v,r,_]:=h; simp_all
def GD:GI K .sh XB^ID t_:=λU M H e d y x P Q b o f g w q=>by
 let#[ks,i,k,j,l,w]:=w;let#[a,p,rfl,m,n]:=MC j g;refine#[a,_,rfl,by rw[Dn l f]; exact Km m,q _ H (.bl _) .refl rfl ?_];have h:=HK (k:=k) (ks:=ks) n;cases c:Bi ks i k with
 |none=>simp_all
 |some z=>rw[c]at h w; let#[v,r,_]:=h; simp_all
def c_:GI K .sh XD Bx:=λU M H d e x y P Q b p c f w q=>by
 let#[ks,r,k,z,g,i,j,w]:=w;let#[a,s,rfl,l,m]:=MC g c;have h:=HK (k:=k) (ks:=ks) m;rw[j]at h;let#[v,n,o]:=h;exact#[a,v,rfl,by rw[Dn i f,←n]; exact Km l,q v H z .refl o w]
variable {a b:Expr}{zU zO:Kd}{wa wb:DW}{pos:Pos}
def CA{k:Nat}(g:Room k X.A)(h:DE X a zU wa)(i:DE X b zO wb)(j:aE b:=by intro _ _; rfl):DE X (.Subscript a b pos) .sh^Ac Bx wa wb:=by
 let#[m,c,d]:=h;let#[o,e,f]:=i;exact#[_,Ke (IB g) c e j,λC M H n l Z P Q R w q=>FH c_ d f C M H n l Z P Q R w q]
end
def WX(i:Nat)(w:DW):Ad:=λe n c=>∃a:Int,c[i]?=P3^.sh^.int a/\w n c λd f=>∃b:Int,d=.int b/\e.nx f^c.set i^.sh^.int (a+b)
def Z0{X:Cx}{h j:Kd}{e:jJ}{g:DW}{pos:Pos}{i:Nat}{x:Str}{c:Pos}(k:X.N.Nodup)(l:X.N[i]?=P3 x)(m:Loc X.env.scope x)(o:DE X e j g)
  (q:X.fn x=t_\/X.env.scope.names.lookup x=P3 .local:=by first|exact .inl rfl|exact .inr rfl|assumption):DS X h (.AugAssign (.Name x c) .Add e pos)^WX i g:=by
 let#[t,r,s]:=o;refine#[_,bi k l m r cS q,λC M H n u Z G E R L w=>?_];let#[a,y,w]:=w;let#[v,f,z]:=R.sl i _ y;cases(z);refine#[_,getD_some f,s C M H n u Z _ _ R w λv A d B f D F p=>?_];let#[b,rfl,p]:=p;exact#[a,b,rfl,L3 F,L.nx M A B _ _ ((R.step f D).set (d:=.int _) rfl) p]
end Dp
namespace So
open PySem.W
section
variable {O:KeyOrd}{key:Nat->O.α}{N:Nat}{cmp:Nat->Nat->(Bool->Shared->Prop)->Shared->Prop}{s:Shared}{p p0:Array Nat}
def KN(O:KeyOrd)(key:Nat->O.α)(p:Array Nat)(i:Nat):O.α:=key^p.getD i 0
def Srt(O:KeyOrd)(key:Nat->O.α)(p:Array Nat)(k:Nat):Prop:=∀i j,i<=j->j<k->O.kle (KN O key p i)^KN O key p j
def fq(O:KeyOrd)(key:Nat->O.α)(p:Array Nat)(k:Nat):Prop:=∀i j,i<=j->j<k->O.kle (KN O key p j)^KN O key p i
def ay(O:KeyOrd)(key:Nat->O.α)(N:Nat)(cmp:Nat->Nat->(Bool->On->Prop)->On->Prop)(s:On):Prop:=∀(i j:Nat) (C:Bool->On->Prop),i<N->j<N->C (O.blt (key i)^key j) s->cmp i j C s
def Bd(N:Nat)(p:Array Nat):Prop:=0<N/\∀x∈p,x<N
def Zo(p:Array Nat)(i:Nat):p.getD i 0=(p[i]?).getD 0:=by
 simp
def Bd.get(h:Bd N p)(i:Nat):p.getD i 0<N:=by
 rw[Zo];cases e:p[i]? with
 |none=>exact h.1
 |some x=>exact h.2 x^Array.mem_of_getElem? e
def Bd.perm{a:Array Nat}(h:Bd N p)(b:a.Perm p):Bd N a:=#[h.1,λx c=>h.2 x^b.mem_iff.mp c]
def GJ{p q:Array Nat}{i j:Nat}(h:p[i]?=q[j]?):KN O key p i=KN O key q j:=by
 unfold KN
 simp_all
def ON{a d:Nat}(f:a<p.size)(g:d<=a)(k:Nat):
  KN O key (bubble p a d) k=if k=a - d then KN O key p a else if a - d<k/\k<=a then KN O key p (k - 1)else KN O key p k:=by
 have e:=getElem?_bubble f d g k
 by_cases b:k=a - d
 .rw[if_pos b]at e ⊢; exact GJ e
 .rw[if_neg b]at e ⊢
  by_cases c:a - d<k/\k<=a
  .rw[if_pos c]at e ⊢; exact GJ e
  .rw[if_neg c]at e ⊢; exact GJ e
def JY{i j:Nat}(b:j<=p.size)(k:Nat):KN O key (kas_rev p i j) k=if i<=k/\k<j then KN O key p (i+j - 1 - k)else KN O key p k:=by
 have e:=getElem?_mirror_all (i:=i) b k
 by_cases a:i<=k/\k<j
 .rw[if_pos a]at e ⊢; exact GJ e
 .rw[if_neg a]at e ⊢; exact GJ e
def CF{i j:Nat}(a:j<=p.size)(b:∀k,i<=k->k<j->KN O key p k=KN O key p (j - 1))(k:Nat):KN O key (kas_rev p i j) k=KN O key p k:=by
 rw[JY a]
 grind
def Co(p:Array Nat)(i j:Nat):(kas_rev p i j).Perm p:=mirror_perm _ _ _ _
def yes{c:Type}{a b:KasT c}{Q:c->On->Prop}(h:a.kasWp cmp Q s):(if t_=t_ then a else b).kasWp cmp Q s:=by grind
def no{c:Type}{b a:KasT c}{Q:c->On->Prop}(h:a.kasWp cmp Q s):(if u_=t_ then b else a).kasWp cmp Q s:=by grind
theorem S8(q:ay O key N cmp s)(d:Bd N p){nrem:Nat}{G:Nat->On->Prop}:∀(f n:Nat),1<=n->n+f=nrem->Srt O key p n->
  (∀m,n<=m->m<=nrem->Srt O key p m->(m=nrem\/O.klt (KN O key p m)^KN O key p (m - 1))->G m s)->(kas_asc p f n).kasWp cmp G s
 |0,n,_,e,b,h=>h n (Rs _) (by lk) b^.inl^by lk
 | f+1,n,w,e,b,h=>by
  show cmp (p.getD n 0) (p.getD (n - 1) 0) (λc r=>(if c=t_ then KasT.ret n else kas_asc p f (n+1)).kasWp cmp G r) s;refine q _ _ _ (d.get n) (d.get _) ?_;cases a:O.blt (key^p.getD n 0)^key^p.getD (n - 1) 0 with
  |true=>exact yes^h n (Rs _) (by lk) b^.inr a
  | false=>
   refine no^S8 q d f (n+1) (by lk) (by lk) (λi j g x=>?_) λm y t u v=>h m (by lk) t u v
   by_cases k:j<n
   .exact b i j g k
   .have l:j=n:=by lk
    subst l
    by_cases o:i=j
    .subst o; exact kX _
    .exact nG (b i (j - 1) (by lk)^by lk) a
theorem Ko(D:ay O key N cmp s){l:Nat}{G:Array Nat×Nat×Nat->On->Prop}:∀(f:Nat) (p:Array Nat) (n q:Nat),p.Perm p0->Bd N p->l<=p.size->1<=n->n+f=l->fq O key p n->q+1<=n->
  (∀i,n - (q+1)<=i->i<n->KN O key p i=KN O key p (n - 1))->
  (∀g m v,g.Perm p0->Bd N g->g.size=p.size->n<=m->m<=l->fq O key g m->v+1<=m->(∀i,m - (v+1)<=i->i<m->KN O key g i=KN O key g (m - 1))->G (g,m,v) s)->(kas_desc f p n q).kasWp cmp G s
 |0,p,n,q,C,u,Q,Y,e,x,R,E,h=>h p n q C u rfl (Rs _) (by lk) x R E
 | f+1,p,n,q,C,u,Q,Y,e,x,R,E,h=>by
  show cmp (p.getD n 0) (p.getD (n - 1) 0) (λc S=>(if c=t_ then(if q > 0 then kas_desc f (kas_rev p (n - (q+1)) n) (n+1) 0 else kas_desc f p (n+1) 0)
   else .ask (p.getD (n - 1) 0) (p.getD n 0) λd=>if d=t_ then .ret (p,n,q)else kas_desc f p (n+1) (q+1)).kasWp cmp G S) s
  refine D _ _ _ (u.get n) (u.get _) ?_;cases o:O.blt (key^p.getD n 0)^key^p.getD (n - 1) 0 with
  | true=>
   have Z:O.klt (KN O key p n)^KN O key p (n - 1):=o
   have r:∀T:Array Nat,(∀k,KN O key T k=KN O key p k)->fq O key T (n+1):=by
    intro T W i j y hj;rw[W,W]
    by_cases z:j<n
    .exact x i j y z
    .have A:j=n:=by lk
     subst A
     by_cases B:i=j
     .subst B; exact kX _
     .exact nG (m_ Z)^x i (j - 1) (by lk)^by lk
   refine yes ?_;have U:n<=p.size:=by lk
   by_cases F:q > 0
   .rw[if_pos F]
    refine Ko D f _ (n+1) 0 ((Co _ _ _).trans C) (u.perm^Co _ _ _) (by rw[kas_rev_size]; exact Q) (by lk) (by lk) (r _^CF U E) (by lk) (λi a b=>by congr 1; omega) λg m v H I J X K L M P=>h g m v H I (J.trans^kas_rev_size _ _) (by lk) K L M P
   .rw[if_neg F]
    exact Ko D f _ (n+1) 0 C u Q (by lk) (by lk) (r _ λ_=>rfl) (by lk) (λi a b=>by congr 1; omega) λg m v H I J X K L M P=>h g m v H I J (by lk) K L M P
  | false=>
   refine no ?_;show cmp (p.getD (n - 1) 0) (p.getD n 0) (λd S=>(if d=t_ then KasT.ret (p,n,q)else kas_desc f p (n+1) (q+1)).kasWp cmp G S) s;refine D _ _ _ (u.get _) (u.get n) ?_;cases t:O.blt (key^p.getD (n - 1) 0)^key^p.getD n 0 with
   |true=>exact yes (h p n q C u rfl (Rs _) (by lk) x R E)
   | false=>
    have w:KN O key p n=KN O key p (n - 1):=pe (O:=O) t o;refine no^Ko D f p (n+1) (q+1) C u Q (by lk) (by lk) (λi j y hj=>?_) (by lk) (λi a b=>?_) λg m v H I J X K L M P=>h g m v H I J (by lk) K L M P
    .by_cases z:j<n
     .exact x i j y z
     .have A:j=n:=by lk
      subst A
      by_cases B:i=j
      .subst B; exact kX _
      .rw[w]; exact x i (j - 1) (by lk)^by lk
    .rw[show n+1 - 1=n by lk]
     by_cases V:i=n
     .subst V; rfl
     .rw[w]; exact E i (by lk)^by lk
def QE(e:ay O key N cmp s){n a:Nat}{G:Nat×Array Nat->On->Prop}(f:p.Perm p0)(d:Bd N p)(r:a<=p.size)(g:1<=n)(t:n<=a)(k:fq O key p n)
  (h:∀m b,b.Perm p0->Bd N b->b.size=p.size->1<=m->m<=a->Srt O key b m->G (m,b) s):(kas_tail3 n a p).kasWp cmp G s:=by
 unfold kas_tail3;rw[KasT.kasWp_bind];have c:n<=p.size:=by lk
 refine S8 e (d.perm^Co _ _ _) _ n g (by lk) (λi j l u=>?_) λm v o q _=>h m _ ((Co _ _ _).trans f) (d.perm^Co _ _ _) (kas_rev_size _ _) (by lk) o q;rw[JY c,JY c,if_pos^by lk,if_pos^by lk];exact k _ _ (by lk)^by lk
def Jw(k:ay O key N cmp s){n c:Nat}{G:Nat×Array Nat->On->Prop}(E:p.Perm p0)(F:Bd N p)(H:c<=p.size)(K:n+1<=c)(I:fq O key p (n+1))
  (h:∀m d,d.Perm p0->Bd N d->d.size=p.size->1<=m->m<=c->Srt O key d m->G (m,d) s):(kas_descPart n c p).kasWp cmp G s:=by
 unfold kas_descPart;rw[KasT.kasWp_bind];refine Ko (p0:=p0) k (c - (n+1)) p (n+1) 0 E F H (by lk) (by lk) I (by lk) (λi a b=>by grind) λd m l y z A L B C M D=>?_;have f:m<=d.size:=by lk
 show(if l > 0 then kas_tail3 m c^kas_rev d (m - (l+1)) m else kas_tail3 m c d).kasWp cmp G s
 by_cases g:l > 0
 .rw[if_pos g]
  refine QE k ((Co _ _ _).trans y) (z.perm^Co _ _ _) (by rw[kas_rev_size]; omega) (by lk) B (λi j o J=>?_) λq e r t u v w x=>h q e r t (u.trans^(kas_rev_size _ _).trans A) v w x;rw[CF f D,CF f D];exact C i j o J
 .rw[if_neg g]
  exact QE k y z (by lk) (by lk) B C λq e r t u v w x=>h q e r t (u.trans A) v w x
def Yc(y:ay O key N cmp s){nrem:Nat}{G:Nat×Array Nat->On->Prop}(z:p.Perm p0)(e:Bd N p)(H:nrem<=p.size)(W:1<=nrem)
  (h:∀m o,o.Perm p0->Bd N o->o.size=p.size->1<=m->m<=nrem->Srt O key o m->G (m,o) s):(kas_count nrem p).kasWp cmp G s:=by
 unfold kas_count;rw[KasT.kasWp_bind];refine S8 (nrem:=nrem) y e (nrem - 1) 1 (Rs _) (by lk) (λi j q I=>by have:i=j:=(by lk); subst this; exact kX _) λn r t b A=>?_
 by_cases f:n=nrem
 .rw[if_pos^by simpa using f]
  exact h n p z e rfl r t b
 .rw [if_neg^by simpa using f]
  have u:O.klt (KN O key p n)^KN O key p (n - 1):=A.resolve_left f
  by_cases v:n > 1
  .rw[if_pos v]
   show cmp (p.getD 0 0) (p.getD (n - 1) 0) (λc J=>(if c=t_ then KasT.ret (n,p)else kas_descPart n nrem^kas_rev p 0 n).kasWp cmp G J) s;refine y _ _ _ (e.get _) (e.get _) ?_;cases g:O.blt (key^p.getD 0 0)^key^p.getD (n - 1) 0 with
   |true=>exact yes (h n p z e rfl r t b)
   | false=>
    have d:O.kle (KN O key p (n - 1))^KN O key p 0:=g;have w:n<=p.size:=by lk
    have a:∀k,0<=k->k<n->KN O key p k=KN O key p (n - 1):=by
     intro k _ K;have L:=b 0 k (by lk) K;have M:=b k (n - 1) (by lk) (by lk);exact pe M^nG d L
    refine no^Jw y ((Co _ _ _).trans z) (e.perm^Co _ _ _) (by rw[kas_rev_size]; exact H) (by lk) (λi j q I=>?_) λP B Q R S T U V=>h P B Q R (S.trans^kas_rev_size _ _) T U V;rw[CF w a,CF w a]
    by_cases C:j<n
    .rw[a i (by lk)^by lk,a j (by lk) C]; exact kX _
    .have D:j=n:=by lk
     subst D
     by_cases l:i=j
     .subst l; exact kX _
     .rw[a i (by lk)^by lk]; exact m_ u
  .rw[if_neg v]
   have x:n=1:=by lk
   subst x;refine Jw y z e H (by lk) (λi j q I=>?_) h
   by_cases l:i=j
   .subst l; exact kX _
   .have E:i=0:=by lk
    have F:j=1:=by lk
    subst E; subst F
    exact m_ u
theorem Le(m:ay O key N cmp s)(g:Bd N p){k:Nat}(j:Srt O key p k){G:Nat->On->Prop}
  (h:∀l,l<=k->(∀i,i<l->O.kle (KN O key p i)^KN O key p k)->(∀i,l<=i->i<k->O.klt (KN O key p k)^KN O key p i)->G l s):∀(f l r:Nat),l<=r->r<=k->r - l<=f->
  (∀i,i<l->O.kle (KN O key p i)^KN O key p k)->(∀i,r<=i->i<k->O.klt (KN O key p k)^KN O key p i)->(kas_place p k f l r).kasWp cmp G s
 |0,l,r,n,d,t,b,c=>by
  have:l=r:=by lk
  subst this;exact h l d b c
 | f+1,l,r,n,d,t,b,c=>by
  unfold kas_place
  by_cases e:l≥r
  .rw[if_pos e]
   have:l=r:=by lk
   subst this;exact h l d b c
  .rw[if_neg e]
   refine m _ _ _ (g.get _) (g.get _) ?_;cases a:O.blt (key^p.getD k 0)^key^p.getD ((l+r) / 2) 0 with
   |true=>
    have o:O.klt (KN O key p k)^KN O key p ((l+r) / 2):=a;exact yes^Le m g j h f l ((l+r) / 2) (by lk) (by lk) (by lk) b λi q u=>KeyOrd.klt_of_klt_of_kle o^j _ _ q u
   |false=>
    have o:O.kle (KN O key p ((l+r) / 2))^KN O key p k:=a;exact no^Le m g j h f ((l+r) / 2+1) r (by lk) (by lk) (by lk) (λi q=>nG (j i ((l+r) / 2) (by lk)^by lk) o) c
theorem FH(y:ay O key N cmp s){n:Nat}{G:Array Nat->On->Prop}(h:∀r,r.Perm p0->Srt O key r n->G r s):∀(f:Nat) (p:Array Nat) (k:Nat),p.Perm p0->Bd N p->n<=p.size->k+f=n->Srt O key p k->(kas_bin f p k).kasWp cmp G s
 |0,p,k,t,u,z,e,d=>h p t^by rw[←e]; exact d
 | f+1,p,k,t,u,z,e,d=>by
  rw[show kas_bin (f+1) p k=(kas_place p k k 0 k).bind λl=>kas_bin f (bubble p k (k - l)) (k+1)from rfl,KasT.kasWp_bind];refine Le y u d (λl A v w=>?_) k 0 k (i6 _) (Rs _) (by lk) (λi B=>by lk) λi a b=>by lk
  have g:k<p.size:=by lk
  refine FH y h f _ (k+1) ((bubble_perm _ _ _).trans t) (u.perm^bubble_perm _ _ _) (by rw[bubble_size]; exact z) (by lk) λi j x C=>?_;rw[ON g^by lk,ON g^by lk,show k - (k - l)=l by lk]
  by_cases m:i=l
  .rw[if_pos m]
   by_cases c:j=l
   .rw[if_pos c]; exact kX _
   .rw[if_neg c,if_pos^by lk]
    exact m_^w (j - 1) (by lk)^by lk
  .rw [if_neg m]
   by_cases o:l<i/\i<=k
   .rw[if_pos o,if_neg^by lk,if_pos^by lk]
    exact d (i - 1) (j - 1) (by lk)^by lk
   .rw[if_neg o]
    by_cases c:j=l
    .rw[if_pos c]; exact v i^by lk
    .rw[if_neg c]
     by_cases q:l<j/\j<=k
     .rw[if_pos q]
      exact d i (j - 1) (by lk)^by lk
     .rw[if_neg q]
      exact d i j x^by lk
def sort_ok{n:Nat}(b:1<=n)(c:ay O key n cmp s){G:Array Nat->On->Prop}(h:∀p,p.Perm^jO^jL n->Srt O key p n->G p s):(kas_sort n).kasWp cmp G s:=by
 unfold kas_sort;rw[KasT.kasWp_bind];have f:Bd n^jO^jL n:=#[b,λx k=>by grind];have g:(jO^jL n).size=n:=by simp
 refine Yc c (pG _) f (by lk) b λm d e i l o q j=>?_
 by_cases a:m<n
 .rw[if_pos a,show max m 1=m by lk]
  exact FH c h _ d m e i (by lk) (by lk) j
 .rw[if_neg a]
  exact h d e^by grind
end
end So
namespace L2
open PySem.W
def cB:Key->Key->Bool
 |.inl i,.inl j=>decide (i<j)
 |.inr x,.inr y=>decide (x.cps.toList<y.cps.toList)
 |.inl _,.inr _=>t_
 |.inr _,.inl _=>u_
def BS:v_ Key->v_ Key->Bool
 |[],[]=>u_
 |[],_::_=>t_
 |_::_,[]=>u_
 |x::a,y::b=>if x=y then BS a b else cB x y
theorem Sw:∀x:Key,cB x x=u_
 |.inl i=>decide_eq_false^Int.lt_irrefl i
 |.inr x=>decide_eq_false^k8 _
theorem Vk:∀x y z:Key,cB x y=t_->cB y z=t_->cB x z=t_
 |.inl i,.inl j,.inl k,a,b=>decide_eq_true^Int.lt_trans (of_decide_eq_true a)^of_decide_eq_true b
 |.inr i,.inr j,.inr k,a,b=>decide_eq_true^lE (of_decide_eq_true a)^of_decide_eq_true b
 |.inl i,.inl j,.inr k,_,_=>rfl
 |.inl i,.inr j,.inr k,_,_=>rfl
 |.inl i,.inr j,.inl k,_,h=>by cases h
 |.inr i,.inl j,_,h,_=>by cases h
 |.inr i,.inr j,.inl k,_,h=>by cases h
theorem Vl:∀x y:Key,cB x y=u_->cB y x=u_->x=y
 |.inl i,.inl j,c,d=>congrArg _^by have a:=of_decide_eq_false c; have b:=of_decide_eq_false d; omega
 |.inr x,.inr y,c,d=>by
  have e:=o7 (of_decide_eq_false d)^of_decide_eq_false c;let#[u]:=x
  simp_all
 |.inl i,.inr j,h,_=>by cases h
 |.inr i,.inl j,_,h=>by cases h
theorem Cg:∀x:v_ Key,BS x x=u_
 |[]=>rfl
 |x::a=>by unfold BS; rw[if_pos rfl]; exact Cg a
theorem C7:∀x y z:v_ Key,BS x y=t_->BS y z=t_->BS x z=t_
 |[],[],_,h,_=>by cases h
 |[],_::_,[],_,h=>by cases h
 |[],_::_,_::_,_,_=>rfl
 |_::_,[],_,h,_=>by cases h
 |_::_,_::_,[],_,h=>by cases h
 | x::f,y::g,z::i,a,b=>by
  unfold BS at a b ⊢
  by_cases d:x=y
  .subst d
   rw[if_pos rfl]at a
   by_cases c:x=z
   .subst c
    rw[if_pos rfl]at b ⊢;exact C7 f g i a b
   grind
  .rw[if_neg d]at a
   by_cases c:y=z
   .grind
   .rw[if_neg c]at b
    have e:=Vk x y z a b
    by_cases j:x=z
    .subst j
     rw[Sw]at e;cases e
    grind
theorem Cd:∀x y:v_ Key,BS x y=u_->BS y x=u_->x=y
 |[],[],_,_=>rfl
 |[],_::_,h,_=>by cases h
 |_::_,[],_,h=>by cases h
 | x::c,y::d,a,b=>by
  unfold BS at a b
  by_cases e:x=y
  .subst e
   rw[if_pos rfl]at a b;rw[Cd c d a b]
  .rw[if_neg e]at a
   rw[if_neg λz=>e z.symm]at b;exact absurd (Vl x y a b) e
def VS:KeyOrd:=#[v_ Key,BS,Cg,C7,λa b c h=>by
 cases e:BS a b with
 |true=>exact .inl rfl
 |false=>
  cases d:BS b a with
  |true=>exact .inr^C7 b a c d h
  |false=>rw[←Cd a b e d]; exact .inr h,Cd]
theorem H_:∀x y:v_ Key,Cb x y=t_->Gb x y=BS x y
 |[],[],_=>rfl
 |[],_::_,_=>rfl
 |_::_,[],_=>rfl
 | x::b,y::c,h=>by
  have a:(Na x y&&Cb b c)=t_:=h;rw[iq]at a;unfold Gb BS
  by_cases e:x=y
  .rw[if_pos e,if_pos e]; exact H_ b c a.2
  .rw[if_neg e,if_neg e]
   cases x with
   |inl i=>cases y with
    |inl j=>rfl
    |inr z=>cases a.1
   |inr i=>cases y with
    |inl j=>cases a.1
    |inr z=>rfl
section
variable {prog:Program}{w:World}{A:Around}{E:Value->Shared->Prop}{s:Shared}
theorem Xt{b:Bool}{Q:Bool->On->Prop}{h j:Nat}:∀(a c:v_ Key) (k l:v_ Ev) (i:Nat),Vals (a.map kOf) k->Vals (c.map kOf) l->Cb a c=t_->a.length+j=c.length+h->Q (Gb a c) s->
  KatLex prog w A b (decide (h<j)) Q (k.zip l) i s
 |[],[],k,l,i,o,p,_,g,q=>by
  cases o;cases p;refine kat_nil ?_;rw[show decide (h<j)=u_ from decide_eq_false^by simp only[ko]at g; omega];exact q
 |[],m::c,k,l,i,o,p,_,g,q=>by
  cases o;rw[List.zip_nil_left];refine kat_nil ?_;rw[show decide (h<j)=t_ from decide_eq_true^by simp only[ko,iu]at g; omega];exact q
 |n::a,[],k,l,i,o,p,_,g,q=>by
  cases p;rw[List.zip_nil_right];refine kat_nil ?_;rw[show decide (h<j)=u_ from decide_eq_false^by simp only[ko,iu]at g; omega];exact q
 | n::a,m::c,k,l,i,o,p,F,g,q=>by
  have d:(Na n m&&Cb a c)=t_:=F;rw[iq]at d;have f:Q (if n=m then Gb a c else gB n m) s:=q;cases o with
  | @cons _ u _ r t G=>
   cases p with
   | @cons _ v _ B C H=>
    rw[oG];have D:n=m->KatLex prog w A b (decide (h<j)) Q (r.zip B) (i+1) s:=λe=>Xt a c r B (i+1) G H d.2 (by simp only[iu]at g; omega) (by rw[if_pos e]at f; exact f);cases n with
    | inl x=>
     cases m with
     |inr y=>cases d.1
     | inl y=>
      let#[I,rfl]:=t;let#[J,rfl]:=C;refine kat_cons^wpAny_eqBool_int ?_
      by_cases e:x=y
      .rw[show(x==y)=t_ by simpa using e]
       exact kat_yes^D^by rw[e]
      .rw[show(x==y)=u_ by simpa using e]
       refine kat_no ?_;rw[if_neg λz=>e^Sum.inl.inj z]at f;cases K:(b&&i==0)with
       |true=>exact oneLt_int f
       |false=>exact kat_one _ _^pK (show PySem.W.BoolBack Q (.bool (decide (x<y))) s from f)
    | inr x=>
     cases m with
     |inl y=>cases d.1
     | inr y=>
      let#[I,rfl]:=t;let#[J,rfl]:=C;refine kat_cons^wpAny_eqBool_str ?_
      by_cases e:x=y
      .rw[show decide (x=y)=t_ by simpa using e]
       exact kat_yes^D^by rw[e]
      .rw[show decide (x=y)=u_ by simpa using e]
       refine kat_no ?_;rw[if_neg λz=>e^kr z]at f;cases K:(b&&i==0)with
       |true=>exact oneLt_str f
       |false=>exact kat_one _ _^PySem.P.lt_str (show PySem.W.BoolBack Q (.bool (decide (x.cps.toList<y.cps.toList))) s from f)
structure U4 (h:i8) (ks:List Ev) (keys:List^List Key):Prop where
 at_:∀(i:Nat) (ns:List Key),keys[i]?=P3 ns->∃a o its n,ks[i]?=P3^.ref a/\h.get? a=P3 o/\o.cls=.type "tuple"/\o.data=.seq its n/\Vals (ns.map kOf) its.toList
 len:ks.length=keys.length
 same:∀x∈keys,∀y∈keys,Cb x y=t_
 ne:∀x∈keys,x≠[]
def f6:Key->String
 |.inl _=>"int"
 |.inr _=>"str"
theorem firsts{h:i8}:∀(g:v_ Ev) (b:v_^v_ Key) (T:String),g.length=b.length->(∀(i:Nat) (u:v_ Key),b[i]?=P3 u->∃a o c n,g[i]?=P3^.ref a/\h.get? a=P3 o/\o.cls=.type "tuple"/\o.data=.seq c n/\Vals (u.map kOf) c.toList)->
  (∀x∈b,∃k r,x=k::r/\f6 k=T)->∃j:v_ Ev,KatTups h g j/\j.length=b.length/\∀v∈j,typeOf v=pure^.type T
 |[],[],T,_,_,_=>#[[],trivial,rfl,λv l=>by cases l]
 |[],_::_,T,m,_,_=>by cases m
 |_::_,[],T,m,_,_=>by cases m
 | k::g,x::b,T,m,z,B=>by
  let#[j,F,G,H]:=firsts g b T (by simpa using m) (λi u e=>by
   let#[a,o,c,n,p,r]:=z (i+1) u (by simpa using e);exact#[a,o,c,n,by simpa using p,r]) λy I=>B y^TW _ I
  let#[a,o,c,n,p,J,K,L,q]:=z 0 x rfl;have p:k=.ref a:=by simpa using p
  subst p;let#[k,r,rfl,C]:=B x Op;rw[jc]at q;cases d:c.toList with
  |nil=>rw[d]at q; cases q
  | cons f M=>
   rw[d]at q;cases q with
   | cons D N=>
    refine#[f::j,KatTups.cons J K L (by rw[←mJ,d]; rfl) F,by rw[iu,iu,G],λv l=>?_]
    rcases UF.mp l with rfl|l
    .cases k with
     |inl i=>let#[t,rfl]:=D; subst C; rfl
     |inr i=>let#[t,rfl]:=D; subst C; rfl
    .exact H v l
def NS{c:v_ Ev}{keys:v_^v_ Key}(K:U4 s.heap c keys)(h2:2<=c.length){G:Array Nat->On->Prop}(h:∀p,p.Perm^jO^jL c.length->So.Srt VS (λi=>keys.getD i []) p c.length->G p s):
  wpAny (model prog w) A (keyKind' c.toArray) (λN P=>(kas_sort c.length).kasWp (kas_ask prog w A N c) G P) (λ_ _=>False) s:=by
 obtain⟨f,I,Q⟩:∃f I,keys=f::I:=by
  cases e:keys with
  |nil=>have:=K.len; rw[e]at this; simp only[ko]at this; omega
  |cons x r=>exact#[x,r,rfl]
 have J:f∈keys:=by rw[Q]; exact Op
 obtain⟨m,R,S⟩:∃k r,f=k::r:=by
  cases e:f with
  |nil=>exact absurd e^K.ne f J
  |cons k r=>exact#[k,r,rfl]
 have y:∀x∈keys,∃k r,x=k::r/\f6 k=f6 m:=λx L=>by
  cases e:x with
  |nil=>exact absurd e^K.ne x L
  | cons k r=>
   exists k,r,rfl;have b:=K.same x L f J;rw[e,S]at b;have b:(Na k m&&Cb r R)=t_:=b;rw[iq]at b;cases k with
   |inl i=>cases m with
    |inl j=>rfl
    |inr j=>cases b.1
   |inr i=>cases m with
    |inl j=>cases b.1
    |inr j=>rfl
 let#[fs,z,B,T]:=firsts c keys (f6 m) K.len K.at_ y;refine kat_kind z (by rw[B,←K.len]; omega) (λv U=>by rw[T v U]; exact Looks.now) (by simp) ?_;refine So.sort_ok (O:=VS) (key:=λi=>keys.getD i []) (by lk) (λi j C V W X=>?_) h;have g:i<keys.length:=by rw[←K.len]; exact V
 have l:j<keys.length:=by rw[←K.len]; exact W
 let#[a,o,q,n,Y,Z,e3,e4,M]:=K.at_ i keys[i] (No g);let#[a',o',d,n',D,F,a0,H,t]:=K.at_ j keys[j] (No l);unfold kas_ask;rw[show c.getD i jg=.ref a by rw[jN,Y]; rfl,show c.getD j jg=.ref a' by rw[jN,D]; rfl];have b:=K.same _ (jv g) _^jv l;refine kat_lt Z e4 F H (Xt keys[i] keys[j] _ _ 0 M t b ?_ ?_)
 .have l1:=M.length
  have l2:=t.length;have l3:(keys[i].map kOf).length=keys[i].length:=FM ..;have l4:(keys[j].map kOf).length=keys[j].length:=FM ..;have l5:q.toList.length=q.size:=j9;have l6:d.toList.length=d.size:=j9;lk
 .rw[H_ _ _ b]
  have z:keys.getD i []=keys[i]:=by rw[jN,No g]; rfl
  have B:keys.getD j []=keys[j]:=by rw[jN,No l]; rfl
  have u:C (BS (keys.getD i [])^keys.getD j []) s:=X;rw[z,B]at u;exact u
def HL{v:Ev}{c:v_ (Str×Ev)}{Q:Ev->On->Prop}(e:argsOk "sorted" #[[v],c])(f:∀x,argsOk "list.sort" #[[.ref x],c])
  (k:wpAny (model prog w) A.in1 (collect v) (λg a=>g.length<=sizeLine/\wpAny (model prog w) A.in1.in1 (ll.«list.sort» #[[.ref a.heap.objs.size],c]) (λb i=>b=.done^.ret .none/\Q (.ref a.heap.objs.size) i) E {a with heap:=a.heap.push^seqObj "list" g.toArray 0}) E s):
  wpAny (model prog w) A (call (.builtin "sorted") [v] c) Q E s:=call_function_entry_kw kind_sorted plain_sorted entry_sorted e^Db^T0^Db^jo k (λg a h=>Db^oR (Db^jb^wpAny_call_entry_kw PyProof.Rows.slot_list_sort #[_,XV _ rfl,rfl] PyProof.Rows.entry_list_sort (jo h.2 (λb i j=>#[_,j.1,T0 #[_,rfl,j.2]]) λ_ _ x=>x)^f _) h.1) λ_ _ x=>x
def D8(h:i8)(D:Ch)(a:v_ Ev):i8:=((h.update D^jp λ_=>(#[]:Array Ev)).push^seqObj "tuple" a.toArray 0).push^seqObj "list" #[] 0
def Iu{h:i8}{D:Ch}{a:v_ Ev}{b:Ch}{o:Obj}(c:b≠D)(e:h.get? b=P3 o):(D8 h D a).get? b=P3 o:=
 Go _ (Go _^(jG _ _^jy c).trans e)
def K9{h:i8}{D:Ch}{c:v_ Ev}{n:Nat}(d:h.get? D=P3^seqObj "list" c.toArray n):∃a,(D8 h D c).get? D=P3^seqObj "list" #[] a/\(h.update D^jp λ_=>(#[]:Array Ev)).get? D=P3^seqObj "list" #[] a:=by
 obtain⟨a,b⟩:∃a,(h.update D _).get? D=P3^seqObj _ _ a:=#[_,lw d _];exact#[a,Go _^Go _ b,b]
def Q2{D:Ch}{a:v_ Ev}{n:Nat}{P:PySem.Fin->On->Prop}{G:Array Nat->Prop}(r:s.heap.get? D=P3^seqObj "list" a.toArray n)(t:a.length<64)
  (u:2<=a.length->wpAny (model prog w) A (keyKind' a.toArray) (λJ k=>(kas_sort a.length).kasWp (kas_ask prog w A J a) (λp v=>v={s with heap:=D8 s.heap D a}/\G p) k) (λ_ _=>False) {s with heap:=D8 s.heap D a})
  (L:a.length<2->G^jO^jL a.length) (l:∀(p:Array Nat) (y:i8) (c:Nat),p.size=a.length->G p->(∀b o,b≠D->s.heap.get? b=P3 o->y.get? b=P3 o)->y.get? D=P3^seqObj "list" (jO^p.toList.map λi=>a.getD i jg) c->P (.done^.ret .none) {s with heap:=y}):
  wpAny (model prog w) A (ll.«list.sort» #[[.ref D],[]]) P E s:=by
 let#[V,d,z]:=K9 r
 have m:∀(p:Array Nat),p.size=a.length->G p->P (.done^.ret .none) {s with heap:=(D8 s.heap D a).update D^jp λ_=>jO^p.toList.map λi=>a.getD i jg}:=λp q B=>by
  obtain⟨C,F⟩:∃C,((D8 s.heap D a).update D^jp λ_=>jO^p.toList.map λi=>a.getD i jg).get? D=P3^seqObj "list" (jO^p.toList.map λi=>a.getD i jg) C:=#[_,lw d λ_=>jO^p.toList.map λi=>a.getD i jg];exact l p _ C q B (λb o K e=>(jG _ _^jy K).trans^Iu K e) F
 rw[list_sort_plain];refine Db (nY r rfl ?_);refine Db (lV r rfl ?_ (by rw[iy,jX]; omega) (i6 _));refine Db (oF z rfl ?_);refine Db (wpAny_newTuple ?_^by show a.length<=_; rw[jX]; omega);refine Db^oR ?_^i6 _;refine jb ?_;show wpAny (model prog w) A _ P E {s with heap:=D8 s.heap D a}
 dsimp only
 by_cases H:a.length<2
 .have f:a.toArray.size<2:=by rw[iy]; exact H
  rw[if_pos f,if_pos f];refine Db^T0 ?_;rw[StateT.run_pure];refine Db^T0 ?_
  dsimp only
  refine Db (oF d rfl ?_);have h:(jO^jL a.length).size=a.length:=by simp
  have g:(arrOf^SortSt.mk' general' (a.toArray.zip a.toArray) #[] 7 s_).map (·.2)=jO ((jO^jL a.length).toList.map λi=>a.getD i jg):=by
   refine kat_snds rfl ?_;have e:=kas_range^a.toArray.zip a.toArray;rw[show(a.toArray.zip a.toArray).size=a.length by simp]at e;exact e.symm
  rw[g];refine Db (lV d rfl ?_ (i6 _) (by rw[iy,FM,j9,h,jX]; omega));simp only[bne_self_eq_false,jD,if_false];exact T0^m _ h^L H
 .have f:¬a.toArray.size<2:=by rw[iy]; exact H
  rw[if_neg f,if_neg f];refine Db^jo (u^by lk) (λJ W u=>?_) λ_ _ x=>x.elim
  refine Db (jo (kat_run (Q:=λj k=>∃p:Array Nat,p.size=a.length/\arrOf j=p.map^kas_item^a.toArray.zip a.toArray/\failedOf j=s_/\k={s with heap:=D8 s.heap D a}/\G p)
   rfl (by lk) t (λN j k O R S T=>#[N,O,R,S,T]) u) ?_ λ_ _ e=>e)
  rintro⟨⟨⟩,j⟩ k ⟨p,q,I,U,rfl,B⟩
  dsimp only
  have g:=kat_snds rfl I;have h:(jO^p.toList.map λi=>a.getD i jg).size=a.length:=by rw[iy,FM,j9,q]
  rw[g];refine Db (oF d rfl ?_);refine Db (lV d rfl ?_ (i6 _) (iz (oy h)^by rw[jX]; omega));rw[U];simp only[bne_self_eq_false,jD,if_false];exact T0^m p q B
def Vm{D:Ch}{f:Ev}{a:v_ Ev}{n:Nat}{P:PySem.Fin->On->Prop}(T:s.heap.get? D=P3^seqObj "list" a.toArray n)(X:a.length<64)(J:v_ Ev->On->Prop)(h:Ch)(L:h=s.heap.objs.size+1)
  (h0:∀r,(D8 s.heap D a).get? D=P3^seqObj "list" #[] r->J [] {s with heap:=D8 s.heap D a})
  (y:∀(d:v_ Ev) (g:On) (e:Nat) (v:Ev),J d g->g.heap.get? h=P3^seqObj "list" d.toArray e->a[d.length]?=P3 v->wpAny (model prog w) A (call f [v]) (λk l=>l.heap.get? h=P3^seqObj "list" d.toArray e/\J (d++[k]) {l with heap:=l.heap.update h (jp (·.push k))}) (λ_ _=>False) g)
  (M:∀(r:Nat),(D8 s.heap D a).get? D=P3^seqObj "list" #[] r->∀(d:v_ Ev) (g:On),J d g->d.length=a.length->g.heap.get? D=P3^seqObj "list" #[] r/\∃G:Array Nat->Prop,
   (2<=a.length->wpAny (model prog w) A (keyKind' d.toArray) (λκ N=>(kas_sort a.length).kasWp (kas_ask prog w A κ d) (λp l=>l=g/\G p) N) (λ_ _=>False) g)/\(a.length<2->G^jO^jL a.length) /\
   ∀(p:Array Nat) (U:i8) (c:Nat),p.size=a.length->G p->(∀b o,b≠D->b≠h->g.heap.get? b=P3 o->U.get? b=P3 o)->U.get? D=P3^seqObj "list" (jO^p.toList.map λi=>a.getD i jg) c->(∃o,U.get? h=P3 o)->P (.done^.ret .none) {g with heap:=U}):
  wpAny (model prog w) A (ksk_tree D f u_) P E s:=by
 let#[r,O,Y]:=K9 T;have u:((s.heap.update D^jp λ_=>(#[]:Array Ev)).push^seqObj "tuple" a.toArray 0).objs.size=h:=by rw[size_push',Heap.size_update,L]
 have hD:D<s.heap.objs.size:=ZB T;have R:D≠h:=by rw[L]; exact i_^jx hD
 have Z:(D8 s.heap D a).get? h=P3^seqObj "list" #[] 0:=by rw[←u]; exact XV _ rfl
 unfold ksk_tree;refine Db (nY T rfl ?_);refine Db (lV T rfl ?_ (by rw[iy,jX]; omega) (i6 _));refine Db (oF Y rfl ?_);refine Db (wpAny_newTuple ?_^by show a.length<=_; rw[jX]; omega);refine Db^oR ?_^i6 _;refine jb ?_;show wpAny (model prog w) A (ksk_rest D f u_ a.toArray r^.ref ((s.heap.update D^jp λ_=>(#[]:Array Ev)).push^seqObj "tuple" a.toArray 0).objs.size) P E {s with heap:=D8 s.heap D a};rw[u];unfold ksk_rest;refine Db^oi ?_
 first
  |rw[List.forIn_toArray]
  |(rw[←mo]; simp only[n8])
  |rw[←mo]
 refine Db^ksk_fold (I:=λi g=>∃d e,l7 d=i/\J d g/\g.heap.get? h=P3^seqObj "list" d.toArray e) a 0 _ #[[],0,rfl,h0 r O,Z] (λj x g hx hI=>?_) λg hI=>?_
 .let#[d,e,t,hJ,B]:=hI
  have hj:j<a.length:=(Uf.mp hx).1;have t:d.length=j:=by lk
  refine Db^wpAny_attempt^jo (y d g e x hJ B^by rw[t]; exact hx) (λk l C=>?_) λ_ _ hF=>hF.elim;have ea:(jO d).push k=jO (d++[k]):=by simp
  obtain⟨F,H⟩:∃F,(l.heap.update h (jp (·.push k))).get? h=P3^seqObj "list" (jO (d++[k])) F:=#[_,by rw[←ea]; exact lw C.1 (·.push k)]
  try dsimp only
  refine Db (lV C.1 rfl ?_ (by rw[iy,jX]; omega) (iz (oy (Array.size_push ..))^by rw[iy,jX]; omega));exact T0 #[rfl,d++[k],F,by rw[eq,jI]; omega,C.2,H]
 .let#[d,e,t,hJ,B]:=hI
  have t:d.length=a.length:=by lk
  let#[a0,G,g2,g1,g3]:=M r O d g hJ t
  try dsimp only
  refine Db (nY B rfl ?_)
  have tail:∀(V:SortSt) (p:Array Nat),p.size=a.length->G p->(arrOf V).map (·.2)=jO (p.toList.map λi=>a.getD i jg)->failedOf V=s_->wpAny (model prog w) A (ksk_tail D u_ r (.ref h) V) P E g:=λV p W hg S hf=>by
   have a5:(jO^p.toList.map λi=>a.getD i jg).size=a.length:=by rw[iy,FM,j9,W]
   obtain⟨ck,a6⟩:∃ck,(g.heap.update h^jp λ_=>(#[]:Array Ev)).get? h=P3^seqObj "list" #[] ck:=#[_,lw B λ_=>#[]];have K:(g.heap.update h^jp λ_=>(#[]:Array Ev)).get? D=P3^seqObj "list" #[] r:=(jG _ _^jy R).trans a0;obtain⟨F,H⟩:∃F,((g.heap.update h^jp λ_=>(#[]:Array Ev)).update D^jp λ_=>jO^p.toList.map λi=>a.getD i jg).get? D=P3^seqObj "list" (jO^p.toList.map λi=>a.getD i jg) F:=#[_,lw K λ_=>jO^p.toList.map λi=>a.getD i jg];unfold ksk_tail
   try dsimp only
   rw[S];refine Db (lV B rfl ?_ (by rw[iy,jX]; omega) (i6 _));refine Db^l8 ?_;refine Db (oF K rfl ?_);refine Db (lV K rfl ?_ (i6 _) (iz (oy a5)^by rw[jX]; omega));rw[hf];simp only[bne_self_eq_false,jD,if_false];refine T0^g3 p _ F W hg (λb o a7 a8 e=>(jG _ _^jy a7).trans^(jG _ _^jy a8).trans e) H #[_,(jG _ _ R).trans a6]
  unfold ksk_end
  try dsimp only
  simp only[jD,if_false]
  by_cases h2:a.length<2
  .have m:a.toArray.size<2:=by rw[iy]; exact h2
   rw[if_pos m,if_pos m];refine Db^T0 ?_;rw[StateT.run_pure];refine Db^T0 ?_
   try dsimp only
   refine tail _ (jO^jL a.length) (by simp) (g1 h2) (kat_snds t ?_) rfl;have er:=kas_range^d.toArray.zip a.toArray;rw[show(d.toArray.zip a.toArray).size=a.length by simp[t]]at er;exact er.symm
  .have m:¬a.toArray.size<2:=by rw[iy]; exact h2
   rw[if_neg m,if_neg m];refine Db^jo (g2^by lk) (λκ s0 B=>?_) λ_ _ x=>x.elim
   refine Db (jo (kat_run (Q:=λq N=>∃p:Array Nat,p.size=a.length/\arrOf q=p.map^kas_item^d.toArray.zip a.toArray/\failedOf q=s_/\N=g/\G p)
    t (by lk) X (λp' q N a1 a2 a3 a4=>#[p',a1,a2,a3,a4]) B) ?_ λ_ _ e=>e)
   rintro⟨⟨⟩,q⟩ N ⟨p,W,a9,hf,rfl,hg⟩
   try dsimp only
   exact tail q p W hg (kat_snds t a9) hf
end
section
variable {X:Cx}{zH:v_ (Addr×Obj)}{Z:L2.St}{H:Hp}{s:Shared}{h':Heap}
structure WM (X:Cx) (zH:List (Ch×Obj)) (D:Ch):Prop where
 new:X.s₀.heap.objs.size<=D
 loc:D≠X.env.locals
 cell:∀x c,X.env.cells.lookup x=P3 c->c≠D
 pin:∀p∈X.pn++zH,p.1≠D
 fs:D∉X.fs
def Inv.mine(I:Inv X zH Z H s){D:Ch}(h:s.heap.objs.size<=D):WM X zH D:=by
 refine#[iz I.sz h,λz=>?_,λx c e z=>?_,λp a z=>?_,I.nofs h]
 .have:=I.lt
  rw[←z]at this;exact absurd this^mO.mpr h
 .let#[v,o,b,_]:=I.cell x c e
  have:=ZB b
  rw[z]at this;exact absurd this^mO.mpr h
 .let#[e,_]:=I.pin p a
  have:=ZB e
  rw[z]at this;exact absurd this^mO.mpr h
structure KeysAt (K:Frag) (H:Hp) (vs:List V) (keys:List^List Key):Prop where
 len:vs.length=keys.length
 at_:∀(i:Nat) (ns:List Key),keys[i]?=P3 ns->∃a,vs[i]?=P3^.ref a/\SqT K H a (ns.map kOf)
 same:∀x∈keys,∀y∈keys,Cb x y=t_
 ne:∀x∈keys,x≠[]
def OM(a:v_^v_ Key)(b:v_ Nat):Prop:=b.Perm^jL a.length/\∀i j,i<=j->j<a.length->BS (a.getD (b.getD j 0) [])^a.getD (b.getD i 0) []=u_
def KeysAt.tups{d:v_ V}{f:v_ Ev}{c:v_^v_ Key}(I:Inv X zH Z H s)(r:Vals d f)(k:KeysAt X.K H d c){h':i8}(g:∀b o,s.heap.get? b=P3 o->h'.get? b=P3 o):U4 h' f c:=by
 refine#[λi h e=>?_,r.length.symm.trans k.len,k.same,k.ne];let#[a,j,l]:=k.at_ i h e;let#[u,m,p]:=r.get j;cases p;let#[q,x,#[o,t,v,n,w],_]:=I.tuple l;exact#[a,o,_,n,m,g a o t,v,w,by grind]
theorem Ip:∀{a:v_ V}{b:v_ Ev},Vals a b->∀i:Nat,RelV (a.getD i .non)^b.getD i jg
 |_,_,.nil,i=>by simp[RelV]
 |_,_,.cons r t,0=>by simpa using r
 |_,_,.cons r t,i+1=>by simpa using Ip t i
theorem Kx{f:Nat->V}{g:Nat->Ev}(h:∀i,RelV (f i)^g i):∀a:v_ Nat,Vals (a.map f)^a.map g
 |[]=>.nil
 |i::a=>.cons (h i)^Kx h a
def getD_list(p:Array Nat)(i:Nat):p.getD i 0=p.toList.getD i 0:=by simp
def Xf{a:v_^v_ Key}{n:Nat}{p:Array Nat}(c:a.length=n)(d:p.Perm^jO^jL n)(e:So.Srt VS (λi=>a.getD i []) p n):OM a p.toList:=by
 subst c;refine#[Array.perm_iff_toList_perm.mp d,λi j b f=>?_];have h:=e i j b f;unfold So.KN at h;rw[getD_list,getD_list]at h;exact h
def VC{z:jd}{A:Ev->On->Prop}{d:v_ V}{f:v_ Ev}{keys:v_^v_ Key}{Q:VK}(I:Inv X zH Z H s)(r:Vals d f)(B:d.length<64)(k:KeysAt X.K H d keys)
  (q:∀(v:v_ Nat) (l:Ch),OM keys v->H l=s_->Q (.ref l)^BQ H l^.lst^v.map λi=>d.getD i .non):
  wpAny (model X.prog X.w) z (ll.«list.sort» #[[.ref s.heap.objs.size],[]]) (λm C=>m=.done^.ret .none/\EP X zH Z Q (.ref s.heap.objs.size) C) A {s with heap:=s.heap.push^seqObj "list" f.toArray 0}:=by
 have x:=r.length;have t:keys.length=f.length:=k.len.symm.trans x;refine Q2 (G:=λp=>p.Perm _/\So.Srt VS (λi=>keys.getD i []) p f.length) (n:=0) (XV _ rfl) (by lk) (λD=>?_) (λL=>#[pG _,λi j E M=>?_]) λp h' c N y g F=>#[rfl,?_]
 .refine NS (keys:=keys) (k.tups I r λb o e=>?_) D λp a b=>#[rfl,a,b]
  exact Iu (i_^ZB e)^Go _ e
 .have:i=j:=by lk
  subst this;exact kX _
 .have J:H s.heap.objs.size=s_:=I.fresh
  have u:(p.toList.map λi=>d.getD i .non).length=f.length:=by grind
  refine#[.ref s.heap.objs.size,BQ H s.heap.objs.size^.lst _,I.laid (t':=s.toks) (λb o e=>g b o (i_^ZB e)^Go _ e) (Rs _) #[by rw[u,←x,jX]; omega,_,c,Kx (Ip r) p.toList,F],rfl,q _ _ (Xf t y.1 y.2) J]
def RN{c:jK}{w:jQ}{A:jd}{E:Ev->On->Prop}{s:On}{l:Ch}{b:v_ Ev}{Q:v_ Ev->On->Prop}(e:IsTup s.heap l b.toArray)
  (h:Q b {s with heap:=(s.heap.push^seqObj "list" #[] 0).update s.heap.objs.size (jp (·++b.toArray))}) (g:b.length<=sizeLine):
  wpAny (model c w) A (collect^.ref l) Q E s:=by
 let#[o,i,j,n,k]:=id e;unfold collect;refine Db^wpAny_runValue^jq entry_proto_collect' ?_;show wpAny _ _ (do again (.builtin "list.__iadd__" #[[←newList [],.ref l],[]])) _ _ s;refine Db^oR^T0 #[Code.quiet_builtin _ (by decide +kernel),jq entry_list_iadd' ?_];show wpAny _ _ (lQ (.ref s.heap.objs.size) (.ref l)^.ref s.heap.objs.size) _ _ {s with heap:=s.heap.push^seqObj "list" #[] 0};unfold lQ;have d:(s.heap.push^seqObj "list" #[] 0).get? l=P3 o:=Go _ i;refine Db^mI (T:="tuple") #[o,d,j] ?_;have m:(lq "tuple"==lq "tuple")=t_:=by rfl
 rw[if_pos^by rw[m]; simp];refine Db^nY d k ?_;refine Db (nY (xs:=#[]) (n:=0) (XV _ rfl) rfl ?_);rw[if_neg^by simp];refine Db (lV (xs:=#[]) (n:=0) (XV _ rfl) rfl ?_ (i6 _) (by show(#[]++b.toArray).size<=sizeLine+1; simp only[Array.size_append,iy,ko]; omega));refine T0 ?_
 show wpAny (model c w) A (do
   let o ←load s.heap.objs.size
   match o.data with
   |.seq xs _=>pure xs.toList
   |_=>unsupported "internal:collect") Q E {s with heap:=(s.heap.push^seqObj "list" #[] 0).update s.heap.objs.size (jp (·++b.toArray))}
 refine Db^wpAny_load (lw (XV _ rfl) _) ?_;show wpAny _ _ (pure ((#[]:Array Ev)++b.toArray).toList) Q E _;rw[show((#[]:Array Ev)++b.toArray).toList=b by simp];exact T0 h
def RQ{h:i8}{g:Array Ev->Array Ev}{b:Ch}{o:Obj}(e:h.get? b=P3 o):((h.push^seqObj "list" #[] 0).update h.objs.size^jp g).get? b=P3 o:=
 (jG _ _^jy^i_^ZB e).trans (Go _ e)
def RP{g:Bool}{k:jd}{l:Ev->On->Prop}{p:Ch}{c:v_ V}{Q:v_ Ev->On->Prop}(I:Inv X zH Z H s)(h:SqK g X.K H p c)(q:∀i j,Vals c i->c.length<=sizeLine->Inv X zH Z H j->Q i j):
  wpAny (model X.prog X.w) k (collect^.ref p) Q l s:=by
 cases g with
 |true=>
  let#[d,r,f,a]:=I.list h;exact collect_list f.isList (q _ _ r a^I.kept λb o e=>RQ e)^by rw[←r.length]; exact a
 |false=>
  let#[d,r,f,a]:=I.tuple h;exact RN f (q _ _ r a^I.kept λb o e=>RQ e)^by rw[←r.length]; exact a
def W9(K:Frag):v_ V->Hp->VK->Prop:=λd H Q=>∃(e:Bool) (p:Ch) (b:v_ V) (a:v_^v_ Key),d=[.ref p]/\SqK e K H p b/\b.length<64/\KeysAt K H b a /\
 ∀(c:v_ Nat) (l:Ch),OM a c->H l=s_->Q (.ref l)^BQ H l^.lst^c.map λi=>b.getD i .non
def CB:DL X (.builtin "sorted")^W9 X.K:=by
 intro zH s Z H k d Q I r h;let#[l,p,m,b,rfl,e,a,f,q]:=h;let#[u,rfl,g]:=vals1 r;cases g;exact HL (args_sorted1 _) (λx=>args_list_sort _)^RP I e λd n c i j=>#[by rw[←c.length]; exact i,VC j c a f q]
end
def HB(H:Hp)(L:v_ Ch)(f:Ch->Obj):Hp:=λb=>if b∈L then(H b).map^HO.frz^f b else H b
def En{H:Hp}{L:v_ Ch}{f:Ch->Obj}{b:Ch}(h:b∉L):HB H L f b=H b:=by unfold HB; rw[if_neg h]
def Ud{H:Hp}{L:v_ Ch}{f:Ch->Obj}{b:Ch}{o:HO}(h:b∈L)(e:H b=P3 o):HB H L f b=P3^.frz (f b) o:=by unfold HB; grind
section
variable {X:Cx}{zH:v_ (Addr×Obj)}{Z:L2.St}{H:Hp}{s:Shared}
def Inv.frz{L:v_ Ch}(I:Inv X zH Z H s)(k:∀b∈L,∃d,H b=P3^.dK d):∃f,Inv X zH Z (HB H L f) s:=by
 have a:∀(f:Ch->Obj) b o,H b=P3 o->(∀d,o≠.dK d)->HB H L f b=P3 o:=λf b o e n=>by
  rw[En λx=>by grind];exact e
 exists λb=>(s.heap.get? b).getD {cls:=.none,data:=.fields #[]};refine I.step (g':=s.gens) (d':=s.drawn) (t':=s.toks) (h':=s.heap) (ch:=[]) (λ_ z=>nomatch z) (λ_ _ _ _ _ e _=>e) (λb o _ _ _ e _=>#[o.slots,e]) (λb o _ e n=>?_) (λb o _ e=>#[o,e]) (λb l e=>a _ b _ e λ_ z=>by cases z) (λb o u e=>a _ b _ e λ_ z=>by cases z) (λb A e=>#[#[],by grind]) (λ_ h=>h) (λb u e=>?_) I.bare
 .unfold HB
  simp_all
 .by_cases g:b∈L
  .let#[d,i]:=k b g
   rw[Ud g i]at e;cases e;let#[z,y,m,r,p,t,v,j,c]:=(show ObjOk X.prog X.w H s.heap b^.dK d from I.hok b _ i);exact#[by rw[j]; rfl,z,y,m,r,p,t,v,j,c]
  .rw[En g]at e
   exact(I.hok b u e).stay (λ_ _ _ q=>q) (λc q=>a _ c _ q λ_ z=>by cases z) λc l q=>a _ c _ q λ_ z=>by cases z
def gW(t:TE):TE:=λZ H Q=>t Z H λv c=>∃L:v_ Ch,(∀b∈L,∃a,c b=P3^.dK a)/\∀f:Ch->Obj,Q v^HB c L f
def bu{e:jJ}{t:TE}(h:PE X e t):PE X e^gW t:=by
 intro zH s Z H Q I a;refine thn (h _ s Z H _ I a) λu g #[v,i,b,r,L,c,q]=>?_;let#[f,d]:=b.frz c;exact#[v,_,d,r,q f]
end
end L2
namespace Nt
open L2 Dp
def ED(c:v_ Aq)(p:Str):v_ (Str×Int):=c.flatMap λt=>(if t.a=p then [(t.b,t.len)]else [])++(if t.b=p then [(t.a,t.len)]else [])
def Xl(a:v_ Aq)(p:Str):D:=.fdi ((ED a p).map λx=>.inr x.1)^(ED a p).map λx=>.int x.2
def E4(N:Net):D:=.dic (N.ps.map .inr)^N.ps.map^Xl N.ts
def Me:W2:=λa n P=>∃N:Net,a=[.sh^enc N]/\N.Ok/\N.ps.length<=1000/\N.ts.length<=1000/\P (E4 N) n
def kv(x:Str×Int):Key×V:=(.inr x.1,.int x.2)
structure Stp (H:Hp) (d:Ch) (as:List (Str×Ch)) (tb:Str->List (Key×V)) (H':Hp):Prop where
 old:∀b o,H b=P3 o->H' b=P3 o
 new:H d=s_
 top:H' d=P3 (.dK^as.map λx=>(.inr x.1,.ref x.2))
 inn:∀x∈as,H x.2=s_/\x.2≠d/\H' x.2=P3 (.dK^tb x.1)
 ads:(as.map (·.2)).Nodup
 nms:(as.map (·.1)).Nodup
def KU{b:v_ (Str×Ch)}(c:(b.map (·.1)).Nodup){p:Str}{a:Ch}(h:(p,a)∈b):DD (b.map λx=>((.inr x.1:Key),V.ref x.2))^.inr p=P3^.ref a:=by
 induction b with
 |nil=>cases h
 | cons x r d=>
  rw[jc,jA]at c
  rcases UF.mp h with e|h
  .rw[←e]
   exact EY rfl
  .exact(EZ λe=>c.1^by rw[kr e]; exact Sc.mpr #[_,h,rfl]).trans^d c.2 h
def Sb{a:v_ (Str×Ch)}{p:Str}{v:V}(h:p∉a.map (·.1)):putK (a.map λx=>((.inr x.1:Key),V.ref x.2)) (.inr p) v=(a.map λx=>((.inr x.1:Key),V.ref x.2))++[(.inr p,v)]:=by
 unfold putK
 simp_all
def UE{a:v_ (Str×Int)}{p:Str}{l:Int}(h:p∉a.map (·.1)):putK (a.map kv) (.inr p)^.int l=(a++[(p,l)]).map kv:=by
 unfold putK;rw[if_neg,jP]
 .rfl
 .rw[kZ]
  rintro⟨y,b,e⟩;let#[x,c,rfl]:=Sc.mp b;exact h^Sc.mpr #[x,c,kr^of_decide_eq_true e]
def Stp.more{H m:Hp}{d q:Ch}{l:v_ (Str×Ch)}{n:Str->v_ (Key×V)}{p:Str}(s:Stp H d l n m)(i:m q=s_)(v:p∉l.map (·.1))(A:n p=[]):
  Stp H d (l++[(p,q)]) n (BQ (BQ m q^.dK []) d^.dK^putK (l.map λx=>((.inr x.1:Key),V.ref x.2)) (.inr p)^.ref q):=by
 have w:q≠d:=λe=>by rw[e,s.top]at i; cases i
 have k:H q=s_:=by
  cases c:H q with
  |none=>rfl
  |some o=>rw[s.old q o c]at i; cases i
 exists λb o e=>?_,s.new,?_,λx f=>?_,?_
 .have B:b≠d:=λz=>by rw[z,s.new]at e; cases e
  have r:b≠q:=λz=>by rw[z,k]at e; cases e
  rw[Ah B,Ah r];exact s.old b o e
 .rw[An,Sb v,jP]; rfl
 .rcases i9.mp f with f|f
  .let#[y,t,j]:=s.inn x f
   have r:x.2≠q:=λz=>by rw[z,i]at j; cases j
   exact#[y,t,by rw[Ah t,Ah r]; exact j]
  .rw[Re.mp f]
   exact#[k,w,by rw[Ah w,An,A]]
 .rw[jP,jW]
  refine#[s.ads,jA.mpr #[(λh=>by cases h),jT],λa u b g e=>?_];let#[x,f,rfl]:=Sc.mp u;have g:b=q:=Re.mp g;let#[y,t,j]:=s.inn x f;rw[e,g,i]at j;cases j
 .rw[jP,jW]
  refine#[s.nms,jA.mpr #[(λh=>by cases h),jT],λa u b g e=>?_];have g:b=p:=Re.mp g;exact v^by rw[←g,←e]; exact u
def Vb{c:v_ (Str×Ch)}(d:(c.map (·.1)).Nodup){p:Str}{a b:Ch}(e:(p,a)∈c)(f:(p,b)∈c):a=b:=by
 have:=(KU d e).symm.trans^KU d f
 grind
def Va{b:v_ (Str×Ch)}(c:(b.map (·.2)).Nodup){p q:Str}{a:Ch}(e:(p,a)∈b)(f:(q,a)∈b):p=q:=by
 induction b with
 |nil=>cases e
 | cons x r i=>
  rw[jc,jA]at c
  rcases UF.mp e with j|g
  .rcases UF.mp f with h|d
   .grind
   .exact absurd (Sc.mpr #[_,d,by rw[←j]]) c.1
  .rcases UF.mp f with h|d
   .exact absurd (Sc.mpr #[_,g,by rw[←h]]) c.1
   .exact i c.2 g d
def Stp.put{H g:Hp}{d a:Ch}{c:v_ (Str×Ch)}{h tb2:Str->v_ (Key×V)}{p:Str}{kvs:v_ (Key×V)}(s:Stp H d c h g)(f:(p,a)∈c)(i:tb2 p=kvs)(j:∀q,q≠p->tb2 q=h q):
  Stp H d c tb2 (BQ g a^.dK kvs):=by
 let#[u,k,v]:=s.inn _ f;refine#[λb o e=>?_,s.new,?_,λx l=>?_,s.ads,s.nms]
 .have m:b≠a:=λz=>by grind
  rw[Ah m];exact s.old b o e
 .rw[Ah^jy k]
  exact s.top
 .let#[n,r,t]:=s.inn x l
  exists n,r
  by_cases e:x.2=a
  .have:=Va s.ads (show(x.1,a)∈c by grind) f
   rw[e,An,this,i]
  .have:x.1≠p:=λz=>e^Vb s.nms (show(p,x.2)∈c by grind) f
   rw[Ah e,j _ this];exact t
def Qx(c:v_ Aq)(t:Aq)(p:Str):ED (c++[t]) p=ED c p++((if t.a=p then [(t.b,t.len)]else [])++(if t.b=p then [(t.a,t.len)]else [])):=by
 unfold ED
 simp_all
def O1{d:v_ Aq}{p q:Str}(h:q∈(ED d p).map (·.1)):∃t∈d,(t.a=p/\t.b=q)\/(t.b=p/\t.a=q):=by
 let#[x,c,rfl]:=Sc.mp h;let#[t,e,c]:=k6.mp c;exists t,e
 rcases i9.mp c with c|c
 .simp_all
 simp_all
def UQ(c:v_ Aq)(p:Str):(ED c p).length<=2*c.length:=by
 induction c with
 |nil=>exact i6 _
 |cons t r d=>
  unfold ED at d ⊢;rw[List.flatMap_cons,eq,eq];have e:(if t.a=p then [(t.b,t.len)]else []).length<=1:=by grind
  grind
def YJ{d:v_ Aq}{t:Aq}(i:(d++[t]).Pairwise Bm)(f:∀s∈d++[t],cs s.a<cs s.b):t.b∉(ED d t.a).map (·.1)/\t.a∉(ED d t.b).map (·.1):=by
 rw[nZ]at i
 have g:∀s∈d,¬((s.a=t.a/\s.b=t.b)\/(s.b=t.a/\s.a=t.b)):=λs c e=>by
  have j:=i.2.2 s c t (Re.mpr rfl);have m:=f s^jM _ c;have n:=f t^f8 _ (Re.mpr rfl)
  rcases e with⟨k,l⟩|⟨k,l⟩
  .unfold Bm at j
   grind
  grind
 refine#[λh=>?_,λh=>?_]
 .let#[s,c,e]:=O1 h
  exact g s c e
 .let#[s,c,e]:=O1 h
  exact g s c^e.elim (λz=>.inr #[z.2,z.1]) λz=>.inl #[z.2,z.1]
def Od{c:v_ Str}(h:rising c):c.Nodup:=h.imp λ{a b} d e=>by grind
def Ss{a:v_ Str}(h:a.Nodup){i:Nat}(c:i<a.length):a[i]∉a.take i:=by
 have e:a=a.take i++a[i]::a.drop (i+1):=by
  simp_all
 intro b;rw[e,jW]at h;exact h.2.2 _ b _ Op rfl
def Stp.at_{K:Frag}{M:Ch->Prop}{H q:Hp}{d:Ch}{c:v_ (Str×Ch)}{N:Net}(t:∀a,M a->∃o,H a=P3 o)(s:Stp H d c (λp=>(ED N.ts p).map kv) q)(u:c.map (·.1)=N.ps)(f:Ch->Obj):At K M (HB q (c.map (·.2)) f) (E4 N)^.ref d:=by
 have v:∀b,H b=s_->¬M b:=λb e m=>by let#[o,h]:=t b m; rw[h]at e; cases e
 have i:∀c:v_ (Str×Ch),(c.map λx=>((.inr x.1:Key),V.ref x.2))=((c.map (·.1)).map (.inr:Str->Key)).zip (c.map λx=>V.ref x.2):=λc=>by
  grind
 refine#[d,c.map λx=>.ref x.2,rfl,#[v d s.new,by rw[En (λw=>by let#[x,j,e]:=Sc.mp w; exact(s.inn x j).2.1 e),s.top,i,u]],by rw[FM,FM],?_];rw[←u]
 have z:∀k:v_ (Str×Ch),(∀x∈k,x∈c)->Ats K M (HB q (c.map (·.2)) f) ((k.map (·.1)).map^Xl N.ts) (k.map λx=>V.ref x.2):=λk=>by
  induction k with
  |nil=>intro _; rfl
  | cons x r l=>
   intro j;refine#[.ref x.2,r.map λx=>V.ref x.2,rfl,?_,l λy A=>j y^TW _ A];let#[B,D,C]:=s.inn x^j x Op
   have n:∀g:v_ (Str×Int),g.map kv=(g.map λx=>(.inr x.1:Key)).zip (g.map λx=>V.int x.2):=λg=>by
    induction g with
    |nil=>rfl
    |cons x r l=>rw[jc,l]; rfl
   refine#[x.2,(ED N.ts x.1).map λx=>V.int x.2,rfl,#[f x.2,v _ B,by rw[Ud (Sc.mpr #[x,j x Op,rfl]) C,n]],by rw[FM,FM],?_];generalize ED N.ts x.1=g
   induction g with
   |nil=>rfl
   |cons x r l=>exact#[.int x.2,_,rfl,rfl,l]
 exact z c λ_ h=>h
end Nt
namespace L2
open PySem.W
section
variable {X:Cx}{zH:v_ (Addr×Obj)}{Z:L2.St}{H:Hp}{s:Shared}{h':Heap}
def Inv.adopt2{D e:Ch}{o:HO}(I:Inv X zH Z H s)(m:WM X zH D)(h:H D=s_)(i:WM X zH e)(j:H e=s_)(l:D≠e)(k:∀b u,b≠D->b≠e->s.heap.get? b=P3 u->h'.get? b=P3 u)(new:ObjOk X.prog X.w (BQ H D o) h' D o):Inv X zH Z (BQ H D o) {s with heap:=h'}:=by
 have a:∀b,b∉[D,e]->b≠D/\b≠e:=λb d=>#[λz=>d (by rw[z]; exact Op),λz=>d^by rw[z]; exact TW _ (Re.mpr rfl)]
 refine I.step (g':=s.gens) (d':=s.drawn) (t':=s.toks) (ch:=[D,e]) (λb g=>?_) (λb u _ _ d q _=>k b u (a b d).1 (a b d).2 q) (λb u _ _ d q _=>#[u.slots,k b u (a b d).1 (a b d).2 q]) (λb u d q n=>?_)
  (λb u d q=>#[u,k b u (a b d).1 (a b d).2 q]) (λb p q=>?_) (λb u v q=>?_) (λb B q=>#[#[],?_]) (λC t=>?_) (λb u q=>?_) I.bare
 .rcases UF.mp g with rfl|g
  .exact#[.inr m.new,m.loc,m.cell,m.pin]
  .rw[Re.mp g]
   exact#[.inr i.new,i.loc,i.cell,i.pin]
 .rw[Ah (a b d).1]; exact n
 .rw[Ah^BB q h]; exact q
 .rw[Ah^BB q h]; exact q
 .rw[Ah^BB q h,q]; simp
 .let#[u,x,y,A,r]:=t
  exact#[u,x,y,k _ u (jy m.loc) (jy i.loc) A,r]
 .by_cases g:b=D
  .subst g; rw[An]at q; cases q; exact new
  .rw[Ah g]at q
   refine(I.hok b u q).stay (λc v d f=>k c v ?_ ?_ f) (λc f=>by rw[Ah^BB f h]; exact f) λc p f=>by rw[Ah^BB f h]; exact f
   .grind
   grind
def bM(K:Frag)(g:Sp)(h:TE):TE:=λZ H Q=>h Z H λx e=>∃(j:Bool) (l:Ch) (d:v_ V) (a:v_^v_ Key) (J:v_ V->Hp->Prop),x=.ref l/\SqK j K e l d/\d.length<64/\J [] e /\
 (∀b c v,J b c->d[b.length]?=P3 v->g [v] c (λk m=>J (b++[k]) m) E0) /\
 ∀b c,J b c->b.length=d.length->KeysAt K c b a/\∀(f:v_ Nat) (l:Ch),OM a f->c l=s_->Q (.ref l)^BQ c l^.lst^f.map λi=>d.getD i .non
def Xa{k:Nat}{f:Ch}{fd:jt}{pn fn:Str}{sp:Sp}{te:TE}{e:jJ}{p fp kp pos:Pos}(F:D6 X.prog X.w X.K X.mg X.base J6 k f fd [pn] sp)(hr:Room (k+2) X.A)(hg:Gl X "sorted")(hm:X.mg "sorted"=s_)
  (a9:Gl X fn) (b0:X.mg fn=P3^.ref f) (hb:Binds X.K fd [pn] []) (he:PE X e te) (hs:starEach [e] X.env=[(u_,eval e X.env)]:=by rfl) (b1:(fn==("__debug__":Str))=u_:=by cbv):
  PE X (.Call (.Name "sorted" p) [e] [#[P3 "key",.Name fn fp,kp]] pos) (bM X.K sp te):=by
 intro zH s Z H Q I h;refine kU^Dl I hg hm ku ?_
 refine callWith_kw (thn (B8 he C4 hs pos zH s Z H (λC T=>∃x,C=[x]/\∃(κ:Bool) (l:Ch) (C:v_ V) (keys:v_^v_ Key) (J:v_ V->Hp->Prop),x=.ref l/\SqK κ X.K T l C/\C.length<64/\J [] T /\
   (∀B U v,J B U->C[B.length]?=P3 v->sp [v] U (λk H3=>J (B++[k]) H3) E0) /\
   ∀B U,J B U->B.length=C.length->KeysAt X.K U B keys/\∀(ix:v_ Nat) (l:Ch),OM keys ix->U l=s_->Q (.ref l)^BQ U l^.lst^ix.map λi=>C.getD i .non) I ?first) λt s1 #[xs,T,I1,r1,q1]=>kws_cons^UV I1 a9 b0 (kws_nil ?_) b1) (by rw[hs]; rfl)^by rw[hs]; rfl
 case first=>
  show te Z H _;refine cast (congrArg (te Z H) ?_) h
  funext x T
  refine propext #[λz=>#[x,rfl,z],fun#[y,e,z]=>?_];cases e;exact z
 let#[x,rfl,κ,l,C,keys,J,rfl,hq,b2,j0,W,a0]:=q1;let#[u,rfl,ru]:=vals1 r1;cases ru;show wpAny (model X.prog X.w) X.A (call (.builtin "sorted") [.ref l] [(lZ "key",.ref f)]) _ _ s1;refine HL (ksk_s1 _ _) (λx=>ksk_l1 _ _)^RP I1 hq λt R r2 hz I2=>#[by rw[←r2.length]; exact hz,?_];rw[ksk_t1];have hl:=r2.length;generalize Y:R.heap.objs.size=D;have a1:(R.heap.push^seqObj "list" t.toArray 0).objs.size=D+1:=by rw[size_push',Y]
 have a2:(R.heap.push^seqObj "list" t.toArray 0).get? D=P3^seqObj "list" t.toArray 0:=by rw[←Y]; exact XV _ rfl
 have mD:WM X zH D:=I2.mine (by rw[Y]; exact Rs _);have mK:WM X zH (D+2):=I2.mine (by rw[Y]; exact Nat.le_add_right _ _);have nD:T D=s_:=I2.hok.fresh (by rw[Y]; exact Rs _);have nK:T (D+2)=s_:=I2.hok.fresh (by rw[Y]; exact Nat.le_add_right _ _);have a3:D≠D+2:=i_^jx^lI D;have S:∀b,WM X zH b->b∉Ue X.stack:=λb m z=>(UF.mp^I2.stkSub b z).elim m.loc m.fs
 refine Vm (s:={R with heap:=R.heap.push^seqObj "list" t.toArray 0}) (n:=0) a2 (by rw[←hl]; exact b2)
  (λB N=>∃O E,Vals O B/\J O E/\Inv X zH Z E N/\E D=s_/\E (D+2)=s_/\N.heap.get? D=(D8 (R.heap.push^seqObj "list" t.toArray 0) D t).get? D) (D+2) (by show D+2=(R.heap.push _).objs.size+1; rw[a1]) (λe1 a4=>?_) (λB N e v hJ hk hv=>?_) λe1 a4 B N hJ L=>?_
 .refine#[[],T,.nil,j0,?_,nD,nK,rfl]
  exact I2.kept (t':=R.toks) λb o q=>Iu (by rw[←Y]; exact i_^ZB q)^Go _ q
 .let#[O,E,rk,hJ,I',n1,n2,P]:=hJ
  have hi:B.length<t.length:=(Uf.mp hv).1;have a5:C[O.length]?=P3 (C[O.length]'(by rw[rk.length]; omega)):=No _;let#[u',e2,ru]:=r2.get a5;rw[rk.length,hv]at e2;cases e2;have b3:=W O E _ hJ a5;have E1:Env0 X.prog X.w X.K X.mg X.base X.A.in1.in1 X.stack N E:=I'.env0.in1.in1;refine nN^mh (F.run X.A.in1.in1 X.stack N E #[[v],[]] [v] _ _ E0 (hr.in1).in1 E1 (by simpa using hb N [v] I'.kIn rfl) (.cons ru .nil) b3) λr g M=>?_;cases r with
  |error e=>exact kg M
  | ok fl=>
   cases fl with
   |next=>exact kg M
   |brk=>exact kg M
   |cont=>exact kg M
   | ret u=>
    let#[w',H3,os,a6,un,b4,b5,q3]:=id M
    obtain⟨oD,eD⟩:∃o,N.heap.get? D=P3 o:=by
     let#[c,hc,_]:=K9 a2;exact#[_,P.trans hc]
    have kD:g.heap.get? D=P3 oD:=un.keep D oD eD n1 (S D mD) (by simp);have kK:g.heap.get? (D+2)=P3^seqObj "list" B.toArray e:=un.keep _ _ hk n2 (S _ mK) (by simp);have f1:H3 D=s_:=un.free D oD eD n1 (by simp);have f2:H3 (D+2)=s_:=un.free _ _ hk n2 (by simp);have I3:Inv X zH Z H3 g:=I'.call' os un b4 a6 (λb z=>absurd z^by simp);exists kK,O++[w'],H3,rk.append^.cons b5 .nil,q3,?_,f1,f2
    .exact I3.turned (t':=g.toks) (λb o hb q=>(jG _ _^jy hb).trans q) f2 mK.loc (.inr mK.new) mK.cell mK.pin
    .show(g.heap.update (D+2) _).get? D=_
     rw[jG _ _^jy a3,kD,←eD,P]
 .let#[O,E,rk,hJ,I',n1,n2,P]:=hJ
  let#[a7,q]:=a0 O E hJ (by rw[rk.length,L,hl]);have b6:keys.length=t.length:=by rw[←a7.len,rk.length,L]
  refine#[P.trans a4,λp=>p.Perm^jO^jL t.length/\So.Srt VS (λi=>keys.getD i []) p t.length,λh2=>?_,λh1=>#[pG _,λi j b9 hj=>?_],λp h' c hp hg a8 b7 _=>#[rfl,?_]]
  .have ts:=NS (prog:=X.prog) (w:=X.w) (A:=X.A.in1.in1) (keys:=keys) (a7.tups I' rk λb o e=>e) (by lk) (G:=λp g=>g=N/\p.Perm^jO^jL t.length/\So.Srt VS (λi=>keys.getD i []) p t.length) λp a b=>#[rfl,by rw[←L]; exact a,by rw[←L]; exact b]
   rw[L]at ts;exact ts
  .have:i=j:=by lk
   subst this;exact kX _
  .have b8:(p.toList.map λi=>C.getD i .non).length=t.length:=by rw[FM,j9,hp]
   refine#[.ref D,BQ E D^.lst^p.toList.map λi=>C.getD i .non,I'.adopt2 mD n1 mK n2 a3 a8 #[by rw[b8,←hl,jX]; omega,_,c,Kx (Ip r2) p.toList,b7],rfl,q _ _ (Xf b6 hg.1 hg.2) n1]
def cO{P:jK}{w:jQ}{k:Key}{u:Ev}(h:(BM P w).is k u=t_):RelV (kOf k) u:=by
 rcases BZ h with⟨i,t,rfl,rfl⟩|⟨x,t,rfl,rfl⟩
 .exact#[t,rfl]
 .exact#[t,rfl]
theorem Qm{e f:Type}{F:e->f->Prop}:∀{c:v_ e}{d:v_ f}{j:Nat}{a:e}{b:f},Paired F c d->c[j]?=P3 a->d[j]?=P3 b->F a b
 |_,_,_,_,_,.nil,h,_=>by simp at h
 |_,_,0,_,_,.cons r t,g,i=>by
  grind
 |_,_,j+1,_,_,.cons r t,g,i=>Qm (j:=j) t (by simp_all)^by simp_all
end
end L2
namespace Dp
open L2
section
variable {K:Frag}
def RF(a:v_ D)(P:D->Prop):Prop:=match a with
 |[.int i,.int j]=>P^.int (if j<i then j else i)
 |_=>False
def Vz(a:v_ D)(P:D->Prop):Prop:=match a with
 |[.int i]=>P^.int (if i<0 then -i else i)
 |_=>False
def Yq:D1 K .sh (λa H Q=>∃i j,a=[.int i,.int j]/\Q (.int (if j<i then j else i)) H) RF:=by
 intro U M H h k P Q b l c w q;unfold RF at w
 split at w
 .rename_i i j
  cases c with
  | cons d e=>cases e with
   |cons f g=>
    cases g;cases d.int;cases f.int;exact#[i,j,rfl,q _ H (.int _) .refl rfl w]
 grind
def Yv:D1 K .sh (λa H Q=>∃i,a=[.int i]/\Q (.int (if i<0 then -i else i)) H) Vz:=by
 intro U M H f g P Q b h c w q;unfold Vz at w
 split at w
 .rename_i i
  cases c with
  |cons d e=>
   cases e;cases d.int;exact#[i,rfl,q _ H (.int _) .refl rfl w]
 grind
end
def CH:D->w_^v_ Key
 |.tup a=>Jr a
 |_=>s_
def Ii(c:D->w_^v_ Key)(f:v_ D):Prop:=f.Pairwise λa b=>∀d e,c a=P3 d->c b=P3 e->BS e d=u_
def Keyed(a:D->w_^v_ Key)(b:v_ D):Prop:=(∀x∈b,∃k,a x=P3 k/\k≠[])/\∀x∈b,∀y∈b,∀c d,a x=P3 c->a y=P3 d->Cb c d=t_
def range_getD(a:v_ D):(jL a.length).map (λi=>a.getD i .non)=a:=by
 apply o8
 .simp
 simp_all
def UN{kf:D->w_^v_ Key}{c:v_ D}{a:v_^v_ Key}{b:v_ Nat}(m:a.length=c.length)(r:∀(i:Nat) (x:D),c[i]?=P3 x->∃k,a[i]?=P3 k/\kf x=P3 k)(h:OM a b):
  (b.map λi=>c.getD i .non).Perm c/\Ii kf (b.map λi=>c.getD i .non):=by
 let#[d,s]:=h;constructor
 .have:=d.map λi=>c.getD i D.non
  rw[m,range_getD]at this;exact this
 .unfold Ii
  rw[oj];intro i j n f l t u o p;rw[o9]at o p;rw[FM]at n f;have v:b.length=a.length:=by rw[d.length_eq,mG]
  have g:∀i (h:i<b.length) k,kf (c.getD b[i] .non)=P3 k->a.getD (b.getD i 0) []=k:=λi h k e=>by
   have w:b[i]<a.length:=jn.mp^d.mem_iff.mp^jv h;have q:b[i]<c.length:=by rw[←m]; exact w
   let#[C,y,z]:=r b[i] c[b[i]] (No q);have A:c.getD b[i] .non=c[b[i]]:=by rw[jN,No q]; rfl
   rw[A,z]at e;have B:b.getD i 0=b[i]:=by rw[jN,No h]; rfl
   rw[B,jN,y];exact iw e
  have:=s i j (md l)^by rw[←v]; exact f
  rw[g i n t o,g j f u p]at this;exact this
theorem El{b:D->w_^v_ Key}:∀{xs:v_ D},(∀x∈xs,∃k,b x=P3 k/\k≠[])->∃a:v_^v_ Key,a.length=xs.length/\(∀(i:Nat) (x:D),xs[i]?=P3 x->∃k,a[i]?=P3 k/\b x=P3 k/\k≠[])
 |[],_=>#[[],rfl,λi x e=>by simp at e]
 | x::xs,h=>by
  let#[k,d,f]:=h x Op;let#[a,l,g]:=El (xs:=xs) λy c=>h y^TW _ c;refine#[k::a,by simp_all,λi y e=>?_];cases i with
  |zero=>
   simp_all
  |succ i=>
   simp_all
section
variable {K:Frag}{M:Addr->Prop}{H:Hp}
theorem Ats.getD:∀{b:v_ D}{a:v_ V},Ats K M H b a->∀i:Nat,At K M H (b.getD i .non)^a.getD i .non
 |[],a,h,i=>by cases(h); simp[At]
 |d::b,a,h,0=>by
  let#[v,r,e,f,c]:=h
  grind
 |d::b,a,h,i+1=>by
  let#[v,r,e,f,c]:=h;subst e
  simpa using Ats.getD c i
theorem Ats.pick{b:v_ D}{c:v_ V}(h:Ats K M H b c):∀a:v_ Nat,Ats K M H (a.map λi=>b.getD i .non)^a.map λi=>c.getD i .non
 |[]=>rfl
 |i::a=>#[_,_,rfl,h.getD i,Ats.pick h a]
def GS{o:D->w_^v_ Key}{f:v_ D}{t:v_ V}{c:v_^v_ Key}(p:∀d k v,d∈f->o d=P3 k->At K M H d v->∃a,v=.ref a/\SqT K H a^k.map kOf)(u:Ats K M H f t)(z:Keyed o f)(w:c.length=f.length)(A:∀(i:Nat) (x:D),f[i]?=P3 x->∃k,c[i]?=P3 k/\o x=P3 k/\k≠[]):KeysAt K H t c:=by
 have b:∀(i:Nat) (h:v_ Key),c[i]?=P3 h->∃x,f[i]?=P3 x/\o x=P3 h/\h≠[]:=λi h e=>by
  have l:i<f.length:=by rw[←w]; exact(Uf.mp e).1
  let#[k,g,m,n]:=A i f[i] (No l);rw[e]at g;cases g;exact#[f[i],No l,m,n]
 refine#[u.length.trans w.symm,λi h e=>?_,λx q y B=>?_,λx q=>?_]
 .let#[d,g,m,_]:=b i h e
  let#[v,n,C]:=u.get g;let#[a,rfl,E]:=p d h v (jZ g) m C;exact#[a,n,E]
 .let#[i,l]:=kA.mp q
  let#[j,F]:=kA.mp B;let#[d,g,m,_]:=b i x l;let#[G,r,s,_]:=b j y F;exact z.2 d (jZ g) G (jZ r) x y m s
 .let#[i,l]:=kA.mp q
  let#[d,g,m,n]:=b i x l;exact n
def GU{d:D}{k:v_ Key}{v:V}(e:CH d=P3 k)(h:At K M H d v):∃a,v=.ref a/\SqT K H a^k.map kOf:=by
 cases d with
 |tup g=>
  let#[a,i,b,c,f]:=h
  have:=IA (e) f
  subst this;exact#[a,b,c.sq]
 |_=>cases e
def CI(c:v_ D)(P:D->Prop):Prop:=∃d b,c=[d]/\E5 d=P3 b/\b.length<64/\Keyed CH b/\∀a:v_ D,a.Perm b->Ii CH a->P^.lst a
def DY:D1 K .fr (W9 K) CI:=by
 intro U M H E F P Q o p r w q;let#[d,G,rfl,e,c,g,w]:=w;let#[v,rfl,s]:=Ei r;let#[t,a,u,rfl,f,y]:=OX s e (λ_ z=>z) p;let#[h,j,m]:=El g.1;refine#[t,a,u,_,rfl,y M H (Pres.refl _ _)^Ext.refl _ _,by rw[f.length]; exact c,GS (λd k v _=>GU) f g j m,λA l B n=>?_];let#[C,D]:=UN (kf:=CH) j (λi x e=>by let#[k,a,b,_]:=m i x e; simp_all) B;exact q _ _ _ (BE n) (Dq n^f.pick A)^w _ C D
end
section
variable {X:Cx}{a e:Expr}{zU:Kd}{wa:DW}{pos p fp kp:Pos}
def WT(W:W2)(wa:DW):DW:=λn h P=>wa n h λd e=>∃(c:v_ D) (f:D->D),E5 d=P3 c/\c.length<64/\(∀x∈c,∀g:D->Nat->Prop,g (f x) e->W [.sh x] e g)/\Keyed (λx=>CH^f x) c /\
 ∀b:v_ D,b.Perm c->Ii (λx=>CH^f x) b->P (.lst b) e
def YV{k:Nat}{fn pn:Str}{W:W2}(G:Got X.prog X.w X.K X.mg X.base fn k [pn] .sh W)(hr:Room (k+2) X.A)(hg:Gl X "sorted")(hm:X.mg "sorted"=s_)(a0:Gl X fn)(he:DE X e zU wa)
  (L:starEach [e] X.env=[(u_,eval e X.env)]:=by rfl) (a1:(fn==("__debug__":Str))=u_:=by cbv):DE X (.Call (.Name "sorted" p) [e] [#[P3 "key",.Name fn fp,kp]] pos) .fr^WT W wa:=by
 let#[f,fd,F,a2,b1,hb,hW]:=G;let#[t,h1,h2]:=he;refine#[_,Xa F hr hg hm a0 a2 hb h1 L a1,λC M H n ρ Z P Q R w q=>?_];refine h2 C M H n ρ Z _ _ R w λv H1 d n1 e1 f1 r1 p=>?_;let#[j,E,hd,a3,hw,hK,w]:=p;have N:=R.step e1 f1;let#[κ,l,us,rfl,L,sq]:=OX (U:=C.U) (r1.tpOf R.dom R.vM) hd R.uV N.vM;let#[O,hl,hk]:=El hK.1;have s:=L.length;refine#[κ,l,us,O,λc B=>Ext C.U H1 B/\FeedC X.K C.F M B n1/\c.length<=j.length/\∀(i:Nat) (k:V),c[i]?=P3 k->∃x,j[i]?=P3 x/\At X.K M B (E x) k,rfl,sq M H1 (Pres.refl _ _)^Ext.refl _ _,by rw[s]; exact a3,#[Ext.refl _ _,f1,i6 _,λi k z=>absurd (show(s_:w_ V)=P3 k from z) λh=>nomatch h],λc B v hJ hv=>?_,λc B hJ a4=>?_]
 .let#[ex,u,a5,I]:=hJ
  have m:=N.step ex u;have hi:c.length<j.length:=by rw[←s]; exact(Uf.mp hv).1
  have S:j[c.length]?=P3 j[c.length]:=No hi;let#[v',e2,hA]:=(L.pres^N.pres ex).get S;rw[hv]at e2;cases e2;refine#[rfl,C.F,C.U,C.V,M,n1,[.sh j[c.length]],λd n=>d=E j[c.length]/\n=n1,#[m.dom,m.fU,m.uV,m.vM,u,.cons #[#[v,rfl,hA],rfl] .nil],hw _ (jv hi) _ #[rfl,rfl],λr H3 d n' T f3 vr hd=>?_];let#[rfl,rfl]:=hd;refine#[ex.trans T,f3,by rw[eq,jI]; omega,λi k o=>?_]
  by_cases a6:i<c.length
  .rw[kL a6]at o
   let#[x,h3,h4]:=I i k o;exact#[x,h3,h4.pres^m.pres T]
  .rw[ju^by lk]at o
   have a7:i=c.length:=by
    have:=(Uf.mp o).1
    rw[jI]at this;lk
   subst a7;rw[nc]at o;cases(show P3 r=P3 k from o);exact#[_,S,vr]
 .let#[ex,u,a5,I]:=hJ
  have m:=N.step ex u;have a8:c.length=j.length:=by rw[a4,s]
  have a9:Ats X.K M B (j.map E) c:=by
   have go:∀(j:v_ D) (c:v_ V),c.length=j.length->(∀(i:Nat) (k:V),c[i]?=P3 k->∃x,j[i]?=P3 x/\At X.K M B (E x) k)->Ats X.K M B (j.map E) c:=by
    intro j
    induction j with
    |nil=>intro c h _; exact kj.mp h
    | cons x j ih=>
     intro c h hh;cases c with
     |nil=>cases h
     | cons k c=>
      let#[Y,e3,h3]:=hh 0 k rfl;cases(show P3 x=P3 Y from e3)
      exact#[k,c,rfl,h3,ih c (by simpa using h) λi k' e4=>by
       let#[y,e5,h5]:=hh (i+1) k' (by simpa using e4);exact#[y,by simpa using e5,h5]]
   exact go j c a8 I
  have b0:Keyed CH^j.map E:=by
   refine#[λy hy=>?_,λy hy z hz ka kb ea eb=>?_]
   .let#[x,hx,rfl]:=Sc.mp hy
    exact hK.1 x hx
   .let#[x,hx,rfl]:=Sc.mp hy
    let#[Y,J,rfl]:=Sc.mp hz;exact hK.2 x hx Y J ka kb ea eb
  refine#[GS (λd k v _=>GU) a9 b0 (by rw[hl,FM]) λi x e=>?_,λix l ho hn=>?_]
  .rw[ir]at e
   let#[Y,J,rfl]:=jY.mp e;exact hk i Y J
  .let#[o1,o2]:=UN (kf:=λx=>CH^E x) hl (λi x e=>by let#[k,a,b,_]:=hk i x e; exact#[k,a,b]) ho
   have g:Grow B (BQ B l^.lst^ix.map λi=>us.getD i .non):=BE hn;refine q _ _ (.lst^ix.map λi=>j.getD i .non) n1 ((e1.trans ex).trans g.ext) (u.grow g) (VR.back (e1.trans ex) ?_)^w _ o1 o2;exact Dq hn^(L.pres^N.pres ex).pick ix
def dM:Key->D
 |.inl i=>.int i
 |.inr x=>.str x
def UY:Key->Prop
 |.inl _=>True
 |.inr x=>x.length<=sizeLine
def cn{K:Frag}{M:Ch->Prop}{H:Hp}{k:Key}(h:UY k):At K M H (dM k)^kOf k:=by
 cases k with
 |inl i=>exact rfl
 |inr x=>exact#[rfl,h]
end
end Dp
namespace L2
section
open PySem.MeetsSeq
open PySem.AutoSeq1 (wpAny_loadPart')
def Wx(l:Ch)(items:Array Ev)(n:Nat)(x:Ev)(e:Ev->Bool)(j:Nat)(hj:j<items.size)(hit:e items[j]=t_)(hs1:items.size<=sizeLine)(prog:jK)(w:jQ)(A:jd)(R:Result->On->Prop)(hp:i8)(g:Array GenState)(d:Drawn)(tk:Nat)(os:_)
  (hl:hp.get? l=P3 {cls:=.type "list",dict:=s_,data:=.seq items n,slots:=#[]}) (he:∀y,y∈items->PySem.SeqAt.EqAt A.in1 #[hp,g,d,tk,os] y x^e y) (h:R (.ok^.ret .none) #[hp.update l^jp λxs=>xs.eraseIdxIfInBounds j,g,d,tk,os]):
  ∀k i:Nat,j - i=k->i<=j->(∀m (hm:m<items.size),i<=m->m<j->e items[m]=u_)->
   wpAny (model prog w) A.in1 (ll.«list.remove.loop» #[[.ref l,x,rawInt i],[]]) (λfin s'=>match fin with|.done f=>R (.ok f) s'|.again c'=>c'.quiet=t_/\codeAny (model prog w) A c' R s') (λe s'=>R (.error e) s') #[hp,g,d,tk,os]:=by
 intro k
 induction k with
 |zero=>
  intro i hk hij hno;have hij':i=j:=by lk
  subst hij'
  wp_walk using j8 hl
  have hi:items[((i:Nat):Int).toNat]?=P3 items[i]:=by simp[hj]
  rw[hi];refine Db^he _ (oY hj) prog w _ _ ?_;rw[hit];have hz':(items.eraseIdxIfInBounds i).size<=sizeLine+1:=iz (size_erased items _)^Nat.le_succ_of_le hs1
  wp_walk using (ng hl rfl (hz:=hs1) (_hz':=hz')),j8 hl
  simpa using h
 | succ k ih=>
  intro i hk hij hno;have hlt:i<items.size:=by lk
  wp_walk using j8 hl
  have hi:items[((i:Nat):Int).toNat]?=P3 items[i]:=by simp[hlt]
  have hc:((i:Int)+1)=((i+1:Nat):Int):=by push_cast; rfl
  rw[hi];refine Db^he _ (oY hlt) prog w _ _ ?_;rw[hno i hlt (Rs _)^by lk]
  wp_walk
  rw[hc]
  exact#[kd plain_remove_loop _,jq entry_remove_loop (by
   rw[kI plain_remove_loop _];exact ih (i+1) (by lk) (by lk) λm hm h1 h2=>hno m hm (by lk) h2)]
def Wy{prog:jK}{w:jQ}{A:jd}{E:Ev->On->Prop}{s:On}{Q:Ev->On->Prop}(l:Ch)(items:Array Ev)(n:Nat)(x:Ev)(e:Ev->Bool)(j:Nat)(hj:j<items.size)(hit:e items[j]=t_)(hno:∀m (hm:m<items.size),m<j->e items[m]=u_)
  (hs1:items.size<=sizeLine) (hl:s.heap.get? l=P3 {cls:=.type "list",dict:=s_,data:=.seq items n,slots:=#[]}) (he:∀y,y∈items->PySem.SeqAt.EqAt A.in1 s y x^e y)
  (h:Q .none {s with heap:=s.heap.update l^jp λxs=>xs.eraseIdxIfInBounds j}):wpAny (model prog w) A (call (.builtin "list.remove") [.ref l,x]) Q E s:=by
 have key:wpAny (model prog w) A.in1 (ll.«list.remove» #[[.ref l,x],[]]) (λfin s'=>match fin with|.done f=>wants Q E (.ok f) s'|.again c'=>c'.quiet=t_/\codeAny (model prog w) A c' (wants Q E) s') (λe s'=>wants Q E (.error e) s') s:=by
  let#[hp,g,d,tk,os]:=s
  wp_walk using j8 hl
  exact#[kd plain_remove_loop _,jq entry_remove_loop (Wx l _ n x e j hj hit hs1 _ w A _ hp g d tk os hl he h _ 0 rfl (i6 _) (λm hm _ h2=>hno m hm h2))]
 exact nN^mQ PySem.F.slot_list_remove.plain PySem.F.entry_list_remove^PySem.F.slot_list_remove.check _ _ _ _ _ _ _ _ #[_,hl,rfl] (PySem.F.args_list_remove_2 _ _) key
end
section
variable {X:Cx}
def T9:V->v_ V->Hp->VK->Prop:=λx f H Q=>∃(l:Ch) (b:v_ V) (y:V) (a:v_ lv) (d:lv) (j:Nat),x=.ref l/\f=[y]/\H l=P3^.lst b/\RVs H a b/\RV H d y/\kn a=t_/\d.canLay0=t_/\d.depth<=100 /\
 (∃c,a[j]?=P3 c/\ji c d=t_)/\(∀m e,m<j->a[m]?=P3 e->ji e d=u_)/\Q .non^BQ H l^.lst^b.eraseIdx j
def Ve{k:Nat}(L:Room k X.A):au X "list.remove" T9:=by
 intro Y s Z H x vs v us Q I M N h;let#[l,O,y,c,d,j,rfl,rfl,D,o,P,E,R,dd,#[S,F,p],t,q]:=h;cases M;let#[u,rfl,T]:=N.one;let#[z,a,n,r,hl,e]:=I.lstM D;let#[U,G]:=RVs.reads I o r;let#[bs,V]:=RV.reads I P T;have J:=PySem.SeqAt.readsAll_map c a U E G;have b:c.length=a.length:=by rw[←J,FM]
 have hu:=L.un;have K:min (kR c) d.depth<=d.depth:=mP _ _
 have f:∀m w,c[m]?=P3 w->∀(h:m<a.toArray.size),PySem.SeqAt.readOf s.heap a.toArray[m]=w:=λm w e h=>by
  rw[←J,ir]at e;have W:m<a.length:=by simpa using h
  rw[No W]at e;have e:=iw e
  simpa using e
 have B:j<a.length:=by rw[←b]; exact(Uf.mp F).1
 refine Wy l a.toArray n u (λy=>ji (PySem.SeqAt.readOf s.heap y) d) j (by rw[iy]; exact B) (by rw[f j S F]; exact p) (λm g C=>?_) (by rw[iy]; omega) e (PySem.SeqAt.items_eqAt (vs:=a.toArray) (by rw[n8]; exact G) V E R^by lk) ?_
 .have i:m<c.length:=by rw[b]; simpa using g
  rw[f m c[m] (No i) g];exact t m c[m] C (No i)
 .refine#[.non,_,I.lset (t':=s.toks) (its':=a.eraseIdx j) D e ?_ (r.eraseIdx j) ?_,rfl,q]
  .show a.toArray.eraseIdxIfInBounds j=(a.eraseIdx j).toArray
   rw[List.eraseIdxIfInBounds_toArray]
  .have:=JD O j
   omega
def T_:V->v_ V->Hp->VK->Prop:=λx b H Q=>∃(l:Ch) (a:v_ V) (i:Int) (y:V),x=.ref l/\b=[.int i,y]/\H l=P3^.lst a/\0<=i/\i<=(a.length:Int)/\i<1000000000/\a.length<sizeLine/\Q .non^BQ H l^.lst (a.take i.toNat++y::a.drop i.toNat)
def Zk(a:v_ Ev)(u:Ev)(i:Int)(e:0<=i)(f:i<=(a.length:Int)):
  (λb:Array Ev=>have k:=if i<0 then(i+(b.size:Int)).toNat else min i.toNat b.size; (b.extract 0 k).push u++b.extract k) a.toArray=(a.take i.toNat++u::a.drop i.toNat).toArray:=by
 have c:¬i<0:=by lk
 have d:min i.toNat a.length=i.toNat:=by lk
 simp only[if_neg c,d]
 grind
def Vf:au X "list.insert" T_:=by
 intro p s Z H x w v A Q I j k h;let#[l,B,i,y,rfl,rfl,d,m,C,D,E,q]:=h;cases j;let#[u,f,rfl,o,c]:=vals2 k;let#[t,rfl]:=o;let#[z,a,n,r,G,e]:=I.lstM d
 have b:¬(!Builtin.List.listFitsIndex i)=t_:=by
  rw[fitsIndex_both (by lk)^by lk]
  grind
 have g:=AutoSeq1.list_insert_list_int_val_1 l a.toArray n i t f b (by grind);refine call_meets F.slot_list_insert #[_,e,rfl] F.entry_list_insert (F.args_list_insert_3 _ _ _) g #[e,?_];refine#[.non,_,I.lset d e (Zk a f i m^by grind) ((r.take _).append^.cons c^r.drop _) ?_,rfl,q]
 grind
end
end L2
namespace Dp
open L2
def fK(d:D)(b:v_ D)(P:D->D->Prop):Prop:=∃(a:v_ D) (y:D) (j:Nat),d=.lst a/\b=[y]/\Cs^.lst a/\Cs y/\(∃x,a[j]?=P3 x/\C2 x y=t_)/\(∀m x,m<j->a[m]?=P3 x->C2 x y=u_)/\P (.lst^a.eraseIdx j) .non
def fb{K:Frag}:Y0 K T9 fK:=by
 intro M H a d G I P Q m t n w q;let#[b,y,j,rfl,rfl,#[o,s,_],#[v,z,A],#[x,B,c],f,w]:=w;let#[h,i,k]:=t;let#[u,r,rfl,C,D]:=n;cases(show r=[]from D)
 have g:∀(m:Nat) (p:lv),(Bj b)[m]?=P3 p->∃x,b[m]?=P3 x/\p=toPy x:=λm p e=>by
  rw[Cf,ir]at e;let#[x,l,rfl]:=jY.mp e
  grind
 refine#[a,h,u,Bj b,toPy y,j,rfl,rfl,i,k.rv o,C.rv v,s,z,A,#[toPy x,by rw[Cf,ir,B]; rfl,c],λm p E e=>?_,q _ (.lst^b.eraseIdx j) .non _ #[h.eraseIdx j,An,?_] rfl w]
 .let#[F,l,rfl]:=g m p e
  exact f m F E l
 .exact(k.eraseIdx j).pres^Cr m i
def cY(d:D)(b:v_ D)(P:D->D->Prop):Prop:=∃(a:v_ D) (i:Int) (y:D),d=.lst a/\b=[.int i,y]/\0<=i/\i<=(a.length:Int)/\i<1000000000/\a.length<sizeLine/\P (.lst (a.take i.toNat++y::a.drop i.toNat)) .non
def fg{K:Frag}:Y0 K T_ cY:=by
 intro M H a d p s P Q m t g w q;let#[h,i,y,rfl,rfl,j,v,k,x,w]:=w;let#[l,e,b]:=t;let#[u,r,rfl,n,f,z,rfl,c,o]:=g;cases(o);cases(n);have A:=b.length;exact#[a,l,i,f,rfl,rfl,e,j,by simp_all,k,by simp_all,q _ (.lst _) .non _ #[_,An,((b.take _).append (show Ats K M H (y::h.drop _) _ from#[f,_,rfl,c,b.drop _])).pres^Cr m e] rfl w]
def Io(c:Ij)(i:Ad):Ad:=λd n a=>∃W:Nat->Nat->v_ Slot->Prop,(∃m,W m n a)/\∀m n a,W m n a->
 c n a λb e=>if b=t_ then ∃N:Nat->v_ Slot->Prop,(∀f g,N f g->∃h,h<m/\W h f g)/\i {d with nx:=N,ct:=N,bk:=d.nx} e a else d.nx e a
section
variable {X:Cx}{κ:Kd}{c:Expr}{body:v_ Stmt}{wc:Ij}{wb:Ad}{pos:Pos}
def IF(I:pE (model X.prog X.w) X.A X.env X.xe)(J:DT X c wc)(O:Rt X κ body wb):DS X κ (.While c body [] pos)^Io wc wb:=by
 let#[tc,P,Q]:=J;let#[tb,S,T]:=O;refine#[_,XN I P S,λC M H n U Z y E R L w=>?_];let#[W,#[V,Y],g]:=w;exists λm h t=>∃i j a,Rel X.K C i t j a h/\W m j a,#[V,M,n,U,R,Y];rintro m h t ⟨i,j,a,z,w'⟩;refine Q C i t j a h _ _ z (g m j a w') λb B D e f p=>?_;have R2:=z.step e f;cases b with
 | true=>
  rw[if_pos rfl]at p ⊢;let#[N,hN,p]:=p;exists λF G=>∃u k l,Rel X.K C u G k l F/\N k l,λF G #[u,k,l,R3,w3]=>?_
  .let#[m',hm,d]:=hN k l w3
   exact#[m',hm,u,k,l,R3,d]
  .exact T C i B D a h {y with nx:=N,ct:=N,bk:=y.nx} _ R2 #[λo v q r x s d=>#[o,q,r,s,d],L.rt,λo v q r x s d=>L.nx o v q r x s d,λo v q r x s d=>#[o,q,r,s,d]] p
 |false=>
  rw[if_neg^by cbv]at p ⊢;exact L.nx i B D a h R2 p
def Im{f:E2}{n:Nat}{a:v_ Slot}(I:Nat->Nat->v_ Slot->Prop)(i:Nat)(j:I i n a)
  (k:∀m n a (N:Nat->v_ Slot->Prop),I m n a->(∀c e g,c<m->I c e g->N e g)->wc n a λb d=>if b=t_ then wb {f with nx:=N,ct:=N,bk:=f.nx} d a else f.nx d a)
  (mono:∀n a (P Q:Bool->Nat->Prop),(∀b d,P b d->Q b d)->wc n a P->wc n a Q):Io wc wb f n a:=by
 refine#[I,#[i,j],λm n a h=>?_];refine mono n a _ _ (λb d p=>?_)^k m n a (λe g=>∃c,c<m/\I c e _) h λc e g l o=>#[c,l,o];cases b with
 |true=>exact#[_,λ_ _ z=>z,p]
 |false=>exact p
end
end Dp
namespace Nt
open L2 Dp
def dZ(s t:Aq):Decidable (s=t):=
 if h:s.a=t.a/\s.b=t.b/\s.len=t.len then .isTrue (by let#[a,b,l]:=s; let#[g,i,j]:=t; let#[c,d,f]:=h; simp only at c d f; subst c d f; rfl)else .isFalse λe=>h^by rw[e]; exact#[rfl,rfl,rfl]
instance:DecidableEq Aq:=dZ
abbrev EF(a:D->Nat->Prop):E2:={nx:=λn _=>Kd.fr=.sh/\a .non n,rt:=a}
def CG(t:Aq):v_ Key:=[.inl t.len,.inr t.a,.inr t.b]
def Cu(a:v_ Aq):Prop:=a.Pairwise λs t=>BS (CG t)^CG s=u_
def Qe:D->D
 |.tup [x,y,z]=>.tup [z,x,y]
 |d=>d
def gl(x:Str×Int):D:=.tup [.str x.1,.int x.2]
abbrev Rn:W2:=λa n P=>∃x y z:D,a=[.sh^.tup [x,y,z]]/\P (.tup [z,x,y]) n
def EV:W2:=λc n P=>∃(d:D) (b:v_ Aq),c=[.sh d]/\E5 d=P3^b.map AS/\b.length<64/\∀a:v_ Aq,a.Perm b->Cu a->P (.lst^a.map AS) n
def WB:Ad:=(Ap^Az^AE (Ac A5 (AC 0)^wC^D.int 2)^AE (Ac A5 (AC 0)^wC^D.int 0)^AE (Ac A5 (AC 0)^wC^D.int 1) AQ)
def MP:Ad:=(Ap^WT Rn^AC 0)
def QU{s t:Aq}(h:CG s=CG t):s=t:=by
 let#[a,b,l]:=s;let#[c,d,e]:=t;unfold CG at h
 grind
theorem Ot{g:Type}{R:g->g->Prop}(c:∀a b,R a b->R b a->a=b):∀{d f:v_ g},d.Perm f->d.Pairwise R->f.Pairwise R->d=f
 |[],f,p,_,_=>(List.nil_perm.mp p).symm
 |a::d,[],p,_,_=>absurd (List.perm_nil.mp p)^kc _ _
 | a::d,b::f,p,i,j=>by
  have e:a=b:=by
   rcases UF.mp^p.mem_iff.mp Op with e|h
   .exact e
   .rcases UF.mp^p.mem_iff.mpr^Op with e|k
    .exact e.symm
    .exact c a b ((j6.mp i).1 b k)^(j6.mp j).1 a h
  subst e;rw[Ot c ((List.perm_cons a).mp p) (j6.mp i).2 (j6.mp j).2]
def DJ{c d:v_ Aq}(p:c.Perm d)(e:Cu c)(f:Cu d):c=d:=Ot (λa b x y=>QU^Cd _ _ y x) p e f
def NR{b:Type}{f:b->D}{g:D->b}(e:∀x,g^f x=x){c:v_ D}{d:v_ b}(h:c.Perm^d.map f):∃a:v_ b,a.Perm d/\c=a.map f:=by
 exists c.map g,?_
 .have:=h.map g
  rw[jf,show g∘f=id from funext e,lM]at this;exact this
 .rw[jf]
  have:∀x∈c,(f∘g) x=x:=λx i=>by
   let#[t,_,rfl]:=Sc.mp^h.mem_iff.mp i
   grind
  rw[lG this,List.map_id']
def YU:D->Aq
 |.tup [.str a,.str b,.int l]=>#[a,b,l]
 |_=>#["","",0]
section
variable {ss:v_ Slot}{n:Nat}{Pd:D->Nat->Prop}
def SN(h:Rn ss n Pd):WB (EE Pd) n (ss++Tk 0 .no):=by
 let#[x,y,z,rfl,p]:=h;exact#[_,AK rfl,_,AK rfl,_,AK rfl,z3,p]
def Xe{a:v_ Aq}(h:Ii (λx=>CH^Qe x)^a.map AS):Cu a:=by
 unfold Ii at h;rw[kE]at h;exact h.imp λ{s t} z=>z _ _ rfl rfl
def QX(h:EV ss n Pd):MP (EF Pd) n (ss++Tk 0 .no):=by
 let#[d,e,rfl,f,b,p]:=h;unfold MP;refine#[e.map AS,Qe,f,by rw[FM]; exact b,λx a Q i=>?_,#[λx a=>?_,λx a y j k l m o=>?_],λq r s=>?_]
 .let#[t,_,rfl]:=Sc.mp a
  exact#[_,_,_,rfl,i]
 .let#[t,_,rfl]:=Sc.mp a
  exact#[CG t,rfl,kc _ _]
 .let#[t,_,rfl]:=Sc.mp a
  let#[u,_,rfl]:=Sc.mp j;cases(show P3^CG t=P3 k from m);cases(show P3^CG u=P3 l from o);rfl
 .let#[c,v,rfl]:=NR (g:=YU) (λ_=>rfl) r
  exact p c v^Xe s
def O2{N:Net}(ok:N.Ok){x:Str}{p:Str×Int}(h:p∈ED N.ts x):p.1∈N.ps/\1<=p.2/\p.2<=1000000/\∃t∈N.ts,t.len=p.2/\((t.a=x/\t.b=p.1)\/(t.b=x/\t.a=p.1)):=by
 let#[t,c,h]:=k6.mp h;let#[g,i,j,d,f]:=ok.tin t c
 rcases i9.mp h with h|h
 .split at h
  .rename_i e
   rw[Re.mp h];exact#[i,d,f,t,c,rfl,.inl #[e,rfl]]
  .cases h
 .split at h
  .rename_i e
   rw[Re.mp h];exact#[g,d,f,t,c,rfl,.inr #[e,rfl]]
  .cases h
def Vq(s t:Aq):Gb (CG s)^CG t=BS (CG s)^CG t:=H_ _ _ rfl
def Kh(s t:Aq):C2 (AS s)^AS t=t_↔s=t:=by
 let#[a,b,l]:=s;let#[c,d,e]:=t;show(a==c&&(b==d&&(l==e&&t_)))=t_↔_
 simp_all
def Nq{a:v_ D}(h:∀d∈a,item d):Cs^.lst a:=by
 have c:=dps_le.mpr λd b=>(h d b).2.2;exact FC (by cbv) (fines_iff.mpr λd b=>(h d b).1)^by show ND a+1<=100; omega
theorem JH{a b:Type}(f:a->b):∀(l:v_ a) (i:Nat),(l.map f).eraseIdx i=(l.eraseIdx i).map f
 |[],i=>rfl
 |x::l,0=>rfl
 |x::l,i+1=>by
  show f x::(l.map f).eraseIdx i=f x::(l.eraseIdx i).map f;rw[JH f l i]
def Zv{N:Net}(ok:N.Ok){x o:Str}{s t:Aq}(j:s∈N.ts)(k:t∈N.ts)(e:Bm s t)(l:(s.a=x/\s.b=o)\/(s.b=x/\s.a=o))(m:(t.a=x/\t.b=o)\/(t.b=x/\t.a=o)):False:=by
 have i:=(ok.tin s j).2.2.1;have lt:=(ok.tin t k).2.2.1;have c:∀a,¬cs a<cs a:=λa=>k8 _
 rcases l with⟨d,f⟩|⟨d,f⟩ <;>rcases m with⟨g,h⟩|⟨g,h⟩ <;>rw[d,f]at i <;>rw[g,h]at lt
 .rcases e with e|⟨_,e⟩
  .rw[d,g]at e; exact c _ e
  grind
 .grind
 .exact c _^lE i lt
 .rcases e with e|⟨_,e⟩
  .rw[f,h]at e; exact c _ e
  grind
def Vc{N:Net}(ok:N.Ok)(x:Str):((ED N.ts x).map (·.1)).Nodup:=by
 have m:∀c:v_ Aq,(∀t∈c,t∈N.ts)->c.Pairwise Bm->((ED c x).map (·.1)).Nodup:=by
  intro c
  induction c with
  |nil=>intro _ _; exact jT
  | cons t c o=>
   intro d l;have k:=o (λs i=>d s^TW _ i) (j6.mp l).2;have lt:=(ok.tin t^d t Op).2.2.1
   have f:∀y,((t.a=x/\t.b=y)\/(t.b=x/\t.a=y))->y∉(ED c x).map (·.1):=λy p q=>by
    let#[s,i,h]:=O1 q;exact Zv ok (d t Op) (d s^TW _ i) ((j6.mp l).1 s i) p h
   have e:ED (t::c) x=((if t.a=x then [(t.b,t.len)]else [])++(if t.b=x then [(t.a,t.len)]else []))++ED c x:=by
    unfold ED;rw[List.flatMap_cons]
   rw[e]
   by_cases j:t.a=x
   .have g:¬t.b=x:=λz=>by rw[j,z]at lt; exact k8 _ lt
    rw[if_pos j,if_neg g,jE,nI,jc,jA];exact#[f _^.inl #[j,rfl],k]
   .rw[if_neg j,jB]
    by_cases g:t.b=x
    .rw[if_pos g,nI,jc,jA]
     exact#[f _^.inr #[g,rfl],k]
    .rw[if_neg g,jB]
     exact k
 exact m N.ts (λ_ h=>h) ok.trise
end
def CK(t:Aq):v_ Key:=[.inr t.a,.inr t.b,.inl t.len]
def fS(t:Aq):v_ Key:=[.inr t.a,.inr t.b]
def FQ(a:v_ Aq):Prop:=a.Pairwise λs t=>BS (CK t)^CK s=u_
def Tq(N:Net)(d:D):Prop:=∃a:v_ Aq,d=.tup [.tup^N.ps.map .str,.tup^a.map AS]/\(∀t∈a,t∈N.ts)/\a.Pairwise Bm
noncomputable def thinB(N:Net)(d:D):Bool:=@decide (Tq N d)^lF _
def thinB_iff{N:Net}{d:D}:thinB N d=t_↔Tq N d:=by
 unfold thinB
 grind
def YG{N:Net}{d:D}{b:Bool}(h:b=t_↔Tq N d):b=thinB N d:=by
 rw[je,thinB_iff];exact h
def dY(N:Net)(d:D):Prop:=∃s∈N.ts,d=AS s
noncomputable def Ez(N:Net)(d:D):Bool:=@decide (dY N d)^lF _
def tofB_iff{N:Net}{d:D}:Ez N d=t_↔dY N d:=by
 unfold Ez
 grind
def aj{a:Str}{x:D}(h:C2 (.str a) x=t_):x=.str a:=by
 cases x with
 |str b=>
  have h:(a==b)=t_:=h
  grind
 |_=>cases h
def fQ{a:Str}{x:D}(h:C2 x^.str a=t_):x=.str a:=by
 cases x with
 |str b=>
  have h:(b==a)=t_:=h
  grind
 |_=>cases h
theorem Ju:∀{a:v_ D}{b:v_ Str},mT (Bj a)^Bj^b.map .str=t_->a=b.map .str
 |[],[],_=>rfl
 |[],_::_,h=>by cases h
 |_::_,[],h=>by cases h
 |x::a,p::b,h=>by
  have h:(ji _ _&&mT _ _)=t_:=h;rw[iq]at h;rw[fQ h.1,Ju h.2];rfl
theorem eqvAll_refl:∀a:v_ Str,mT (Bj^a.map .str)^Bj^a.map .str=t_
 |[]=>rfl
 |p::a=>by
  show((p==p)&&mT _ _)=t_;rw[beq_self_eq_true,eqvAll_refl a];rfl
def eqD_strs{p:D}{a:v_ Str}:C2 p^.tup^a.map .str=t_↔p=.tup^a.map .str:=by
 constructor
 .intro h
  cases p with
  |tup b=>rw[Ju h]
  |_=>cases h
 .rintro rfl
  exact eqvAll_refl a
def N7{s:Aq}{d:D}(h:C2 (AS s) d=t_):∃z,d=.tup [.str s.a,.str s.b,z]/\∀i,z=.int i->i=s.len:=by
 cases d with
 | tup c=>
  match c,h with
  |[x,y,z],h=>
   have h:(ji (toPy^.str s.a)^toPy x&&(ji (toPy^.str s.b)^toPy y&&(ji (.int s.len)^toPy z&&t_)))=t_:=h;rw[Bool.and_true,iq,iq]at h;refine#[z,by rw[aj (a:=s.a) (x:=x) h.1,aj (a:=s.b) (x:=y) h.2.1],λi e=>?_];subst e;have f:(s.len==i)=t_:=h.2.2
   grind
  |[],h=>cases h
  |[x],h=>exact absurd h^by show ¬((ji (toPy^.str s.a)^toPy x&&u_)=t_); simp
  |[x,y],h=>exact absurd h^by show ¬((ji (toPy^.str s.a)^toPy x&&(ji (toPy^.str s.b)^toPy y&&u_))=t_); simp
  |x::y::z::u::r,h=>exact absurd h^by show ¬((ji (toPy^.str s.a)^toPy x&&(ji (toPy^.str s.b)^toPy y&&(ji (.int s.len)^toPy z&&u_)))=t_); simp
 |_=>cases h
def FD(s:Aq):C2 (AS s)^AS s=t_:=(Kh s s).mpr rfl
theorem PZ{f:Aq->D}{k:Aq->v_ Key}(d:∀s t,Xm (f s)^f t=P3^BS (k s)^k t):∀{ts:v_ Aq},WD^ts.map f=t_↔ts.Pairwise λs t=>BS (k s)^k t=t_
 |[]=>#[λ_=>.nil,λ_=>rfl]
 |[t]=>#[λ_=>m8 _ _,λ_=>rfl]
 | s::t::r=>by
  show((Xm _ _==P3 _)&&WD^(t::r).map f)=t_↔_;rw[iq,PZ d (ts:=t::r),d,j6 (a:=s)];constructor
  .rintro⟨b,e⟩
   have b:=iw^eq_of_beq b;refine#[λu c=>?_,e]
   rcases UF.mp c with rfl|c
   .exact b
   .exact C7 _ _ _ b^(j6.mp e).1 u c
  simp_all
def JB(s t:Aq):Xm (AS s)^AS t=P3^BS (CK s)^CK t:=by
 show(if(t_&&(t_&&(t_&&t_)))=t_ then P3^Gb (CK s)^CK t else s_)=_;rw[if_pos (show(t_&&(t_&&(t_&&t_)))=t_ from rfl),H_ _ _ rfl]
def ekey_iff{s t:Aq}:BS (fS s)^fS t=t_↔Bm s t:=by
 show(if ke _=.inr _ then(if ke _=.inr _ then u_ else decide (cs _<cs _))else decide (cs _<cs _))=t_↔(cs _<cs _\/(s.a=t.a/\cs _<cs _))
 by_cases c:s.a=t.a
 .rw[if_pos^by rw[c]]
  by_cases d:s.b=t.b
  .simp_all
  .rw[if_neg λe=>d^kr e,decide_eq_true_eq,c]
   constructor
   .intro h; simp_all
   grind
 simp_all
def NC(s:Aq):¬Bm s s:=by
 rintro(h|⟨_,h⟩) <;>exact Bo _ h
def OT{s t:Aq}(h:Bm s t):BS (CK s)^CK t=t_:=by
 show(if ke _=.inr _ then(if ke _=.inr _ then(if mx _=.inl _ then u_ else decide _)else decide (cs _<cs _))else decide (cs _<cs _))=t_
 rcases h with h|⟨h,c⟩
 .rw[if_neg λe=>Bo s.a^by simp_all,decide_eq_true h]
 .rw[if_pos (by rw[h]),if_neg λe=>Bo s.b^by grind,decide_eq_true c]
theorem C3:∀{e:v_ Aq},e.Pairwise Bm->∀s∈e,∀t∈e,s.a=t.a->s.b=t.b->s=t
 |[],_,s,c,_,_,_,_=>by cases c
 | x::e,h,s,c,t,d,g,i=>by
  have h:=j6.mp h
  rcases UF.mp c with j|c
  .rcases UF.mp d with f|d
   .rw[j,f]
   .rcases h.1 t d with h|⟨_,h⟩
    .grind
    grind
  .rcases UF.mp d with f|d
   .rcases h.1 s c with h|⟨_,h⟩
    .rw[←f,g]at h; exact absurd h^Bo _
    grind
   .exact C3 h.2 s c t d g i
def Zu{N:Net}(ok:N.Ok){s t:Aq}(f:s∈N.ts)(g:t∈N.ts)(h:BS (CK s)^CK t=t_):Bm s t:=by
 have h:(if ke _=.inr _ then(if ke _=.inr _ then(if mx _=.inl _ then u_ else decide _)else decide _)else decide _)=t_:=h
 by_cases c:s.a=t.a
 .rw[if_pos^by rw[c]]at h
  by_cases d:s.b=t.b
  .rw[if_pos (by rw[d]),if_pos^by rw[C3 ok.trise s f t g c d]]at h
   cases h
  .rw[if_neg λe=>d^kr e,decide_eq_true_eq]at h
   exact .inr #[c,h]
 .rw[if_neg λe=>c^kr e,decide_eq_true_eq]at h
  exact .inl h
def BO{a:v_ Aq}(h:a.Pairwise Bm):a.Nodup:=h.imp λ{s t} h e=>by rw[e]at h; exact NC _ h
def sub_len{l m:v_ Aq}(a:l.Nodup)(b:m.Nodup)(h:∀t∈l,t∈m):l.length<=m.length:=by
 have:l.Perm (m.filter λt=>decide (t∈l)):=(mU a^b.filter _).mpr λt=>by
  simp_all
 rw[this.length_eq];exact kB _ _
def R8{N:Net}(ok:N.Ok){a:v_ Aq}(h:∀t∈a,t∈N.ts)(b:a.Pairwise Bm):Net.Ok #[N.ps,a]:=#[ok.names,ok.rise,λt c=>ok.tin t^h t c,b]
theorem NT{P:Aq->Prop}:∀{b:v_ D},(∀d∈b,∃s,P s/\d=AS s)->∃a:v_ Aq,b=a.map AS/\∀t∈a,P t
 |[],_=>#[[],rfl,λt h=>by cases h]
 |d::b,h=>by
  let#[s,f,rfl]:=h d Op;let#[a,rfl,g]:=NT λe c=>h e^TW _ c;refine#[s::a,rfl,λt z=>?_]
  grind
def K3{N:Net}{a:v_ D}(h:a.all^Ez N=t_):∃b:v_ Aq,a=b.map AS/\∀t∈b,t∈N.ts:=
 NT λd c=>by
  let#[s,f,e]:=tofB_iff.mp^jh.mp h d c;exact#[s,f,e]
def Ir{N:Net}(ok:N.Ok)(p:D)(b:v_ D):(C2 p^.tup^N.ps.map .str&&(b.all^Ez N&&WD b))=thinB N^.tup [p,.tup b]:=by
 refine YG #[λh=>?_,λh=>?_]
 .rw[iq,iq]at h
  let#[f,rfl,a]:=K3 h.2.1;exists f,by rw[eqD_strs.mp h.1],a
  have:=(PZ JB).mp h.2.2
  exact this.imp_of_mem λ{s t} g c z=>Zu ok (a s g) (a t c) z
 .let#[f,e,a,i]:=h
  cases e;rw[iq,iq];refine#[eqD_strs.mpr rfl,jh.mpr λd j=>?_,(PZ JB).mpr^i.imp λ{s t} z=>OT z];let#[t,c,rfl]:=Sc.mp j;exact tofB_iff.mpr #[t,a t c,rfl]
def Fa{N:Net}{d:D}(h:∀p a,d≠.tup [p,.tup a]):thinB N d=u_:=by
 rw[jR];intro z;let#[b,e,_]:=thinB_iff.mp z;exact h _ _ e
end Nt
namespace L2
open PySem.W
end L2
namespace Dp
open L2
end Dp
namespace Nt
open L2 Dp
def look(a:v_ Aq)(x y:Str):w_ Int:=((ED a x).find? λz=>decide (z.1=y)).map (·.2)
def O4(a:v_ Aq):Str->v_ Str->Int->w_ Int
 |_,[],s=>P3 s
 |x,y::r,s=>match look a x y with
  |some l=>O4 a y r (s+l)
  |none=>s_
def ba:w_ Int->D
 |some i=>.int i
 |none=>.non
def Fv:D->Bool
 |.str _=>t_
 |_=>u_
def cD(N:Net):v_ Str->D
 |x::r=>if x∈N.ps then ba^O4 N.ts x r 0 else .non
 |[]=>.non
def cE(N:Net):D->D
 |.tup a=>if a.all Fv then cD N^strsOf a else .non
 |_=>.non
def cW(d:D):Prop:=HD (10 ^ 40) d/\Rq d<=160000/\S3 d<=50
abbrev aB:W2:=λa n P=>∃(N:Net) (d:D),a=[.sh^enc N,.sh d]/\N.Ok/\N.ps.length<=26/\N.ts.length<=60/\cW d/\P (cE N d) n
def RX:Ad:=(Af (A8 (B7 (BP^AX^D4 "tuple"^AC 1)^AX^Ac (Ge u_) (Bl CS^AE (AC 1) AQ)^wC^D.int 0) (Ap^wC D.non) Au)
 (Af (A8 (BP^AX^Bl HE^AE (BU [s_] (Av^AC 1) (AT 0) CY^D4 "str"^AC 0) AQ) (Ap^wC D.non) Au)
 (Af (BA 2^AW Me^AD (AH^AC 0) AY)
 (Af (A8 (AX^Ac (ID t_) (Ac A5 (AC 1)^wC^D.int 0)^AC 2) (Ap^wC D.non) Au)
 (Af (BA 3^wC^D.int 0)
 (Af (CZ (Mj^AE (AC 1)^AE (Y4 L9 (AC 1) (Gh^wC^D.int 1) DA) AQ) (B3 2^Ab (AT 4)^Ab (AT 5) BN) (Af (A8 (AX^Ac (ID t_) (AC 5)^Ac Bx (AC 2)^AC 4) (Ap^wC D.non) Au)
 (WX 3^Ac Bx (Ac Bx (AC 2)^AC 4)^AC 5)))
 (Ap^AC 3)))))))
theorem QH:∀{b:v_ D},b.all Fv=t_->∃a:v_ Str,b=a.map .str
 |[],_=>#[[],rfl]
 |d::r,h=>by
  rw[nE,iq]at h;let#[a,e]:=QH h.2;cases d with
  |str x=>exact#[x::a,by grind]
  |_=>cases h.1
def all_strs(a:v_ Str):(a.map D.str).all Fv=t_:=by rw[List.all_map]; exact jh.mpr λ_ _=>rfl
theorem KW{g:Str->D}{x:Str}:∀{a:v_ Str},Bi (a.map .inr) (a.map g)^.inr x=if x∈a then P3^g x else s_
 |[]=>rfl
 |p::a=>by
  show(if ke p=.inr x then P3 _ else Bi _ _ _)=_;rw[KW]
  grind
theorem KY{y:Str}:∀{a:v_ (Str×Int)},Bi (a.map λx=>.inr x.1) (a.map λx=>.int x.2)^.inr y=((a.find? λz=>decide (z.1=y)).map (·.2)).map .int
 |[]=>rfl
 |p::b=>by
  show(if ke _=.inr y then P3 _ else Bi _ _ _)=_;rw[KY]
  by_cases e:p.1=y
  .simp_all
  simp_all
def Xr{N:Net}(ok:N.Ok){x y:Str}{l:Int}(h:look N.ts x y=P3 l):y∈N.ps/\1<=l/\l<=1000000:=by
 unfold look at h;cases c:(ED N.ts x).find? λz=>decide (z.1=y)with
 |none=>grind
 |some z=>
  have d:=pH c;let#[t,b,a]:=k6.mp^mY c;let#[e,f,_,g,i]:=ok.tin t b
  rcases i9.mp a with a|a
  .simp_all
  simp_all
section
variable {ss:v_ Slot}{n:Nat}{Pd:D->Nat->Prop}
theorem Q3{N:Net}(ok:N.Ok){d:E2}{e f:Slot}:∀(r:v_ Str) (x:Str) (s:Int) (a b:Slot),x∈N.ps->(match O4 N.ts x r s with|some l=>∀a b,d.nx n [e,f,.sh^E4 N,.sh^.int l,a,b]|none=>d.rt .non n)->
  BF (B3 2^Ab (AT 4)^Ab (AT 5) BN) (Af (A8 (AX^Ac (ID t_) (AC 5)^Ac Bx (AC 2)^AC 4) (Ap^wC D.non) Au)^WX 3^Ac Bx (Ac Bx (AC 2)^AC 4)^AC 5) d (DM ((x::r).map .str)^r.map .str) n [e,f,.sh^E4 N,.sh^.int s,a,b]
 |[],x,s,a,b,g,h=>h a b
 | y::r,x,s,a,b,g,h=>by
  have i:Bi (N.ps.map .inr) (N.ps.map^Xl N.ts)^.inr x=P3^Xl N.ts x:=by rw[KW,if_pos g]
  exists rfl,rfl;exists _,_,.inr x,_,rfl,rfl,i,_,_,.inr y,rfl,rfl;rw[KY];unfold O4 at h;have j:((ED N.ts x).find? λz=>decide (z.1=y)).map (·.2)=look N.ts x y:=rfl;rw[j];cases c:look N.ts x y with
  |none=>rw[c]at h; exact C8 h
  |some l=>
   rw[c]at h;have k:Bi ((ED N.ts x).map λz=>.inr z.1) ((ED N.ts x).map λz=>.int z.2)^.inr y=P3^.int l:=by rw[KY,j,c]; rfl
   refine Ba #[s,rfl,_,_,.inr x,_,rfl,rfl,i,_,_,.inr y,_,rfl,rfl,k,l,rfl,?_];exact Q3 ok r y (s+l) _ _ (Xr ok c).1 h
def Og(t:aB ss n Pd):RX (EE Pd) n (ss++Tk 4 .no):=by
 let#[N,d,rfl,ok,v,lt,fd,p]:=t;cases d with
 | tup b=>
  have w:=T3 b;have x:K4 b<=160000:=fd.2.1;have f:Pd (if b.all Fv then cD N^strsOf b else .non) n:=p;exists _,_,rfl,rfl;show if((b.length:Int)==0)=t_ then _ else _
  cases b with
  |nil=>exact C8 f
  | cons g h=>
   rw[show(((g::h).length:Int)==0)=u_ from beq_eq_false_iff_ne.mpr^by rw[iu]; omega];refine Ba #[by lk,?_];refine BG (λd=>.bl^Fv d) (λq=>∃s,q=[s]) _ _ _ _ ?_ #[_,rfl] ?_
   .rintro d z q m A ⟨s,rfl⟩ i
    have:=i [.sh d] #[_,rfl]
    cases d <;>exact this
   rw[jB];exists _,_,rfl,IX Fv (g::h);rw[Yj];show if(!(g::h).all Fv)=t_ then _ else _
   cases k:(g::h).all Fv with
   |false=>rw[k]at f; exact C8 f
   | true=>
    rw[k]at f;let#[u,e]:=QH k;rw[e,K5]at f;cases u with
    |nil=>cases e
    | cons y r=>
     rw[jc]at e;cases e;refine Ba #[N,rfl,ok,by lk,by lk,?_];exists .str y,AK (j:=0) rfl,_,_,.inr y,rfl,rfl;show if(!(Bi (N.ps.map .inr) (N.ps.map^Xl N.ts)^.inr y).isSome)=t_ then _ else _
     rw[KW];have a:Pd (if y∈N.ps then ba^O4 N.ts y r 0 else .non) n:=f
     by_cases o:y∈N.ps
     .rw[if_pos o]at a ⊢
      refine Ba #[_,_,(y::r).map .str,r.map .str,rfl,rfl,by show P3^Dp.cutD (D.str y::r.map .str) (P3 1) s_=_; rw[V4]; rfl,?_];refine Q3 ok r y 0 _ _ o ?_;cases c:O4 N.ts y r 0 with
      |none=>rw[c]at a; exact a
      |some l=>rw[c]at a; exact λ_ _=>a
     .rw[if_neg o]at a ⊢
      exact C8 a
 |_=>exact p
theorem CD{b:BW}{p:Ij}{q:DW}{P:v_ D->Nat->Prop}(c:D->Bool)(g:D->D)(I:v_ Slot->Prop):∀(j e:v_ D) (n:Nat) (f:v_ Slot),
  (∀d∈j,∀(f:v_ Slot) (n:Nat) (r:D->Nat->v_ Slot->Prop) (s:Nat->v_ Slot->Prop),I f->(∀i,I i->c d=t_->r (g d) n i)->(∀i,I i->c d=u_->s n i)->b d f λk=>p n k λc t=>if c=t_ then q t k λy u=>r y u k else s t k)->I f->P (e++(j.filter c).map g) n->EG b p q P j e n f
 |[],e,n,f,_,_,h=>by rw[List.filter_nil,List.map_nil,jE]at h; exact h
 |d::j,e,n,f,l,m,h=>l d Op f n _ _ m
  (λi a v=>CD c g I j _ n _ (λd o=>l d^TW _ o) a^by simp_all)
  (λi a v=>CD c g I j _ n _ (λd o=>l d^TW _ o) a^by grind)
end
def aA:W2:=λa n P=>∃(N:Net) (d:D),a=[.sh^enc N,.sh d]/\N.Ok/\Cs d/\P (.bl^Ez N d) n
def OK:W2:=λa n P=>∃(N:Net) (d:D),a=[.sh^enc N,.sh d]/\N.Ok/\N.ps.length<=24/\N.ts.length<=60/\HD (10 ^ 41) d/\Rq d<=200000/\S3 d<=90/\P (.bl^thinB N d) n
def J0:Ad:=(Ap^J7 (Ac (Gd u_) (AC 1)^Ac A5 (AC 0)^wC^D.int 1)^AW FJ^AD (AH^Ac A5 (AC 1)^wC^D.int 2) AY)
def OH:Ad:=(Af (A8 (B7 (BP^AX^AW Cz^AD (AH^wC^D.int 2)^AD (AH^AC 1) AY)^BP^AX^D4 "tuple"^Ac A5 (AC 1)^wC^D.int 1) (Ap^wC^D.bl u_) Au)
 (Ap^J7 (Ac fN (Ac A5 (AC 1)^wC^D.int 0)^Ac A5 (AC 0)^wC^D.int 0)^J7 (Bl HE^AE (BU [P3 0,s_] (Av^Ac A5 (AC 1)^wC^D.int 1) (AT 1) CY^AW aA^AD (AH^AC 0)^AD (AH^AC 1) AY) AQ)^AW Kr^AD (AH^Ac A5 (AC 1)^wC^D.int 1) AY))
def Kf{a:v_ Aq}(h:Ii CH^a.map AS):FQ a:=by
 unfold Ii at h;rw[kE]at h;exact h.imp λ{s t} z=>z _ _ rfl rfl
def Bw{N:Net}(ok:N.Ok){ts:v_ Aq}(h:∀t∈ts,t∈N.ts):Cs^.tup^ts.map AS/\Cs^.lst^ts.map AS:=by
 have b:∀d∈ts.map AS,item d:=λd a=>by
  let#[t,c,rfl]:=Sc.mp a;exact Ly ok _^Sc.mpr #[t,h t c,rfl]
 have e:ND^ts.map AS<=1:=dps_le.mpr λd a=>(b d a).2.2;exact#[FC (B:=1000001) (by cbv) (fines_iff.mpr λd a=>(b d a).1) (by show ND^ts.map AS+1<=100; omega),Nq b]
def B_{N:Net}(ok:N.Ok){t:Aq}(h:t∈N.ts):Cs^AS t:=by
 have a:=Ly ok _^Sc.mpr #[t,h,rfl];exact FC (B:=1000001) (by cbv) a.1^by have:=a.2.2; omega
def Cv{ts:v_ Aq}{t:Aq}:((ts.map AS).any λy=>C2 y^AS t)=decide (t∈ts):=by
 rw[je,kZ,decide_eq_true_eq];constructor
 .rintro⟨d,a,e⟩
  let#[s,b,rfl]:=Sc.mp a;rw[←(Kh s t).mp e];exact b
 .intro h
  exact#[AS t,Sc.mpr #[t,h,rfl],(Kh t t).mpr rfl]
theorem O3:∀a:v_ D,a.length<=K4 a
 |[]=>i6 _
 |x::a=>by
  have:=O3 a
  show a.length+1<=Rq x+1+K4 a;lk
theorem Lv:∀c:v_ Aq,200*c.length<=K4^c.map AS
 |[]=>i6 _
 |t::c=>by
  have:=Lv c
  show 200*(c.length+1)<=t.a.length+1+(t.b.length+1+(200+1+0))+1+K4^c.map AS;lk
section
variable {ss:v_ Slot}{n:Nat}{Pd:D->Nat->Prop}
def Oj(h:aA ss n Pd):J0 (EE Pd) n (ss++Tk 0 .no):=by
 let#[N,d,rfl,ok,g,p]:=h;unfold J0;exists _,AK (j:=1) rfl,g,(Bw ok λ_ h=>h).1,_,rfl;cases c:(N.ts.map AS).any λy=>C2 y d with
 | false=>
  have:Ez N d=u_:=by
   rw[jR];intro z;let#[s,f,rfl]:=tofB_iff.mp z;rw[Cv,decide_eq_true f]at c;cases c
  rw[this]at p;exact p
 | true=>
  let#[e,k,q]:=kZ.mp c;let#[s,f,rfl]:=Sc.mp k;let#[z,rfl,l]:=N7 q;exists _,AK (j:=2) rfl,[z],rfl,rfl
  have:Ez N^.tup [.str s.a,.str s.b,z]=Ik z:=by
   rw[je,tofB_iff];constructor
   .rintro⟨t,_,e⟩
    have e:z=.int t.len:=by injection e with e; injection e with _ e; injection e with _ e; injection e
    rw[e];rfl
   .intro m
    cases z with
    |int i=>exact#[s,f,by rw[l i rfl]; rfl]
    |_=>cases m
  rw[this]at p;exact p
def SV(h:OK ss n Pd):OH (EE Pd) n (ss++Tk 0 .no):=by
 let#[N,d,rfl,ok,H,I,o,u,v,p]:=h;unfold OH;exists 2,d,rfl;cases f:tupleOfB 2 d with
 |false=>
  rw[Fa λp c e=>by rw[e]at f; cases f]at p;exact C8 p
 | true=>
  let#[x,y,rfl]:=gO f;refine Ba #[_,AK (j:=1) rfl,?_];cases y with
  | tup c=>
   rw[←Ir ok]at p;have w:HD (10 ^ 41) x:=o.1;have z:Gx (10 ^ 41) c:=o.2.1;have A:max (S3 x)^max (ND c+1) 0+1<=90:=v;have C:Rq x+1+(K4 c+1+0)<=200000:=u;refine Ba #[_,AK (j:=0) rfl,_,AK (j:=0) rfl,FC (B:=10 ^ 41) (by cbv) w^by lk,GR ok.names,?_];refine S_ (b1:=C2 x^.tup^N.ps.map .str) (b2:=c.all^Ez N&&WD c) (P:=Pd) (n:=n) (k:=λP=>_) (λ_ g=>?_) p;refine#[_,AK (j:=1) rfl,by show c.length<=10000000; have:=O3 c; omega,?_];refine BG (λd=>.bl^Ez N d) (λq=>∃s,q=[.sh^enc N,s]) _ _ _ _ ?_ #[_,rfl] ?_
   .rintro e r q m J ⟨s,rfl⟩ i
    have D:ND c<=88:=by lk
    exact#[N,e,rfl,ok,FC (B:=10 ^ 41) (by cbv) (fines_iff.mp z e r) (by have:=dps_le.mp D e r; omega),i _ #[_,rfl]]
   rw[jB];exists _,_,rfl,IX (Ez N) c;rw[Yj];refine S_ (b1:=c.all^Ez N) (b2:=WD c) (P:=Pd) (n:=n) (k:=λP=>_) (λl g=>?_) g;let#[E,rfl,F]:=K3 l
   have:=Lv E
   refine#[_,AK (j:=1) rfl,_,_,rfl,rfl,by rw[FM]; omega,λa l b G=>?_,g];let#[s,_,rfl]:=Sc.mp l;let#[t,_,rfl]:=Sc.mp G;exact#[_,JB s t]
  |_=>
   rw[Fa λp c e=>by cases e]at p;exact C8 p
end
def QD{s t:Aq}(h:CK s=CK t):s=t:=by
 let#[a,b,l]:=s;let#[c,d,e]:=t;unfold CK at h;simp only[List.cons.injEq,Sum.inl.injEq,Sum.inr.injEq,and_true]at h;let#[rfl,rfl,rfl]:=h;rfl
def E3{c d:v_ Aq}(p:c.Perm d)(e:FQ c)(f:FQ d):c=d:=Ot (λa b x y=>QD^Cd _ _ y x) p e f
def FG{a:v_ Aq}(h:a.Pairwise Bm):FQ a:=h.imp λ{s t} z=>by
 cases e:BS (CK t)^CK s with
 |false=>rfl
 |true=>
  have:=C7 _ _ _ (OT z) e
  rw[Cg]at this;cases this
def Cy:W2:=λa n P=>∃l t b x:Int,a=[.sh^.int l,.sh^.tup [.int t,.int b],.sh^.int x]/\1<=b/\b<=1000000/\1<=t/\t<=1000000/\P (.bl (decide (l*b<=x*t))) n
def RY:Ad:=(Ap^Ac YD (Ac FP (AC 0)^Ac A5 (AC 1)^wC^D.int 1)^Ac FP (AC 2)^Ac A5 (AC 1)^wC^D.int 0)
section
variable {ss:v_ Slot}{n:Nat}{Pd:D->Nat->Prop}
def dN{i j:Int}(a:0<=j)(b:j<=1000000):CMul i j:=.inr #[by lk,by lk]
def Oi(h:Cy ss n Pd):RY (EE Pd) n (ss++Tk 0 .no):=by
 let#[l,t,b,x,rfl,d,a,e,c,p]:=h;exact#[_,AK rfl,dN (by lk) a,_,AK rfl,dN (by lk) c,p]
end
end Nt
namespace L2
open PySem.W
section
variable {prog:Program}{w:World}{A:Around}{E:Value->Shared->Prop}{R:Result->Shared->Prop}{I:Addr}{fp wr:v_ Addr}{n:Nat}{P:Nat->Value->Prop}{St:Nat->Heap->Prop}
def ax(prog:jK)(w:jQ)(A:jd)(c:CmpOp)(P:Nat->Ev->Prop)(d:i8->Prop)(e:Nat->Nat->Bool):Prop:=
 ∀i j a b (s:On) (Q:Ev->On->Prop) (E:Ev->On->Prop),d s.heap->P i a->P j b->Q (.bool^e i j) s->wpAny (model prog w) A (richCompare c a b) Q E s
def Vh(W:Walks prog w A.in1 I fp wr n P St)(D:Nat->Nat->Bool)(G:i8->Prop)(H:ax prog w A.in1 .Lt P G D)(S:Ch)(J:S∉fp)(g:∀h u:i8,G h->(∀b o,b∉wr->b≠S->h.get? b=P3 o->u.get? b=P3 o)->G u):
  ∀(k j:Nat) (s:On) (r:Ev) (c:Nat),n - (j+1)=k->j+1<=n->St (j+1) s.heap->G s.heap->P (argBest D j) r->
  s.heap.get? S=P3 {cls:=.type "list",dict:=s_,data:=.seq #[ r,r] c,slots:=#[]}->
  (∀v u O,P (argBest D (n - 1)) v->(∀b o,b∉wr->b≠S->s.heap.get? b=P3 o->u.get? b=P3 o)->R (.ok^.ret v) {s with heap:=u,toks:=O})->
  codeAny (model prog w) A (.builtin "min.loop" #[[.ref I,.none,.ref S],[]]) R s:=by
 have K:S∉wr:=λh=>J^W.sub _ h;have i:(toString "min"++toString ".loop":String)="min.loop":=by cbv
 intro k
 induction k with
 |zero=>
  intro j s r c Z hj y L t M Q;have N:j+1=n:=by lk
  refine jq PySem.F.entry_min_loop ?_;rw[kI PySem.F.plain_min_loop _];show wpAny _ A.in1 (seqItems?^.ref S >>=_) _ _ s;refine Db (kH M rfl ?_);show wpAny _ A.in1 (tryCatch (pyNext^.ref I) _ >>=_) _ _ s;refine Db^oB^W.done s _ _ (N▸y) λu O a=>?_;have l:=a S _ K M;show wpAny _ A.in1 (updateSeq S (λ_=>#[]) >>=_) _ _ _;refine Db ?_;refine ng l rfl (Db^l8^T0 ?_);refine Q r _ O (by rw[←N]; exact t) λb o d f e=>(jG _ _^jy f).trans^a b o d e
 | succ k V=>
  intro j s r c Z hj y L t M Q;have z:j+1<n:=by lk
  refine jq PySem.F.entry_min_loop ?_;rw[kI PySem.F.plain_min_loop _];show wpAny _ A.in1 (seqItems?^.ref S >>=_) _ _ s;refine Db (kH M rfl ?_);show wpAny _ A.in1 (tryCatch (pyNext^.ref I) _ >>=_) _ _ s;refine Db^oB^W.item (j+1) s _ _ z y λv u O X x a=>?_;have l:=a S _ K M;have m:G u:=g _ _ L λb o h1 _ e=>a b o h1 e;show wpAny _ A.in1 (tryCatch (holding [v,v] (richCompare .Lt v r >>=_)) _ >>=_) _ _ _;refine Db^oB^jb^Db^H (j+1) (argBest D j) v r _ _ _ m X t ?_;refine Db^jb^lC ?_;refine Db^l8^T0 ?_;cases Y:D (j+1)^argBest D j with
  | true=>
   simp only[if_true];refine Db ?_;refine ng l rfl (Db^l8 ?_);rw[i]
   refine T0 #[kd PySem.F.plain_min_loop _,V (j+1) _ v _ (by lk) z (W.frame _ _ _ x λb T o e=>?_) (g _ _ m λb o _ h2 e=>(jG _ _^jy h2).trans e) (by simp only[argBest,Y,if_true]; exact X) (lT _ l rfl)
    λU B p C q=>?_]
   .exact(jG _ _ λh:S=b=>J^by rw[h]; exact T).trans e
   .exact Q U B p C λb o d f e=>q b o d f^(jG _ _^jy f).trans^a b o d e
  |false=>
   simp only[jD,if_false];refine Db^l8 ?_;rw[i];refine T0 #[kd PySem.F.plain_min_loop _,V (j+1) _ r c (by lk) z x m (by simp only[argBest,Y,jD,if_false]; exact t) l λU B p C q=>?_];exact Q U B p C λb o d f e=>q b o d f^a b o d e
def Su(W:Walks prog w A.in1 I fp wr n P St)(x:Nat->Nat->Bool)(j:i8->Prop)(k:ax prog w A.in1 .Lt P j x)(S:Ch)(d:S∉fp)(a:∀h f:i8,j h->(∀b o,b∉wr->b≠S->h.get? b=P3 o->f.get? b=P3 o)->j f)(G:0<n){s:On}{c:Nat}(y:St 0 s.heap)(z:j s.heap)
  (H:s.heap.get? S=P3 {cls:=.type "list",dict:=s_,data:=.seq #[] c,slots:=#[]})
  (K:∀v f J,P (argBest x (n - 1)) v->(∀b o,b∉wr->b≠S->s.heap.get? b=P3 o->f.get? b=P3 o)->R (.ok^.ret v) {s with heap:=f,toks:=J}):
  codeAny (model prog w) A (.builtin "min.loop" #[[.ref I,.none,.ref S],[]]) R s:=by
 have B:S∉wr:=λh=>d^W.sub _ h;have g:(toString "min"++toString ".loop":String)="min.loop":=by cbv
 refine jq PySem.F.entry_min_loop ?_;refine Db (kH H rfl ?_);refine Db^oB^W.item 0 s _ _ G y λv f J L l i=>?_;have m:=i S _ B H;have p:j f:=a _ _ z λb o M _ e=>i b o M e;show wpAny _ A.in1 (updateSeq S (λ_=>#[ v,v]) >>=_) _ _ _;refine Db ?_;refine ng m rfl ?_;rw[g];refine T0 #[kd PySem.F.plain_min_loop _,Vh W x j k S d a _ 0 _ v _ rfl G (W.frame _ _ _ l λb N o e=>?_) (a _ _ p λb o _ O e=>(jG _ _^jy O).trans e) L (lT _ m rfl) λQ C q D r=>?_]
 .exact(jG _ _ λh:S=b=>d^by grind).trans e
 .exact K Q C q D λb o t u e=>r b o t u^(jG _ _^jy u).trans^i b o t e
def min_list{s:On}{l:Ch}{a:Array Ev}{Q:Ev->On->Prop}(u:Nat->Nat->Bool)(G:A.handled=s_)(x:s.heap.IsList l a)(H:0<a.size)
  (m:∀i j r t (p:On) (Q:Ev->On->Prop) (E:Ev->On->Prop),(∀b o,s.heap.get? b=P3 o->p.heap.get? b=P3 o)->a[i]?=P3 r->a[j]?=P3 t->Q (.bool^u i j) p->wpAny (model prog w) A.in1 (richCompare .Lt r t) Q E p)
  (h:∀v k y,a[argBest u (a.size - 1)]?=P3 v->(∀b o,s.heap.get? b=P3 o->k.get? b=P3 o)->Q v {s with heap:=k,toks:=y}):wpAny (model prog w) A (call (.builtin "min") [.ref l]) Q E s:=by
 have d:(toString "min"++toString ".loop":String)="min.loop":=by cbv
 have f:l<s.heap.objs.size:=by let#[_,e,_]:=x; exact ZB e
 refine call_function_tree PySem.F.kind_min PySem.F.plain_min PySem.F.entry_min (PySem.F.args_min1 _) ?_;show wpAny _ A.in1 (oJ "min" ["key","default"] 0 #[[],[]] >>=_) _ _ s;refine Db^pM (show oJ "min" ["key","default"] 0 #[[],[]]=pure [s_,s_]from rfl) ?_;refine Db^T0 ?_;refine Db^kO x ?_;refine Db^lD ?_;rw[d];have W:=Walks.list (prog:=prog) (w:=w) (A:=A.in1) G s.heap.objs.size l (i_ f) a;have g:(s.heap.push {cls:=.type "list_iterator",data:=.fields #[ .ref l,.int 0 0]}).objs.size=s.heap.objs.size+1:=j7 _ _;refine T0 #[kd PySem.F.plain_min_loop _,Su W u (λk=>∀b o,s.heap.get? b=P3 o->k.get? b=P3 o) (λi j r t p Q E z C D q=>m i j r t p Q E z C D q) (s.heap.push {cls:=.type "list_iterator",data:=.fields #[ .ref l,.int 0 0]}).objs.size (λc=>?_) (λC D z B b o e=>B b o (λc=>?_) ?_^z b o e) H #[#[_,Go _ (XV _ rfl),rfl,rfl],(x.push _).push _] (λb o e=>Go _^Go _ e) (XV _ rfl) λv k y J B=>?_]
 .rw[g]at c
  rcases UF.mp c with e|c
  .exact absurd e^oz _
  .rw[←Re.mp c]at f
   exact absurd f^mO.mpr^kJ _
 .rw[Re.mp c]at e
  exact absurd (ZB e)^jr _
 .rw[g]
  exact i_^jx^ZB e
 .refine h v k y J λb o e=>B b o (λc=>?_) ?_^Go _^Go _ e
  .rw[Re.mp c]at e
   exact absurd (ZB e)^jr _
  .rw[g]
   exact i_^jx^ZB e
end
theorem MR(a:v_^v_ Key):∀m:Nat,argBest (λi j=>BS (a.getD i [])^a.getD j []) m<=m/\∀i,i<=m->BS (a.getD i [])^a.getD (argBest (λi j=>BS (a.getD i [])^a.getD j []) m) []=u_
 |0=>#[Rs _,λi b=>by
  have:i=0:=by lk
  subst this;exact Cg _]
 | m+1=>by
  let#[f,d]:=MR a m;unfold argBest
  by_cases c:BS (a.getD (m+1) [])^a.getD (argBest (λi j=>BS (a.getD i [])^a.getD j []) m) []=t_
  .rw[if_pos c]
   refine#[Rs _,λi b=>?_]
   by_cases e:i=m+1
   .subst e; exact Cg _
   .cases z:BS (a.getD i [])^a.getD (m+1) [] with
    |false=>rfl
    |true=>
     have:=C7 _ _ _ z c
     rw[d i^by lk]at this;cases this
  grind
section
variable {X:Cx}
def aT(K:Frag):v_ V->Hp->VK->Prop:=λc H Q=>∃(p:Ch) (b:v_ V) (a:v_^v_ Key),c=[.ref p]/\SqL K H p b/\0<b.length/\KeysAt K H b a /\
 ∀j v,b[j]?=P3 v->(∀i,i<b.length->BS (a.getD i [])^a.getD j []=u_)->Q v H
def V8{k:Nat}(U:Room k X.A):DL X (.builtin "min")^aT X.K:=by
 intro zH s Z H V us Q I r h;let#[p,vs,c,rfl,hq,hn,B,q]:=h;let#[u,rfl,rx]:=vals1 r;cases rx;let#[f,E,pl,hz]:=I.list hq;have W:=E.length;have Y:=B.tups I E λb o e=>e;have hu:=U.un;refine min_list (λi j=>BS (c.getD i [])^c.getD j []) U.hd pl.isList (by rw[iy]; omega) (λi j vi vj s' Q' E' d G J L=>?_) λv h' M N d=>?_
 .have C:i<c.length:=by rw[←B.len,W]; have:=(oS.mp G).1; simpa using this
  have l:j<c.length:=by rw[←B.len,W]; have:=(oS.mp J).1; simpa using this
  let#[a,#[a2,dd,a0,sl],V,n,m,D,e3,e4,e5]:=Y.at_ i c[i] (No C);let#[a',#[a1,O,P,R],S,n',g,t,w,y,T]:=Y.at_ j c[j] (No l);simp only at e3 e4 w y;subst e3 e4 w y;have m:f.toArray[i]?=P3^.ref a:=by rw[←m]; simp
  have g:f.toArray[j]?=P3^.ref a':=by rw[←g]; simp
  rw[m]at G;rw[g]at J;cases G;cases J;have z:=B.same _ (jv C) _^jv l;have g1:c.getD i []=c[i]:=by rw[jN,No C]; rfl
  have g2:c.getD j []=c[j]:=by rw[jN,No l]; rfl
  simp only[g1,g2]at L;rw[←H_ _ _ z]at L
  exact richCompare_meets_room (op:=.Lt) #[_,d _ _ D,rfl] #[_,d _ _ t,rfl] PySem.F.slot_tuple_lt PySem.F.entry_tuple_lt (PySem.F.args_tuple_lt_2 _ _) (Gi a a' V S n n' dd O sl R c[i] c[j] e5 T z)
   #[d _ _ D,d _ _ t,show og (Gb c[i] c[j])≠Value.notImplemented/\Q' (.bool (Gb c[i] c[j])) s' from#[(λx=>nomatch x),L]] (by show X.A.units+1<cLine; omega)
 .let#[b1,b2]:=MR c (f.toArray.size - 1)
  rw[iy]at N b1 b2;have l:argBest (λi j=>BS (c.getD i [])^c.getD j []) (f.length - 1)<vs.length:=by lk
  let#[u,m,ru]:=E.get^No l;have D:f.toArray[argBest (λi j=>BS (c.getD i [])^c.getD j []) (f.length - 1)]?=P3 u:=by rw[←m]; simp
  rw[D]at N;cases N;exact#[_,H,I.kept (t':=M) d,ru,q _ _ (No l) λi C=>b2 i^by lk]
end
end L2
namespace Dp
open L2
def ag(d:v_ D)(P:D->Prop):Prop:=∃a,d=[.lst a]/\0<a.length/\Keyed CH a/\∀x∈a,(∀y∈a,∀b c,CH x=P3 b->CH y=P3 c->BS c b=u_)->P x
def c8{K:Frag}:D1 K .sh (aT K) ag:=by
 intro U M H D E P Q p F r w q;let#[e,rfl,G,l,w]:=w;let#[v,rfl,s]:=Ei r;let#[a,t,rfl,_,u,f]:=s;let#[b,x,g]:=El l.1;have c:=f.length;refine#[a,t,b,rfl,.inl u,by lk,GS (λd k v _=>GU) f l x g,λj v m z=>?_];have h:j<e.length:=by rw[←c]; exact(Uf.mp m).1
 let#[I,n,A]:=f.get^No h;rw[m]at n;cases n;refine q v H e[j] .refl A (w _ (jv h) λy B J L ex N=>?_);let#[i,o]:=kA.mp B;have C:i<e.length:=(Uf.mp o).1;let#[O,R,S,_]:=g i y o;let#[T,V,W,_]:=g j e[j] (No h)
 grind
end Dp
namespace L2
def iA(d:Ch)(o:Obj)(a:v_ (Key×V)):It:=
 #[λi H=>H d=P3^.frz o^.dK a/\i<a.length,λi H x b=>∃T p,x=.ref T/\H T=s_/\a[i]?=P3 p/\b=BQ H T^.tup [kV p.1,p.2],λi H=>H d=P3^.frz o^.dK a/\a.length<=i]
def cL{P:jK}{w:jQ}{k:Key}{u:Ev}(h:(BM P w).is k u=t_):RelV (kV k) u:=by
 rcases BZ h with⟨i,t,rfl,rfl⟩|⟨x,t,rfl,rfl⟩
 .exact#[t,rfl]
 .exact#[t,rfl]
def PK{X:Cx}{k:v_ (Ch×Obj)}{Z:L2.St}{H:Hp}{s:On}{d:Ch}{o:Obj}{a:v_ (Key×V)}{c:Array DictEntry}{e:Nat}(I:Inv X k Z H s)(h:H d=P3^.frz o^.dK a)(f:o.data=.dict c e):
  ∃b,KV a b/\s.heap.DictAt (BM X.prog X.w) d b e:=by
 let#[g,_,_,b,l,r,m,n,i,p,j,q]:=(I.hok d _ h);rw[g]at i;cases i;rw[f]at j;cases j;exact#[b,l,o,c,g,p,f,q]
def R0{P:jK}{w:jQ}{K:Frag}{J:v_ jJ}{j:Nat}{pos:Pos}(d it:Ch)(o:Obj)(f:v_ (Key×V))(es:Array DictEntry)(Y:Nat)(l:o.data=.dict es Y):
  Turn P w K (.Tuple J j pos) (iA d o f) [it] it (λi h=>∃ok m,IsItemIter h it d i f.length Y ok m) where
 mem:=by simp
 obj:=λi h #[ok,m,b] c a=>by
  rw[Re.mp a];exact#[_,b,λv q=>by cases q]
 keep:=λi h h' #[ok,m,b] k=>#[ok,m,k it (by simp) _ b]
 item:=by
  intro X L M N a i zH s Z H E I B b O;subst L M N;let#[R,hi]:=O;let#[ok,m,b]:=b;let#[C,F,D]:=PK I R l
  have G:=F.length;have S:i<C.length:=by lk
  rw[G]at b;obtain⟨k,v,T⟩:∃k v,C[i]=(k,v):=#[_,_,rfl];have hx:C[i]?=P3 (k,v):=by rw[No S,T]
  have hp:f[i]?=P3 f[i]:=No hi;let#[U,rv]:=Qm F hp hx;have U:f[i].1=k:=U;refine wpAny_pyNext_items_item b D hx λn h' p r t a0 u=>#[_,rfl,?_];refine wpAny_letOwnedTupleGo_items r λh2 x g=>?_;have hT:H s.heap.objs.size=s_:=I.hok.fresh^Rs _;have y:s.heap.objs.size≠it:=mH^ZB b
  have kk:∀c o,c∉[it]->s.heap.get? c=P3 o->h2.get? c=P3 o:=λc o a e=>by
   have a:c≠it:=λz=>a (by rw[z]; exact Re.mpr rfl);exact(g.2 c a).trans^u c o a e
  have I2:Inv X zH Z (BQ H s.heap.objs.size^.tup [kV f[i].1,f[i].2]) {s with heap:=h2}:=by
   refine I.turnLaid (t':=s.toks) (ch:=[it]) (λc a=>B c a) kk (Rs _) ?_;exact#[by show 2<=sizeLine; decide,[n,v],.cons (cL^by rw[U]; exact p)^.cons rv .nil,#[_,(g.2 _ y).trans t,rfl,_,rfl,rfl,rfl]]
  refine#[.ref s.heap.objs.size,_,I2,rfl,#[_,_,rfl,hT,hp,rfl],#[n,v,by rw[G]; exact x],λc a=>?_];rw[Re.mp a,Ah^jy y];exact(B it^by simp).1
 done:=by
  intro X L M N a i zH s Z H E I B b O;subst L M N;let#[R,hi]:=O;let#[ok,m,b]:=b;let#[C,F,D]:=PK I R l
  have G:=F.length;rw[G]at b;refine wpAny_pyNext_items_end (I.ok.hd a) b D (pU^by lk) λh' ext=>#[rfl,?_];exact I.turnedL (t':=s.toks) (ch:=[it]) (λc a=>B c a) λc o a e=>ext c o (λz=>a^by rw[z]; exact Re.mpr rfl) e
 self:=λA i s Q E #[ok,m,b] h=>PySem.W.kcp_self b h
def cU(c:TE):TI:=λZ H R=>c Z H λx b=>∃d o a,x=.ref d/\b d=P3^.frz o^.dK a/\∀r,b r=s_->R (iA d o a)^BQ b r^.ext λh=>h.IsItemsView r d
def XY{X:Cx}{e:jJ}{z:v_ jJ}{j:Nat}{p g i:Pos}{G:TE}(P:PE X e G)(m:attributeBase e "items" X.env^eval e X.env=eval e X.env:=by rfl)(n:(g.endLine==i.line)=t_:=by rfl):
  PI X (.Tuple z j p) (.Call (.Attribute e "items" g) [] [] i) (cU G):=by
 intro J s Z H R I h;refine wpAny_Call_method0_late m n^thn (P J s Z H _ I h) λv a #[x,u,r,Q,d,o,f,ex,t,q]=>?_;subst ex;cases Q;let#[K,L,S]:=Sz r^.inl #[f,.inr #[o,t]];let#[_,_,M,T,D]:=IH r.hok^.inr #[o,t];refine#["dict","dict.items",PySem.F.plainAttrs_dict,PySem.F.slot_dict_items,PySem.F.type_dict_items,K,L,lL rfl (PySem.evalArgs_none ?_)];refine nR PySem.F.slot_dict_items D.typeIs PySem.F.entry_dict_items (PySem.F.args_dict_items_1 _) (meets_dict_items (BM X.prog X.w) d S) #[#[M,D],?_];have N:u a.heap.objs.size=s_:=r.fresh;have O:(a.heap.push {cls:=.type "dict_items",data:=.fields #[ .ref d]}).IsItemsView a.heap.objs.size d:=#[_,XV _ rfl,rfl,rfl]
 have y:Inv X J Z (BQ u a.heap.objs.size^.ext λh=>h.IsItemsView a.heap.objs.size d) {a with heap:=a.heap.push {cls:=.type "dict_items",data:=.fields #[ .ref d]}}:=
  r.laid (t':=a.toks) (λb o e=>Go _ e) (Rs _) #[O,#[_,XV _ rfl],λK L #[o,e,c] k=>#[o,k o e,c]]
 have A:(BQ u a.heap.objs.size^.ext λh=>h.IsItemsView a.heap.objs.size d) d=P3^.frz o^.dK f:=by rw[Ah^BB t N]; exact t
 obtain⟨B,C,l⟩:∃B C,o.data=.dict B C:=by
  let#[e0,_,_,M,T,o',U,V,e1,e2,e3,e4]:=(show ObjOk X.prog X.w u a.heap d^.frz o^.dK f from r.hok d _ t)
  grind
 let#[W,E,Y]:=PK y A l
 have hl:=E.length;refine wpAny_pyIter_items (s:={a with heap:=a.heap.push {cls:=.type "dict_items",data:=.fields #[ .ref d]}}) O Y ?_;refine#[_,[(a.heap.push {cls:=.type "dict_items",data:=.fields #[ .ref d]}).objs.size],_,iA d o f,_,rfl,y.kept (t':=a.toks) λb o e=>Go _ e,R0 d _ o f B C l,#[.none,.none,by rw[hl]; exact XV _ rfl],λc hc=>?_,q _ N];rw[Re.mp hc];exact y.fpOk (Rs _) y.fresh
end L2
namespace Dp
open L2
def wItems(c:DW):EW:=λn e P=>c n e λd f=>∃a b,d=.fdi a b/\(∀k∈a,UY k)/\P (DM (a.map dM) b) f
def cM(k:Key):kV k=kOf k:=by cases k <;>rfl
section
variable {X:Cx}{a:Expr}{zU:Kd}{wa:DW}{els:v_ Expr}{j:Nat}{tpos apos cpos:Pos}
def YT(V:DE X a zU wa)(c:attributeBase a "items" X.env^eval a X.env=eval a X.env:=by rfl)(f:(apos.endLine==cpos.line)=t_:=by rfl):DI X (.Tuple els j tpos) (.Call (.Attribute a "items" apos) [] [] cpos)^wItems wa:=by
 let#[t,W,Y]:=V;refine#[_,XY W c f,λC M H n ρ Z P Rr R w q=>?_];refine Y C M H n ρ Z _ _ R w λv l d n1 I J r1 p=>?_;let#[b,m,rfl,s,p]:=p;have R1:=R.step I J;obtain⟨D,k,rfl,⟨o,nM,L⟩,N,O⟩:∃a k,v=.ref a/\NdF M l a b k/\b.length=m.length/\Ats X.K M l m k:=r1.tpOf R.dom R.vM;have hl:=O.length;refine#[D,o,_,rfl,L,λr hr=>?_];have g:Grow l (BQ l r^.ext λh=>h.IsItemsView r D):=BE hr;refine q _ _ _ n1 (I.trans g.ext) (J.grow g) (λi Q E pr F=>?_) p;have u:Pres M l Q E:=g.pres.trans pr;have z:E D=P3^.frz o^.dK^b.zip k:=(u.nd nM L).2;have zl:(b.zip k).length=b.length:=by rw[nh]; omega
 have zd:(DM (b.map dM) m).length=b.length:=by unfold DM; rw[mV,FM]; omega
 refine#[λe B=>?_,λa0=>#[z,by lk]];have G:i<b.length:=by rw[←zd]; exact(Uf.mp B).1
 have A:i<m.length:=by lk
 refine#[#[z,by lk],λx H2 y=>?_];let#[T,pp,rfl,S,U,rfl]:=y;let#[v',e1,h1]:=(O.pres u).get^No A
 have e2:(b.zip k)[i]?=P3 (b[i],v'):=by
  rw[om];exact#[No G,e1]
 rw[e2]at U;cases U
 have e3:e=.tup [dM b[i],m[i]]:=by
  unfold DM at B;rw[nH,ir,No G,No A]at B;exact(iw B).symm
 subst e3;refine#[BE S,Do F S #[_,_,rfl,?_,_,_,rfl,h1,rfl]];show At X.K Q E (dM b[i]) (kV b[i]);rw[cM];exact cn^s _^jv G
end
section
variable {K:Frag}{C:Fm}{M:Addr->Prop}{H:Hp}{n:Nat}{ρ:v_ Slot}{Z:L2.St}
def Rel.hold(R:Rel K C M H n ρ Z){p:Ch}{o:HO}(h:H p=s_):Rel K C (λb=>M b\/b=p) (BQ H p o) n ρ Z:=by
 have g:Grow H^BQ H p o:=BE h;have j:Pres M H _^BQ H p o:=HC h;refine#[R.len,λa z=>.inl^R.sub a z,λa z=>?_,R.ext.trans g.ext,R.fU,R.uV,λa z=>.inl^R.vM a z,(R.feed.grow g).more p λf k q=>?_,λi s q=>(R.sl i s q).pres j (λ_ z=>.inl z) g.ext R.uV,λq c=>(R.pin q c).trans j,R.br0,R.new,R.two,λq c=>?_]
 .rcases z with z|z
  .let#[u,d]:=R.dom a z
   exact#[u,g.all a u d]
  .rw[z]; exact#[o,An]
 .let#[_,_,_,_,_,e,_]:=R.feed f k
  have:=e.2
  grind
 .let#[d,l,e,m]:=R.kept q c
  exact#[g.all _ _ d,.inl l,e,m]
end
def L6(a:v_ Key)(k:Key):Bool:=a.any λb=>decide (b=k)
def hasK_iff{a:v_ Key}{k:Key}:L6 a k=t_↔k∈a:=by
 unfold L6
 simp_all
def DQ(a:v_ Key)(k:Key):v_ Key:=if L6 a k=t_ then a else a++[k]
def Dh{a:Type}(b:v_ Key)(c:v_ a)(k:Key)(d:a):v_ a:=if L6 b k=t_ then kq (λe f=>if e=k then d else f) b c else c++[d]
def Z8{c:v_ Key}{d:v_ V}(j:c.length=d.length)(k:Key):((c.zip d).any λf=>decide (f.1=k))=L6 c k:=by
 rw[je,kZ,hasK_iff];constructor
 .rintro⟨⟨a,b⟩,g,e⟩
  have e:=of_decide_eq_true e;rw[←e];exact(lr g).1
 .intro h
  let#[i,l,e]:=mR.mp h;exact#[(c[i],d[i]'(by lk)),mR.mpr #[i,by grind,by grind],by grind]
def XJ{c:v_ Key}{d:v_ V}(f:c.length=d.length)(k:Key)(v:V):putK (c.zip d) k v=(DQ c k).zip^Dh c d k v:=by
 unfold putK DQ Dh;rw[Z8 f]
 by_cases h:L6 c k=t_
 .have l:∀(c:v_ _) (d:v_ V),((c.zip d).map λe=>if e.1=k then(e.1,v)else e)=c.zip^kq (λg i=>if g=k then v else i) c d:=by
   intro c
   induction c with
   |nil=>intro d; rfl
   | cons a c j=>
    intro d;cases d with
    |nil=>rfl
    |cons b d=>
     show(if a=k then(a,v)else(a,b))::_=(a,if a=k then v else b)::_;exact oZ.mpr #[by split <;>rfl,j d]
  simp_all
 .rw[if_neg h,if_neg h,if_neg h,ni f]
  rfl
theorem Ats.put{K:Frag}{M:Ch->Prop}{H:Hp}{k:Key}{d:D}{v:V}(j:At K M H d v):∀{c:v_ Key}{f:v_ D}{b:v_ V},Ats K M H f b->Ats K M H (kq (λg i=>if g=k then d else i) c f)^kq (λg i=>if g=k then v else i) c b
 |[],f,b,h=>rfl
 |a::c,[],b,h=>by cases(h); rfl
 |a::c,e::f,b,h=>by
  let#[u,r,rfl,m,l]:=h;refine#[_,_,rfl,?_,Ats.put j l]
  grind
def Ats.putX{K:Frag}{M:Ch->Prop}{H:Hp}{k:Key}{d:D}{v:V}{a:v_ Key}{b:v_ D}{c:v_ V}(e:At K M H d v)(h:Ats K M H b c):Ats K M H (Dh a b k d)^Dh a c k v:=by
 unfold Dh
 split
 .exact Ats.put e h
 .exact h.append^Ats.one e
def UD{b:Type}{a:v_ Key}{c:v_ b}{k:Key}{d:b}(e:a.length=c.length):(DQ a k).length=(Dh a c k d).length:=by
 unfold DQ Dh
 grind
theorem NQ:∀{b:v_ Key}{ds:v_ D}{k:Key},k∉b->Bi b ds k=s_
 |[],ds,k,_=>by rfl
 |a::b,[],k,_=>rfl
 |a::b,d::ds,k,h=>by
  unfold Bi;rw[if_neg λe=>h^by grind];exact NQ λz=>h^TW _ z
theorem Iq:∀{b:v_ Key}{ds:v_ D}{k:Key},b.length=ds.length->k∈b->∃z,Bi b ds k=P3 z
 |[],ds,k,_,h=>by cases h
 |a::b,[],k,h,_=>by cases h
 | a::b,d::ds,k,c,h=>by
  unfold Bi
  by_cases e:a=k
  .simp_all
  .rw[if_neg e]
   exact Iq (by simp_all)^(UF.mp h).resolve_left λz=>e z.symm
def Wa{b:v_ Key}{c:v_ D}{k:Key}{d:D}(g:b.length=c.length)(j:Key):Bi (DQ b k) (Dh b c k d) j=if j=k then P3 d else Bi b c j:=by
 unfold DQ Dh
 by_cases i:L6 b k=t_
 .have h:=hasK_iff.mp i
  rw[if_pos i,if_pos i]
  have n:∀(b:v_ Key) (c:v_ D),b.length=c.length->(j=k->k∈b)->Bi b (kq (λp q=>if p=k then d else q) b c) j=if j=k then P3 d else Bi b c j:=by
   intro b
   induction b with
   |nil=>
    intro c _ l
    by_cases e:j=k
    .exact absurd (l e) ip
    .rw[if_neg e]; cases c <;>rfl
   | cons a b o=>
    intro c g l;cases c with
    |nil=>cases g
    | cons e c=>
     show(if a=j then P3 (if a=k then d else e)else Bi b _ j)=if j=k then P3 d else if a=j then P3 e else Bi b c j
     by_cases f:a=j
     .rw[if_pos f,if_pos f]
      by_cases m:j=k
      .rw[if_pos m,if_pos^f.trans m]
      .rw[if_neg m,if_neg λz=>m^f.symm.trans z]
     .rw[if_neg f,if_neg f]
      refine o c (by simpa using g) λz=>(UF.mp^l z).resolve_left λw=>f^w.symm.trans z.symm
  exact n b c g λ_=>h
 .have h:k∉b:=λz=>i^hasK_iff.mpr z
  rw[if_neg i,if_neg i]
  have n:∀(b:v_ Key) (c:v_ D),b.length=c.length->k∉b->Bi (b++[k]) (c++[d]) j=if j=k then P3 d else Bi b c j:=by
   intro b
   induction b with
   | nil=>
    intro c g _;cases c with
    |nil=>
     show(if k=j then P3 d else s_)=if j=k then P3 d else s_
     by_cases e:j=k
     .rw[if_pos e,if_pos e.symm]
     .rw[if_neg e,if_neg λz=>e z.symm]
    |cons e c=>cases g
   | cons a b o=>
    intro c g l;cases c with
    |nil=>cases g
    |cons e c=>
     show(if a=j then P3 e else Bi (b++[k]) (c++[d]) j)=if j=k then P3 d else if a=j then P3 e else Bi b c j
     rw[o c (by simpa using g) λz=>l^TW _ z]
     by_cases f:a=j
     .rw[if_pos f,if_pos f,if_neg λz=>l^by rw[←z,←f]; exact Op]
     .rw[if_neg f,if_neg f]
  exact n b c g h
section
variable {X:Cx}{a b e:Expr}{κ zU zO:Kd}{wa wb:DW}{pos pos':Pos}
def Rx(f g:DW):DW:=λn e P=>f n e λk h=>g h e λd i=>∃c,keyOf k=P3 c/\P (.dic [c] [d]) i
def RL(J:DE X a zU wa)(L:DE X b zO wb)(N:zO≠.tp:=by intro z; cases z):DE X (.Dict [P3 a] [b] pos) .fr^Rx wa wb:=by
 let#[t,O,S]:=J;let#[u,T,V]:=L;refine#[_,ZS (XS O T ZO) rfl rfl (kc _ _) (by show 1<=15; decide),λC M H n E Z P Q R w q=>λp i=>?_];have j:=R.hold (o:=.dK []) i
 have r:¬C.U p:=λz=>by
  let#[o,w]:=R.dom p^R.vM p^R.uV p z;rw[i]at w; cases w
 refine S C _ _ n E Z _ _ j w λx H2 k W s Y r1 p1=>?_;have R2:=j.step s Y;refine V C _ _ W E Z _ _ R2 p1 λy v d n2 A F r2 B=>?_;let#[e,h,B]:=B;have R3:=R2.step A F;have D:At X.K (λb=>M b\/b=p) v d y:=r2.shOf R2.dom N;have g:v p=P3^.dK []:=A.keep (s.keep An r) r;have hx:x=kV e:=Dn h^r1.tpOf j.dom j.vM;refine#[g,[(e,y)],by rw[hx]; rfl,by show 1<=15; decide,?_];show Q (.ref p)^BQ v p^.dK [(e,y)];refine q _ _ (.dic [e] [d]) n2 (λb o c=>?_) ?_ #[p,rfl,i,[y],An,rfl,?_] B
 .have l:b≠p:=BB c i
  let#[o1,z1,k1,G]:=s b o (by rw[Ah l]; exact c);let#[o2,z2,k2,t2]:=A b o1 z1;exact#[o2,by rw[Ah l]; exact z2,λI=>(k2 I).trans^k1 I,λm z=>(t2 m^(G m z).trans z).trans^G m z]
 .refine F.pres #[λb o c l=>by rw[Ah λz=>l^.inr z]; exact c,λb z=>.inl^.inl z,λb m c=>by rw[Ah λz=>by rw[z,g]at c; cases c]; exact c] λf o hf c=>?_
  rw[Ah λz=>r^by rw[←z]; exact R.fU f hf];exact c
 .exact#[y,[],rfl,D.pres^Cr (.inr rfl) g,rfl]
def Ja(i:Nat)(h j:DW):Ad:=λl n e=>∃f g,e[i]?=P3^.ow^.dic f g/\j n e λd m=>h m e λk o=>∃c,keyOf k=P3 c/\f.length<sizeLine/\l.nx o^e.set i^.ow^.dic (DQ f c)^Dh f g c d
def PJ{i k:Nat}{x:jJ}(O:Room k X.A)(P:PE X x^CC i)(Q:DE X a zU wa)(S:DE X b zO wb)(T:zO≠.tp:=by intro z; cases z)
  (U:swapsWith b (P3^.Subscript x a pos') pos.line X.env=pure u_:=by rfl):DS X κ (.Assign [.Subscript x a pos'] b pos)^Ja i wa wb:=by
 let#[t,V,W]:=Q;let#[u,Y,g2]:=S;refine#[_,Hd (IB O) P V Y U,λC M H n D Z D2 E R L w=>?_];let#[l,ds,o,w]:=w;refine g2 C M H n D Z _ _ R w λv H1 d n1 e1 f1 r1 p=>?_;have f:=R.step e1 f1;let#[F,q,m,nv,tt]:=f.sl i _ o;exists .ref F,getD_some q;refine W C M H1 n1 D Z _ _ f p λy H2 kk n2 G f2 r2 p=>?_;let#[c,g,a0,p]:=p;have R2:=f.step G f2;let#[a1,h,m',a2,r]:=R2.sl i _ o;rw[q]at h;cases h;let#[I,J,N,j]:=r;have s:At X.K M H2 d v:=(r1.shOf R.dom T).pres^f.pres G;have B:l.length=I.length:=by rw[N,j.length]
 refine#[F,_,rfl,by rw[Dn g^r2.tpOf f.dom f.vM]; exact DPut.k J (by rw[nh]; omega),L.nx M _ n2 _ Z (R2.mut (e:=.dic (DQ l c)^Dh l ds c d) o q #[Dh l I c v,by rw[An,XJ B],UD N,(j.putX s).pres^Cr m' J]) p]
def dX:D->w_ Bool
 |.lst c=>P3 (!c.isEmpty)
 |.tup c=>P3 (!c.isEmpty)
 |.bl b=>P3 b
 |.non=>P3 u_
 |_=>s_
def bA(wa:DW):Ij:=λn e P=>wa n e λd f=>∃c,dX d=P3 c/\P c f
def OI{K:Frag}{M:Ch->Prop}{H:Hp}{c:v_ D}{d:v_ V}(h:Ats K M H c d):d.isEmpty=c.isEmpty:=by
 have:=h.length
 cases d <;>cases c <;>first|rfl|cases this
def bK{U M:Ch->Prop}{H:Hp}{K:Frag}{d:D}{x:V}{c:Bool}(h:AtT K U M H d x)(e:dX d=P3 c):dC K x H c:=by
 cases d with
 |lst j=>cases e; let#[a,f,rfl,_,g,i]:=h; exact .inl #[f,.inl g,by rw[OI i]]
 |tup j=>cases e; let#[a,f,rfl,g,i]:=h; exact .inr^.inl #[f,.inl^.inl g,by rw[OI i]]
 |bl b=>cases e; rw[h.bl]; exact rfl
 |non=>cases e; rw[h]; exact rfl
 |_=>cases e
def ce(h:DE X e κ wa)(g:∀f,isTrue e X.env f=(do let v ←f; standAt e.pos; holding [v]^truthy v):=by intro _; rfl):DT X e^bA wa:=by
 let#[t,i,j]:=h;refine#[_,XM i g,λC M H n k Z P Q R w q=>?_];refine j C M H n k Z _ _ R w λv l d m o r s p=>?_;let#[c,u,p]:=p;exact#[c,bK (s.tpOf R.dom R.vM) u,q c l m o r p]
def C9(c:Bool)(d e:D)(P:D->Prop):Prop:=e=.non/\P^.bl (if c then !Xz d else Xz d)
def G3{K:Frag}:GI K .sh (λx y H Q=>y=.non/\Q (.bl (decide (x=.non))) H)^C9 u_:=λU M H d e x y P Q c h f g w q=>by
 let#[rfl,w]:=w;exact#[g,q _ H _ .refl (by rw[Q9 f]; rfl) w]
def FI{K:Frag}:GI K .sh (λx y H Q=>y=.non/\Q (.bl (!decide (x=.non))) H)^C9 t_:=λU M H d e x y P Q c h f g w q=>by
 let#[rfl,w]:=w;exact#[g,q _ H _ .refl (by rw[Q9 f]; rfl) w]
variable {apos cpos:Pos}{f:Expr}{κf:Kd}{wf:DW}
def WU(wa i:DW):DW:=λn e P=>wa n e λd j=>∃g h,MD d=P3 (g,h)/\i j e λk l=>∃c,keyOf k=P3 c/\P ((Bi g h c).getD .non) l
def Tv(wa i j:DW):DW:=λn e P=>wa n e λd l=>∃g h,MD d=P3 (g,h)/\i l e λk m=>j m e λz o=>∃c,keyOf k=P3 c/\P ((Bi g h c).getD z) o
def WY{U M:Ch->Prop}{H:Hp}{K:Frag}{d z:D}{x v:V}{ks:v_ Key}{g:v_ D}{key:Key}(e:MD d=P3 (ks,g))(h:AtT K U M H d x)(l:At K M H z v):∃a o,x=.ref a/\DGet H a (kV key) o/\At K M H ((Bi ks g key).getD z)^o.getD v:=by
 let#[a,m,rfl,i,j]:=MC e h;exists a,_,rfl,Km i;have h:=HK (k:=key) (ks:=ks) j;cases c:Bi ks g _ with
 |none=>simp_all
 |some y=>rw[c]at h; let#[u,n,p]:=h; grind
def X4{U M:Ch->Prop}{H:Hp}{K:Frag}{d:D}{x:V}{c:v_ Key}{g:v_ D}(e:MD d=P3 (c,g))(h:AtT K U M H d x):∃a,x=.ref a/\gK H a:=by
 let#[a,j,rfl,i,k]:=MC e h;exact#[a,rfl,.inl #[_,i]]
def Z5{k:Nat}(B:Room k X.A)(D:DE X a zU wa)(E:DE X b zO wb)(m:M1 X a "get" apos b cpos:=by exact#[rfl,rfl,rfl,rfl]):DE X (.Call (.Attribute a "get" apos) [b] [] cpos) .sh^WU wa wb:=by
 let#[t,F,G]:=D;let#[u,I,J]:=E;refine#[_,Xd (IB B) F I m,λC M H n j Z P Q R w q=>?_];refine G C M H n j Z _ _ R w λv K d L l N r p=>?_;let#[ks,ds,s,p]:=p;have c:=R.step l N;let#[O,rfl,S]:=X4 s^r.tpOf R.dom R.vM;exists O,rfl,S;refine J C M K L j Z _ _ c p λy T kk U h x V p=>?_;let#[key,e,p]:=p;have R2:=c.step h x;have i:=(r.tpOf R.dom R.vM).pres (c.pres h) h R.uV;let#[W,o,ex,g,Y]:=WY (key:=key) s i (z:=.non) (v:=.non) rfl;cases ex;exact#[o,by rw[Dn e^V.tpOf c.dom c.vM]; exact g,q _ T _ U (l.trans h) x Y p]
def Uv{k:Nat}(D:Room k X.A)(E:DE X a zU wa)(F:DE X b zO wb)(G:DE X f κf wf)(I:κf≠.tp:=by intro z; cases z)(m:M2 X a "get" apos b f cpos:=by exact#[rfl,rfl,rfl,rfl]):DE X (.Call (.Attribute a "get" apos) [b,f] [] cpos) .sh^Tv wa wb wf:=by
 let#[t,J,K]:=E;let#[u,L,N]:=F;let#[u2,O,S]:=G;refine#[_,Xc (IB D) J L O m,λC M H n j Z P Q R w q=>?_];refine K C M H n j Z _ _ R w λv T d U r V s p=>?_;let#[ks,ds,x,p]:=p;have e:=R.step r V;let#[W,rfl,Y]:=X4 x^s.tpOf R.dom R.vM;exists W,rfl,Y;refine N C M T U j Z _ _ e p λy H2 kk n2 i f2 r2 p=>?_;have R2:=e.step i f2;refine S C M H2 n2 j Z _ _ R2 p λz H3 dz n3 c B r3 p=>?_;let#[key,h,p]:=p;have R3:=R2.step c B;have l:=((s.tpOf R.dom R.vM).pres (e.pres i) i R.uV).pres (R2.pres c) c R.uV;have hy:=(r2.tpOf e.dom e.vM).pres (R2.pres c) c R.uV;let#[a0,o,ex,g,hz]:=WY (key:=key) x l^r3.shOf R2.dom I;cases ex;exact#[o,by rw[Dn h hy]; exact g,q _ H3 _ n3 ((r.trans i).trans c) B hz p]
end
end Dp
namespace L2
open AutoSeq1 (wpAny_loadPart')
def VZ:typeLookup (.type "list_reverseiterator") "__len__"=pure s_:=by kernel_rfl
def X7:typeLookup (.type "list_reverseiterator") "__length_hint__"=pure^P3^.builtin "list_reverseiterator.__length_hint__":=by kernel_rfl
def boot_reversed:bootBuiltins "reversed"=P3^.type "reversed":=by decide +kernel
section
variable {prog:Program}{w:World}{A:Around}{E:Value->Shared->Prop}{s:Shared}{I:Addr}{fp wr:v_ Addr}{G:Array GenState->Array GenState->Prop}{n:Nat}{P:Nat->Value->Prop}{St:Nat->Shared->Prop}
def RO{Q:v_ Ev->On->Prop}
  (W:WalksS prog w A.in1 I fp wr G n P St) (m:∀i s,St i s->s.TypeIs (.ref I) "list_reverseiterator") (p:St 0 s) (q:∀b∈fp,b<s.heap.objs.size) (v:I∈fp)
  (x:∀d f,Moved wr G s d->ItemsOf P f n->Q f.toList d) (hn:n<=sizeLine):wpAny (model prog w) A (collect^.ref I) Q E s:=by
 have g:s.heap.objs.size∉fp:=λr=>jr _^q _ r;have t:s.heap.objs.size≠I:=λe=>g (e▸v);unfold collect;refine Db^wpAny_runValue^jq F.entry_proto_collect ?_;rw[kI F.plain_proto_collect _];show wpAny _ A.in1 (newList [] >>=λl=>again^.builtin "list.__iadd__" #[[l,.ref I],[]]) _ _ s;refine Db^lD ?_;refine T0 #[kd F.plain_list_iadd _,jq F.entry_list_iadd ?_];rw[kI F.plain_list_iadd _];have a:=W.frame 0 s (s.heap.push {cls:=.type "list",data:=.seq ([]:v_ Ev).toArray}) s.toks p (Rs _) λb _ o e=>Go _ e;have c:(s.heap.push {cls:=.type "list",data:=.seq ([]:v_ Ev).toArray}).get? s.heap.objs.size=P3 {cls:=.type "list",data:=.seq ([]:v_ Ev).toArray}:=XV _ rfl;have y:o_ (.ref s.heap.objs.size)^.ref I=u_:=by simp[o_,t]
 show wpAny _ A.in1 (lQ (.ref s.heap.objs.size) (.ref I)^.ref s.heap.objs.size) _ _ _;unfold lQ;refine Db^mI (m 0 _ a) ?_;rw[if_neg^by rw[y]; decide];refine Db^W.self 0 _ _ _ a ?_;refine Db^jb ?_;unfold Builtin.List.listLengthHint;refine Db^mX (m 0 _ a) VZ ?_;show wpAny _ A.in1 (specialOf (ja I)^lZ "__length_hint__" >>=_) _ _ _;refine Db (mX (m 0 _ a) X7 ?_)
 (generalize h:("list_reverseiterator.__length_hint__":String)=id0; wp_delta; rw[show splitId id0=P3 ("list_reverseiterator","__length_hint__")from by subst h; decide +kernel]; subst h)
 refine Db^wpAny_isInstance (b:=t_) (m 0 _ a) (by rw[isSubtype_type]; kernel_rfl) ?_;refine T0 ?_;rw[if_neg^by cbv];refine T0 #[kd F.plain_extend_loop _,codeAny_extend_loopS W hn _ g _ n 0 _ _ _ rfl (i6 _) a c (ItemsOf.nil P) λd j z r u k=>?_];show wpAny _ A (load s.heap.objs.size >>=_) _ _ d;refine Db^wpAny_load u ?_;exact T0^x d j (Moved.drop_new (o:={cls:=.type "list",data:=.seq ([]:v_ Ev).toArray}) (tk:=s.toks) r^Rs _) k
def MH{Q₁:Ev->On->Prop}(W:WalksS prog w A.in1.in1 I fp wr G n P St)(hT:∀i s,St i s->s.TypeIs (.ref I) "list_reverseiterator")(hst:St 0 s)(hfp:∀b∈fp,b<s.heap.objs.size)(hI:I∈fp)
  (h:∀s' acc,Moved wr G s s'->ItemsOf P acc n->Q₁ (.ref s'.heap.objs.size) {s' with heap:=s'.heap.push {cls:=.type "tuple",data:=.seq acc}}) (hsz:n<=sizeLine):
  codeAny (model prog w) A (.call (.builtin "tuple.__new__") #[[.type "tuple",.ref I],[]]) (wants Q₁ E) s:=by
 refine pI ?_;show wpAny _ A.in1 (do checkBuiltinCall "tuple.__new__" #[[.type "tuple",.ref I],[]]; again^.builtin "tuple.__new__" #[[.type "tuple",.ref I],[]]) _ _ s;refine Db^pM (F.newCall_tuple_1 _)^T0 #[kd F.plain_tuple_new _,jq F.entry_tuple_new ?_];rw[kI F.plain_tuple_new _];have hsub:=sub_tuple_self;have hinit:=init_tuple_lookup;have hmh:=madeHere_tuple;have hTI:=hT 0 s hst
 wp_walk using mI hTI,RO (hn:=hsz) W hT hst hfp hI
 intro s' acc hm hacc;show wpAny _ _ (mi acc.toList.toArray >>=λv=>ret v) _ _ _;unfold mi;refine Db (lD ?_^by show acc.toList.toArray.size<=sizeLine; simp only[Array.toArray_toList]; rw[hacc.1]; exact hsz);refine T0 ?_;have e:acc.toList.toArray=acc:=by simp
 rw[e];exact h s' acc hm hacc
def ML{Q:Ev->On->Prop}(W:WalksS prog w A.in1.in1.in1 I fp wr G n P St)(k:∀i s,St i s->s.TypeIs (.ref I) "list_reverseiterator")(h:St 0 s)(j:∀b∈fp,b<s.heap.objs.size)(l:I∈fp)
  (m:∀e d,Moved wr G s e->ItemsOf P d n->Q (.ref e.heap.objs.size) {e with heap:=e.heap.push {cls:=.type "tuple",data:=.seq d}}) (hsz:n<=sizeLine):
  wpAny (model prog w) A (call (.type "tuple") [.ref I]) Q E s:=callType_codes (Q₁:=λf c=>c.TypeIs f _/\Q _ _) pV (F.typeCall_tuple_1 _) F.entry_object_init
  (MH (hsz:=hsz) W k h j l λe d o g=>#[#[_,XV _ rfl,rfl],m e _ o g]) λf c a=>#[a.1,F.args_object_init_2 _ _,object_init_meets pV.init.lookup pV.made (by cbv) _ w _ _ _ #[a.1,rfl,a.2]]
end
section
variable {X:Cx}{e:Expr}{te:TE}{p1 p2 q1 q2:Pos}
def ZA(K:Frag)(te:TE):TE:=λZ H Q=>te Z H λx a=>∃l b,x=.ref l/\SqL K a l b/\∀r,a r=s_->Q (.ref r)^BQ a r^.tup b.reverse
def VQ(B:X.calm=t_)(he:PE X e te)(C:Gl X "tuple")(D:X.mg "tuple"=s_)(E:Gl X "reversed")(F:X.mg "reversed"=s_)(R:starEach [mq (.Name "reversed" p2) [e] [] q2] X.env=[(u_,eval (mq (.Name "reversed" p2) [e] [] q2) X.env)]:=by rfl)
  (S:starEach [e] X.env=[(u_,eval e X.env)]:=by rfl):PE X (.Call (.Name "tuple" p1) [.Call (.Name "reversed" p2) [e] [] q2] [] q1)^ZA X.K te:=by
 intro y s Z H Q I h;refine kU^Dl I C D kP ?_;refine j_ ?_ R rfl;rw[R];refine kT ?_;refine kU^Dl I E F boot_reversed ?_;refine j_ ?_ S rfl;rw[S];refine kT^thn (he y s Z H _ I h) λu d #[x,k,m,r1,l,G,ex,hq,q]=>km ?_;subst ex;cases r1;let#[a,T,pl,U]:=m.list hq;have n:=T.length;have J:d.heap.IsList l a.toArray:=pl.isList;have p:l<d.heap.objs.size:=by let#[_,e,_]:=id J; exact ZB e
 refine call_reversed_list J^km ?_;have L:k d.heap.objs.size=s_:=m.fresh;have I2:Inv X y Z k {d with heap:=d.heap.push^revObj l ((a.toArray.size:Int) - 1)}:=m.kept (t':=d.toks) λb o e=>Go _ e;have M:Gg X y k d.heap.objs.size:=m.fpOk (Rs _) L;refine ML (s:={d with heap:=d.heap.push^revObj l ((a.toArray.size:Int) - 1)}) (Walks.listRev (A:=X.A.in1.in1.in1) (m.ok.hd B) d.heap.objs.size l (i_ p) a.toArray).toS (λi V hs=>hs.2.1.typeIs) #[i6 _,#[_,XV _ rfl,rfl,by show Data.fields _=_; simp[revObj]],J.push _] (λb r=>?_) Op (λV g z t=>?_)^by rw[iy,←n]; exact U
 .rcases UF.mp r with rfl|r
  .exact ZB (XV _ rfl)
  .obtain rfl:=Re.mp r
   exact jU p^by show d.heap.objs.size<=(d.heap.push _).objs.size; rw[size_push']; exact kJ _
 .let#[h',g',d',j,N]:=V
  have e1:g'=d.gens:=z.gens;have e2:d'=d.drawn:=z.drawn;have e3:N=d.os:=z.os;subst e1 e2 e3;have O:=I2.turnedL (h':=h') (t':=j) (ch:=[d.heap.objs.size]) (λc B=>by rw[Re.mp B]; exact M) λb o r e=>z.heap b o r e;have W:Inv X y Z k {d with heap:=h',toks:=j}:=O
  have hv:g.toList=a.reverse:=by
   refine List.ext_getElem? λi=>?_;let#[Y,a2]:=t;have e0:g.toList[i]?=g[i]?:=by simp
   rw[e0]
   by_cases hi:i<a.length
   .have v:i<g.size:=by rw[Y,iy]; exact hi
    have a3:=a2 i g[i] (jj v);rw[List.getElem?_reverse hi,jj v,←a3,iy];simp
   .rw[pU^by rw[n9]; omega]
    exact l_^by rw[Y,iy]; omega
  have P:g=a.reverse.toArray:=by rw[←hv]
  have rr:Vals G.reverse a.reverse:=T.reverse;refine#[.ref h'.objs.size,BQ k h'.objs.size^.tup G.reverse,W.laid (t':=j) (λb o e=>Go _ e) (Rs _) (show ObjOk X.prog X.w _ _ _^.tup G.reverse from#[by rw[n9]; exact U,a.reverse,rr,by rw[P]; exact IsTupN.new _ _]),rfl,q _^W.hok.fresh^Rs _]
end
end L2
namespace Dp
open L2
def Tu(b:DW):DW:=λn c P=>b n c λd e=>∃a,d=.lst a/\P (.tup a.reverse) e
section
variable {X:Cx}{a:Expr}{zU:Kd}{wa:DW}{p1 p2 q1 q2:Pos}
def V1(m:X.calm=t_)(o:DE X a zU wa)(b:Gl X "tuple")(c:X.mg "tuple"=s_)(e:Gl X "reversed")(f:X.mg "reversed"=s_)(s:starEach [mq (.Name "reversed" p2) [a] [] q2] X.env=[(u_,eval (mq (.Name "reversed" p2) [a] [] q2) X.env)]:=by rfl)
  (u:starEach [a] X.env=[(u_,eval a X.env)]:=by rfl):DE X (.Call (.Name "tuple" p1) [.Call (.Name "reversed" p2) [a] [] q2] [] q1) .sh^Tu wa:=by
 let#[t,x,y]:=o;refine#[_,VQ m x b c e f s u,λC M H n z Z P Q R w q=>?_];refine y C M H n z Z _ _ R w λv h d A i j B p=>?_;let#[I,rfl,p]:=p;have D:=R.step i j;let#[E,k,rfl,J,F,G]:=B.tpOf R.dom R.vM;refine#[E,k,rfl,.inl F,λr l=>?_];have g:Grow h^BQ h r^.tup k.reverse:=BE l;exact q _ _ (.tup _) A (i.trans g.ext) (j.grow g) (Do D.dom l^G.reverse) p
end
end Dp
namespace Nt
open L2 Dp
def Ed(N:Net)(x y:Str)(l:Int):Prop:=(y,l)∈ED N.ts x
inductive Wk (N:Net) (s:Str):Str->Int->Prop
 |nil:Wk N s s 0
 |snoc {x y:Str}{d l:Int}:Wk N s x d->Ed N x y l->Wk N s y (d+l)
def Least(N:Net)(s x:Str)(d:Int):Prop:=Wk N s x d/\∀a,Wk N s x a->d<=a
def Ed.pos{N:Net}(ok:N.Ok){x y:Str}{l:Int}(h:Ed N x y l):1<=l/\l<=1000000:=by
 let#[_,a,b,_]:=O2 ok h
 simp_all
def Ed.ins{N:Net}(ok:N.Ok){x y:Str}{l:Int}(h:Ed N x y l):y∈N.ps:=(O2 ok h).1
def Wk.pos{N:Net}(ok:N.Ok){s x:Str}{d:Int}(h:Wk N s x d):0<=d:=by
 induction h with
 |nil=>lk
 |snoc _ a b=>have:=a.pos ok; omega
def Least.unique{N:Net}{s x:Str}{d a:Int}(h:Least N s x d)(b:Least N s x a):d=a:=by
 have:=h.2 a b.1
 have:=b.2 d h.1
 omega
def IK{N:Net}{s:Str}{F:Str->w_ Int}(c:∃d,F s=P3 d/\d<=0)(f:∀x d,F x=P3 d->Wk N s x d)(j:∀x d y l,F x=P3 d->Ed N x y l->∃b,F y=P3 b/\b<=d+l):
  (∀x d,F x=P3 d->Least N s x d)/\∀x d,Wk N s x d->F x≠s_:=by
 have a:∀x d,Wk N s x d->∃b,F x=P3 b/\b<=d:=by
  intro x d h
  induction h with
  |nil=>exact c
  |snoc _ k m=>
   grind
 refine#[λx d e=>#[f x d e,λb h=>?_],λx d h e=>?_]
 .let#[g,i,n]:=a x b h
  simp_all
 .let#[g,i,_]:=a x d h
  grind
def IE{N:Net}{t:Aq}(c:t∈N.ts):Ed N t.a t.b t.len/\Ed N t.b t.a t.len:=by
 constructor
 .exact k6.mpr #[t,c,jM _^by simp_all]
 .exact k6.mpr #[t,c,f8 _^by simp_all]
def Ed.tie{N:Net}(ok:N.Ok){x y:Str}{l:Int}(h:Ed N x y l):∃t∈N.ts,t.len=l/\((t.a=x/\t.b=y)\/(t.b=x/\t.a=y)):=by
 let#[_,_,_,t,c,e,h]:=O2 ok h;exact#[t,c,e,h]
structure Dmap (ks:List Key) (ds:List D) (enc:α->D) (F:Str->Option α):Prop where
 len:ks.length=ds.length
 at_:∀x:Str,Bi ks ds^.inr x=(F x).map enc
 dom:∀k∈ks,∃x:Str,k=.inr x
 nd:ks.Nodup
def Dmap.mem{c:Type}{b:v_ Key}{ds:v_ D}{enc:c->D}{F:Str->w_ c}(h:Dmap b ds enc F)(x:Str):(.inr x∈b)↔F x≠s_:=by
 constructor
 .intro a e
  let#[z,d]:=Iq h.len a;rw[h.at_,e]at d;cases d
 .intro f
  by_cases a:ke x∈b
  .exact a
  .have:=NQ (ds:=ds) a
   rw[h.at_]at this
   simp_all
def Dmap.one{b:Type}{enc:b->D}{s:Str}{a:b}:Dmap [.inr s] [enc a] enc (λx=>if x=s then P3 a else s_):=by
 refine#[rfl,λx=>?_,λk c=>#[s,Re.mp c],jA.mpr #[ip,jT]];show(if ke s=.inr x then P3 _ else s_)=(if x=s then P3 a else s_).map _
 by_cases e:x=s
 .simp_all
 .rw[if_neg e,if_neg λz=>e (kr z).symm]; rfl
def Iv{b:Type}(F:Str->w_ b)(x:Str)(a:b):Str->w_ b:=λy=>if y=x then P3 a else F y
def Bz{b:Type}{F:Str->w_ b}{x:Str}{a:b}:Iv F x a x=P3 a:=if_pos rfl
def By{b:Type}{F:Str->w_ b}{x y:Str}{a:b}(h:y≠x):Iv F x a y=F y:=if_neg h
def Dmap.put{d:Type}{f:v_ Key}{g:v_ D}{enc:d->D}{F:Str->w_ d}(h:Dmap f g enc F)(x:Str)(a:d):Dmap (DQ f^.inr x) (Dh f g (.inr x)^enc a) enc^Iv F x a:=by
 exists UD h.len,λy=>?_,λk c=>?_
 .rw[Wa h.len]
  unfold Iv
  by_cases e:y=x
  .rw[if_pos e,if_pos^by rw[e]]; rfl
  .rw[if_neg e,if_neg λz=>e^kr z,h.at_]
 .unfold DQ at c
  split at c
  .exact h.dom k c
  .rcases i9.mp c with c|c
   .exact h.dom k c
   simp_all
 .unfold DQ
  split
  .exact h.nd
  .rename_i i
   rw[jW];refine#[h.nd,jA.mpr #[ip,jT],λa j b l e=>i^hasK_iff.mpr ?_]
   grind
def Dmap.le{d:Type}{a:v_ Key}{g:v_ D}{enc:d->D}{F:Str->w_ d}(h:Dmap a g enc F){b:v_ Str}(i:∀x,F x≠s_->x∈b):a.length<=b.length:=by
 have:∀(a:v_ Key) (b:v_ Str),a.Nodup->(∀k∈a,∃x:Str,k=.inr x/\x∈b)->a.length<=b.length:=by
  intro a
  induction a with
  |nil=>simp_all
  | cons k a l=>
   intro b c e;let#[x,rfl,n]:=e k Op;have c:=jA.mp c
   have o:=l (b.erase x) c.2 λj m=>by
    let#[y,rfl,p]:=e j^TW _ m
    grind
   grind
 refine this a b h.nd λk f=>?_;let#[x,rfl]:=h.dom k f;exact#[x,rfl,i x^(h.mem x).mp f]
abbrev OO:=Str->w_ (Int×w_ Str)
structure Dj (N:Net) (s:Str) (F:OO) (Wt:List Str):Prop where
 start:F s=P3 (0,s_)
 ins:∀x,F x≠s_->x∈N.ps
 wk:∀x d p,F x=P3 (d,p)->Wk N s x d
 prev:∀x d p,F x=P3 (d,p)->(p=s_/\x=s)\/∃y dy q l,p=P3 y/\F y=P3 (dy,q)/\y∉Wt/\Ed N y x l/\d=dy+l
 wfound:∀x∈Wt,F x≠s_
 nd:Wt.Nodup
 done:∀x d p y l,F x=P3 (d,p)->x∉Wt->Ed N x y l->∃dy q,F y=P3 (dy,q)/\dy<=d+l
 near:∀x d p y dy q,F x=P3 (d,p)->x∉Wt->F y=P3 (dy,q)->y∈Wt->d<=dy
def Dj.init{N:Net}{s:Str}(c:s∈N.ps):Dj N s (λx=>if x=s then P3 (0,s_)else s_) [s]:=by
 have a:∀x d p,(if x=s then P3 ((0:Int),(s_:w_ Str))else s_)=P3 (d,p)->x=s/\d=0/\p=s_:=λx d p e=>by
  grind
 refine#[if_pos rfl,λx e=>?_,λx d p e=>?_,λx d p e=>?_,λx b=>?_,jA.mpr #[ip,jT],λx d p y l e b=>?_,λx d p y f q e b=>?_]
 .grind
 .let#[rfl,rfl,rfl]:=a x d p e
  exact .nil
 .let#[rfl,rfl,rfl]:=a x d p e
  exact .inl #[rfl,rfl]
 .simp_all
 .exact absurd (Re.mpr (a x d p e).1) b
 .exact absurd (Re.mpr (a x d p e).1) b
structure Dm (N:Net) (s:Str) (F:OO) (Wt:List Str) (v:Str) (dv:Int) (seen:List (Str×Int)):Prop where
 start:F s=P3 (0,s_)
 ins:∀x,F x≠s_->x∈N.ps
 wk:∀x d p,F x=P3 (d,p)->Wk N s x d
 prev:∀x d p,F x=P3 (d,p)->(p=s_/\x=s)\/∃y dy q l,p=P3 y/\F y=P3 (dy,q)/\y∉Wt/\Ed N y x l/\d=dy+l
 wfound:∀x∈Wt,F x≠s_
 nd:Wt.Nodup
 done:∀x d p y l,F x=P3 (d,p)->x∉Wt->x≠v->Ed N x y l->∃dy q,F y=P3 (dy,q)/\dy<=d+l
 near:∀x d p y dy q,F x=P3 (d,p)->x∉Wt->F y=P3 (dy,q)->y∈Wt->d<=dy
 here:∃p,F v=P3 (dv,p)
 out:v∉Wt
 least:∀x d p,F x=P3 (d,p)->x∉Wt->d<=dv
 gone:∀y l,(y,l)∈seen->∃dy q,F y=P3 (dy,q)/\dy<=dv+l
def Dj.take{N:Net}{s:Str}{F:OO}{c:v_ Str}(h:Dj N s F c){v:Str}{dv:Int}{p:w_ Str}(o:v∈c)(e:F v=P3 (dv,p))(i:∀y∈c,∀g q,F y=P3 (g,q)->dv<=g):Dm N s F (c.erase v) v dv []:=by
 have f:∀x,x∈c.erase v->x∈c:=λx b=>List.mem_of_mem_erase b;have m:v∉c.erase v:=λz=>(h.nd.mem_erase_iff.mp z).1 rfl
 have a:∀x,x∉c.erase v->x=v\/x∉c:=λx b=>by
  grind
 refine#[h.start,h.ins,h.wk,λx d q ex=>?_,λx b=>h.wfound x^f x b,h.nd.erase v,λx d q y l ex b r t=>?_,λx d q y g j ex b n k=>?_,#[p,e],m,λx d q ex b=>?_,λy l k=>by cases k]
 .rcases h.prev x d q ex with z|⟨y,g,j,l,u,w,A,B,C⟩
  .exact .inl z
  .exact .inr #[y,g,j,l,u,w,λz=>A^f y z,B,C]
 .rcases a x b with z|z
  .exact absurd z r
  .exact h.done x d q y l ex z t
 .rcases a x b with z|z
  .subst z
   rw[e]at ex;cases ex;exact i y (f y k) g j n
  .exact h.near x d q y g j ex z n^f y k
 .rcases a x b with z|z
  .grind
  .exact h.near x d q v dv p ex z e o
def Dm.finish{N:Net}{s:Str}{F:OO}{b:v_ Str}{v:Str}{dv:Int}{a:v_ (Str×Int)}(h:Dm N s F b v dv a)(f:∀y l,Ed N v y l->(y,l)∈a):Dj N s F b:=by
 refine#[h.start,h.ins,h.wk,h.prev,h.wfound,h.nd,λx d p y l e g c=>?_,h.near]
 by_cases z:x=v
 .subst z
  let#[j,i]:=h.here;rw[i]at e;cases e;exact h.gone y l^f y l c
 .exact h.done x d p y l e g z c
def Dm.find{N:Net}(ok:N.Ok){s:Str}{F:OO}{m:v_ Str}{v:Str}{dv:Int}{j:v_ (Str×Int)}(h:Dm N s F m v dv j){y:Str}{l:Int}(w:Ed N v y l)(K:F y=s_):Dm N s (Iv F y (dv+l,P3 v)) (m++[y]) v dv (j++[(y,l)]):=by
 have L:=(w.pos ok).1;let#[A,B]:=h.here;have C:∀x d p,F x=P3 (d,p)->x≠y:=λx d p e z=>by rw[z,K]at e; cases e
 have f:∀x d p,F x=P3 (d,p)->Iv F y (dv+l,P3 v) x=P3 (d,p):=λx d p e=>by rw[By^C x d p e]; exact e
 have Q:y∉m:=λz=>h.wfound y z K
 have c:∀x d p,Iv F y (dv+l,P3 v) x=P3 (d,p)->(x=y/\d=dv+l/\p=P3 v)\/(x≠y/\F x=P3 (d,p)):=λx d p e=>by
  by_cases z:x=y
  .rw[z,Bz]at e; cases e; exact .inl #[z,rfl,rfl]
  .rw[By z]at e; exact .inr #[z,e]
 have k:∀x,x∉m++[y]->x∉m/\x≠y:=λx g=>#[λz=>g^jM _ z,λz=>g^f8 _^by rw[z]; exact Re.mpr rfl]
 have M:v∉m++[y]:=λz=>by
  rcases i9.mp z with z|z
  .exact h.out z
  .exact C v dv A B^Re.mp z
 refine#[f _ _ _ h.start,λx g=>?_,λx d p e=>?_,λx d p e=>?_,λx g=>?_,?_,λx d p z o e g R D=>?_,λx d p z O q e g E i=>?_,#[A,f _ _ _ B],M,λx d p e g=>?_,λz o i=>?_]
 .by_cases z:x=y
  .rw[z]; exact w.ins ok
  .rw[By z]at g; exact h.ins x g
 .rcases c x d p e with⟨rfl,rfl,_⟩|⟨_,e⟩
  .exact .snoc (h.wk v dv A B) w
  .exact h.wk x d p e
 .rcases c x d p e with⟨rfl,rfl,rfl⟩|⟨_,e⟩
  .exact .inr #[v,dv,A,l,rfl,f _ _ _ B,M,w,rfl]
  .rcases h.prev x d p e with z|⟨u,P,q,o,S,G,r,T,U⟩
   .exact .inl z
   .refine .inr #[u,P,q,o,S,f _ _ _ G,λz=>?_,T,U]
    rcases i9.mp z with z|z
    .exact r z
    .exact C u P q G^Re.mp z
 .rcases i9.mp g with g|g
  .have:=h.wfound x g
   cases e:F x with
   |none=>exact absurd e this
   |some a=>rw[f x a.1 a.2 e]; intro z; cases z
  .rw[Re.mp g,Bz]; intro z; cases z
 .rw[jW]
  exact#[h.nd,jA.mpr #[ip,jT],λa V b W e=>Q^by rw[←Re.mp W,←e]; exact V]
 .let#[n,t]:=k x g
  rcases c x d p e with⟨z,_⟩|⟨_,e⟩
  .exact absurd z t
  .let#[H,I,r,J]:=h.done x d p z o e n R D
   exact#[H,I,f _ _ _ r,J]
 .let#[n,t]:=k x g
  rcases c x d p e with⟨z,_⟩|⟨_,ex⟩
  .exact absurd z t
  .rcases c z O q E with⟨_,G,_⟩|⟨X,E⟩
   .have:=h.least x d p ex n
    omega
   .rcases i9.mp i with i|i
    .exact h.near x d p z O q ex n E i
    .exact absurd (Re.mp i) X
 .let#[n,t]:=k x g
  rcases c x d p e with⟨z,_⟩|⟨_,e⟩
  .exact absurd z t
  .exact h.least x d p e n
 .rcases i9.mp i with i|i
  .let#[H,I,r,J]:=h.gone z o i
   exact#[H,I,f _ _ _ r,J]
  .cases Re.mp i
   exact#[_,_,Bz,mB _]
def Dm.nearer{N:Net}(ok:N.Ok){s:Str}{F:OO}{k:v_ Str}{v:Str}{dv:Int}{f:v_ (Str×Int)}(h:Dm N s F k v dv f){y:Str}{l A:Int}{J:w_ Str}(o:Ed N v y l)(B:F y=P3 (A,J))(Q:dv+l<A):Dm N s (Iv F y (dv+l,P3 v)) k v dv (f++[(y,l)]):=by
 have K:=(o.pos ok).1;let#[r,t]:=h.here
 have L:y∈k:=by
  by_cases z:y∈k
  .exact z
  .have:=h.least y A J B z
   omega
 have M:v≠y:=λz=>h.out (by rw[z]; exact L);have c:∀x,x∉k->Iv F y (dv+l,P3 v) x=F x:=λx b=>By λz=>b^by rw[z]; exact L
 have a:∀x d p,Iv F y (dv+l,P3 v) x=P3 (d,p)->(x=y/\d=dv+l/\p=P3 v)\/(x≠y/\F x=P3 (d,p)):=λx d p e=>by
  by_cases z:x=y
  .rw[z,Bz]at e; cases e; exact .inl #[z,rfl,rfl]
  .rw[By z]at e; exact .inr #[z,e]
 have g:∀x d p,F x=P3 (d,p)->∃O q,Iv F y (dv+l,P3 v) x=P3 (O,q)/\O<=d:=λx d p e=>by
  by_cases z:x=y
  .subst z
   rw[B]at e;cases e;exact#[_,_,Bz,by lk]
  .exact#[d,p,by rw[By z]; exact e,mB _]
 have R:s≠y:=λz=>by
  have:=h.start
  rw[z,B]at this;cases this
  have:=(h.wk v dv r t).pos ok
  omega
 refine#[by rw[By R]; exact h.start,λx b=>?_,λx d p e=>?_,λx d p e=>?_,λx b=>?_,h.nd,λx d p z m e b S C=>?_,λx d p z P q e b D i=>?_,#[r,by rw[By M]; exact t],h.out,λx d p e b=>?_,λz m i=>?_]
 .by_cases z:x=y
  .rw[z]; exact o.ins ok
  .rw[By z]at b; exact h.ins x b
 .rcases a x d p e with⟨rfl,rfl,_⟩|⟨_,e⟩
  .exact .snoc (h.wk v dv r t) o
  .exact h.wk x d p e
 .rcases a x d p e with⟨rfl,rfl,rfl⟩|⟨_,e⟩
  .exact .inr #[v,dv,r,l,rfl,by rw[By M]; exact t,h.out,o,rfl]
  .rcases h.prev x d p e with z|⟨u,T,q,m,U,V,j,n,W⟩
   .exact .inl z
   .exact .inr #[u,T,q,m,U,by rw[c u j]; exact V,j,n,W]
 .by_cases z:x=y
  .rw[z,Bz]; intro w; cases w
  .rw[By z]; exact h.wfound x b
 .rw[c x b]at e
  let#[E,G,j,X]:=h.done x d p z m e b S C;let#[H,I,n,Y]:=g z E G j;exact#[H,I,n,by lk]
 .rw[c x b]at e
  rcases a z P q D with⟨rfl,rfl,_⟩|⟨Z,D⟩
  .have:=h.least x d p e b
   omega
  .exact h.near x d p z P q e b D i
 .rw[c x b]at e
  exact h.least x d p e b
 .rcases i9.mp i with i|i
  .let#[E,G,j,X]:=h.gone z m i
   let#[H,I,n,Y]:=g z E G j;exact#[H,I,n,by lk]
  .cases Re.mp i
   exact#[_,_,Bz,mB _]
def Dm.skip{N:Net}{s:Str}{F:OO}{c:v_ Str}{v:Str}{dv:Int}{a:v_ (Str×Int)}(h:Dm N s F c v dv a){y:Str}{l d:Int}{e:w_ Str}(i:F y=P3 (d,e))(f:d<=dv+l):Dm N s F c v dv (a++[(y,l)]):=by
 refine#[h.start,h.ins,h.wk,h.prev,h.wfound,h.nd,h.done,h.near,h.here,h.out,h.least,λz g b=>?_]
 rcases i9.mp b with b|b
 .exact h.gone z g b
 simp_all
structure Told (N:Net) (s:Str) (F:OO):Prop where
 start:F s=P3 (0,s_)
 ins:∀x,F x≠s_->x∈N.ps
 least:∀x d p,F x=P3 (d,p)->Least N s x d
 all:∀x d,Wk N s x d->F x≠s_
 prev:∀x d p,F x=P3 (d,p)->(p=s_/\x=s)\/∃y dy q l,p=P3 y/\F y=P3 (dy,q)/\Ed N y x l/\d=dy+l
def Dj.told{N:Net}{s:Str}{F:OO}(h:Dj N s F []):Told N s F:=by
 have c:=IK (N:=N) (s:=s) (F:=λx=>(F x).map (·.1)) #[0,by rw[h.start]; rfl,mB _] (λx d e=>by
  let#[#[g,p],a,b]:=jY.mp e;cases b;exact h.wk x _ p a) (λx d y l e i=>by
  let#[#[g,p],a,b]:=jY.mp e;cases b;let#[f,q,j,k]:=h.done x _ p y l a ip i;exact#[f,by rw[j]; rfl,k])
 refine#[h.start,h.ins,λx d p e=>c.1 x d (by rw[e]; rfl),λx d m e=>c.2 x d m (by rw[e]; rfl),λx d p e=>?_]
 rcases h.prev x d p e with z|⟨y,f,q,l,a,b,_,n,o⟩
 .exact .inl z
 simp_all
abbrev Kn:=Str->w_ Int
structure Bf (N:Net) (s:Str) (c:Nat) (K:Kn):Prop where
 start:∃d,K s=P3 d/\d<=0
 ins:∀x,K x≠s_->x∈N.ps
 wk:∀x d,K x=P3 d->Wk N s x d
 top:∀x d,K x=P3 d->d<=1000000*(c:Int)
def big:Nat:=27000001
def wt(K:Kn)(x:Str):Nat:=match K x with
 |some d=>d.toNat
 |none=>big
def WP(a:v_ Str)(K:Kn):Nat:=(a.map^wt K).sum
theorem Wp{f g:Str->Nat}:∀{a:v_ Str},(∀x∈a,f x<=g x)->(a.map f).sum<=(a.map g).sum
 |[],_=>Rs _
 |x::a,h=>by
  have c:=Wp λy b=>h y^TW _ b
  grind
theorem Wo{f g:Str->Nat}:∀{b:v_ Str},(∀x∈b,f x<=g x)->(∃x∈b,f x<g x)->(b.map f).sum<(b.map g).sum
 |[],_,#[x,c,_]=>by cases c
 | x::b,h,#[y,a,d]=>by
  have i:=h x Op;rw[jc,jc,List.sum_cons,List.sum_cons]
  rcases UF.mp a with rfl|a
  .have e:=Wp λy a=>h y^TW _ a
   omega
  .have e:=Wo (λy a=>h y^TW _ a) #[y,a,d]
   omega
def Bf.put {N:Net} (ok:N.Ok) {s:Str}{c c':Nat}{K:Kn} (h:Bf N s c K) (u:c' ≤ 26) (n:c ≤ c') {x y:Str}{d l:Int} (g:K x=P3 d) (b:Ed N x y l) (o:K y=s_ → c'=c + 1) (f:∀ a,K y=P3 a → d + l < a):Bf N s c'^Iv K y (d + l) ∧ WP N.ps^Iv K y (d + l) < WP N.ps K:=by
  have v:=b.pos ok;have A:=(h.wk x d g).pos ok;have p:Wk N s y (d + l):=.snoc (h.wk x d g) b;have B:=h.top x d g
  have q : d + l ≤ 1000000 * (c':Int):=by
    cases e:K y with
    | none => rw[o e]; have:((c + 1:Nat):Int)=(c:Int) + 1:=by lk
              rw[this,Int.mul_add]; omega
    | some a=>
      have C:=f a e;have r:=h.top y a e;have:(1000000:Int) * (c:Int) ≤ 1000000 * (c':Int):=mC (by lk) (by lk);lk
  refine#[#[?_,λz j=>?_,λz i e=>?_,λz i e=>?_],Wo (λz _=>?_) #[y,b.ins ok,?_]]
  · let#[k,m,t]:=h.start
    by_cases z:s=y
    · have:=f k^by rw[←z]; exact m
      omega
    .exact#[k,by rw[By z]; exact m,t]
  · by_cases e:z=y
    .rw[e]; exact b.ins ok
    .rw[By e]at j; exact h.ins z j
  · by_cases w:z=y
    .rw[w,Bz]at e; cases e; rw[w]; exact p
    .rw[By w]at e; exact h.wk z i e
  · by_cases w:z=y
    .rw[w,Bz]at e; cases e; exact q
    · rw[By w]at e
      have r:=h.top z i e;have:(1000000:Int) * (c:Int) ≤ 1000000 * (c':Int):=mC (by lk) (by lk);lk
  · unfold wt
    by_cases w:z=y
    · rw[w,Bz]
      cases e:K y with
      |none=>show(d + l).toNat ≤ big; unfold big; omega
      |some a=>show(d + l).toNat ≤ a.toNat; have:=f a e; omega
    · rw[By w]
      exact Rs _
  · unfold wt
    rw[Bz];cases e:K y with
    |none=>show(d + l).toNat < big; unfold big; omega
    |some a=>show(d + l).toNat < a.toNat; have:=f a e; omega
def Bf.init{N:Net}{s:Str}(b:s∈N.ps):Bf N s 1 (λx=>if x=s then P3 0 else s_):=by
 have a:∀x d,(if x=s then P3 (0:Int)else s_)=P3 d->x=s/\d=0:=λx d e=>by
  grind
 refine#[#[0,if_pos rfl,mB _],λx e=>by grind,λx d e=>?_,λx d e=>?_]
 .let#[rfl,rfl]:=a x d e
  exact .nil
 .let#[rfl,rfl]:=a x d e
  decide
def K0(K:Kn)(e:Str×Str×Int):Prop:=∀d,K e.1=P3 d->∃a,K e.2.1=P3 a/\a<=d+e.2.2
structure LTold (N:Net) (s:Str) (K:Kn):Prop where
 ins:∀x,K x≠s_->x∈N.ps
 least:∀x d,K x=P3 d->Least N s x d
 all:∀x d,Wk N s x d->K x≠s_
 top:∀x d,K x=P3 d->d<=30000000
def Bf.told{N:Net}(ok:N.Ok){s:Str}{c:Nat}{K:Kn}(h:Bf N s c K)(n:c<=26)(f:∀t∈N.ts,K0 K (t.a,t.b,t.len)/\K0 K (t.b,t.a,t.len)):LTold N s K:=by
 have g:=IK h.start h.wk (λx d y l e j=>by
  let#[t,i,k,m]:=j.tie ok;subst k
  rcases m with⟨rfl,rfl⟩|⟨rfl,rfl⟩
  .exact(f t i).1 d e
  .exact(f t i).2 d e)
 exact#[h.ins,g.1,g.2,λx d e=>by have:=h.top x d e; omega]
def walk(N:Net):v_ Str->Int->Prop
 |[],_=>False
 |[_],d=>d=0
 |x::y::r,d=>∃l e,Ed N x y l/\walk N (y::r) e/\d=l+e
def U8{N:Net}{x y:Str}{r:v_ Str}{d l:Int}(a:Ed N x y l)(h:walk N (y::r) d):walk N (x::y::r) (l+d):=#[l,d,a,h,rfl]
def dS(N:Net)(a b:Str):w_ Int->Prop
 |some d=>Least N a b d
 |none=>∀d,¬Wk N a b d
def Told.far{N:Net}{s:Str}{F:OO}(h:Told N s F)(x:Str):dS N s x ((F x).map (·.1)):=by
 cases e:F x with
 |none=>exact λd b=>h.all x d b e
 |some a=>exact h.least x _ _ e
def LTold.far{N:Net}{s:Str}{K:Kn}(h:LTold N s K)(x:Str):dS N s x^K x:=by
 cases e:K x with
 |none=>exact λd a=>h.all x d a e
 |some d=>exact h.least x d e
def Way(N:Net)(a b:Str)(o:w_^v_ Str):Prop:=match o with
 |some w=>∃d r,w=a::r/\w.getLast?=P3 b/\walk N w d/\Least N a b d/\w.length<=30/\∀x∈w,x∈N.ps
 |none=>∀d,¬Wk N a b d
def eX:w_ Str->D
 |some y=>.str y
 |none=>.non
def gc:w_ Int->D
 |some y=>.int y
 |none=>.non
def ZV:w_^v_ Str->D
 |some w=>.tup^w.map .str
 |none=>.non
def KQ(p:Int×w_ Str):D:=.tup [.int p.1,eX p.2]
def okN(N:Net):Prop:=N.Ok/\N.ps.length<=25/\N.ts.length<=60
def Yx:W2:=λf n P=>∃(a:v_ Str) (b:v_ Key) (c:v_ D) (F:OO),f=[.br^.lst^a.map .str,.br^.dic b c]/\Dmap b c KQ F/\(∀x∈a,F x≠s_)/\a≠[]/\a.length<=100 /\
 ∀v∈a,(∀y∈a,∀d g e h,F v=P3 (d,g)->F y=P3 (e,h)->d<=e)->P (.str v) n
def Pz:W2:=λc n P=>∃(N:Net) (s:Str),c=[.sh^enc N,.sh^.str s]/\okN N/\s∈N.ps/\∀(a:v_ Key) (b:v_ D) (F:OO),Dmap a b KQ F->Told N s F->P (.dic a b) n
def Z_:W2:=λc n P=>∃(N:Net) (a b:Str),c=[.sh^enc N,.sh^.str a,.sh^.str b]/\okN N/\a∈N.ps/\b∈N.ps/\∀o,Way N a b o->P (ZV o) n
def IM:Ad:=(Ap^Ac A5 (Bl ag^AE (BU [P3 1,s_] (Av^As 0) (AT 1) CY^Az^AE (Ac A5 (Ac Bx (As 0)^AC 1)^wC^D.int 0)^AE (AC 1) AQ) AQ)^wC^D.int 1)
def IP:Ad:=(Af (BA 2^AW Me^AD (AH^AC 0) AY)
 (Af (CU 3^Rx (AC 1)^Az^AE (wC^D.int 0)^AE (wC D.non) AQ)
 (Af (CU 4^Bq^AE (AC 1) AQ)
 (Af (Io (bA^As 4) (Af (BA 5^AW Yx^AD (B6^As 4)^AD (B6^As 3) AY)
 (Af (Kw 4 "list" fK^AE (AC 5) AQ)
 (CZ (wItems^Ac Bx (AC 2)^AC 5) (B3 2^Ab (AT 6)^Ab (AT 7) BN) (Af (BA 8^Ac Br (Ac A5 (Ac Bx (As 3)^AC 5)^wC^D.int 0)^AC 7)
 (A8 (AX^Ac (ID t_) (AC 6)^As 3) (Af (Kw 4 "list" Fx^AE (AC 6) AQ)
 (Ja 3 (AC 6)^Az^AE (AC 8)^AE (AC 5) AQ))^A8 (AX^Ac Gc (AC 8)^Ac A5 (Ac Bx (As 3)^AC 6)^wC^D.int 0) (Ja 3 (AC 6)^Az^AE (AC 8)^AE (AC 5) AQ) Au))))))
 (JZ 3)))))
def RU:Ad:=(Af (BA 3^AW Pz^AD (AH^AC 0)^AD (AH^AC 1) AY)
 (Af (A8 (AX^Ac (ID t_) (AC 2)^AC 3) (Ap^wC D.non) Au)
 (Af (CU 4^Bq AQ)
 (Af (BA 5^AC 2)
 (Af (Io (AX^Ac (C9 t_) (AC 5)^wC D.non) (Af (Kw 4 "list" Fx^AE (AC 5) AQ)
 (BA 5^Ac A5 (Ac Bx (AC 3)^AC 5)^wC^D.int 1)))
 (Ap^Tu^As 4))))))
def g8{i j:Int}{x y:Str}(h:BS [.inl j,.inr y] [.inl i,.inr x]=u_):i<=j:=by
 have h:(if mx j=.inl i then(if ke y=.inr x then u_ else decide _)else decide _)=u_:=h
 grind
section
variable {ss:v_ Slot}{n:Nat}{Pd:D->Nat->Prop}
def Mu(h:Yx ss n Pd):IM (EE Pd) n (ss++Tk 0 .no):=by
 let#[g,l,o,F,rfl,M,w,i,N,p]:=h;unfold IM;exists by show(g.map D.str).length<=10000000; rw[FM]; omega
 have c:∀x∈g,∃d q,F x=P3 (d,q):=λx b=>by
  cases e:F x with
  |none=>exact absurd e^w x b
  |some a=>exact#[a.1,a.2,rfl]
 refine BG (λd=>match d with|.str x=>.tup [.int ((F x).getD (0,s_)).1,.str x]|d=>d) (λt=>∃s,t=[.br^.dic l o,s]) _ _ _ _ ?_ #[_,rfl] ?_
 .rintro d A t m O ⟨s,rfl⟩ B
  let#[x,b,rfl]:=Sc.mp A;let#[C,q,ex]:=c x b;exists l,o,_,KQ (C,q),rfl,rfl,by rw[M.at_,ex]; rfl,_,AK (j:=0) rfl,(by cbv:2<=sizeLine)
  grind
 rw[jB,jf];refine#[_,rfl,?_,#[λx b=>?_,λx b y k E G H I=>?_],λx b f=>?_]
 .rw[FM]
  cases g with
  |nil=>exact absurd rfl i
  |cons a r=>exact pA _
 .let#[z,_,rfl]:=Sc.mp b
  exact#[_,rfl,kc _ _]
 .let#[z,_,rfl]:=Sc.mp b
  let#[u,_,rfl]:=Sc.mp k;cases(show P3 [mx _,ke _]=P3 E from H);cases(show P3 [mx _,ke _]=P3 G from I);rfl
 .let#[v,J,rfl]:=Sc.mp b
  refine#[_,AK (j:=1) rfl,p v J λy k P Q R S K L=>?_]
  have:=g8 (f _ (Sc.mpr #[y,k,rfl]) _ _ rfl rfl)
  rw[K,L]at this;exact this
def A9(x:Str):keyOf^.str x=P3^.inr x:=rfl
def Vd{N:Net}(ok:N.Ok){a:v_ Str}(h:∀x∈a,x∈N.ps):Cs^.lst^a.map .str:=Nq λd b=>by
  let#[x,c,rfl]:=Sc.mp b;exact GV^ok.names x^h x c
def OR{N:Net}{d:v_ Str}(b:d.Nodup)(h:∀x∈d,x∈N.ps):d.length<=N.ps.length:=by
 have:∀(a c:v_ Str),a.Nodup->(∀x∈a,x∈c)->a.length<=c.length:=by
  intro a
  induction a with
  |nil=>grind
  |cons x a g=>
   intro c b f;have k:=f x Op;have b:=jA.mp b;have l:=g (c.erase x) b.2 λj i=>(List.mem_erase_of_ne λe=>b.1^by simp_all).mpr^f j^TW _ i
   grind
 simp_all
def Ld(a:v_ Key)(k:Key):(DQ a k).length=if L6 a k=t_ then a.length else a.length+1:=by
 unfold DQ
 split
 .rfl
 simp_all
def Dmap.has{b:Type}{a:v_ Key}{d:v_ D}{enc:b->D}{F:Str->w_ b}(h:Dmap a d enc F){x:Str}:(F x=s_->L6 a^.inr x=u_)/\(F x≠s_->L6 a^.inr x=t_):=by
 constructor
 .intro e
  cases c:L6 a _ with
  |false=>rfl
  |true=>exact absurd e^(h.mem x).mp^hasK_iff.mp c
 .intro e
  exact hasK_iff.mpr^(h.mem x).mpr e
def NX{N:Net}{x:Str}(c:x∈N.ps):Bi (N.ps.map .inr) (N.ps.map^Xl N.ts)^.inr x=P3^Xl N.ts x:=by
 have d:∀a:v_ _,x∈a->Bi (a.map .inr) (a.map^Xl N.ts)^.inr x=P3^Xl N.ts x:=by
  intro a
  induction a with
  |nil=>grind
  | cons q a b=>
   intro h;show(if ke q=.inr x then P3 _ else Bi _ _ _)=_
   by_cases e:q=x
   .grind
   .rw[if_neg λz=>e^kr z]
    exact b^(UF.mp h).resolve_left λz=>e z.symm
 simp_all
def Y5(l:v_ (Str×Int)):DM ((l.map λx=>(.inr x.1:Key)).map dM) (l.map λx=>.int x.2)=l.map gl:=by
 induction l with
 |nil=>rfl
 |cons p l a=>
  show D.tup _::DM _ _=gl p::l.map _;rw[←a];rfl
def Mw(h:Pz ss n Pd):IP (EF Pd) n (ss++Tk 7 .no):=by
 let#[N,s,rfl,#[ok,lp,lt],hs,p]:=h;have a2:=PySem.sizeLine_eq;unfold IP;refine#[N,rfl,ok,by lk,by lk,?_];exists(by cbv:2<=sizeLine),_,A9 s,(by cbv:1<=sizeLine);refine Im (λm O Y=>O=n/\∃(r:v_ Str) (f:v_ Key) (g:v_ D) (F:OO) (s5 G H I:Slot),Y=[.sh^enc N,.sh^.str s,.sh^E4 N,.ow^.dic f g,.ow^.lst^r.map .str,s5,G,H,I]/\Dmap f g KQ F/\Dj N s F r/\m+f.length=N.ps.length+r.length) (N.ps.length) #[rfl,[s],[.inr s],[KQ (0,s_)],_,_,_,_,_,rfl,Dmap.one,Dj.init hs,rfl] ?_ ?_
 .rintro m O Y N' ⟨rfl,r,f,g,F,s5,G,H,I,rfl,M,J,hm⟩ hN
  cases r with
  |nil=>
   exact#[u_,rfl,_,rfl,p f g F M J.told]
  | cons u w=>
   exists t_,rfl;have o:∀x∈u::w,x∈N.ps:=λx K=>J.ins x^J.wfound x K;have wl:=OR J.nd o;refine#[u::w,f,g,F,rfl,M,J.wfound,kc _ _,by lk,λv L R=>?_]
   obtain⟨B,pv,X⟩:∃d q,F v=P3 (d,q):=by
    cases e:F v with
    |none=>exact absurd e^J.wfound v L
    |some a=>exact#[a.1,a.2,rfl]
   have A:=J.take L X λy hy S q C=>R y hy B pv S q X C;have T:=o v L;have U:(u::w).idxOf v<(u::w).length:=List.idxOf_lt_length_of_mem L;have V:(u::w)[(u::w).idxOf v]?=P3 v:=by rw[No U,List.getElem_idxOf]
   have ee:((u::w).map D.str).eraseIdx^(u::w).idxOf v=((u::w).erase v).map D.str:=by
    rw[List.erase_eq_eraseIdx_of_idxOf (rfl:(u::w).idxOf v=_),JH]
   exists _,rfl,rfl,_,_,(u::w).idxOf v,rfl,rfl,Vd ok o,Lx^ok.names v T,#[.str v,by rw[ir,V]; rfl,by show(v==v)=t_; exact beq_self_eq_true v],λk x hk K=>?_
   .rw[ir]at K
    let#[t,ht,rfl]:=jY.mp K;have a3:k<(u::w).length:=(Uf.mp ht).1;have hh:=List.not_of_lt_findIdx (p:=λy=>y==v) (xs:=u::w) hk;have e2:(u::w)[k]=t:=(Uf.mp ht).2;have h3:((u::w)[k]==v)=u_:=hh;rw[e2]at h3;exact h3
   rw[ee];exists _,_,_,Xl N.ts v,rfl,A9 v,NX T,_,_,rfl,λk hk=>?_
   .let#[q,hq,rfl]:=Sc.mp hk
    have:=(ok.names _ (O2 ok hq).1).2.1
    show q.1.length<=sizeLine;lk
   rw[Y5];have el:=pB L
   have E:∀(i b:v_ (Str×Int)) (r:v_ Str) (f:v_ Key) (g:v_ D) (F:OO) (G H I:Slot),b++i=ED N.ts v->Dmap f g KQ F->Dm N s F r v B b->m+f.length=N.ps.length+r.length+1->
     BF (B3 2^Ab (AT 6)^Ab (AT 7) BN) (Af (BA 8^Ac Br (Ac A5 (Ac Bx (As 3)^AC 5)^wC^D.int 0)^AC 7)
 (A8 (AX^Ac (ID t_) (AC 6)^As 3) (Af (Kw 4 "list" Fx^AE (AC 6) AQ)
 (Ja 3 (AC 6)^Az^AE (AC 8)^AE (AC 5) AQ))^A8 (AX^Ac Gc (AC 8)^Ac A5 (Ac Bx (As 3)^AC 6)^wC^D.int 0) (Ja 3 (AC 6)^Az^AE (AC 8)^AE (AC 5) AQ) Au)) {EF Pd with nx:=N',ct:=N',bk:=JZ 3^EF Pd} (i.map gl) O [.sh^enc N,.sh^.str s,.sh^E4 N,.ow^.dic f g,.ow^.lst^r.map .str,.sh^.str v,G,H,I]:=by
    intro i
    induction i with
    |nil=>
     intro b r f g F G H I e M A hm;rw[jE]at e;exact hN (m - 1) O _ (by have:=M.le A.ins; omega) #[rfl,r,f,g,F,_,_,_,_,rfl,M,A.finish λy l hy=>by rw[e]; exact hy,by have:=M.le A.ins; omega]
    | cons q i ih=>
     intro b r f g F G H I e M A hm;let#[y,l]:=q;have he:Ed N v y l:=by show(y,l)∈ED N.ts v; rw[←e]; exact f8 _ Op
     have e':(b++[(y,l)])++i=ED N.ts v:=by rw[jS]; exact e
     let#[pv,X]:=A.here;have kl:=M.le A.ins;have a4:=he.ins ok;have o:∀x∈r,x∈N.ps:=λx K=>A.ins x^A.wfound x K;have wl:=OR A.nd o;exists rfl,rfl;exists f,g,_,KQ (B,pv),rfl,A9 v,by rw[M.at_,X]; rfl,_,AK (j:=0) rfl;exists f,g,_,rfl,A9 y;show if(!(Bi f g^.inr y).isSome)=t_ then _ else _
     cases C:F y with
     |none=>
      have a0:=(M.has (x:=y)).1 C;rw[M.at_,C];refine C8 #[_,rfl,rfl,_,_,rfl,rfl,by rw[FM]; omega,?_];exists f,g,rfl,(by cbv:2<=sizeLine),_,A9 y,by lk
      have:=ih (b++[(y,l)]) (r++[y]) (DQ f^.inr y) (Dh f g (.inr y)^KQ (B+l,P3 v)) _ (.sh^.str y) (.sh^.int l) (.sh^.int (B+l)) e' (M.put y (B+l,P3 v)) (A.find ok he C)^by rw[Ld,if_neg (by rw[a0]; decide),eq,jI]; omega
      rw[jP]at this;exact this
     | some a=>
      let#[S,qy]:=a;have W:=(M.has (x:=y)).2 (by rw[C]; intro z; cases z);rw[M.at_,C];refine Ba #[f,g,_,KQ (S,qy),rfl,A9 y,by rw[M.at_,C]; rfl,_,AK (j:=0) rfl,?_];show if decide (B+l<S)=t_ then _ else _
      by_cases c:B+l<S
      .rw[decide_eq_true c]
       refine C8 #[f,g,rfl,(by cbv:2<=sizeLine),_,A9 y,by lk,?_];exact ih (b++[(y,l)]) r (DQ f^.inr y) (Dh f g (.inr y)^KQ (B+l,P3 v)) _ (.sh^.str y) (.sh^.int l) (.sh^.int (B+l)) e' (M.put y (B+l,P3 v)) (A.nearer ok he C c)^by rw[Ld,if_pos W]; omega
      .rw[decide_eq_false c]
       exact Ba^ih (b++[(y,l)]) r f g F (.sh^.str y) (.sh^.int l) (.sh^.int (B+l)) e' M (A.skip C^by lk) hm
   exact E (ED N.ts v) [] ((u::w).erase v) f g F _ _ _ rfl M A (by have:=pO L; omega)
 .rintro O Y P Q a1 h
  unfold bA As at h ⊢
  split at h
  all_goals first
   |exact h.elim
   |(let#[c,hc,h]:=h; exact#[c,hc,a1 _ _ h])
end
structure WInv (N:Net) (F:OO) (b:Str) (db:Int) (acc:List Str) (pl:Option Str):Prop where
 st:(acc=[]/\pl=P3 b)\/∃z r dz,acc.reverse=z::r/\F z=P3 (dz,pl)/\walk N acc.reverse (db - dz)/\acc.reverse.getLast?=P3 b
 nd:acc.Nodup
 ins:∀x∈acc,x∈N.ps
 less:∀y dy q,pl=P3 y->F y=P3 (dy,q)->∀x∈acc,∃dx qx,F x=P3 (dx,qx)/\dy<dx
 fnd:∀y,pl=P3 y->F y≠s_
def wm(F:OO):w_ Str->Nat
 |none=>0
 |some y=>((F y).getD (0,s_)).1.toNat+1
def WInv.step{N:Net}(ok:N.Ok){a:Str}{F:OO}(T:Told N a F){b:Str}{k:Int}{K:w_ Str}(eb:F b=P3 (k,K)){m:v_ Str}{y:Str}{g:Int}{f:w_ Str}(h:WInv N F b k m^P3 y)(c:F y=P3 (g,f)):WInv N F b k (m++[y]) f/\wm F f<wm F^P3 y:=by
 have L:=(T.least y g f c).1.pos ok
 have A:∀w o q,f=P3 w->F w=P3 (o,q)->o<g:=λw o q e i=>by
  rcases T.prev y g f c with⟨z,_⟩|⟨B,s,C,l,j,n,t,u⟩
  .rw[e]at z; cases z
  .rw[e]at j
   cases j;rw[i]at n;cases n
   have:=(t.pos ok).1
   omega
 have D:∀w,f=P3 w->F w≠s_:=λw e=>by
  rcases T.prev y g f c with⟨z,_⟩|⟨B,s,C,l,j,n,_⟩
  .rw[e]at z; cases z
  .rw[e]at j
   cases j;rw[n];intro z; cases z
 exists#[.inr ?_,?_,λx d=>?_,λw o q e i x d=>?_,D]
 .rw [List.reverse_append,List.reverse_singleton,nI]
  rcases h.st with⟨rfl,e⟩|⟨z,r,E,j,n,t,u⟩
  .cases e
   rw[eb]at c;cases c;exact#[_,_,_,rfl,eb,(by show k - k=0; omega),rfl]
  .exists y,m.reverse,g,rfl,c,?_
   .rw[j]at t ⊢
    rcases T.prev z E (P3 y) n with⟨w,_⟩|⟨B,s,C,l,M,G,O,Q⟩
    .cases w
    .cases M
     rw[c]at G;cases G
     have:=U8 O t
     rw[show l+(k - E)=k - g by lk]at this;exact this
   .rw[j]at u ⊢
    exact u
 .rw[jW]
  refine#[h.nd,jA.mpr #[ip,jT],λx d z P e=>?_];rw[Re.mp P]at e;let#[H,I,ex,v]:=h.less y g f rfl c x d;rw[e,c]at ex;cases ex;lk
 .rcases i9.mp d with d|d
  .exact h.ins x d
  .rw[Re.mp d]
   exact T.ins y^by rw[c]; intro z; cases z
 .have J:=A w o q e i
  rcases i9.mp d with d|d
  .let#[H,I,ex,v]:=h.less y g f rfl c x d
   exact#[H,I,ex,by lk]
  .rw[Re.mp d]
   exact#[g,f,c,J]
 .cases f with
  |none=>exact pA _
  | some w=>
   cases i:F w with
   |none=>exact absurd i (D w rfl)
   |some p=>
    have J:=A w p.1 p.2 rfl i;have R:=(T.least w p.1 p.2 i).1.pos ok;show((F w).getD (0,s_)).1.toNat+1<((F y).getD (0,s_)).1.toNat+1;rw[i,c];show p.1.toNat+1<g.toNat+1;lk
section
variable {ss:v_ Slot}{n:Nat}{Pd:D->Nat->Prop}
def VG(h:Z_ ss n Pd):RU (EE Pd) n (ss++Tk 3 .no):=by
 let#[N,a,b,rfl,f,G,hb,p]:=h;have H:=PySem.sizeLine_eq;have ok:=f.1;unfold RU;refine#[N,a,rfl,f,G,λs t F M T=>?_];exists s,t,_,rfl,A9 b;show if(!(Bi s t^.inr b).isSome)=t_ then _ else _
 have d:=T.far b;cases g:F b with
 |none=>
  rw[M.at_,g];rw[g]at d;exact C8^p s_ d
 | some x=>
  let#[i,I]:=x;rw[M.at_,g];refine Ba #[z0,?_];refine Im (λm u v=>u=n/\∃(c:v_ Str) (k:w_ Str),v=[.sh^enc N,.sh^.str a,.sh^.str b,.sh^.dic s t,.ow^.lst^c.map .str,.sh^eX k]/\WInv N F b i c k/\m=wm F k) (wm F^P3 b) #[rfl,[],P3 b,rfl,#[.inl #[rfl,rfl],jT,(λx o=>by cases o),(λ_ _ _ _ _ x o=>by cases o),λy e=>by cases e; rw[g]; intro z; cases z],rfl] ?_ ?_
  .rintro m u v N' ⟨rfl,c,k,rfl,J,rfl⟩ K
   have wl:=OR J.nd J.ins;have L:=f.2.1;cases k with
   | none=>
    exists rfl,_,rfl
    rcases J.st with⟨_,e⟩|⟨z,r,O,R,A,S,U⟩
    .cases e
    .have V:z=a:=by
      rcases T.prev z O s_ A with⟨_,w⟩|⟨w',W,q',l,X,_⟩
      .exact w
      .cases X
     subst V;rw[T.start]at A;cases A;rw[←List.map_reverse];refine p (P3 c.reverse) #[i - 0,r,R,U,S,?_,by rw[n9]; omega,λx o=>J.ins x^List.mem_reverse.mp o];rw[show i - 0=i by lk];exact T.least b i I g
   | some y=>
    cases B:F y with
    |none=>exact absurd B (J.fnd y rfl)
    |some q=>
     let#[Y,C]:=q;let#[Z,D]:=J.step ok T g B;exists rfl;refine#[_,rfl,rfl,_,_,rfl,rfl,by rw[FM]; omega,?_];exists s,t,_,KQ (Y,C),rfl,A9 y,by rw[M.at_,B]; rfl,_,AK (j:=1) rfl;refine K (wm F C) _ _ D #[rfl,c++[y],C,?_,Z,rfl];rw[jP];rfl
  .rintro u v P Q E h
   unfold AX Ac AC wC C9 at h ⊢
   split at h
   .exact#[h.1,E _ _ h.2]
   .exact h.elim
end
def UW{w:v_ Str}{b:Str}(h:w.getLast?=P3 b):atI (w.map D.str) (-1)=P3^.str b:=by
 let#[a,rfl]:=List.getLast?_eq_some_iff.mp h;rw[jP];exact Yh _ _
def ends(t:Aq):Str×Str:=(t.a,t.b)
def eL(p q:Str×Str):Prop:=cs p.1<cs q.1\/(p.1=q.1/\cs p.2<cs q.2)
def QT(a:Int)(k:Nat):DH a (k+1)=.int a::DH (a+1) k:=by
 unfold DH;rw[pL,jc,jf];refine oZ.mpr #[by grind,lG λi _=>?_]
 grind
def Zn{a:v_ Key}{b:v_ D}{K:Kn}(M:Dmap a b D.int K)(x:Str):(Bi a b^.inr x).getD .non=gc^K x:=by
 rw[M.at_];cases K x <;>rfl
def Wn{N:Net}(a:okN N):HD 1000001^enc N/\Rq^enc N<=48000/\S3^enc N<=3:=bH (Zi a.1) (Ly a.1) (by rw[FM]; have:=a.2.1; omega)^by rw[FM]; have:=a.2.2; omega
end Nt
namespace Dp
open L2
def WV(i:Nat)(b:BW)(a:Ad):Ad:=λf n c=>∃d e,c[i]?=P3^.br d/\E5 d=P3 e/\BF b a f e n c
section
variable {X:Cx}{κ:Kd}{tg:Expr}{body:v_ Stmt}{b:BW}{wb:Ad}{pos p:Pos}{x:Str}{i:Nat}
def Rel.lessKp{K:Frag}{C:Fm}{q:Ch×HO}{M:Ch->Prop}{H:Hp}{n:Nat}{a:v_ Slot}{Z:L2.St}(R:Rel K {C with kp:=q::C.kp} M H n a Z):Rel K C M H n a Z:=
 #[R.len,R.sub,R.dom,R.ext,R.fU,R.uV,R.vM,R.feed,R.sl,R.pin,R.br0,R.new,R.two,λp c=>R.kept p^TW _ c]
def Uq(hp:pE (model X.prog X.w) X.A X.env X.xe)(hc:X.calm=t_)(h:PE X (.Name x p)^CC i)(hg:DG X tg b)(hb:Rt X κ body wb)
  (hs:∀y,foldedSetIterable (.Name x p) X.env y=pure y:=by intro _; rfl):DS X κ (.For tg (.Name x p) body [] pos)^WV i b wb:=by
 let#[g,g1,g2]:=hg;let#[tb,b1,b2]:=hb;refine#[_,Oq hp hc (Se h) g1 b1 hs,λC M H n V Z G E R L w=>?_];let#[d,f,hi,hd,w]:=w;let#[v,e1,a2]:=R.sl i _ hi;cases d with
 | tup a3=>
  cases hd;let#[a,I,rfl,hn,J]:=a2;refine#[.ref a,getD_some e1,.inr^.inl #[a,rfl,#[I,hn.sq],?_]];obtain⟨c,ek⟩:∃c,c=C.kp:=#[_,rfl];have R1:Rel X.K {C with kp:=c} M H n V Z:=by rw[ek]; exact R
  have B:∀{M H n V Z},Rel X.K {C with kp:=c} M H n V Z->Rel X.K C M H n V Z:=λR=>by rw[ek]at R; exact R
  have st:∀l k r s t,Rel X.K {C with kp:=c,zH:=(M,H)::C.zH} l k r s t->SqT X.K k a I:=λl k r s t D=>(hn.pres^D.pin (M,H) Op).sq;exists λi m t k=>m=f.length - i/\i<=f.length/\∃l r s,Rel X.K {C with kp:=c,zH:=(M,H)::C.zH} l k r s t/\BF b wb G (f.drop i) r s,#[f.length,by simp,i6 _,M,n,V,R1.pinned,w];rintro i m t k ⟨rfl,a4,l,r,s,D,W⟩;have pr:Pres M H l k:=D.pin (M,H) Op;have N:=st l k r s t D
  by_cases F:i<f.length
  .have ed:f.drop i=f[i]::f.drop (i+1):=kM F
   rw[ed]at W;let#[v,ev,hv]:=(J.pres pr).get^No F;refine .inr #[#[I,v,N,ev],λzM O=>∃M2 Y zN,Rel X.K {C with kp:=c,zH:=(M,H)::C.zH} M2 O Y zN zM/\BF b wb G (f.drop (i+1)) Y zN,λzM O #[M2,Y,zN,a0,w2]=>#[f.length - (i+1),by lk,rfl,F,M2,Y,zN,a0,w2],λy O hy=>?_];let#[e2,hy]:=hy;subst e2
   have:P3 v=P3 y:=ev.symm.trans^hy I N
   cases this;refine g2 _ l O r s t f[i] v _ _ D hv W λzP zV R3 w3=>?_;refine b2 _ l O r zP zV {G with nx:=BF b wb G^f.drop (i+1),ct:=BF b wb G^f.drop (i+1),bk:=G.nx} _ R3 #[λP H4 Q S zQ T U=>#[P,Q,S,T,U],L.rt,λP H4 Q S zQ T U=>L.nx P H4 Q S zQ (B T.unpin) U,λP H4 Q S zQ T U=>#[P,Q,S,T,U]] w3
  .have e:i=f.length:=by lk
   subst e;rw[lh]at W;exact .inl #[#[I,N,by rw[J.length]; exact Rs _],L.nx l k r s t (B D.unpin) W]
 | lst a3=>
  cases hd;let#[a,I,rfl,nV,hH,J]:=a2
  obtain⟨o,ho,a1⟩:∃o,H a=P3 o/\∀k:Hp,k a=P3 o->SqL X.K k a I:=by
   rcases hH with z|⟨u,z⟩
   .exact#[_,z,λk e=>.inl^.inl e]
   .exact#[_,z,λk e=>.inl^.inr #[u,e]]
  refine#[.ref a,getD_some e1,.inl #[a,rfl,#[I,a1 H ho],?_]]
  obtain⟨c,R1,B,st⟩:∃c,Rel X.K {C with kp:=c} M H n V Z/\(∀{M H n V Z},Rel X.K {C with kp:=c} M H n V Z->Rel X.K C M H n V Z)/\(∀l k r s t,Rel X.K {C with kp:=c,zH:=(M,H)::C.zH} l k r s t->SqL X.K k a I):=by
   by_cases hM:M a
   .refine#[(a,o)::C.kp,#[R.len,R.sub,R.dom,R.ext,R.fU,R.uV,R.vM,R.feed,R.sl,R.pin,R.br0,R.new,R.two,λq N=>?_],λR=>R.lessKp,λl k r s t D=>a1 k (D.kept (a,o) Op).1]
    rcases UF.mp N with rfl|N
    .refine#[ho,hM,nV,λj e q z=>?_]
     let#[u,hu]:=R.br0 i _ a hi e1
     have:=(R.new j _ a q rfl z).2
     rw[hu]at this;cases this
    .exact R.kept q N
   .exact#[C.kp,R,λR=>R,λl k r s t D=>a1 k^(D.pin (M,H) Op).1 a o ho hM]
  exists λi m t k=>m=f.length - i/\i<=f.length/\∃l r s,Rel X.K {C with kp:=c,zH:=(M,H)::C.zH} l k r s t/\BF b wb G (f.drop i) r s,#[f.length,by simp,i6 _,M,n,V,R1.pinned,w];rintro i m t k ⟨rfl,a4,l,r,s,D,W⟩;have pr:Pres M H l k:=D.pin (M,H) Op;have N:=st l k r s t D
  by_cases F:i<f.length
  .have ed:f.drop i=f[i]::f.drop (i+1):=kM F
   rw[ed]at W;let#[v,ev,hv]:=(J.pres pr).get^No F;refine .inr #[#[I,v,N,ev],λzM O=>∃M2 Y zN,Rel X.K {C with kp:=c,zH:=(M,H)::C.zH} M2 O Y zN zM/\BF b wb G (f.drop (i+1)) Y zN,λzM O #[M2,Y,zN,a0,w2]=>#[f.length - (i+1),by lk,rfl,F,M2,Y,zN,a0,w2],λy O hy=>?_];let#[e2,hy]:=hy;subst e2
   have:P3 v=P3 y:=ev.symm.trans^hy I N
   cases this;refine g2 _ l O r s t f[i] v _ _ D hv W λzP zV R3 w3=>?_;refine b2 _ l O r zP zV {G with nx:=BF b wb G^f.drop (i+1),ct:=BF b wb G^f.drop (i+1),bk:=G.nx} _ R3 #[λP H4 Q S zQ T U=>#[P,Q,S,T,U],L.rt,λP H4 Q S zQ T U=>L.nx P H4 Q S zQ (B T.unpin) U,λP H4 Q S zQ T U=>#[P,Q,S,T,U]] w3
  .have e:i=f.length:=by lk
   subst e;rw[lh]at W;exact .inl #[#[I,N,by rw[J.length]; exact Rs _],L.nx l k r s t (B D.unpin) W]
 |_=>cases hd
end
end Dp
namespace Nt
open L2 Dp
def sub(N:Net)(kept:v_ Aq):Net:=#[N.ps,N.ts.filter λu=>decide (u∈kept)]
def FO(N:Net)(t b:Int)(u:Aq):Prop:=∃d,Least N u.a u.b d/\d*b<=u.len*t
noncomputable def Qw(N:Net)(t b:Int)(u:Aq):Bool:=@decide (FO N t b u)^lF _
def nearB_iff{N:Net}{t b:Int}{u:Aq}:Qw N t b u=t_↔FO N t b u:=by
 unfold Qw
 grind
def GF:W2:=λc n P=>∃(N:Net) (z:D) (b:v_ Aq),c=[.sh^enc N,.br z]/\E5 z=P3^b.map AS/\b.length<64/\∀a:v_ Aq,a.Perm b->FQ a->P (enc #[N.ps,a]) n
def Th:W2:=λc n P=>∃(N:Net) (u:Aq) (t b:Int),c=[.sh^enc N,.sh^.tup [.int t,.int b],.sh^AS u]/\okN N/\u.a∈N.ps/\u.b∈N.ps/\1<=b/\b<=1000000/\1<=t/\t<=1000000/\∀o:w_^v_ Str,(∀w,o=P3 w->Way N u.a u.b^P3 w/\Qw N t b u=t_)->(o=s_->Qw N t b u=u_)->P (ZV o) n
def Ex:W2:=λd n P=>∃(N:Net) (s:Str) (z:D) (a:v_ Aq),d=[.br z,.sh^.str s]/\E5 z=P3^a.map AS/\(∀u,u∈a↔u∈N.ts)/\okN N/\s∈N.ps/\∀(b:v_ Key) (c:v_ D) (K:Kn),Dmap b c D.int K->LTold N s K->P (.dic b c) n
def RW:Ad:=(Ap^Az^AE (Ac A5 (AC 0)^wC^D.int 0)^AE (Bl BH^AE (Bl CI^AE (As 1) AQ) AQ) AQ)
def IN:Ad:=(Af (BA 3^AW Z_^AD (AH^AC 0)^AD (AH^Ac A5 (AC 2)^wC^D.int 0)^AD (AH^Ac A5 (AC 2)^wC^D.int 1) AY)
 (Af (A8 (B7 (AX^Ac (C9 u_) (AC 3)^wC D.non)^BP^AX^AW Cy^AD (AH^AW aB^AD (AH^AC 0)^AD (AH^AC 3) AY)^AD (AH^AC 1)^AD (AH^Ac A5 (AC 2)^wC^D.int 2) AY) (Ap^wC D.non) Au)
 (Ap^AC 3)))
def sub_mem{N:Net}{kept:v_ Aq}{u:Aq}:u∈(sub N kept).ts↔u∈N.ts/\u∈kept:=by
 show u∈N.ts.filter _↔_
 simp_all
def Cj{N:Net}(a:okN N)(kept:v_ Aq):okN^sub N kept:=#[R8 a.1 (λt h=>(sub_mem.mp h).1)^a.1.trise.filter _,a.2.1,iz (kB _ _) a.2.2]
def OU{N:Net}(ok:N.Ok){kept a:v_ Aq}(d:∀t∈kept,t∈N.ts)(nd:kept.Nodup)(b:a.Perm kept)(c:FQ a):(#[N.ps,a]:Net)=sub N kept:=by
 congr 1
 refine E3 ((mU (b.nodup_iff.mpr nd)^(BO ok.trise).filter _).mpr λt=>?_) c^FG^ok.trise.filter _;rw[b.mem_iff]
 simp_all
theorem Lp{f g:Type}:∀{l:v_ (f×g)},(l.map (·.1)).Nodup->∀{p q:f×g},p∈l->q∈l->p.1=q.1->p=q
 |a::l,d,p,q,h,i,e=>by
  rw[jc,jA]at d
  rcases UF.mp h with b|b <;>rcases UF.mp i with c|c
  .rw[b,c]
  .grind
  .exact absurd (Sc.mpr #[p,b,by rw[e,c]]) d.1
  .exact Lp d.2 b c e
def Hy{N:Net}(ok:N.Ok){x y:Str}{l:Int}(h:Ed N x y l):look N.ts x y=P3 l:=by
 unfold look;cases e:(ED _ x).find? _ with
 |none=>exact absurd (List.find?_eq_none.mp e _ h)^by simp
 |some q=>
  have a:=of_decide_eq_true^pH (p:=λz=>decide _) e;rw[Lp (Vc ok x) (mY e) h a];rfl
theorem HH{N:Net}(ok:N.Ok):∀{r:v_ Str}{x:Str}{s d:Int},walk N (x::r) d->O4 N.ts x r s=P3 (s+d)
 |[],x,s,d,h=>by
  have:=h
  subst this;show P3 s=P3 _
  grind
 |y::r,x,s,d,h=>by
  let#[l,e,a,b,rfl]:=h;show(match look _ x y with|some l=>O4 _ y r _|none=>s_)=_;rw[Hy ok a];show O4 _ y r _=_;rw[HH ok b,Int.add_assoc]
def UT{N:Net}(ok:N.Ok){x:Str}{r:v_ Str}{d:Int}(a:x∈N.ps)(b:walk N (x::r) d):cE N^.tup^(x::r).map .str=.int d:=by
 show(if((x::r).map _).all _ then cD N _ else .non)=_;rw[if_pos^all_strs _,K5];show(if x∈N.ps then ba _ else .non)=_;rw[if_pos a,HH ok b,mr];rfl
theorem Il{N:Net}{B:Nat}(ok:N.Ok):∀{w:v_ Str},(∀x∈w,x∈N.ps)->Gx B^w.map .str/\K4^w.map .str<=9*w.length/\ND^w.map .str<=0
 |[],_=>#[trivial,Rs _,Rs _]
 | x::r,h=>by
  let#[a,b,c]:=Il ok λy e=>h y^TW _ e;have d:=ok.names x^h x Op;exists#[λf g=>by have:=d.2.2 f g; omega,a],?_
  .show x.length+1+K4 _<=9*(r.length+1)
   have:=d.2.1
   omega
  assumption
def WS{N:Net}(ok:N.Ok){w:v_ Str}(d:w.length<=30)(h:∀x∈w,x∈N.ps):cW^.tup^w.map .str:=by
 let#[a,b,c]:=Il ok h;exact#[a,by show K4 _<=160000; omega,by show ND _+1<=50; omega]
section
variable {ss:v_ Slot}{n:Nat}{Pd:D->Nat->Prop}
def VH(h:GF ss n Pd):RW (EE Pd) n (ss++Tk 0 .no):=by
 let#[N,z,s,rfl,c,d,p]:=h;unfold RW;refine#[_,AK (j:=0) rfl,z,_,rfl,c,by simp_all,#[λx a=>?_,λx a y e f i k l=>?_],λm o q=>?_]
 .let#[t,_,rfl]:=Sc.mp a
  exact#[CK t,rfl,kc _ _]
 .let#[t,_,rfl]:=Sc.mp a
  let#[u,_,rfl]:=Sc.mp e;cases(show P3^CK t=P3 f from k);cases(show P3^CK u=P3 i from l);rfl
 .let#[b,r,rfl]:=NR (g:=YU) (λ_=>rfl) o
  exact#[z2,p b r^Kf q]
def Mv(h:Th ss n Pd):IN (EE Pd) n (ss++Tk 1 .no):=by
 let#[N,u,t,b,rfl,f,v,x,y,A,B,C,p]:=h;unfold IN;refine#[_,AK (j:=0) rfl,_,AK (j:=1) rfl,N,u.a,u.b,rfl,f,v,x,λo l=>#[rfl,?_]];cases o with
 |none=>
  refine p s_ (λw e=>by cases e) λ_=>?_;rw[jR];intro z;let#[d,k,_]:=nearB_iff.mp z;exact l d k.1
 | some w=>
  have m:=l;let#[d,r,rfl,E,D,k,q,i]:=m
  have g:Qw N t b u=decide (d*b<=u.len*t):=by
   rw[je,nearB_iff,decide_eq_true_eq];exact#[fun#[d',hd',s]=>by rw[Least.unique k hd']; exact s,λs=>#[d,k,s]]
  exists N,.tup^(u.a::r).map .str,rfl,f.1,by have:=f.2.1; omega,f.2.2,WS f.1 q i;rw[UT f.1 (i _ Op) D];exists _,AK (j:=2) rfl,d,t,b,u.len,rfl,y,A,B,C
  by_cases c:d*b<=u.len*t
  .rw[decide_eq_true c]
   exact p (P3 _) (λw e=>by cases e; exact#[l,by rw[g]; exact decide_eq_true c]) λe=>by cases e
  .rw[decide_eq_false c]
   exact p s_ (λw e=>by cases e) λ_=>by rw[g]; exact decide_eq_false c
end
inductive Cn (K:List Aq) (x:Str):Str->Prop
 |refl:Cn K x x
 |step {y z:Str}:Cn K x y->(∃t∈K,(t.a=y/\t.b=z)\/(t.b=y/\t.a=z))->Cn K x z
end Nt
namespace Dp
open L2
def bB(i:Nat)(e:DW)(b:BW):Ad:=λf n a=>∃c,a[i]?=P3^.ow^.lst c/\e n a λd g=>∃(k:Nat) (x:D),d=.int (k:Int)/\c[k]?=P3 x/\k<2 ^ 60/\b x (a.set i^.ow^.lst^c.eraseIdx k) λh=>f.nx g h
section
variable {X:Cx}{κ zR:Kd}{tg e:Expr}{b:BW}{we:DW}{pos p apos cpos:Pos}{x:Str}{i:Nat}
def NZ{k n:Nat}(h:k<n):seqIndex? (k:Int) n=P3 k:=by
 refine(O7 ?_).1;unfold Xx
 grind
def Zy(h:PE X (.Name x p)^CC i)(P:DE X e zR we)(Q:DG X tg b)
  (S:swapsWithSole [tg] (.Call (.Attribute (.Name x p) "pop" apos) [e] [] cpos) pos.line X.env=pure u_:=by rfl) (T:swappedStores [tg] (.Call (.Attribute (.Name x p) "pop" apos) [e] [] cpos) X.env=pure s_:=by rfl)
  (U:(assignEach [tg] X.env).map (·.2)=[assign tg X.env]:=by rfl)
  (f:attributeBase (.Name x p) "pop" X.env^eval (.Name x p) X.env=eval (.Name x p) X.env:=by rfl)
  (l:((backTo cpos^starEach [e] X.env).all (λx=>!x.1)&&(backToKw cpos^keywordEach [] X.env).all (λx=>x.1.isSome)
   && decide ([e].length+([]:v_ k7).length+(if([]:v_ k7).isEmpty then 0 else 1)<30))=t_:=by rfl)
  (j:(apos.endLine==cpos.line)=t_:=by rfl) (q:starEach [e] X.env=(u_,eval e X.env)::starEach [] X.env:=by rfl) (c:(backTo cpos^starEach [] X.env).any (·.1)=u_:=by rfl):
  DS X κ (.Assign [tg] (.Call (.Attribute (.Name x p) "pop" apos) [e] [] cpos) pos) (bB i we b):=by
 let#[t,V,W]:=P;let#[g,Y,g2]:=Q;refine#[_,I0 (Qk PySem.F.plainAttrs_list PySem.F.slot_list_pop PySem.F.type_list_pop Qy h (B8 V C4 q) f l j q c) Y S T U,λC M H n ρ Z D2 E R L w=>?_];let#[G,z,w]:=w;let#[a,A,m,nv,tt]:=R.sl i _ z;exists .ref a,getD_some A,O8 (show gC "list"^.lst G from rfl)^tt.att nv;refine W C M H n ρ Z _ _ R w λv H1 d I ee f1 r1 p=>?_;let#[k,y,rfl,hx,hk,p]:=p;have J:=R.step ee f1;let#[a',r,K,a0,u,B,s]:=J.sl i _ z;rw[A]at r;cases r;let#[N,O,hv]:=s.get hx;have D:k<u.length:=(Uf.mp O).1;exists a,u,(k:Int),k,N,rfl,by rw[L3 r1],B,by lk,by lk,NZ D,O;have R2:=J.mut (e:=.lst^G.eraseIdx k) z A (o:=.lst^u.eraseIdx k) #[u.eraseIdx k,An,(s.eraseIdx k).pres^Cr K B];exact g2 C M _ I _ Z y N _ _ R2 (hv.pres^Cr K B) p λzY zZ R' w'=>L.nx M _ I zY zZ R' w'
end
end Dp
namespace Nt
open L2 Dp
def GG:W2:=λb n P=>∃m:Nat,b=[.fd,.sh^.int m]/\m<=24/\1<=n/\∀a:v_ Str,a.length=m->(∀x∈a,UZ x)->rising a->P (.tup^a.map .str) (n - 1)
def Py:W2:=λa n P=>∃s:Int,a=[.fd,.sh^.int s]/\0<=s/\1<=n/\∀r:Int,1<=r->r<=1000000->P (.int r) (n - 1)
def Tg:W2:=λd n P=>∃a b:Nat,d=[.fd,.sh^.int a,.sh^.int b]/\2<=a/\a<=24/\3<=b/\b<=60/\130<=n/\∀(N:Net) (c:Nat),N.Ok->2<=N.ps.length->N.ps.length<=a->N.ts.length<=b->n - 130<=c->P (enc N) c
def F9:Ad:=(Af (BA 2^Bq^AE (wC^D.str "a")^AE (wC^D.str "ab")^AE (wC^D.str "aba")^AE (wC^D.str "b")^AE (wC^D.str "in")^AE (wC^D.str "out")^AE (wC^D.str "place")^AE (wC^D.str "tie")^AE (wC^D.str "c")^AE (wC^D.str "ca")^AE (wC^D.str "near")^AE (wC^D.str "z") AQ)
 (Af (BA 2^Ac Br (AC 2)^Bq^AE (wC^D.str "za")^AE (wC^D.str "zb")^AE (wC^D.str "x")^AE (wC^D.str "xy")^AE (wC^D.str "y")^AE (wC^D.str "q")^AE (wC^D.str "qq")^AE (wC^D.str "d")^AE (wC^D.str "e")^AE (wC^D.str "f")^AE (wC^D.str "g")^AE (wC^D.str "h") AQ)
 (Af (BA 3^AW B5^AD (BR 0)^AD (AH^wC^D.int 24) AY)
 (Ap^Bl BH^AE (Bl S1^AE (BU [P3 2,P3 3,s_] (FZ^AE (AC 1) AQ) (AT 2) CY^Ac A5 (AC 0)^Ac (YF (λ_ j=>0<j) λi j=>D.int (i % j)) (Ac Br (AC 1)^AC 2)^wC^D.int 24) AQ) AQ))))
def FU:Ad:=(Af (A8 (AX^Ac Gc (AC 1)^wC^D.int 3) (Ap^Ac Br (wC^D.int 1)^AW B5^AD (BR 0)^AD (AH^Ac A5 (Bq^AE (wC^D.int 2)^AE (wC^D.int 4)^AE (wC^D.int 9) AQ)^AC 1) AY) Au)
 (Af (A8 (AX^Ac (Ge u_) (AC 1)^wC^D.int 3) (Ap^Ac Br (wC^D.int 1)^AW B5^AD (BR 0)^AD (AH^wC^D.int 60) AY) Au)
 (Ap^Ac CV (Ac (YF NO λi j=>D.int (i ^ j.toNat)) (wC^D.int 10)^wC^D.int 6)^AW B5^AD (BR 0)^AD (AH^wC^D.int 3) AY)))
def IS:Ad:=(Af (BA 3^AW GG^AD (BR 0)^AD (AH^Ac Br (wC^D.int 2)^AW B5^AD (BR 0)^AD (AH^Ac CV (AC 1)^wC^D.int 1) AY) AY)
 (Af (CU 4^Bq AQ)
 (Af (CZ (Av^AC 3) (AT 5)^Kw 4 "list" Zt^AE (BU [P3 5,s_] (Av^AC 3) (AT 1) (AX^Ac Gc (AC 0)^AC 1)^Az^AE (AC 0)^AE (AC 1) AQ) AQ)
 (Af (BA 6^AW B5^AD (BR 0)^AD (AH^wC^D.int 5) AY)
 (Af (BA 7^Ac CV (AC 2)^AW B5^AD (BR 0)^AD (AH^Ac Br (Ac (YF WN λi j=>D.int (i / j)) (AC 2)^wC^D.int 2)^wC^D.int 1) AY)
 (Af (A8 (AX^Ac (Ge u_) (AW B5^AD (BR 0)^AD (AH^wC^D.int 6) AY)^wC^D.int 0) (BA 7^AW B5^AD (BR 0)^AD (AH^wC^D.int 4) AY) Au)
 (Af (CU 8^Bq AQ)
 (Af (CZ (FZ^AE (Bl RF^AE (AC 7)^AE (Bl CS^AE (As 4) AQ) AQ) AQ) (AT 9) (Af (bB 4 (AW B5^AD (BR 0)^AD (AH^Bl CS^AE (As 4) AQ) AY)^B3 2^Ab (AT 5)^Ab (AT 10) BN)
 (Kw 8 "list" Fx^AE (Az^AE (AC 5)^AE (AC 10)^AE (AW Py^AD (BR 0)^AD (AH^AC 6) AY) AQ) AQ)))
 (Ap^Az^AE (AC 3)^AE (Bl BH^AE (Bl CI^AE (As 8) AQ) AQ) AQ)))))))))
def words24:v_ Str:=["a","ab","aba","b","in","out","place","tie","c","ca","near","z","za","zb","x","xy","y","q","qq","d","e","f","g","h"]
def D7(i:Nat):Str:=words24.getD i "a"
def Ru:∀i,i<24->UZ^D7 i:=by
 have h:∀i∈jL 24,1<=(D7 i).length/\(D7 i).length<=8/\∀c∈cs^D7 i,97<=c/\c<=122:=by decide +kernel
 exact λi a=>h i^jn.mpr a
def U6:∀i j,i<24->j<24->D7 i=D7 j->i=j:=by
 have h:∀i∈jL 24,∀j∈jL 24,cs^D7 i=cs^D7 j->i=j:=by decide +kernel
 exact λi j a b e=>h i (jn.mpr a) j (jn.mpr b)^congrArg cs e
def WR(i:Nat)(h:i<24):(words24.map D.str)[i]?=P3^.str^D7 i:=by
 have a:i<words24.length:=h;unfold D7
 simp_all
section
variable {ss:v_ Slot}{n:Nat}{Pd:D->Nat->Prop}
def LX(h:GG ss n Pd):F9 (EE Pd) n (ss++Tk 2 .no):=by
 let#[m,rfl,o,q,p]:=h;unfold F9;exists(by cbv:12<=sizeLine),(by cbv:12<=sizeLine),(by cbv:24<=sizeLine);refine#[24,rfl,by cbv,by cbv,q,λfirst w x=>?_];obtain⟨f,rfl⟩:∃f:Nat,first=(f:Int):=#[first.toNat,(by first|exact u0|exact u1|exact u2|exact w0|exact w1|omega)]
 refine#[(m:Int),rfl,#[(by first|exact u0|exact u1|exact u2|exact w0|exact w1|omega),(by first|exact u0|exact u1|exact u2|exact w0|exact w1|omega)],by rw[DF]; omega,?_];refine BG (λd=>match d with|.int k=>.str^D7 ((f+k.toNat) % 24)|_=>.non) (λi=>∃s,i=[.sh^.lst^words24.map .str,.sh^.int f,s]) _ _ _ _ ?_ #[_,rfl] ?_
 .rintro d r i z A ⟨s,rfl⟩ a
  let#[k,l,rfl]:=Hb r;have b:(f+k) % 24<24:=nj _ (by cbv);exists by show(0:Int)<24; decide,.str^D7 ((f+k) % 24),?_
  .rw[show((f:Int)+(0+(k:Int))) % 24=(((f+k) % 24:Nat):Int) by lk]
   exact AK^WR _ b
  .have:=a [.sh^.lst^words24.map .str,.sh^.int f,.sh^.int (0+(k:Int))] #[_,rfl]
   rw[show(0+(k:Int))=k by lk]at this ⊢;exact this
 .have e:[]++(DH 0 ((m:Int)).toNat).map (λd=>match d with|.int k=>D.str^D7 ((f+k.toNat) % 24)|_=>.non)=((jL m).map λk:Nat=>D7 ((f+k) % 24)).map .str:=by
   unfold DH;rw[jB,jf,jf,mE];refine lG λk _=>?_
   have:(0+(k:Int)).toNat=k:=by lk
   simp only[Function.comp,this]
  rw[e];refine#[_,_,rfl,Ra _,by rw[FM,mG]; omega,λc g t=>p c ?_ ?_ ?_]
  .rw[g.length_eq,FM,mG]
  .intro y u
   let#[k,_,rfl]:=Sc.mp^g.mem_iff.mp u;exact Ru _^nj _^by cbv
  .refine Gj t^g.nodup_iff.mpr^Nm List.nodup_range λj v k l e=>?_
   exact Zd o (jn.mp v) (jn.mp l)^U6 _ _ (nj _^by cbv) (nj _^by cbv) e
def KD(h:Py ss n Pd):FU (EE Pd) n (ss++Tk 0 .no):=by
 let#[s,rfl,f,a,p]:=h;have i:((10:Int) ^ (6:Int).toNat)=1000000:=by cbv
 unfold FU;refine CO (λc=>?_) λ_=>?_
 .have c:s<3:=of_decide_eq_true c
  let#[z,g,w,rfl,j]:=GC (p:=λd=>∃w:Int,d=.int w/\1<=w/\w<=9) (xs:=[D.int 2,D.int 4,D.int 9]) (λd k=>by
   grind) f^by lk
  exact#[(by cbv:3<=sizeLine),_,g,w,rfl,(by grind),(by grind),a,λr b e=>p _ ((by lk))^(by lk)]
 refine CO (λ_=>#[60,rfl,by cbv,by cbv,a,λr b e=>p _ ((by lk))^(by grind)]) λ_=>?_;exact#[#[by cbv,by cbv,by cbv],3,rfl,by cbv,by cbv,a,λr b e=>p _ (by lk)^by lk]
end
def pairD(p:Str×Str):D:=.tup [.str p.1,.str p.2]
def Cw(a:Str)(c:v_ Str):v_ (Str×Str):=(c.filter λb=>decide (cs a<cs b)).map λb=>(a,b)
def pairsOf(b c:v_ Str):v_ (Str×Str):=b.flatMap λa=>Cw a c
def Ym(a:Str):D->Bool
 |.str b=>decide (cs a<cs b)
 |_=>u_
def Yl(a:Str)(b:v_ Str):[]++((b.map D.str).filter^Ym a).map (λd=>D.tup [.str a,d])=(Cw a b).map pairD:=by
 rw[lA,jf];unfold Cw;rw[jf];rfl
def Ql{c d:v_ Str}{p:Str×Str}(h:p∈pairsOf c d):p.1∈c/\p.2∈d/\cs p.1<cs p.2:=by
 let#[a,e,h]:=k6.mp h;let#[b,f,rfl]:=Sc.mp h
 simp_all
def Ov{d f:v_ Str}(g:rising d)(e:rising f):(pairsOf d f).Pairwise eL:=by
 unfold pairsOf;rw[List.pairwise_flatMap];refine#[λa _=>?_,g.imp λ{a b} h x e y i=>?_]
 .unfold Cw
  rw[kE];exact(e.filter _).imp λ{b c} h=>.inr #[rfl,h]
 .let#[_,_,rfl]:=Sc.mp e
  let#[_,_,rfl]:=Sc.mp i;exact .inl h
def cu(x:Str):¬cs x<cs x:=k8 _
def YM{l:v_ (Str×Str)}(h:l.Pairwise eL):l.Nodup:=h.imp λ{p q} h e=>by
 subst e
 rcases h with h|⟨_,h⟩ <;>exact cu _ h
theorem Fl{c:v_ Str}:∀{b:v_ Str},(pairsOf b c).length<=b.length*c.length
 |[]=>i6 _
 |a::b=>by
  have d:=@Fl c b;show(Cw a c++pairsOf _ c).length<=_;rw[eq,iu,Nat.add_mul,Nat.one_mul]
  have:(Cw a c).length<=c.length:=by unfold Cw; rw[FM]; grind
  omega
theorem MA{b:Type}:∀{l:v_ b}{k:Nat}{x:b},l[k]?=P3 x->(x::l.eraseIdx k).Perm l
 |[],k,x,e=>by simp at e
 |a::l,0,x,e=>by simp_all
 |a::l,k+1,x,e=>(List.Perm.swap a x _).trans^(MA (l:=l) e).cons a
def RT{e:v_ Aq}(h:FQ e)(nd:(e.map ends).Nodup):e.Pairwise Bm:=by
 refine(h.and^kE.mp nd).imp λ{s t} #[a,b]=>lW λc=>?_
 by_cases d:Bm t s
 .have:=OT d
  grind
 .refine b ?_
  injection Cd _ _ (by rw[jR]; exact λz=>c^ekey_iff.mp z) (by rw[jR]; exact λz=>d^ekey_iff.mp z)with f i
  injection i with g _
  injection f with f
  injection g with g
  unfold ends;rw[f,g]
def u0{n k j:Nat}(h:k<=n:=by assumption)(e:oC j k=t_:=by rfl):j<=n:=iz (mL e) h
def u1{n k j a:Nat}(h:k<=n:=by assumption)(e:oC (j+a) k=t_:=by rfl):j<=n - a:=lX^iz (mL e) h
def u2{n k j a b:Nat}(h:k<=n:=by assumption)(e:oC (j+b+a) k=t_:=by rfl):j<=n - a - b:=lX^u1 h e
def u3{n k j a b c:Nat}(h:k<=n:=by assumption)(e:oC (j+c+b+a) k=t_:=by rfl):j<=n - a - b - c:=lX^u2 h e
def u4{n k j a b c d:Nat}(h:k<=n:=by assumption)(e:oC (j+d+c+b+a) k=t_:=by rfl):j<=n - a - b - c - d:=lX^u3 h e
def u5{n k j a b c d f:Nat}(h:k<=n:=by assumption)(e:oC (j+f+d+c+b+a) k=t_:=by rfl):j<=n - a - b - c - d - f:=lX^u4 h e
def w0{n k j:Nat}(h:n<=k:=by assumption)(e:oC k j=t_:=by rfl):n<=j:=iz h^mL e
def w1{n k j:Nat}(h:n<=k:=by assumption)(e:oC (k+1) j=t_:=by rfl):n<j:=iz (lf h)^mL e
def v1{a n m j:Nat}(h:a<=n)(e:n - j<=m):a - j<=m:=iz (lB h j) e
def v2{a n m j i:Nat}(h:a<=n)(e:n - j - i<=m):a - j - i<=m:=v1 (lB h j) e
def v3{a n m j i l:Nat}(h:a<=n)(e:n - j - i - l<=m):a - j - i - l<=m:=v2 (lB h j) e
def gu{n m j c:Nat}(a:124<=n)(b:n - 2*j<=m)(d:j<c)(e:c<=60):3<=m/\n - 2*(j+1)<=m - 1 - 1:=by lk
def gw{n a m c:Nat}(h:n - 6<=a)(b:a - 2*c<=m)(d:c<=60):n - 130<=m:=by lk
def iI(n:Nat):n - 6<=n - 1 - 1 - 1 - 1 - 1/\n - 6<=n - 1 - 1 - 1 - 1 - 1 - 1:=by lk
def Dg{ts:v_ Aq}{z:D}{P:D->Prop}(c:E5 z=P3^ts.map AS)(d:ts.length<64)(p:∀a:v_ Aq,a.Perm ts->FQ a->P^.lst^a.map AS):CI [z] P:=by
 refine#[z,_,rfl,c,by simp_all,#[λx b=>?_,λx b y e m n f h=>?_],λi j k=>?_]
 .let#[t,_,rfl]:=Sc.mp b
  exact#[_,rfl,kc _ _]
 .let#[t,_,rfl]:=Sc.mp b
  let#[u,_,rfl]:=Sc.mp e;cases(f);cases(h);rfl
 .let#[a,l,rfl]:=NR (g:=YU) (λ_=>rfl) j
  exact p _ l^Kf k
def Lq{b:Type}{a:v_ b}{x:b}{l:v_ b}{k:Nat}(e:l[k]?=P3 x):((a++[x])++l.eraseIdx k).Perm (a++l):=by
 rw[jS];exact(MA e).append_left a
section
variable {ss:v_ Slot}{n:Nat}{Pd:D->Nat->Prop}
theorem Ny{i:E2}{m:Nat}{d:v_ Str}(k:d.length<=24){l:BW}{mk:v_ D->Slot->v_ Slot}(f:Ad)
  (g:∀(fr:v_ D) (s:Slot) (a:Str) (nx:Nat->v_ Slot->Prop),fr.length+24<=1000->(∀j,nx m^mk (fr++(Cw a d).map pairD) j)->l (.str a) (mk fr s) λo=>f {i with nx:=nx,ct:=nx,bk:=i.nx} m o)
  (h:∀s,i.nx m^mk ((pairsOf d d).map pairD) s):∀(c b:v_ Str) (s:Slot),b++c=d->BF l f i (c.map .str) m^mk ((pairsOf b d).map pairD) s
 |[],b,s,e=>by
  rw[jE]at e;subst e;exact h s
 |a::c,b,s,e=>by
  have q:=@Fl d b;have p:b.length<=24:=by grind
  have r:b.length*d.length<=24*24:=pW p k;refine g _ s a _ (by grind) λj=>?_;have t:=Ny k f g h c (b++[a]) j (by grind);have u:pairsOf (b++[a]) d=pairsOf b d++Cw a d:=by unfold pairsOf; grind
  grind
def Oh(h:Tg ss n Pd):IS (EE Pd) n (ss++Tk 8 .no):=by
 let#[u,i,rfl,W,X,Y,a9,hn,p]:=h;have Z:=PySem.sizeLine_eq;unfold IS;refine#[_,rfl,by lk,by lk,u0,λr r0 r1=>?_];refine#[(2+r).toNat,by rw[show(((2+r).toNat:Nat):Int)=2+r by lk],by lk,by lk,λf hl hx hr=>#[(by cbv:0<=sizeLine),?_]];have w:f.length<=24:=by lk
 have a0:2<=f.length:=by lk
 have a1:f.length<=u:=by lk
 clear hl r0 r1;refine Ny (m:=n - 1 - 1) w (mk:=λfr s=>[.fd,.sh^.int u,.sh^.int i,.sh^.tup^f.map .str,.ow^.lst fr,s,.no,.no,.no,.no,.no]) _ (λfr s a nx F x=>?_) (λQ=>?_) f [] .no rfl
 .exists _,rfl,rfl,by rw[FM]; omega
  refine CD (Ym a) (λd=>.tup [.str a,d]) (λO=>∃s,O=[.sh^.str a,s]) _ _ _ _ ?_ #[_,rfl] ?_
  .rintro d hd O m b0 sk ⟨s2,rfl⟩ G H
   let#[b,hb,rfl]:=Sc.mp hd;refine CO (λc=>#[z2,G _ #[_,rfl] c]) λc=>H _ #[_,rfl]^jR.mpr c
  .rw[Yl]
   have b1:(Cw a f).length<=24:=by unfold Cw; rw[FM]; exact iz (kB _ _) w
   exact#[fr,_,rfl,rfl,by rw[FM]; omega,x _]
 refine#[5,rfl,by cbv,by cbv,(by first|exact u0|exact u1|exact u2|exact u3|exact u4|exact u5|exact u6),λI w0 w1=>?_];refine#[#[by cbv,by cbv],_,rfl,by lk,by lk,(by first|exact u0|exact u1|exact u2|exact u3|exact u4|exact u5|exact u6),λq q0 q1=>?_];refine#[6,rfl,by cbv,by cbv,(by first|exact u0|exact u1|exact u2|exact u3|exact u4|exact u5|exact u6),λr6 _ _=>?_];have E:∀(g:Int) (R:Nat),0<=g->g<=i->n - 6<=R->(Af (CU 8^Bq AQ)
 (Af (CZ (FZ^AE (Bl RF^AE (AC 7)^AE (Bl CS^AE (As 4) AQ) AQ) AQ) (AT 9) (Af (bB 4 (AW B5^AD (BR 0)^AD (AH^Bl CS^AE (As 4) AQ) AY)^B3 2^Ab (AT 5)^Ab (AT 10) BN)
 (Kw 8 "list" Fx^AE (Az^AE (AC 5)^AE (AC 10)^AE (AW Py^AD (BR 0)^AD (AH^AC 6) AY) AQ) AQ)))
 (Ap^Az^AE (AC 3)^AE (Bl BH^AE (Bl CI^AE (As 8) AQ) AQ) AQ))) (EE Pd) R [.fd,.sh^.int u,.sh^.int i,.sh^.tup^f.map .str,.ow^.lst^(pairsOf f f).map pairD,Q,.sh^.int I,.sh^.int g,.no,.no,.no]:=by
  intro g R A J K;clear q0 q1 W X Y;have pl:=@Fl f f;have S:f.length*f.length<=24*24:=pW w w;exists(by cbv:0<=sizeLine),_,_,rfl,rfl;obtain⟨j,o⟩:∃j:Int,j=(if(((pairsOf f f).map pairD).length:Int)<g then(((pairsOf f f).map pairD).length:Int)else g):=#[_,rfl];have a2:j<=g:=by rw[o]; split <;>lk
  have a3:j<=(pairsOf f f).length:=by rw[o,FM]; split <;>lk
  have a4:0<=j:=by rw[o]; split <;>lk
  exists j,by rw[o],#[by lk,by lk];clear o;obtain⟨c,rfl⟩:∃c:Nat,j=(c:Int):=#[j.toNat,by lk];have v:c<=60:=by lk
  have a5:c<=i:=by lk
  have b2:c<=(pairsOf f f).length:=by lk
  have a7:(pairsOf f f).length<=576:=iz pl S;have L:124<=R:=v1 hn K;clear a2 a3 a4 J A pl S;rw[mE]
  refine Ek (all:=DH 0 c) (λM m O=>R - 2*M.length<=m/\∃(e:v_ Aq) (free:v_ (Str×Str)) (Q s9 N:Slot),e.length=M.length/\(e.map ends++free).Perm^pairsOf f f/\(∀t∈e,1<=t.len/\t.len<=1000000) /\
   O=[.fd,.sh^.int u,.sh^.int i,.sh^.tup^f.map .str,.ow^.lst^free.map pairD,Q,.sh^.int I,.sh^.int g,.ow^.lst^e.map AS,s9,N]) ?_ ?_ _ [] _ _ rfl #[by simp,[],pairsOf f f,_,_,_,rfl,.refl _,(λ_ h=>by cases h),rfl]
  .rintro m O ⟨P,e,free,Q,s9,N,G,H,h3,rfl⟩
   rw[DF]at G P;show CI [D.lst^e.map AS] λz=>BH [z] λy=>2<=sizeLine/\Pd (.tup [.tup^f.map .str,y]) m;refine Dg (ts:=e) rfl (by rw[G]; exact lN v^by cbv) λB p1 p2=>?_
   have T:∀t∈B,(t.a∈f/\t.b∈f/\cs t.a<cs t.b)/\1<=t.len/\t.len<=1000000:=λt C=>by
    have hf:=p1.mem_iff.mp C
    have:ends t∈pairsOf f f:=H.mem_iff.mp^jM _^List.mem_map_of_mem hf
    exact#[Ql this,h3 t hf]
   have nd:(B.map ends).Nodup:=by
    have a:=H.nodup_iff.mpr^YM^Ov hr hr;exact((p1.map ends).nodup_iff).mpr (jW.mp a).1
   refine#[z2,p #[f,B] m #[hx,hr,λt C=>?_,RT p2 nd] a0 a1 (by show B.length<=i; rw[p1.length_eq,G]; exact a5)^gw K P v];let#[#[a,b,c],d]:=T t C;exact#[a,b,c,d]
  .rintro M d a8 m O nx U ⟨P,e,free,Q,s9,N,G,H,h3,rfl⟩ x
   let#[rfl,hk]:=T8 U;have V:=H.length_eq;rw[eq,FM]at V;rw[eq,jI]at x;have F:(free.map pairD).length=free.length:=FM ..;let#[f3,f4]:=gu L P hk v;have ff:1<=free.length/\free.length<=576/\e.length<=576:=by clear P K hn f3 f4; omega
   clear P;refine#[_,rfl,_,_,rfl,rfl,_,rfl,by rw[F]; exact Int.ofNat_le.mpr ff.1,by rw[F]; exact Int.ofNat_lt.mpr^lN ff.2.1^by cbv,u0,λr r0 r1=>?_];obtain⟨k,rfl⟩:∃k:Nat,r=(k:Int):=#[r.toNat,by lk];have a6:k<free.length:=by lk
   have e1:free[k]?=P3 free[k]:=No a6;exists k,pairD free[k],rfl,by rw[ir,e1]; rfl,by lk,rfl,rfl;refine#[_,rfl,rfl,I,rfl,w0,u1,λl l0 l1=>#[z3,_,_,rfl,rfl,by rw[FM,Z]; exact lN ff.2.2^by cbv,?_]];rw[JH];refine x _ _ #[f4,e++[#[free[k].1,free[k].2,l]],free.eraseIdx k,_,_,_,by rw[eq,jI,G],?_,λt C=>?_,by rw[jP]; rfl]
   .rw[jP]
    exact(Lq (a:=e.map ends) e1).trans H
   .rcases i9.mp C with C|C
    .exact h3 t C
    .rw[Re.mp C]
     exact#[l0,l1]
 refine CO (λ_=>#[4,rfl,by cbv,by cbv,(by first|exact u0|exact u1|exact u2|exact u3|exact u4|exact u5|exact u6),λr4 _ _=>E _ _ (by lk) (by lk) (iI n).2]) λ_=>E _ _ (by lk) (by lk) (iI n).1
end
def Md:W2:=λa n P=>a=[.fd]/\1<=n/\∀t b:Int,1<=b->b<=t->t<=1000000->P (.tup [.int t,.int b]) (n - 1)
def Ep:Ad:=(Af (CU 2^Rx (AC 1)^wC^D.int 0)
 (Af (BA 3^wC^D.bl t_)
 (Af (Io (AX^AC 3) (Af (BA 3^wC^D.bl u_)
 (WV 0 (B3 3^Ab (AT 4)^Ab (AT 5)^Ab (AT 6) BN) (CZ (Av^Bq^AE (Az^AE (AC 4)^AE (AC 5) AQ)^AE (Az^AE (AC 5)^AE (AC 4) AQ) AQ) (B3 2^Ab (AT 7)^Ab (AT 8) BN) (A8 (HI (AX^Ac (ID u_) (AC 7)^As 2)^AX^Ac Gc (Ac Br (Ac Bx (As 2)^AC 7)^AC 6)^Tv (As 2) (AC 8)^Ac (YF NO λi j=>D.int (i ^ j.toNat)) (wC^D.int 10)^wC^D.int 20) (Af (Ja 2 (AC 8)^Ac Br (Ac Bx (As 2)^AC 7)^AC 6)
 (BA 3^wC^D.bl t_)) Au)))))
 (JZ 2))))
def F8:Ad:=(Af (BA 1^Bl CI^AE (BU [s_] (Av^AC 0) (AT 0) CY^Az^AE (Ac A5 (AC 0)^wC^D.int 2)^AE (Ac A5 (AC 0)^wC^D.int 0)^AE (Ac A5 (AC 0)^wC^D.int 1) AQ) AQ)
 (Ap^BU [s_,s_,s_] (Av^AC 1) (B3 3^Ab (AT 0)^Ab (AT 1)^Ab (AT 2) BN) CY^Az^AE (AC 1)^AE (AC 2)^AE (AC 0) AQ))
def F7:Ad:=(Af (BA 1^Bq^AE (Az^AE (wC^D.int 1)^AE (wC^D.int 1) AQ)^AE (Az^AE (wC^D.int 3)^AE (wC^D.int 2) AQ)^AE (Az^AE (wC^D.int 2)^AE (wC^D.int 1) AQ)^AE (Az^AE (wC^D.int 3)^AE (wC^D.int 1) AQ)^AE (Az^AE (wC^D.int 5)^AE (wC^D.int 2) AQ)^AE (Az^AE (wC^D.int 1000)^AE (wC^D.int 999) AQ)^AE (Az^AE (Ac (YF NO λi j=>D.int (i ^ j.toNat)) (wC^D.int 10)^wC^D.int 6)^AE (wC^D.int 1) AQ)^AE (Az^AE (wC^D.int 6)^AE (wC^D.int 4) AQ)^AE (Az^AE (wC^D.int 7)^AE (wC^D.int 3) AQ) AQ)
 (Ap^Ac A5 (AC 1)^AW B5^AD (BR 0)^AD (AH^wC^D.int 9) AY))
abbrev Yf:Ad:=(A8 (HI (AX^Ac (ID u_) (AC 7)^As 2)^AX^Ac Gc (Ac Br (Ac Bx (As 2)^AC 7)^AC 6)^Tv (As 2) (AC 8)^Ac (YF NO λi j=>D.int (i ^ j.toNat)) (wC^D.int 10)^wC^D.int 20) (Af (Ja 2 (AC 8)^Ac Br (Ac Bx (As 2)^AC 7)^AC 6)
 (BA 3^wC^D.bl t_)) Au)
def iX:((10:Int) ^ (20:Int).toNat)=100000000000000000000:=by decide +kernel
section
variable {ss:v_ Slot}{n:Nat}{Pd:D->Nat->Prop}
def Iw(h:Ex ss n Pd):Ep (EF Pd) n (ss++Tk 7 .no):=by
 let#[N,s,H,us,rfl,a0,J,L,hs,p]:=h;have a7:=PySem.sizeLine_eq;have ok:=L.1;have a8:=L.2.1;unfold Ep;exists _,A9 s
 have step:∀(X:E2) (x y:Str) (l:Int),Ed N x y l->∀(f:v_ Key) (i:v_ D) (K:Kn) (g:Bool) (o q v w:Slot),Dmap f i D.int K->Bf N s f.length K->
   (∀(C:v_ Key) (O:v_ D) (k:Kn) (g':Bool) (t7 t8:Slot),Dmap C O D.int k->Bf N s C.length k->((g'=g/\k=K/\K0 K (x,y,l))\/(g'=t_/\WP N.ps k<WP N.ps K))->
    X.nx n [.br H,.sh^.str s,.ow^.dic C O,.sh^.bl g',o,q,.sh^.int l,t7,t8])->
   Yf X n [.br H,.sh^.str s,.ow^.dic f i,.sh^.bl g,o,q,.sh^.int l,.sh^.str x,.sh^.str y]:=by
  intro X x y l he f i K g o q v w M B hD;have kl:=M.le B.ins;exists f,i,_,rfl,A9 x;show if((Bi f i^.inr x).isSome)=t_ then _ else _
  cases ex:K x with
  |none=>
   rw[M.at_,ex];exact Ba^hD f i K g _ _ M B^.inl #[rfl,rfl,λd e=>by rw[show K x=P3 d from e]at ex; cases ex]
  | some d=>
   have a9:=B.top x d ex;have lp:=(he.pos ok).2;rw[M.at_,ex];refine C8 #[f,i,_,_,rfl,A9 x,by rw[M.at_,ex]; rfl,?_];exists f,i,rfl,#[by cbv,by cbv,by cbv],_,A9 y
   have R:(K y=s_\/∃A,K y=P3 A/\d+l<A)->(Af (Ja 2 (AC 8)^Ac Br (Ac Bx (As 2)^AC 7)^AC 6)^BA 3^wC^D.bl t_) X n [.br H,.sh^.str s,.ow^.dic f i,.sh^.bl g,o,q,.sh^.int l,.sh^.str x,.sh^.str y]:=λE=>by
    refine#[f,i,rfl,f,i,_,.int d,rfl,A9 x,by rw[M.at_,ex]; rfl,_,A9 y,by lk,?_];have r:=Ld f^.inr y
    have S:=B.put ok (c':=(DQ f^.inr y).length) (by rw[r]; split <;>lk) (by rw[r]; split <;>lk) ex he (λe=>by rw[r,if_neg^by rw[(M.has (x:=y)).1 e]; decide]) (λA e=>by
     rcases E with E|⟨d2,E,T⟩
     .rw[e]at E; cases E
     .rw[e]at E; cases E; exact T)
    exact hD _ _ _ t_ _ _ (M.put y (d+l)) S.1^.inr #[rfl,S.2]
   rw[M.at_];cases ey:K y with
   |none=>
    show if decide (d+l<(10:Int) ^ (20:Int).toNat)=t_ then _ else _
    rw[decide_eq_true^by rw[iX]; omega];exact C8^R^.inl ey
   | some A=>
    show if decide (d+l<A)=t_ then _ else _
    by_cases c:d+l<A
    .rw[decide_eq_true c]
     exact C8^R^.inr #[A,ey,c]
    .rw[decide_eq_false c]
     refine Ba^hD f i K g _ _ M B^.inl #[rfl,rfl,λd2 e=>?_];rw[show K x=P3 d2 from e]at ex;cases ex;exact#[A,ey,by show A<=d+l; omega]
 refine Im (λm Y ρ=>Y=n/\∃(f:v_ Key) (i:v_ D) (K:Kn) (g:Bool) (o q I v w:Slot),ρ=[.br H,.sh^.str s,.ow^.dic f i,.sh^.bl g,o,q,I,v,w]/\Dmap f i D.int K/\Bf N s f.length K/\((g=t_/\m=WP N.ps K+1)\/(g=u_/\m=0/\∀t∈N.ts,K0 K (t.a,t.b,t.len)/\K0 K (t.b,t.a,t.len)))) _ #[rfl,_,_,_,t_,_,_,_,_,_,rfl,Dmap.one (enc:=D.int) (a:=(0:Int)),Bf.init hs,.inl #[rfl,rfl]] ?_ ?_
 .rintro m Y ρ N' ⟨rfl,f,i,K,g,o,q,I,v,w,rfl,M,B,F⟩ hN
  rcases F with⟨rfl,hm⟩|⟨rfl,_,ht⟩
  .have G:∀(j done:v_ Aq) (f:v_ Key) (i:v_ D) (k:Kn) (g:Bool) (o q I v w:Slot),done++j=us->Dmap f i D.int k->Bf N s f.length k->((g=t_/\WP N.ps k<WP N.ps K)\/(g=u_/\WP N.ps k<=WP N.ps K/\∀t∈done,K0 k (t.a,t.b,t.len)/\K0 k (t.b,t.a,t.len)))->
     BF (B3 3^Ab (AT 4)^Ab (AT 5)^Ab (AT 6) BN) (CZ (Av^Bq^AE (Az^AE (AC 4)^AE (AC 5) AQ)^AE (Az^AE (AC 5)^AE (AC 4) AQ) AQ) (B3 2^Ab (AT 7)^Ab (AT 8) BN) Yf) {EF Pd with nx:=N',ct:=N',bk:=JZ 2^EF Pd} (j.map AS) Y [.br H,.sh^.str s,.ow^.dic f i,.sh^.bl g,o,q,I,v,w]:=by
    intro j
    induction j with
    |nil=>
     intro done f i k g o q I v w e M B F;rw[jE]at e;subst e
     rcases F with⟨rfl,T⟩|⟨rfl,_,ht⟩
     .exact hN (WP N.ps k+1) _ _ (by lk) #[rfl,f,i,k,t_,_,_,_,_,_,rfl,M,B,.inl #[rfl,rfl]]
     .exact hN 0 _ _ (by lk) #[rfl,f,i,k,u_,_,_,_,_,_,rfl,M,B,.inr #[rfl,rfl,λt h=>ht t^(J t).mpr h]]
    | cons t j ih=>
     intro done f i k g o q I v w e M B F;have U:t∈N.ts:=(J t).mp (by rw[←e]; exact f8 _ Op);have e':(done++[t])++j=us:=by rw[jS]; exact e
     have ed:=IE U;exists rfl,rfl,z2,z2,z2;exists rfl,rfl;refine step _ t.a t.b t.len ed.1 f i k g _ _ v w M B λa1 a2 K1 g1 t7 t8 M1 B1 h1=>?_;exists rfl,rfl;refine step _ t.b t.a t.len ed.2 a1 a2 K1 g1 _ _ t7 t8 M1 B1 λa3 a4 K2 g2 u7 u8 M2 B2 h2=>?_;refine ih (done++[t]) a3 a4 K2 g2 _ _ _ _ _ e' M2 B2 ?_
     rcases h1 with⟨rfl,rfl,t1⟩|⟨rfl,b0⟩
     .rcases h2 with⟨rfl,rfl,t2⟩|⟨rfl,a5⟩
      .rcases F with z|⟨z1,z2,z3⟩
       .exact .inl z
       .refine .inr #[z1,z2,λu V=>?_]
        rcases i9.mp V with V|V
        .exact z3 u V
        .rw[Re.mp V]; exact#[t1,t2]
      .refine .inl #[rfl,?_]
       rcases F with⟨_,z⟩|⟨_,z,_⟩ <;>lk
     .have W:WP N.ps K1<WP N.ps K:=by rcases F with⟨_,z⟩|⟨_,z,_⟩ <;>lk
      rcases h2 with⟨rfl,rfl,t2⟩|⟨rfl,a5⟩
      .exact .inl #[rfl,W]
      .exact .inl #[rfl,by lk]
   exact#[H,_,rfl,a0,G us [] f i K u_ _ _ _ _ _ rfl M B (.inr #[rfl,Rs _,λt h=>by cases h])]
  .exact#[_,rfl,p f i K M^B.told ok (by have:=M.le B.ins; omega) ht]
 .rintro Y ρ P Q a6 h
  unfold AX AC at h ⊢
  split at h
  .rename_i d hd
   cases d with
   |bl b=>exact a6 _ _ h
   |_=>exact h.elim
  .exact h.elim
def LW(h:EV ss n Pd):F8 (EF Pd) n (ss++Tk 1 .no):=by
 let#[d,B,rfl,e,v,p]:=h;have G:=PySem.sizeLine_eq;unfold F8
 have C:(B.map AS).length<=10000000/\EG (AT 0) CY (Az^AE (Ac A5 (AC 0)^wC^D.int 2)^AE (Ac A5 (AC 0)^wC^D.int 0)^AE (Ac A5 (AC 0)^wC^D.int 1) AQ) (λi w=>CI [.lst i] λz=>Av (wC z) w [] λE H=>E.length<=10000000/\EG (B3 3^Ab (AT 0)^Ab (AT 1)^Ab (AT 2) BN) CY (Az^AE (AC 1)^AE (AC 2)^AE (AC 0) AQ) (λi w=>Pd (.lst i) w) E [] H [.no,.no,.no]) (B.map AS) [] n [.no]:=by
  refine#[by rw[FM]; omega,?_];refine BG Qe (λq=>∃s,q=[s]) _ _ _ _ ?_ #[_,rfl] ?_
  .rintro d e q m I ⟨s,rfl⟩ k
   let#[t,J,rfl]:=Sc.mp e;exact#[_,AK (j:=2) rfl,_,AK (j:=0) rfl,_,AK (j:=1) rfl,z3,k _ #[_,rfl]]
  rw[jB,jf];refine#[_,_,rfl,rfl,by rw[FM]; exact v,#[λx A=>?_,λx A y K L M N O=>?_],λP Q r=>?_]
  .let#[t,_,rfl]:=Sc.mp A
   exact#[CG t,rfl,kc _ _]
  .let#[t,_,rfl]:=Sc.mp A
   let#[u,_,rfl]:=Sc.mp K;cases(show P3^CG t=P3 L from N);cases(show P3^CG u=P3 M from O);rfl
  .let#[o,F,rfl]:=NR (f:=Qe∘AS) (g:=λd=>match d with|.tup [.int l,.str a,.str b]=>#[a,b,l]|_=>#["","",0]) (λ_=>rfl) Q
   have r:Cu o:=by
    unfold Ii at r;rw[kE]at r;exact r.imp λ{s t} z=>z _ _ rfl rfl
   refine#[by show(o.map (Qe∘AS)).length<=10000000; rw[FM,F.length_eq]; omega,?_];refine BG (λd=>match d with|.tup [l,a,b]=>.tup [a,b,l]|d=>d) (λq=>∃a b c,q=[a,b,c]) _ _ _ _ ?_ #[_,_,_,rfl] ?_
   .rintro d e q m I ⟨a,b,c,rfl⟩ k
    let#[t,J,rfl]:=Sc.mp e;exact#[rfl,rfl,z3,k _ #[_,_,_,rfl]]
   .rw[jB,jf]
    exact p o F r
 cases d with
 |lst R=>cases e; exact C
 |tup R=>cases e; exact C
 |_=>cases e
def LV(h:Md ss n Pd):F7 (EE Pd) n (ss++Tk 1 .no):=by
 let#[rfl,c,p]:=h;unfold F7;exists z2,z2,z2,z2,z2,z2,g0,z2,z2,z2,(by cbv:9<=sizeLine);refine#[9,rfl,by cbv,by cbv,c,λr e f=>?_]
 let#[z,g,t,b,rfl,i,j,k]:=GC (p:=λd=>∃t b:Int,d=.tup [.int t,.int b]/\1<=b/\b<=t/\t<=1000000) (xs:=[.tup [.int 1,.int 1],.tup [.int 3,.int 2],.tup [.int 2,.int 1],.tup [.int 3,.int 1],.tup [.int 5,.int 2],.tup [.int 1000,.int 999],.tup [.int ((10:Int) ^ (6:Int).toNat),.int 1],.tup [.int 6,.int 4],.tup [.int 7,.int 3]]) (λd a=>by
  simp only[UF,ip,or_false]at a
  rcases a with rfl|rfl|rfl|rfl|rfl|rfl|rfl|rfl|rfl <;>exact#[_,_,rfl,by cbv,by cbv,by cbv]) e^by show r<9; exact f
 exact#[_,g,p t b i j k]
end
end Nt
namespace Dp
open L2
end Dp
namespace Nt
open L2 Dp
section
structure ik (N:Net) (ks:List Key) (ds:List D) (F:Str->Option Str):Prop where
 m:Dmap ks ds D.str F
 i:∀x,F x≠s_->x∈N.ps
end
end Nt
namespace L2
open AutoSeq1 (wpAny_loadPart')
def boot_enumerate:bootBuiltins "enumerate"=P3^.type "enumerate":=by decide +kernel
section
variable {prog:Program}{w:World}{A:Around}{E:Value->Shared->Prop}{s:Shared}
def V0{κ:Bool}(j:A.handled=s_)(it l:Ch)(f:l≠it)(c:Array Ev):Draws prog w A it [it,l] c.size (λi v=>c[i]?=P3 v) (λi h=>ItAt κ h it l i/\SqAt κ h l c) where
 live:=λ_ _ d=>let #[o,m,_]:=d.1.lies; #[o,m]
 frame:=λ_ _ _ d k=>#[d.1.mv λo e=>k it (by simp) o e,d.2.mv λo e=>k l (by simp) o e]
 item:=λi s Q E g d n=>GW d.1 d.2 (x:=c[i]) (by simp[g]) λp a b=>n _ p s.toks (by simp[g]) #[a,d.2.eb b.extBut f] b
 done:=λs Q E d q=>IG j d.1 d.2 (by simp) q
def S2{κ:Bool}(c:A.handled=s_)(it l:Ch)(a:Array Ev)(k:Nat)(d:a[k]?=s_):Draws prog w A it [it,l] k (λ_ _=>True) (λi h=>ItAt κ h it l i/\SqAt κ h l a/\i=k) where
 live:=λ_ _ b=>let #[o,f,_]:=b.1.lies; #[o,f]
 frame:=λ_ _ _ b k=>#[b.1.mv λo e=>k it (by simp) o e,b.2.1.mv λo e=>k l (by simp) o e,b.2.2]
 item:=λi s Q E g b m=>absurd b.2.2^i_ g
 done:=λs Q E b j=>IG c b.1 b.2.1 d j
def Xj(κ:Bool)(l:Ch)(items:Array Ev):Meets (ll.«enumerate.__new__» #[[.type "enumerate",.ref l],[]]) (λ_ R s=>SqAt κ s.heap l items /\
   R (.ok^.ret^.ref (s.heap.push^Jt κ l).objs.size) {s with heap:=(s.heap.push^Jt κ l).push {cls:=.type "enumerate",data:=.fields #[ .none,.bool u_,.ref s.heap.objs.size,rawInt 0,.none,.none]}}):=
 .of_wp λprog w A R s h=>by
  let#[hp,g,d,tk,os]:=s; let#[hl,h]:=h
  have hsub:=sub_enumerate;cases κ with
  | true=>
   have hL:pN (l9 #[hp,g,d,tk,os]) l items:=hl;let#[#[c,dct,dt,sl],ho,hc,n,hd]:=id hL;replace hc:c=.type "list":=hc;replace hd:dt=.seq items n:=hd;subst hc hd
   wp_walk using j8 ho
   refine wpAny_stack_any λst=>T0 ?_
   split
   .rename_i c _ _ _ _ _
    cases(c==lq "enumerate") <;>(wp_walk using j8 ho,kO hL; exact#[_,rfl,h])
   ·(wp_walk using j8 ho,kO hL; exact#[_,rfl,h])
  | false=>
   have hL:o5 (l9 #[hp,g,d,tk,os]) l items:=hl;let#[#[c,dct,dt,sl],ho,hc,n,hd]:=id hL;replace hc:c=.type "tuple":=hc;replace hd:dt=.seq items n:=hd;subst hc hd
   wp_walk using j8 ho
   refine wpAny_stack_any λst=>T0 ?_
   split
   .rename_i c _ _ _ _ _
    cases(c==lq "enumerate") <;>(wp_walk using j8 ho,jz hL; exact#[_,rfl,h])
   ·(wp_walk using j8 ho,jz hL; exact#[_,rfl,h])
def NE{c:Bool}{l:Ch}{a:Array Ev}{Q:Ev->On->Prop}(j:SqAt c s.heap l a)
  (h:∀d,IsEnum d (s.heap.objs.size+1) s.heap.objs.size 0 .none->ItAt c d s.heap.objs.size l 0->(∀b o,s.heap.get? b=P3 o->d.get? b=P3 o)->Q (.ref (s.heap.objs.size+1)) {s with heap:=d}):
  wpAny (model prog w) A (call (.type "enumerate") [.ref l]) Q E s:=by
 refine callType_new F.called_enumerate (by cbv) (F.typeCall_enumerate_1 _) (F.newCall_enumerate_1 _) (λf=>F.args_object_init_2 f _) F.entry_enumerate_new (Xj c l a) #[j,?_];have g:(s.heap.push^Jt c l).objs.size=s.heap.objs.size+1:=j7 ..;have i:((s.heap.push^Jt c l).push {cls:=.type "enumerate",data:=.fields #[ .none,.bool u_,.ref s.heap.objs.size,rawInt 0,.none,.none]}).get? (s.heap.push^Jt c l).objs.size=P3 _:=XV _ rfl;rw[g]at i;exists#[_,by rw[g]; exact i,rfl];rw[g];exact h _ i ((Lz c s.heap l).mv λo e=>Go _ e) λb o e=>Go _^Go _ e
end
def dR(K:Frag)(c:Bool)(a:Ch)(b:v_ V):It:=
 #[λi H=>SqK c K H a b/\i<b.length,λi H x d=>∃T p,x=.ref T/\H T=s_/\d=BQ H T^.tup [.int i,p]/\b[i]?=P3 p,λi H=>SqK c K H a b/\b.length<=i]
structure dI (κ:Bool) (e it a:Ch) (k:Nat) (h:i8):Prop where
 e:∃old,IsEnum h e it (k:Int) old
 i:ItAt κ h it a k
def U_{P:jK}{w:jQ}{K:Frag}{es:v_ jJ}{j:Nat}{pos:Pos}(κ:Bool)(e it a:Ch)(R:v_ V)(p:e≠it)(ae:a≠e)(ai:a≠it):
  Turn P w K (.Tuple es j pos) (dR K κ a R) [e,it] e (dI κ e it a) where
 mem:=by simp
 obj:=λi h d c b=>by
  simp only[UF,ip,or_false]at b
  rcases b with rfl|rfl
  .let#[o,q]:=d.e
   exact#[_,q,λv q=>by cases q]
  .exact d.i.lies
 keep:=λi h S d k=>by
  let#[o,q]:=d.e;exact#[#[o,k e (by simp) _ q],d.i.mv λo e=>k it (by simp) o e]
 item:=by
  intro X r t y b i T s Z H E I l d B;subst r t y;let#[C,D]:=B;let#[m,n,F]:=C.at I;let#[u,hu,ru]:=n.get^No D;let#[g,f]:=d.e;have l1:=n.length;refine wpAny_pyNext_enum_itemD (V0 (κ:=κ) (A:=X.A.in1) (I.ok.hd b) it a ai m.toArray) f #[d.i,F] (by simp; omega) p (by simp[p,ae.symm]) λx S G hp a1 a2 a3 a4 a5=>#[_,rfl,?_]
  have J:x=u:=by
   have U:m[i]?=P3 x:=by simpa using hp
   rw[hu]at U;exact(iw U).symm
  subst J;refine wpAny_letOwnedTupleGo_enum a1 λW b1 L=>?_;have hT:H s.heap.objs.size=s_:=I.hok.fresh^Rs _
  have M:∀c o,c∉[e,it]->s.heap.get? c=P3 o->W.get? c=P3 o:=λc o b z=>by
   simp only[UF,ip,or_false,not_or]at b;exact L.extBut _ _ b.1^a5 c o b.1 b.2 z
  have I2:Inv X T Z (BQ H s.heap.objs.size^.tup [.int i,R[i]]) {s with heap:=W,toks:=G+1}:=by
   refine I.turnLaid (t':=G+1) (ch:=[e,it]) l M (Rs _) ?_;have nT:s.heap.objs.size≠e:=mH^ZB f;exact#[by show 2<=sizeLine; decide,[.int i G,x],.cons #[_,rfl]^.cons ru .nil,#[_,L.extBut _ _ nT a3,rfl,_,rfl,rfl,rfl]]
  refine#[.ref s.heap.objs.size,_,I2,rfl,#[_,_,rfl,hT,rfl,No D],#[#[_,b1],a2.1.eb L.extBut p.symm],λc b=>?_];have N:H c=s_:=(l c b).1
  have O:c≠s.heap.objs.size:=λz=>by
   obtain⟨o,Y⟩:∃o,s.heap.get? c=P3 o:=by
    simp only[UF,ip,or_false]at b
    rcases b with rfl|rfl
    .exact#[_,f]
    .let#[o,q,_]:=d.i.lies; exact#[o,q]
   rw[z]at Y;exact jr _^ZB Y
  rw[Ah O]; exact N
 done:=by
  intro X r t y b i T s Z H E I l d B;subst r t y;let#[C,D]:=B;let#[m,n,F]:=C.at I;let#[g,f]:=d.e;have l1:=n.length;refine wpAny_pyNext_enum_endD (S2 (κ:=κ) (A:=X.A.in1) (I.ok.hd b) it a m.toArray i^by simp; omega) f #[d.i,F,rfl] λS M=>#[rfl,?_];refine I.turnedL (t':=s.toks) (ch:=[e,it]) l λc o b e=>?_;simp only[UF,ip,or_false,not_or]at b;exact M c o b.2 e
 self:=λA i s Q E d h=>by
  let#[g,f]:=d.e;exact wpAny_pyIter_enum f h
section
variable {X:Cx}{e1:Expr}{es:v_ Expr}{j:Nat}{tpos p pos:Pos}{te:TE}
def fD(K:Frag)(te:TE):TI:=λZ H R=>te Z H λv b=>∃c a d,v=.ref a/\SqK c K b a d/\R (dR K c a d) b
def ZQ(t:Gl X "enumerate")(v:X.mg "enumerate"=s_)(w:PE X e1 te)(g:starEach [e1] X.env=[(u_,eval e1 X.env)]:=by rfl):
  PI X (.Tuple es j tpos) (.Call (.Name "enumerate" p) [e1] [] pos) (fD X.K te):=by
 intro y s Z H R I h;refine kU^Dl I t v boot_enumerate ?_;refine j_ ?_ g rfl;rw[g];refine kT^thn (w y s Z H _ I h) λu b #[x,z,f,A,i,a,k,ex,B,q]=>km ?_;subst ex;cases A;let#[F,C,l]:=B.at f;have m:a<b.heap.objs.size:=by let#[o,e]:=l.lies; exact ZB e
 refine NE l λG n D E=>?_;refine wpAny_pyIter_enum n ?_;refine#[b.heap.objs.size+1,[b.heap.objs.size+1,b.heap.objs.size],_,dR X.K i a k,z,rfl,f.kept (t':=b.toks) E,U_ i _ _ a k (by show(_:Nat)≠(_:Nat); omega) (i_^jx m)^i_ m,#[#[_,n],D],λc r=>?_,q]
 have d:b.heap.objs.size<=c:=by
  simp only[UF,ip,or_false]at r
  rcases r with rfl|rfl
  .exact kJ _
  .exact Rs _
 exact f.fpOk d^f.hok.fresh d
end
end L2
namespace Dp
open L2
def Gy:Nat->v_ D->v_ D
 |_,[]=>[]
 |k,x::r=>.tup [.int (k:Int),x]::Gy (k+1) r
theorem N8:∀(k:Nat) (a:v_ D),(Gy k a).length=a.length
 |_,[]=>rfl
 |k,x::r=>by show(Gy (k+1) r).length+1=r.length+1; rw[N8 (k+1) r]
theorem N9:∀(k:Nat) (a:v_ D) (i:Nat),(Gy k a)[i]?=(a[i]?).map λx=>.tup [.int ((k+i:Nat):Int),x]
 |_,[],i=>by simp[Gy]
 |k,x::r,0=>rfl
 |k,x::r,i+1=>by
  show(Gy (k+1) r)[i]?=(r[i]?).map _;rw[N9 (k+1) r i,show k+1+i=k+(i+1) by lk]
section
variable {K:Frag}
def RH{M:Ch->Prop}{H:Hp}{g:Bool}{a:Ch}{c:v_ V}{e:v_ D}(n:Ats K M H e c){i:Nat}{k:Ch->Prop}{b:Hp}(t:Pres M H k b)(q:SqK g K b a c)(l:∀a,k a->∃o,b a=P3 o):
  (∀d,(Gy 0 e)[i]?=P3 d->(dR K g a c).go i b/\∀x h,(dR K g a c).yld i b x h->Grow b h/\At K k h d x)/\((Gy 0 e).length<=i->(dR K g a c).stop i b):=by
 have A:=n.length;refine#[λd f=>?_,λu=>#[q,by rw[N8]at u; omega]];rw[N9,pC]at f;cases j:e[i]? with
 |none=>rw[j]at f; cases f
 |some v=>
  rw[j]at f;have m:D.tup [.int (i:Int),v]=d:=iw f;have B:i<e.length:=(Uf.mp j).1;refine#[#[q,by lk],λx h y=>?_];let#[T,p,rfl,r,rfl,w]:=y;let#[C,s,z]:=(n.pres t).get j;rw[w]at s;cases s;subst m;exact#[BE r,Do l r #[.int (i:Int),[p],rfl,rfl,p,[],rfl,z,rfl]]
end
section
variable {X:Cx}{e1:Expr}{es:v_ Expr}{j:Nat}{tpos p pos:Pos}{κ:Kd}{wa:DW}
def aH(wa:DW):EW:=λn b P=>wa n b λd c=>∃a,E5 d=P3 a/\P (Gy 0 a) c
def Z1(g:Gl X "enumerate")(k:X.mg "enumerate"=s_)(h:DE X e1 κ wa)(l:κ≠.tp:=by intro z; cases z)(m:starEach [e1] X.env=[(u_,eval e1 X.env)]:=by rfl):
  DI X (.Tuple es j tpos) (.Call (.Name "enumerate" p) [e1] [] pos) (aH wa):=by
 let#[t,o,r]:=h;refine#[_,ZQ g k o m,λC M H n s Z P J R w q=>?_];refine r C M H n s Z _ _ R w λv c d u x y A p=>?_;let#[K,B,p]:=p;let#[D,a,E,rfl,F,e]:=SE (A.shOf R.dom l) B;exact#[D,a,E,rfl,e M c^Pres.refl _ _,q _ c _ u x y (λi G I f b=>RH F f (e G I f) b) p]
end
end Dp
namespace L2
end L2
namespace Dp
open L2
end Dp
namespace Nt
open L2 Dp
def CW(M:Net)(u:Aq):Net:=#[M.ps,M.ts.filter λv=>decide (v≠u)]
def FX(t b:Int):Prop:=1<=b/\b<=1000000/\1<=t/\t<=1000000
def Jz:Ad:=(Ap^AW GF^AD (AH^AC 0)^AD (B6^BU [P3 1,s_] (Av^Ac A5 (AC 0)^wC^D.int 1) (AT 1) (AX^Ac (Gd t_) (AC 1)^AC 0)^AC 1) AY)
def FR:Ad:=(Ap^Ac YD (Ac FP (AC 0)^Ac A5 (AC 1)^wC^D.int 1)^Ac FP (AC 2)^Ac A5 (AC 1)^wC^D.int 0)
def F1{M:Net}(a:okN M)(u:Aq):okN^CW M u:=#[R8 a.1 (λt h=>(jm.mp h).1)^a.1.trise.filter _,a.2.1,iz (kB _ _) a.2.2]
def K8{N:Net}(ok:N.Ok){b a:v_ Aq}(h:b.Pairwise Bm)(c:a.Perm b)(d:FQ a):a=b:=E3 c d^FG h
section
variable {ss:v_ Slot}{n:Nat}{Pd:D->Nat->Prop}
def G4{M:Net}(ok:M.Ok):∀t∈M.ts,UZ t.a/\UZ t.b/\1<=t.len/\t.len<=1000000:=λt d=>by
 let#[a,b,_,c]:=ok.tin t d;exact#[ok.names _ a,ok.names _ b,c]
def KC(h:Cy ss n Pd):FR (EE Pd) n (ss++Tk 0 .no):=by
 let#[l,t,b,x,rfl,d,a,e,c,p]:=h;unfold FR;exact#[_,AK (j:=1) rfl,dN (by lk) a,_,AK (j:=0) rfl,dN (by lk) c,p]
end
def tj(t:Aq)(x y:Str):Prop:=(t.a=x/\t.b=y)\/(t.b=x/\t.a=y)
inductive Us (K:List Aq) (x:Str):Str->Nat->Prop
 |nil:Us K x x 0
 |snoc {y z:Str}{n:Nat}{t:Aq}:Us K x y n->t∈K->tj t y z->Us K x z (n+1)
theorem Wk.least{N:Net}(ok:N.Ok){s x:Str}:∀(k:Nat) {d:Int},d.toNat<=k->Wk N s x d->∃a,Least N s x a/\a<=d
 | k,d,i,h=>by
  by_cases c:∃b,b<d/\Wk N s x b
  .let#[b,j,e]:=c
   have l:=e.pos ok;cases k with
   |zero=>lk
   |succ k=>
    let#[a,f,m]:=Wk.least ok k (d:=b) (by lk) e;exact#[a,f,by lk]
  .refine#[d,#[h,λa g=>?_],mB _]
   rcases Int.lt_or_le a d with z|z
   .exact absurd #[a,z,g] c
   .exact z
def firm(N:Net)(t b:Int)(L:v_ Aq):Prop:=∀a z c,L=a++z::c->¬FO (sub N a) t b z
structure Kept (N:Net) (t b:Int) (L:List Aq):Prop where
 ok:okN N
 firm:firm N t b L
 ins:∀u∈L,u∈N.ts
 up:L.Pairwise λu v=>u.len<=v.len
 b1:1<=b
def SJ{c:v_ Str}(h:rising c):c.Nodup:=pj (λ{a b} z e=>by rw[e]at z; exact Bo _ z) h
end Nt
namespace L2
section
variable {prog:Program}{w:World}{A:Around}{E:Value->Shared->Prop}{s:Shared}{x y:Str}{t u:Tok}
def Wd(x y:Str)(i:Nat):Str:=if i=0 then x else y
def Tx{i:Nat}{v:Ev}(h:(#[ lY x t,lY y u]:Array Ev)[i]?=P3 v):∃k,v=.str (Wd x y i) k:=by
 match i with
 |0=>exact#[t,(iw h).symm]
 |1=>exact#[u,(iw h).symm]
 |i+2=>simp at h
def V6:CmpOf prog w A .Lt (λi v=>(#[ lY x t,lY y u]:Array Ev)[i]?=P3 v) (λi j=>decide ((Wd x y i).cps.toList<(Wd x y j).cps.toList)):=λi j f g s Q E c d h=>by
 let#[a,rfl]:=Tx c;let#[b,rfl]:=Tx d;exact richCompare_gives (op:=.Lt) (mz s _ a) (mz s _ b) PySem.F.slot_str_lt PySem.F.entry_str_lt (PySem.F.args_str_lt_2 _ _) (gives_str_lt _ _ a b) (λe=>nomatch e) h
def V7:CmpOf prog w A .Gt (λi v=>(#[ lY x t,lY y u]:Array Ev)[i]?=P3 v) (λi j=>decide ((Wd x y j).cps.toList<(Wd x y i).cps.toList)):=λi j f g s Q E c d h=>by
 let#[a,rfl]:=Tx c;let#[b,rfl]:=Tx d;exact richCompare_gives (op:=.Gt) (mz s _ a) (mz s _ b) PySem.F.slot_str_gt PySem.F.entry_str_gt (PySem.F.args_str_gt_2 _ _) (gives_str_gt _ _ a b) (λe=>nomatch e) h
def We{n c:Nat}(h:c∈[n+1,n]):c<n+1+1:=by
 simp only[UF,ip,or_false]at h;lk
def QA{a:Nat->Nat->Bool}{v:Ev}(h:(#[ lY x t,lY y u]:Array Ev)[argBest a 1]?=P3 v):v=if a 1 0=t_ then .str y u else .str x t:=by
 have e:argBest a 1=if a 1 0=t_ then 1 else 0:=rfl
 rw[e]at h;cases c:a 1 0 with
 |true=>rw[c]at h; exact(iw h).symm
 |false=>rw[c]at h; exact(iw h).symm
def Vg{Q:Ev->On->Prop}(i:A.handled=s_)(h:∀a d,(∀c o,s.heap.get? c=P3 o->a.get? c=P3 o)->Q (if decide (y.cps.toList<x.cps.toList)=t_ then .str y u else .str x t) {s with heap:=a,toks:=d}):
  wpAny (model prog w) A (call (.builtin "min") [.str x t,.str y u]) Q E s:=by
 have f:(s.heap.push {cls:=.type "tuple",data:=.seq #[ .str x t,.str y u]}).IsTuple s.heap.objs.size #[ .str x t,.str y u]:=#[_,XV _ rfl,rfl,0,rfl];refine call_min_two^jz f ?_;have b:(s.heap.push {cls:=.type "tuple",data:=.seq #[ .str x t,.str y u]}).objs.size=s.heap.objs.size+1:=j7 ..;refine#[_,[_,s.heap.objs.size],[_],_,_,_,_,rfl,Walks.tuple (A:=A.in1) i _ s.heap.objs.size (by rw[b]; exact i_^lI _) #[ .str x t,.str y u],#[#[_,XV _ rfl,rfl,rfl],f.push _],λc g=>?_,by simp,V6,λv a d j k=>?_]
 .rw[j7,b]; rw[b]at g; exact We g
 .rw[QA j]
  refine h a d λc o e=>k c o (λm=>?_)^Go _^Go _ e;have l:=ZB e;rw[Re.mp m,b]at l;exact absurd l^mO.mpr^kJ _
def Vi{Q:Ev->On->Prop}(i:A.handled=s_)(h:∀a d,(∀c o,s.heap.get? c=P3 o->a.get? c=P3 o)->Q (if decide (x.cps.toList<y.cps.toList)=t_ then .str y u else .str x t) {s with heap:=a,toks:=d}):
  wpAny (model prog w) A (call (.builtin "max") [.str x t,.str y u]) Q E s:=by
 have f:(s.heap.push {cls:=.type "tuple",data:=.seq #[ .str x t,.str y u]}).IsTuple s.heap.objs.size #[ .str x t,.str y u]:=#[_,XV _ rfl,rfl,0,rfl];refine call_max_two^jz f ?_;have b:(s.heap.push {cls:=.type "tuple",data:=.seq #[ .str x t,.str y u]}).objs.size=s.heap.objs.size+1:=j7 ..;refine#[_,[_,s.heap.objs.size],[_],_,_,_,_,rfl,Walks.tuple (A:=A.in1) i _ s.heap.objs.size (by rw[b]; exact i_^lI _) #[ .str x t,.str y u],#[#[_,XV _ rfl,rfl,rfl],f.push _],λc g=>?_,by simp,V7,λv a d j k=>?_]
 .rw[j7,b]; rw[b]at g; exact We g
 .rw[QA j]
  refine h a d λc o e=>k c o (λm=>?_)^Go _^Go _ e;have l:=ZB e;rw[Re.mp m,b]at l;exact absurd l^mO.mpr^kJ _
end
section
variable {X:Cx}
def aS:v_ V->Hp->VK->Prop:=λa H Q=>∃x y:Str,a=[.str x,.str y]/\Q (.str (if decide (y.cps.toList<x.cps.toList)=t_ then y else x)) H
def aU:v_ V->Hp->VK->Prop:=λa H Q=>∃x y:Str,a=[.str x,.str y]/\Q (.str (if decide (x.cps.toList<y.cps.toList)=t_ then y else x)) H
def JJ(a:X.calm=t_):DL X (.builtin "min") aS:=by
 intro b s Z H c d Q I r h;let#[x,y,rfl,q]:=h;let#[u,e,rfl,#[t,rfl],#[f,rfl]]:=vals2 r;refine Vg (I.ok.hd a) λg i k=>#[_,H,I.kept k,?_,q];cases decide (y.cps.toList<x.cps.toList) <;>exact#[_,rfl]
def JK(a:X.calm=t_):DL X (.builtin "max") aU:=by
 intro b s Z H c d Q I r h;let#[x,y,rfl,q]:=h;let#[u,e,rfl,#[t,rfl],#[f,rfl]]:=vals2 r;refine Vi (I.ok.hd a) λg i k=>#[_,H,I.kept k,?_,q];cases decide (x.cps.toList<y.cps.toList) <;>exact#[_,rfl]
end
end L2
namespace Dp
open L2
section
variable {K:Frag}
def RE(a:v_ D)(P:D->Prop):Prop:=∃x y:Str,a=[.str x,.str y]/\P^.str (if decide (y.cps.toList<x.cps.toList)=t_ then y else x)
def RG(a:v_ D)(P:D->Prop):Prop:=∃x y:Str,a=[.str x,.str y]/\P^.str (if decide (x.cps.toList<y.cps.toList)=t_ then y else x)
def P_{U M:Ch->Prop}{H:Hp}{x y:Str}{a:v_ V}(b:Paired (λv d=>AtT K U M H d v) a [.str x,.str y]):a=[.str x,.str y]/\x.length<=sizeLine/\y.length<=sizeLine:=by
 cases b with
 | cons c e=>cases e with
  |cons f g=>
   cases g;let#[rfl,h]:=c.str;let#[rfl,i]:=f.str;exact#[rfl,h,i]
def TF:D1 K .sh aS RE:=by
 intro U M H c d P Q a f b w q;let#[x,y,rfl,w]:=w;let#[e,g,h]:=P_ b;exact#[x,y,e,q _ H (.str _) .refl #[rfl,by split <;>assumption] w]
def TJ:D1 K .sh aU RG:=by
 intro U M H c d P Q a f b w q;let#[x,y,rfl,w]:=w;let#[e,g,h]:=P_ b;exact#[x,y,e,q _ H (.str _) .refl #[rfl,by split <;>assumption] w]
end
end Dp
namespace L2
open PySem.W
section
variable {prog:Program}{w:World}{A:Around}{E:Value->Shared->Prop}{I:Addr}{fp wr:v_ Addr}{N:Nat}{P:Nat->Value->Prop}{St:Nat->Heap->Prop}
theorem N_(W:Walks prog w A I fp wr N P St)(a:v_ Ev)(u:a.length=N)(r:∀i v,P i v->a[i]?=P3 v):∀(n i:Nat) (s:On) (Q:v_ Ev->On->Prop),i+n<=N->St i s.heap->
  (∀j x,St (i+n) j->(∀b o,b∉wr->s.heap.get? b=P3 o->j.get? b=P3 o)->Q ((a.drop i).take n) {s with heap:=j,toks:=x})->wpAny (model prog w) A (draw (.ref I) n) Q E s
 |0,i,s,Q,y,d,h=>by
  rw[draw]
  have:=h s.heap s.toks d λ_ _ _ e=>e
  rw[List.take_zero]at this;exact T0 this
 |n+1,i,s,Q,y,d,h=>by
  rw[draw];refine Db^W.item i s _ _ (by lk) d λv F z B f k=>?_;refine Db^jb^N_ W a u r n (i+1) _ _ (by lk) f λC l g m=>T0 ?_;have e:=r i v B;let#[p,D]:=Uf.mp e
  have:=h C l (by rw[show i+(n+1)=i+1+n by lk]; exact g) λb o t q=>m b o t^k b o t q
  rw[kM p,List.take_succ_cons,D]at this;exact this
def P9{s:On}{l:Ch}{a:Array Ev}{Q:v_ Ev->On->Prop}(p:A.handled=s_)(g:s.heap.IsList l a)(h:∀m q,(∀b o,s.heap.get? b=P3 o->m.get? b=P3 o)->Q a.toList {s with heap:=m,toks:=q}):
  wpAny (model prog w) A (unpackItems (.ref l) a.size s_) Q E s:=by
 have j:l<s.heap.objs.size:=by let#[_,e,_]:=g; exact ZB e
 have r:s.TypeIs (.ref l) "list":=by let#[o,e,c,_]:=g; exact#[o,e,c]
 unfold unpackItems;refine Db ?_;unfold notIterableAtAll;refine Db^mX r PySem.F.slot_list_iter.lookup ?_;refine T0 ?_;simp only[jD,if_false];refine Db^jb^kO g ?_;have W:=Walks.list (prog:=prog) (w:=w) (A:=A) p s.heap.objs.size l (i_ j) a;refine Db^jb^N_ W a.toList (by simp) (λi v e=>by simpa using e) a.size 0 _ _ (by lk) #[#[_,XV _ rfl,rfl,rfl],g.push _] λB t d u=>?_
 have f:List.take a.size^List.drop 0 a.toList=a.toList:=by
  rw[pR]; exact kW^by simp
 rw[f,if_neg^by simp];rw[pC]at d;refine Db^jb^W.done _ _ _ d λx k y=>?_;simp only[Option.isSome_none,jD,if_false];refine T0^h x k λb o e=>?_;have n:b∉[s.heap.objs.size]:=λz=>by rw[Re.mp z]at e; exact jr _^ZB e
 exact y b o n^u b o n^Go _ e
end
section
variable {X:Cx}{pos:Pos}
def fF(K:Frag)(n:Nat)(t:aD):TG:=λv Z H Q=>∃a b,v=.ref a/\SqL K H a b/\b.length=n/\t b Z H Q
def ZR{b:v_ jJ}{k:Nat}{t:aD}{n:Nat}(j:X.calm=t_)(h:dP X b t)
  (l:(assignEach b X.env).length=n:=by rfl) (c:(assignEach b X.env).findIdx? (·.1)=s_:=by rfl):PG X (.Tuple b k pos)^fF X.K n t:=by
 intro f s Z H v u Q I r d;let#[a,m,o,p,q,d]:=d;subst o;cases r;let#[e,g,w,A]:=I.list p;rw[assign_Tuple];refine Db^oN ?_;unfold unpack;rw[c,l,show n=e.toArray.size by rw[iy,←g.length,q]];refine Db^jb^P9 (I.ok.hd j) w.isList λx i y=>?_;have z:Inv X f Z H {s with heap:=x,toks:=i}:=I.kept (t':=i) y;exact h f _ Z H m _ Q z (by simpa using g) d
end
end L2
namespace Dp
open L2
section
variable {X:Cx}{es:v_ Expr}{pos:Pos}
def am(k:Nat)(bs:v_ D->v_ Slot->(v_ Slot->Prop)->Prop):BW:=λd b P=>match d with
 |.lst a=>a.length=k/\bs a b P
 |_=>False
def Z2{bs:v_ D->v_ Slot->(v_ Slot->Prop)->Prop}{k:Nat}{j:Nat}(f:X.calm=t_)(h:fu X es bs)(i:(assignEach es X.env).length=k:=by rfl)(b:(assignEach es X.env).findIdx? (·.1)=s_:=by rfl):DG X (.Tuple es j pos)^am k bs:=by
 let#[g,l,m]:=h;refine#[_,ZR f l i b,λC M H n o Z d v P Q R h w q=>?_];cases d with
 |lst p=>
  let#[a,c,rfl,r,e]:=h;exact#[a,c,rfl,r.sq,by rw[e.length]; exact w.1,m C M H n o Z p c P Q R e w.2 q]
 |_=>exact w.elim
end
def EM(a:v_ Str):v_ V:=a.map V.str
theorem GX{K:Frag}{M:Ch->Prop}{H:Hp}:∀{a:v_ Str}{b:v_ V},Ats K M H (a.map D.str) b->b=EM a/\∀x∈a,x.length<=sizeLine
 |[],b,h=>#[h,λx c=>by cases c]
 |x::a,b,h=>by
  let#[v,r,rfl,#[rfl,d],f]:=h;let#[rfl,g]:=GX f;exact#[rfl,λy i=>(UF.mp i).elim (λe=>by rw[e]; exact d)^g y]
theorem Fb{K:Frag}{M:Ch->Prop}{H:Hp}:∀{a:v_ Str},(∀x∈a,x.length<=sizeLine)->Ats K M H (a.map D.str)^EM a
 |[],_=>rfl
 |x::a,h=>#[_,_,rfl,#[rfl,h x Op],Fb λy b=>h y^TW _ b]
def US(c:DW)(P:v_ Str->v_ Str->Nat->Prop):v_ D->v_ Str->v_ Str->Nat->Prop
 |[],a,b,n=>P a b n
 |d::f,a,b,n=>c n [.ow^.lst^b.map .str,.fd,.sh d] λe g=>∃(k:Nat) (x:Str),e=.int (k:Int)/\b[k]?=P3 x/\US c P f (a++[x]) (b.eraseIdx k) g
def aG(i f:Nat)(c:EW)(h:DW)(b:BW):Ad:=λj n a=>∃d:v_ Str,a[i]?=P3^.ow^.lst^d.map .str/\a[f]?=P3 .fd/\d.length<=1000/\c n a λg k=>g.length<=1000 /\
 US h (λe l m=>b (.lst^e.map .str) (a.set i^.ow^.lst^l.map .str) λo=>j.nx m o) g [] d k
theorem K6:∀(a:v_ Str) (k:Nat),(EM a).eraseIdx k=EM^a.eraseIdx k
 |[],k=>by cases k <;>rfl
 |y::a,0=>rfl
 |y::a,k+1=>by
  show V.str y::(EM a).eraseIdx k=V.str y::EM^a.eraseIdx k;rw[K6]
def QI(a:v_ Str):(EM a).length=a.length:=FM ..
def Rel.putV{K:Frag}{C:Fm}{M:Ch->Prop}{H:Hp}{n:Nat}{w:v_ Slot}{Z:L2.St}{l:Ch}{o:HO}(R:Rel K C M H n w Z)(x:C.V l)(E:¬C.U l)(F:C.H0 l=s_)(G:∀(i:Nat) (d:D),w[i]?≠P3^.br d)(I:C.zH=[])(J:C.kp=[])(L:∀y,H l≠P3^.tup y):Rel K C M (BQ H l o) n w Z:=by
 have N:=R.vM l x;have k:Pres M H M^BQ H l o:=#[λb c e z=>by rw[Ah λq=>z^by rw[q]; exact N]; exact e,λ_ z=>.inl z,λb y e=>by rw[Ah λq=>L y^by rw[←q]; exact e]; exact e];refine#[R.len,R.sub,λb z=>?_,λb c e=>?_,R.fU,R.uV,R.vM,R.feed.pres k λf c O e=>?_,λj s q=>?_,λp m=>(by rw[I]at m; cases m),R.br0,R.new,R.two,λp m=>(by rw[J]at m; cases m)]
 .by_cases B:b=l
  .exact#[o,by rw[B,An]]
  .let#[c,e]:=R.dom b z
   exact#[c,by rw[Ah B]; exact e]
 .let#[P,Q,r]:=R.ext b c e
  exact#[P,by rw[Ah λz=>by rw[z,F]at e; cases e]; exact Q,r]
 .rw[Ah λz=>E^by rw[←z]; exact R.fU f O]
  exact e
 .have t:=R.sl j s q
  cases s with
  |no=>trivial
  |sh d=>let#[v,g,h]:=t; exact#[v,g,h.pres k]
  |br d=>exact absurd q^G j d
  |fd=>exact t
  |ow d=>
   let#[a,g,h,u,A]:=t;exact#[a,g,h,u,A.pres k λc e=>by rw[Ah λz=>u^by rw[z]; exact x]; exact e]
  |lt a d=>
   let#[g,h,u,A]:=t;exact#[g,h,u,A.pres k λc e=>by rw[Ah λz=>u^by rw[z]; exact x]; exact e]
  |ex a S T W=>let#[g,h]:=t; exact#[g,h.pres k]
section
variable {X:Cx}{κ zR:Kd}{tg tg2 iter e:Expr}{sc:Scope}{pos cp p apos cpos:Pos}{x:Str}{src:EW}{b:BW}{we:DW}{i f:Nat}
def Zx(hc:X.calm=t_)(Y:v_ Str)(hi:DI X tg2 iter src)(c2:∀A C s H B,PG (A_ X sc Y A C s H B) tg2^Gw 2)(I:∀A C s H B,PE (A_ X sc Y A C s H B) (.Name x p)^CC 0)(he:∀A C s H B,DE (A_ X sc Y A C s H B) e zR we)(hg:DG X tg b)
  (hB:IJ sc X.env.scope X.N Y [P3 i,P3 f,s_]=t_)
  (b4:∀A C s H B,PE (A_ X sc Y A C s H B) (.Name x p)^CC 0->∀t,PE (A_ X sc Y A C s H B) e t->PE (A_ X sc Y A C s H B) (.Call (.Attribute (.Name x p) "pop" apos) [e] [] cpos)^iD X.K "list" XA (CC 0)^QF t Wi)
  (a7:∀x,foldedSetIterable iter X.env x=pure x:=by intro _; rfl)
  (hs:swapsWithSole [tg] (.ListComp (.Call (.Attribute (.Name x p) "pop" apos) [e] [] cpos) [#[tg2,iter,[],0]] sc cp) pos.line X.env=pure u_:=by rfl) (hw:swappedStores [tg] (.ListComp (.Call (.Attribute (.Name x p) "pop" apos) [e] [] cpos) [#[tg2,iter,[],0]] sc cp) X.env=pure s_:=by rfl)
  (h1:(assignEach [tg] X.env).map (·.2)=[assign tg X.env]:=by rfl):
  DS X κ (.Assign [tg] (.ListComp (.Call (.Attribute (.Name x p) "pop" apos) [e] [] cpos) [#[tg2,iter,[],0]] sc cp) pos) (aG i f src we b):=by
 let#[wi,a1,a2]:=hi;let#[g,g1,g2]:=hg;refine#[_,I0 (UL hc Y [P3 i,P3 f,s_] a1 hB a7) g1 hs hw h1,λC M H n ρ Z D2 E R L w=>?_];let#[xs,a8,c3,c4,w]:=w;refine a2 C M H n ρ Z _ _ R w λJ H1 D n1 e1 f1 y w1=>?_;let#[e7,w1]:=w1;have u:=R.step e1 f1;intro l hl a9 A Ca s0 H0 B;let#[te,c5,c6]:=he A Ca s0 H0 B;let#[a,ea,ma,c7,e9,T,b5]:=u.sl i _ a8;let#[rfl,b6]:=GX b5;let#[c8,c9]:=u.new i _ a a8 rfl ea;let#[fd,ef,eF]:=u.sl f _ c3;have b0:a≠l:=λz=>by rw[z,hl]at T; cases T
 have d0:C.H0 l=s_:=u.ext.free hl
 have b7:¬C.U l:=λz=>by
  let#[o,z]:=u.udom l z;rw[hl]at z; cases z
 have d1:¬M l:=λz=>by
  let#[o,z]:=u.dom l z;rw[hl]at z; cases z
 generalize b1:(λb=>M b\/b=l)=M';have d2:M' l:=by rw[←b1]; exact .inr rfl
 have M'of:∀b,M b->M' b:=λb z=>by rw[←b1]; exact .inl z
 have O:∀b,M' b->M b\/b=l:=λb z=>by rw[←b1]at z; exact z
 have f0:∀v,(Cc [P3 i,P3 f,s_] Z)[0]?=P3 v->v=(Z[i]?).getD s_:=λv z=>by cases z; rfl
 exists Gw 2,_,_,λk m zZ Q=>m=D.length - k/\k<=D.length/\∃n' s2 v2 c h,Rel X.K #[C.M0,C.F,C.U,λb=>C.V b\/b=l,C.H0,[],[]] M' Q n' [.ow^.lst^h.map .str,.fd,s2] zZ/\(s2=.no\/∃d,s2=.sh d)/\zZ=[P3^.ref a,P3^.ref fd.1,v2]/\Q l=P3^.lst^EM c/\c.length<=k/\(∀x∈c,x.length<=sizeLine)/\(∀x∈h,x.length<=sizeLine)/\h.length<=1000 /\
   (∀b o,H1 b=P3 o->b≠a->∃o',Q b=P3 o'/\(¬C.U b->o'=o)/\∀W,o=.tup W->o'=o)/\US we (λc h n2=>b (.lst^c.map .str) (ρ.set i^.ow^.lst^h.map .str) λzT=>D2.nx n2 zT) (D.drop k) c h n',c2 A Ca s0 H0 B,UJ,b4 A Ca s0 H0 B (I A Ca s0 H0 B) te c5,#[D.length,by simp,i6 _,n1,.no,s_,[],xs,?_]
 .have G:Grow H1^BQ H1 l^.lst []:=BE hl
  have pr:Pres M H1 M'^BQ H1 l^.lst []:=#[λb o e _=>G.all b o e,λb z=>(O b z).elim .inl λz=>.inr (by rw[z]; exact hl),λb W e=>G.all b _ e]
  have d3:Cc [P3 i,P3 f,s_] Z=[P3^.ref a,P3^.ref fd.1,s_]:=by
   show [(Z[i]?).getD s_,(Z[f]?).getD s_,s_]=_;rw[ea,ef]
  rw[d3];refine#[#[rfl,λb z=>M'of b^u.sub b z,λb z=>?_,u.ext.trans G.ext,u.fU,λb z=>.inl^u.uV b z,λb z=>z.elim (λz=>M'of b^u.vM b z) λz=>(by rw[z]; exact d2),f1.pres pr λf o _ e=>G.all f.1 o e,?_,(λp hp=>by cases hp),?_,?_,?_,(λp hp=>by cases hp)],.inl rfl,rfl,An,i6 _,(λx I=>by cases I),b6,c4,λb o e nb=>#[o,G.all b o e,λ_=>rfl,λ_ _=>rfl],w1]
  .rcases O b z with z|z
   .let#[o,z]:=u.dom b z
    exact#[o,G.all b o z]
   .rw[z]
    exact#[_,An]
  .intro j s q
   match j,q with
   |0,q=>cases q; exact#[a,rfl,M'of a ma,λz=>z.elim c7 b0,EM xs,G.all _ _ T,Fb b6]
   |1,q=>cases q; exact#[fd,rfl,eF]
   |2,q=>cases q; trivial
   |j+3,q=>simp at q
  .intro j d b q
   match j,q with
   |0,q=>cases q
   |1,q=>cases q
   |2,q=>cases q
   |j+3,q=>simp at q
  .intro j s b q o z
   match j,q,z with
   |0,q,z=>cases z; exact#[c8,c9]
   |1,q,z=>cases q; cases o
   |2,q,z=>cases q; cases o
   |j+3,q,z=>simp at q
  .intro j1 j2 s1 s2 b q1 o1 q2 o2 z1 z2
   have P:∀(j:Nat) (s:Slot),([.ow^.lst^xs.map .str,.fd,.no]:v_ Slot)[j]?=P3 s->s.owns=t_->j=0:=λj s q o=>by
    match j,q with
    |0,q=>rfl
    |1,q=>cases q; cases o
    |2,q=>cases q; cases o
    |j+3,q=>simp at q
   rw[P j1 s1 q1 o1,P j2 s2 q2 o2]
 .rintro k m zZ Q ⟨rfl,hk,n',s2,v2,c,h,R',f2,rfl,b8,f3,a0,b2,f5,r,w'⟩
  have pr:Pres M H1 M' Q:=#[λb o e nb=>by
   let#[o',q1,q2,_]:=r b o e λz=>nb (by rw[z]; exact ma);rw[q1,q2 λz=>nb^u.vM b^u.uV b z],λb z=>(O b z).elim .inl λz=>.inr (by rw[z]; exact hl),λb W e=>by
   let#[o',q1,_,q2]:=r b _ e λz=>by rw[z,T]at e; cases e
   rw[q1,q2 W rfl]]
  by_cases b3:k<D.length
  .have ed:D.drop k=D[k]::D.drop (k+1):=kM b3
   rw[ed]at w';let#[go,yl]:=(y k M' Q pr R'.dom).1 D[k] (No b3);refine .inr #[go,λx2 H2 hy=>?_];let#[G,d5]:=yl x2 H2 hy;have R2:=R'.step G.ext^R'.feed.grow G;have R3:Rel X.K #[C.M0,C.F,C.U,λb=>C.V b\/b=l,C.H0,[],[]] M' H2 n' [.ow^.lst^h.map .str,.fd,.sh D[k]] [P3^.ref a,P3^.ref fd.1,P3 x2]:=R2.set (i:=2) d5;let#[a3,d6,_,_,d7,d8,e8]:=R3.sl 0 _ rfl;cases d6;exists .ref a,rfl,.inl #[rfl,d7,.inl^.inl d8];refine c6 _ M' H2 n' _ _ _ _ R3 w' λv H4 d4 n4 e4 f4 r4 p4=>?_;let#[S,xx,rfl,b9,p4]:=p4;have R4:=R3.step e4 f4;let#[a4,d9,m4,f6,f7,e0,c0]:=R4.sl 0 _ rfl;cases d9;let#[rfl,_]:=GX c0;let#[a9,e2]:=Uf.mp b9;refine#[a,EM h,(S:Int),S,.str xx,rfl,by rw[L3 r4],e0,by lk,by lk,NZ (by rw[QI]; exact a9),by unfold EM; rw[ir,b9]; rfl,?_];have a6:∀x∈h.eraseIdx S,x.length<=sizeLine:=λx I=>b2 x^List.mem_of_mem_eraseIdx I
   have R5:Rel X.K #[C.M0,C.F,C.U,λb=>C.V b\/b=l,C.H0,[],[]] M' (BQ H4 a^.lst^(EM h).eraseIdx S) n4 [.ow^.lst^(h.eraseIdx S).map .str,.fd,.sh D[k]] [P3^.ref a,P3^.ref fd.1,P3 x2]:=
    R4.mut (i:=0) (e:=.lst^(h.eraseIdx S).map .str) rfl rfl (o:=.lst^(EM h).eraseIdx S) #[(EM h).eraseIdx S,An,by rw[K6]; exact Fb a6]
   have l4:H4 l=P3^.lst^EM c:=e4.keep (G.all _ _ b8) b7;have f8:=List.length_eraseIdx_le h S;refine#[EM c,by rw[Ah^jy b0]; exact l4,by rw[QI,jX]; omega,D.length - (k+1),by lk,rfl,b3,n4,.sh D[k],P3 x2,c++[xx],h.eraseIdx S,?_,.inr #[_,rfl],rfl,?_,by rw[eq,jI]; omega,λx I=>?_,a6,by lk,λb o eb nb=>?_,p4]
   .refine R5.putV (.inr rfl) b7 d0 (λj d q=>?_) rfl rfl (λW z=>by rw[Ah^jy b0,l4]at z; cases z)
    match j,q with
    |0,q=>cases q
    |1,q=>cases q
    |2,q=>cases q
    |j+3,q=>simp at q
   .rw[An]
    unfold EM;rw[jP];rfl
   .rcases i9.mp I with I|I
    .exact a0 x I
    .rw[Re.mp I,←e2]; exact b2 _^jv a9
   .have e3:b≠l:=λz=>by rw[z,hl]at eb; cases eb
    let#[o1,q1,r1,t1]:=r b o eb nb;let#[o2,q2,r2,t2]:=e4 b o1^G.all _ _ q1;exact#[o2,by rw[Ah e3,Ah nb]; exact q2,λnu=>(r2 nu).trans^r1 nu,λW z=>(t2 W^(t1 W z).trans z).trans^t1 W z]
  .have ek:k=D.length:=by lk
   subst ek;rw[lh]at w';refine .inl #[(y _ M' Q pr R'.dom).2 (Rs _),?_];let#[a5,e5,_,_,f9,e6,c1]:=R'.sl 0 _ rfl;cases e5;let#[rfl,_]:=GX c1
   have ext:Ext C.U (BQ H1 a^.lst^EM h) Q:=λb o eb=>by
    by_cases hb:b=a
    .subst hb
     rw[An]at eb;cases eb;exact#[_,e6,λ_=>rfl,λ_ _=>rfl]
    .rw[Ah hb]at eb
     exact r b o eb hb
   have Ro:=(u.mut a8 ea (e:=.lst^h.map .str) (o:=.lst^EM h) #[EM h,An,Fb b2]).step ext (R'.feed.pres (Pres.less M'of) λ_ _ _ z=>z);exact g2 C M Q n' _ Z (.lst^c.map .str) (.ref l) _ _ Ro #[l,EM c,rfl,#[d1,b8],Fb a0] w' λzY zZ R' w'=>L.nx M Q n' zY zZ R' w'
end
end Dp
namespace Nt
open L2 Dp
def minus(N:Net)(S:v_ Aq):Net:=#[N.ps,N.ts.filter λv=>decide (v∉S)]
def P4(N:Net)(t b:Int)(u:Aq)(m:Nat):Prop:=∀S:v_ Aq,S.length<=m->FO (minus N S) t b u
noncomputable def X6(N:Net)(t b:Int)(u:Aq)(m:Nat):Bool:=@decide (P4 N t b u m)^lF _
def hldB_iff{N:Net}{t b:Int}{u:Aq}{m:Nat}:X6 N t b u m=t_↔P4 N t b u m:=by
 unfold X6;exact @decide_eq_true_iff _^lF _
noncomputable def A4(N:Net)(t b:Int)(m:Nat):v_ Aq->v_ Aq->v_ Aq
 |a,[]=>a
 |a,u::r=>if X6 (sub N a) t b u m=t_ then A4 N t b m a r else A4 N t b m (a++[u]) r
def eY:w_^v_ Aq->D
 |some l=>.lst^l.map AS
 |none=>.non
def fresh(u:Aq):Prop:=UZ u.a/\UZ u.b/\1<=u.len/\u.len<=1000000
def Over(c:v_ Aq):v_ Str->v_ Aq->Prop
 |[_],[]=>True
 |x::y::r,u::d=>u∈c/\((u.a=x/\u.b=y)\/(u.b=x/\u.a=y))/\Over c (y::r) d
 |_,_=>False
def DZ:W2:=λa n P=>∃(M:Net) (z:D) (S:v_ Aq),a=[.sh^enc M,.sh z]/\E5 z=P3^S.map AS/\okN M/\(∀v∈S,v∈M.ts)/\P (enc^minus M S) n
def Mc:W2:=λb n P=>∃(N:Net) (w:v_ Str) (d:Int),b=[.sh^enc N,.sh^.tup^w.map .str]/\okN N/\walk N w d/\w.length<=30/\(∀x∈w,x∈N.ps)/\∀a:v_ Aq,Over N.ts w a->a.length<=30->P (.lst^a.map AS) n
def brkL(N:Net)(t b:Int)(u:Aq)(m:Nat)(l:v_ Aq):Prop:=l.Nodup/\(∀v∈l,v∈N.ts)/\l.length<=m/\¬FO (minus N l) t b u
def brkL.not{N:Net}{t b:Int}{u:Aq}{m:Nat}{l:v_ Aq}(h:brkL N t b u m l):¬P4 N t b u m:=λz=>h.2.2.2^z l h.2.2.1
def OL(j:Nat):W2:=λc n P=>∃(N:Net) (u:Aq) (t b:Int) (m:Nat),c=[.sh^enc N,.sh^.tup [.int t,.int b],.sh^AS u,.sh^.int (m:Int)]/\(m<=j/\m<=2)/\okN N/\u.a∈N.ps/\u.b∈N.ps/\fresh u/\FX t b/\∀o:w_^v_ Aq,(o=s_->P4 N t b u m)->(∀l,o=P3 l->brkL N t b u m l)->P (eY o) n
def Ps:W2:=λc n P=>∃(N:Net) (t b:Int) (m:Nat),c=[.sh^enc N,.sh^.tup [.int t,.int b],.sh^.int (m:Int)]/\okN N/\FX t b/\m<=2/\∀a:v_ Aq,a.Perm N.ts->Cu a->P (enc^sub N^A4 N t b m [] a) n
def Mg:W2:=λc n P=>∃(N:Net) (t b:Int) (m:Nat),c=[.sh^enc N,.sh^.tup [.int t,.int b],.sh^.int (m:Int)]/\okN N/\FX t b/\m<=2/\∀a:v_ Aq,a.Perm N.ts->Cu a->P (enc^sub N^A4 N t b m [] a) n
def cv(a:v_ Aq)(m:Nat)(L:v_^v_ Aq):Prop:=(∀S∈L,S.length<=m/\S.Nodup/\∀v∈S,v∈a)/\∀S:v_ Aq,S.length<=m->∃b∈L,∀v∈a,v∈S↔v∈b
def P2:W2:=λb n P=>∃(z:D) (a:v_ Aq) (m:Nat),b=[.br z,.sh^.int (m:Int)]/\z=.lst^a.map AS/\a.length<=60/\a.Nodup/\m<=2/\∀L:v_^v_ Aq,cv a m L->P (.lst^L.map λS=>.lst^S.map AS) n
def Ey:W2:=λd n P=>∃(N:Net) (c:v_ Aq) (u:Aq) (t b:Int) (m:Nat),d=[.br^.lst^c.map AS,.sh^.tup [.int t,.int b],.sh^AS u,.sh^.int (m:Int)]/\okN N/\(∀v∈c,v∈N.ts)/\c.Nodup/\c.length<=60/\u.a∈N.ps/\u.b∈N.ps/\FX t b/\m<=2/\∀o:w_^v_ Aq,(o=s_->P4 (sub N c) t b u m)->(∀l,o=P3 l->brkL (sub N c) t b u m l)->P (eY o) n
def P0:W2:=λb n P=>b=[.fd]/\200<=n/\∀(N:Net) (a:Nat),okN N->N.ps.length<=24->n - 200<=a->P (enc N) a
def Mi:W2:=λb n P=>b=[.fd]/\200<=n/\∀(N:Net) (a:Nat),okN N->N.ps.length<=24->n - 200<=a->P (enc N) a
def P1:W2:=λa n P=>a=[.fd]/\1<=n/\∀t b:Int,FX t b->P (.tup [.int t,.int b]) (n - 1)
def Gz:Ad:=(Af (BA 2^AW Me^AD (AH^AC 0) AY)
 (Ap^BU [P3 2,s_,s_] (Mj^AE (AC 1)^AE (Y4 L9 (AC 1) (Gh^wC^D.int 1) DA) AQ) (B3 2^Ab (AT 1)^Ab (AT 2) BN) CY^Az^AE (Bl RE^AE (AC 1)^AE (AC 2) AQ)^AE (Bl RG^AE (AC 1)^AE (AC 2) AQ)^AE (Ac Bx (Ac Bx (AC 0)^AC 1)^AC 2) AQ))
def Dt:Ad:=(Af (CU 3^Bq AQ)
 (Af (CZ (Av^AW EV^AD (AH^Ac A5 (AC 0)^wC^D.int 1) AY) (AT 4)^A8 (AX^Ac (C9 t_) (AW (OL 2)^AD (AH^AW GF^AD (AH^AC 0)^AD (B6^As 3) AY)^AD (AH^AC 1)^AD (AH^AC 4)^AD (AH^AC 2) AY)^wC D.non) (Kw 3 "list" Fx^AE (AC 4) AQ) Au)
 (Ap^AW GF^AD (AH^AC 0)^AD (B6^As 3) AY)))
def FV:Ad:=(Af (CU 2^Bq^AE (Bq AQ) AQ)
 (Af (A8 (AX^Ac (f2 λi j=>D.bl (decide (j<i))) (AC 1)^wC^D.int 0) (CU 2^Ac fO (As 2)^BU [s_] (Av^As 0) (AT 0) CY^Bq^AE (AC 0) AQ) Au)
 (Af (A8 (AX^Ac (f2 λi j=>D.bl (decide (j<i))) (AC 1)^wC^D.int 1) (CZ (FZ^AE (Bl CS^AE (As 0) AQ) AQ) (AT 3)^Kw 2 "list" Zt^AE (BU [P3 0,P3 3,s_] (FZ^AE (AC 3) AQ) (AT 2) CY^Bq^AE (Ac A5 (As 0)^AC 1)^AE (Ac A5 (As 0)^AC 2) AQ) AQ) Au)
 (JZ 2))))
def EK:Ad:=(Af (CZ (Av^AW P2^AD (B6^As 0)^AD (AH^AC 3) AY) (AT 4) (Af (BA 5^WU (AW Ex^AD (B6^BU [P3 4,s_] (Av^As 0) (AT 1) (AX^Ac (Gd t_) (AC 1)^AC 0)^AC 1)^AD (AH^Ac A5 (AC 2)^wC^D.int 0) AY)^Ac A5 (AC 2)^wC^D.int 1)
 (A8 (B7 (AX^Ac (C9 u_) (AC 5)^wC D.non)^BP^AX^AW Cy^AD (AH^AC 5)^AD (AH^AC 1)^AD (AH^Ac A5 (AC 2)^wC^D.int 2) AY) (Ap^AC 4) Au)))
 (Ap^wC D.non))
def FS:Ad:=(Af (CU 3^Bq AQ)
 (Af (CZ (Av^AW EV^AD (AH^Ac A5 (AC 0)^wC^D.int 1) AY) (AT 4)^A8 (AX^Ac (C9 t_) (AW Ey^AD (B6^As 3)^AD (AH^AC 1)^AD (AH^AC 4)^AD (AH^AC 2) AY)^wC D.non) (Kw 3 "list" Fx^AE (AC 4) AQ) Au)
 (Ap^Az^AE (Ac A5 (AC 0)^wC^D.int 0)^AE (Bl BH^AE (Bl CI^AE (As 3) AQ) AQ) AQ)))
def GA:Ad:=(Af (BA 1^AW GG^AD (BR 0)^AD (AH^Ac CV (wC^D.int 5)^Ac FP (AW B5^AD (BR 0)^AD (AH^wC^D.int 3) AY)^AW B5^AD (BR 0)^AD (AH^wC^D.int 2) AY) AY)
 (Af (BA 2^AW B5^AD (BR 0)^AD (AH^wC^D.int 4) AY)
 (Af (BA 3^Ac A5 (Bq^AE (wC^D.int 12)^AE (wC^D.int 12)^AE (wC^D.int 12)^AE (wC^D.int 3) AQ)^AW B5^AD (BR 0)^AD (AH^wC^D.int 4) AY)
 (Af (CU 4^Bq AQ)
 (Af (CZ (Av^AC 1) (AT 5) (CZ (Av^AC 1) (AT 6) (A8 (HI (AX^Ac Gc (AC 5)^AC 6)^AX^Ac (f2 λi j=>D.bl (decide (j<i))) (AW B5^AD (BR 0)^AD (AH^AC 3) AY)^wC^D.int 0) (Af (BA 7^Ac A5 (Bq^AE (wC^D.int 7)^AE (Ac Br (wC^D.int 1)^AW B5^AD (BR 0)^AD (AH^wC^D.int 2) AY)^AE (Ac CV (Ac (YF NO λi j=>D.int (i ^ j.toNat)) (wC^D.int 10)^wC^D.int 6)^AW B5^AD (BR 0)^AD (AH^wC^D.int 2) AY)^AE (Ac Br (wC^D.int 1)^AW B5^AD (BR 0)^AD (AH^wC^D.int 9) AY) AQ)^AC 2)
 (Kw 4 "list" Fx^AE (Az^AE (AC 5)^AE (AC 6)^AE (AC 7) AQ) AQ)) Au)))
 (Ap^Az^AE (AC 1)^AE (Bl BH^AE (Bl CI^AE (As 4) AQ) AQ) AQ))))))
def Eu:Ad:=(Af (CU 1^Bl L_^AE (AW GG^AD (BR 0)^AD (AH^wC^D.int 6) AY) AQ)
 (Af (aG 1 0 (FZ^AE (wC^D.int 6) AQ) (AW B5^AD (BR 1)^AD (AH^Bl CS^AE (As 0) AQ) AY)^am 6^Ab (AT 2)^Ab (AT 3)^Ab (AT 4)^Ab (AT 5)^Ab (AT 6)^Ab (AT 7) BN)
 (Af (BA 8^Ac Br (wC^D.int 2)^AW B5^AD (BR 0)^AD (AH^wC^D.int 3) AY)
 (Af (BA 9^Bq^AE (Az^AE (AC 2)^AE (AC 3)^AE (AC 8) AQ)^AE (Az^AE (AC 3)^AE (AC 4)^AE (AC 8) AQ)^AE (Az^AE (AC 4)^AE (AC 5)^AE (AC 8) AQ)^AE (Az^AE (AC 5)^AE (AC 6)^AE (AC 8) AQ)^AE (Az^AE (AC 6)^AE (AC 7)^AE (AC 8) AQ)^AE (Az^AE (AC 2)^AE (AC 4)^AE (Ac FP (wC^D.int 3)^AC 8) AQ)^AE (Az^AE (AC 5)^AE (AC 7)^AE (Ac FP (wC^D.int 3)^AC 8) AQ) AQ)
 (Af (BA 9^Ac Br (AC 9)^Bq^AE (Az^AE (AC 3)^AE (AC 6)^AE (Ac CV (Ac FP (wC^D.int 4)^AC 8)^wC^D.int 1) AQ)^AE (Az^AE (AC 2)^AE (AC 7)^AE (Ac FP (wC^D.int 4)^AC 8) AQ) AQ)
 (Ap^Az^AE (Bl BH^AE (Bl S1^AE (Bq^AE (AC 2)^AE (AC 3)^AE (AC 4)^AE (AC 5)^AE (AC 6)^AE (AC 7) AQ) AQ) AQ)^AE (Bl BH^AE (Bl CI^AE (BU [s_,s_,s_] (Av^AC 9) (B3 3^Ab (AT 0)^Ab (AT 1)^Ab (AT 2) BN) CY^Az^AE (Bl RE^AE (AC 0)^AE (AC 1) AQ)^AE (Bl RG^AE (AC 0)^AE (AC 1) AQ)^AE (AC 2) AQ) AQ) AQ) AQ))))))
def GB:Ad:=(Ap^Ac A5 (Bq^AE (Az^AE (wC^D.int 2)^AE (wC^D.int 1) AQ)^AE (Az^AE (wC^D.int 3)^AE (wC^D.int 1) AQ)^AE (Az^AE (wC^D.int 5)^AE (wC^D.int 2) AQ)^AE (Az^AE (Ac (YF NO λi j=>D.int (i ^ j.toNat)) (wC^D.int 10)^wC^D.int 6)^AE (wC^D.int 1) AQ)^AE (Az^AE (wC^D.int 9)^AE (wC^D.int 2) AQ)^AE (Az^AE (wC^D.int 3)^AE (wC^D.int 2) AQ)^AE (Az^AE (wC^D.int 4)^AE (wC^D.int 1) AQ)^AE (Az^AE (wC^D.int 1000)^AE (wC^D.int 999) AQ)^AE (Az^AE (wC^D.int 2)^AE (wC^D.int 1) AQ) AQ)^AW B5^AD (BR 0)^AD (AH^wC^D.int 9) AY)
def G0(Wbrk:W2):Ad:=(Af (BA 4^AW Th^AD (AH^AC 0)^AD (AH^AC 1)^AD (AH^AC 2) AY)
 (Af (A8 (AX^Ac (C9 u_) (AC 4)^wC D.non) (Ap^Bq AQ) Au)
 (Af (A8 (AX^Ac (Ge u_) (AC 3)^wC^D.int 0) (Ap^wC D.non) Au)
 (Af (CZ (Av^AW Mc^AD (AH^AC 0)^AD (AH^AC 4) AY) (AT 5) (Af (BA 6^AW Wbrk^AD (AH^AW DZ^AD (AH^AC 0)^AD (AH^Bq^AE (AC 5) AQ) AY)^AD (AH^AC 1)^AD (AH^AC 2)^AD (AH^Ac CV (AC 3)^wC^D.int 1) AY)
 (A8 (AX^Ac (C9 t_) (AC 6)^wC D.non) (Ap^Ac Br (Bq^AE (AC 5) AQ)^AC 6) Au)))
 (Ap^wC D.non)))))
def C6{N:Net}(a:okN N)(S:v_ Aq):okN^minus N S:=#[R8 a.1 (λt h=>(jm.mp h).1)^a.1.trise.filter _,a.2.1,iz (kB _ _) a.2.2]
def minus_mem{N:Net}{S:v_ Aq}{v:Aq}:v∈(minus N S).ts↔v∈N.ts/\v∉S:=by
 show v∈N.ts.filter _↔_;rw[jm,decide_eq_true_eq]
def GQ(N:Net):minus N []=N:=by
 unfold minus;rw[List.filter_eq_self.mpr λv _=>decide_eq_true ip]
def Q1{N:Net}{S S':v_ Aq}(h:∀v∈N.ts,v∈S↔v∈S'):minus N S=minus N S':=by
 unfold minus;rw[kF λv a=>by rw[decide_eq_decide.mpr^not_congr^h v a]]
def hld_zero{N:Net}{t b:Int}{u:Aq}:P4 N t b u 0↔FO N t b u:=by
 constructor
 .intro h
  have:=h []^Rs _
  rw[GQ]at this;exact this
 .intro h S a
  rw[kj.mp^Nat.le_zero.mp a,GQ];exact h
def Zc{N:Net}(ok:N.Ok){t b:Int}(i:1<=b){u:Aq}{d:Int}(c:Wk N u.a u.b d)(h:d*b<=u.len*t):FO N t b u:=by
 let#[e,f,g]:=Wk.least ok _ (Rs _) c
 have:=Int.mul_le_mul_of_nonneg_right g (show 0<=b by lk)
 exact#[e,f,by lk]
theorem Ts{N:Net}:∀{r:v_ Str}{x y:Str}{d:Int},walk N (x::r) d->(x::r).getLast?=P3 y->∀{s:Str}{e:Int},Wk N s x e->Wk N s y (e+d)
 |[],x,y,d,h,a,s,e,b=>by
  have c:d=0:=h
  have:x=y:=by simpa using a
  subst c this;rw[Int.add_zero];exact b
 |z::r,x,y,d,h,a,s,e,b=>by
  let#[l,i,f,g,rfl]:=h
  have:=Ts g (by simpa using a)^Wk.snoc b f
  rw[Int.add_assoc]at this;exact this
def X5{N:Net}(f:okN N){t b:Int}(E:1<=b){u:Aq}{m:Nat}{w:v_ Str}{i:v_ Aq}(F:Way N u.a u.b^P3 w)(G:FO N t b u){j:Int}(l:walk N w j)(n:∀M:Net,(∀v∈i,v∈M.ts)->walk M w j)(o:∀v∈i,v∈N.ts)(h:∀v∈i,P4 (CW N v) t b u m):P4 N t b u (m+1):=by
 intro S Q
 by_cases c:∃v∈i,v∈S
 .let#[v,k,g]:=c
  have e:minus N S=minus (CW N v) (S.filter λx=>decide (x≠v)):=by
   unfold minus CW;rw[oK]
   congr 1
   refine kF λx _=>?_;rw[je,iq,decide_eq_true_eq,decide_eq_true_eq,decide_eq_true_eq,jm,decide_eq_true_eq];constructor
   .intro z
    exact#[λq=>z q.1,λq=>z^by rw[q]; exact g]
   .rintro⟨H,I⟩ q
    exact H #[q,I]
  rw[e];refine h v k _ ?_
  have:(S.filter λx=>decide (x≠v)).length<S.length:=List.length_filter_lt_length_iff_exists.mpr #[v,g,λz=>of_decide_eq_true z rfl]
  omega
 .let#[d,r,rfl,J,p,y,_]:=F
  let#[K,A,B]:=G;have L:d=K:=y.unique A;subst L;have O:walk (minus N S) (u.a::r) j:=n (minus N S) λv k=>minus_mem.mpr #[o v k,λz=>c #[v,k,z]]
  have P:j=d:=by
   have C:=HH f.1 l (s:=0);rw[HH f.1 p (s:=0)]at C
   have:=iw C
   omega
  subst P;have D:=Ts O J^Wk.nil (N:=minus N S) (s:=u.a);rw[mr]at D;exact Zc (C6 f S).1 E D B
def RB{N:Net}{t b:Int}{u:Aq}{m:Nat}(h:P4 N t b u m):FO N t b u:=by
 have:=h []^i6 _
 rw[GQ]at this;exact this
def Wg{N:Net}(ok:N.Ok){x y:Str}{l:Int}(e:Ed N x y l):∃t∈N.ts,t.len=l/\((t.a=x/\t.b=y)\/(t.b=x/\t.a=y))/\(if decide (cs y<cs x)=t_ then y else x)=t.a/\(if decide (cs x<cs y)=t_ then y else x)=t.b:=by
 let#[t,c,f,d]:=e.tie ok;have lt:=(ok.tin t c).2.2.1;exists t,c,f,d
 rcases d with⟨rfl,rfl⟩|⟨rfl,rfl⟩
 .have:¬cs t.b<cs t.a:=λz=>k8 _^lE lt z
  exact#[by rw[decide_eq_false this,if_neg^by cbv],by rw[decide_eq_true lt,if_pos rfl]]
 .have:¬cs t.b<cs t.a:=λz=>k8 _^lE lt z
  exact#[by rw[decide_eq_true lt,if_pos rfl],by rw[decide_eq_false this,if_neg^by cbv]]
def YL{M:Net}{t:Aq}{x y:Str}(c:t∈M.ts)(h:(t.a=x/\t.b=y)\/(t.b=x/\t.a=y)):Ed M x y t.len:=by
 rcases h with⟨rfl,rfl⟩|⟨rfl,rfl⟩
 .exact(IE c).1
 .exact(IE c).2
theorem Over.mem{a:v_ Aq}:∀{w:v_ Str}{b:v_ Aq},Over a w b->∀u∈b,u∈a
 |[],_,h,_,_=>h.elim
 |[_],[],_,_,c=>nomatch c
 |[_],_::_,h,_,_=>h.elim
 |_::_::_,[],h,_,_=>h.elim
 |_::_::_,_::_,h,v,d=>(UF.mp d).elim (λe=>e▸h.1)^h.2.2.mem v
theorem Over.walk{N M:Net}(ok:N.Ok):∀{w:v_ Str}{b:v_ Aq}{d:Int},Over N.ts w b->walk N w d->(∀u∈b,u∈M.ts)->walk M w d
 |[],_,_,h,_,_=>h.elim
 |[_],[],_,_,c,_=>c
 |[_],_::_,_,h,_,_=>h.elim
 |_::_::_,[],_,h,_,_=>h.elim
 |x::y::r,u::b,d,#[i,f,j],#[l,e,k,c,m],g=>by
  have a:=Hy ok k;rw[Hy ok^YL i f]at a;cases a;exact#[u.len,e,YL (g u Op) f,j.walk ok c λv n=>g v^TW _ n,m]
def HF{N:Net}{v:Aq}:minus N [v]=CW N v:=by
 unfold minus CW
 congr 1
 exact kF λx _=>by simp
def Ls{N:Net}{v:Aq}{S:v_ Aq}:minus (CW N v) S=minus N (v::S):=by
 unfold minus CW;rw[oK]
 congr 1
 refine kF λx _=>?_;rw[je,iq,decide_eq_true_eq,decide_eq_true_eq,decide_eq_true_eq,UF];exact#[fun#[z1,z2] q=>q.elim z2 z1,λz=>#[λq=>z^.inr q,λq=>z^.inl q]]
def RC{N:Net}{t b:Int}{u v:Aq}{m:Nat}(h:P4 N t b u (m+1)):P4 (CW N v) t b u m:=λS a=>by
 rw[Ls];exact h (v::S)^lf a
section
variable {ss:v_ Slot}{n:Nat}{Pd:D->Nat->Prop}
def Oe(h:DZ ss n Pd):Jz (EE Pd) n (ss++Tk 0 .no):=by
 let#[M,z,S,rfl,f,a,g,p]:=h;have ok:=a.1;have k:=a.2.2
 have l:Cs z:=by
  cases z with
  |tup o=>cases f; exact(Bw ok g).1
  |lst o=>cases f; exact(Bw ok g).2
  |_=>cases f
 unfold Jz;refine#[_,AK (j:=1) rfl,by show(M.ts.map AS).length<=10000000; rw[FM]; omega,?_];refine CD (λd=>!((S.map AS).any λy=>C2 y d)) id (λi=>∃s,i=[.sh z,s]) _ _ _ _ ?_ #[_,rfl] ?_
 .rintro d q i m B C ⟨s,rfl⟩ r u
  let#[t,v,rfl]:=Sc.mp q;exists B_ ok v,l,_,f;exact CO (λc=>r _ #[_,rfl] c) λc=>u _ #[_,rfl]^jR.mpr c
 .rw[jB,lM]
  have e:(M.ts.map AS).filter (λd=>!((S.map AS).any λy=>C2 y d))=(minus M S).ts.map AS:=by
   rw[lA]
   congr 1
   refine kF λt _=>?_;show(!((S.map AS).any λy=>C2 y^AS t))=decide (t∉S);rw[Cv,decide_not]
  rw[e];have b:=C6 a S;refine#[M,_,(minus M S).ts,rfl,rfl,by have:=b.2.2; omega,λw x A=>?_];rw[K8 b.1 b.1.trise x A];exact p
def LU(h:Mc ss n Pd):Gz (EF Pd) n (ss++Tk 1 .no):=by
 let#[N,w,d,rfl,c,f,q,b,p]:=h;have ok:=c.1;unfold Gz;exists N,rfl,ok,by have:=c.2.1; omega,by have:=c.2.2; omega
 have s:∀(r:v_ Str) (x:Str) (d:Int) (a:v_ Aq) (g i:Slot),walk N (x::r) d->(∀y∈x::r,y∈N.ps)->
   (∀e:v_ Aq,Over N.ts (x::r) e->e.length=r.length->Pd (.lst^(a++e).map AS) n)->
   EG (B3 2^Ab (AT 1)^Ab (AT 2) BN) CY (Az^AE (Bl RE^AE (AC 1)^AE (AC 2) AQ)^AE (Bl RG^AE (AC 1)^AE (AC 2) AQ)^AE (Ac Bx (Ac Bx (AC 0)^AC 1)^AC 2) AQ) (λa u=>Pd (.lst a) u) (DM ((x::r).map .str)^r.map .str) (a.map AS) n [.sh^E4 N,g,i]:=by
  intro r
  induction r with
  |nil=>
   intro x d a g i f b h
   have:=h [] trivial rfl
   rw[jE]at this;exact this
  | cons y r v=>
   intro x d a g i f b h;let#[l,A,m,j,rfl]:=f;let#[t,B,C,E,F,G]:=Wg ok m;subst C;have H:=b x Op;exists rfl,rfl,x,y,rfl,x,y,rfl,_,_,_,Xl N.ts x,rfl,A9 x,NX H,_,_,_,.int t.len,rfl,A9 y,?_,z3
   .show Bi ((ED N.ts x).map λz=>.inr z.1) ((ED N.ts x).map λz=>.int z.2)^.inr y=_
    rw[KY]
    have:=Hy ok m
    unfold look at this;rw[this];rfl
   have I:D.tup [.str (if decide (y.cps.toList<x.cps.toList)=t_ then y else x),.str (if decide (x.cps.toList<y.cps.toList)=t_ then y else x),.int t.len]=AS t:=by
    show D.tup [.str (if decide (cs y<cs x)=t_ then y else x),.str (if decide (cs x<cs y)=t_ then y else x),.int t.len]=AS t;rw[F,G];rfl
   rw[I]
   have:=v y A (a++[t]) (.sh^.str x) (.sh^.str y) j (λz J=>b z^TW _ J) λe k o=>by
    have:=h (t::e) #[B,E,k]^by rw[iu,iu,o]
    rw[jS];exact this
   rw[jP]at this;exact this
 cases w with
 |nil=>exact f.elim
 | cons x r=>
  rw[iu]at q;exists _,_,(x::r).map .str,r.map .str,rfl,rfl,by show P3^Dp.cutD (D.str x::r.map .str) (P3 1) s_=_; rw[V4]; rfl,?_
  .unfold DM
   rw[mV,FM,FM];lk
  .refine s r x d [] _ _ f b λe k o=>?_
   rw[jB];exact p e k^(by first|exact u0|exact u1|exact u2|exact w0|exact w1|omega)
def Qa{G:W2}{j:Nat}(s:∀ss n P,j≠0->OL (j - 1) ss n P->G ss n P)(h:OL j ss n Pd):G0 G (EE Pd) n (ss++Tk 3 .no):=by
 let#[N,u,t,b,m,rfl,#[hm,Z],g,R,S,hu,#[H,T,U,V],p]:=h;have ok:=g.1;unfold G0;refine#[N,u,t,b,rfl,g,R,S,H,T,U,V,λo h1 h2=>#[rfl,?_]];cases o with
 |none=>
  refine#[z0,p (P3 []) (λe=>by cases e) λl e=>?_];cases e;refine#[jT,nofun,i6 _,λz=>?_];rw[GQ,←nearB_iff,h2 rfl]at z;cases z
 | some w=>
  let#[y,E]:=h1 w rfl;have E:=nearB_iff.mp E;refine CO (λc=>absurd (show u_=t_ from c) jF) λ_=>?_;refine CO (λc=>?_) λc=>?_
  .have c:m=0:=by
    have c:(m:Int)=0:=beq_iff_eq.mp c;lk
   subst c;exact p s_ (λ_=>hld_zero.mpr E) λl e=>by cases e
  .have a0:m≠0:=λz=>c^by rw[z]; exact beq_self_eq_true _
   have A:=y;let#[d,r,rfl,hl,k,_,I,J]:=A;refine#[N,u.a::r,d,rfl,g,k,I,J,λB C a1=>?_];have q:=C.mem;have K:∀M:Net,(∀v∈B,v∈M.ts)->walk M (u.a::r) d:=λM K=>C.walk ok k K
   have go:∀(f done:v_ Aq) (L O:Slot),done++f=B->(∀v∈done,P4 (CW N v) t b u (m - 1))->
     BF (AT 5) (Af (BA 6^AW G^AD (AH^AW DZ^AD (AH^AC 0)^AD (AH^Bq^AE (AC 5) AQ) AY)^AD (AH^AC 1)^AD (AH^AC 2)^AD (AH^Ac CV (AC 3)^wC^D.int 1) AY)
 (A8 (AX^Ac (C9 t_) (AC 6)^wC D.non) (Ap^Ac Br (Bq^AE (AC 5) AQ)^AC 6) Au)) {EE Pd with nx:=Ap (wC D.non)^EE Pd} (f.map AS) n [.sh^enc N,.sh^.tup [.int t,.int b],.sh^AS u,.sh^.int (m:Int),.sh^ZV^P3 (u.a::r),L,O]:=by
    intro f
    induction f with
    |nil=>
     intro done L O e Q;rw[jE]at e;subst e;refine p s_ (λ_=>?_) λl e=>by cases e
     have:=X5 g H y E k K q Q
     rw[show m - 1+1=m by lk]at this;exact this
    | cons v f ih=>
     intro done L O e Q;have F:v∈B:=by rw[←e]; exact f8 _ Op
     have e':(done++[v])++f=B:=by rw[jS]; exact e
     exists z1,N,_,[v],rfl,rfl,g,λx i=>Re.mp i▸q v F;rw[HF];refine s _ _ _ ((by first|exact u0|exact u1|exact u2|exact w0|exact w1|omega)) #[CW N v,u,t,b,m - 1,by rw[show((m - 1:Nat):Int)=(m:Int) - 1 by lk],#[(by first|exact u0|exact u1|exact u2|exact w0|exact w1|omega),(by first|exact u0|exact u1|exact u2|exact w0|exact w1|omega)],F1 g v,R,S,hu,#[H,T,U,V],λo2 g1 g2=>#[rfl,?_]];cases o2 with
     |none=>
      refine ih (done++[v]) _ _ e' λx i=>?_
      rcases i9.mp i with i|i
      .exact Q x i
      .rw[Re.mp i]; exact g1 rfl
     |some l=>
      let#[g3,X,g5,Y]:=g2 l rfl;rw[Ls]at Y;refine#[z1,by rw[FM]; show 1+l.length<=sizeLine; rw[PySem.sizeLine_eq]; omega,p (P3 (v::l)) (λe=>by cases e) λl' e=>?_];cases e;exact#[jA.mpr #[λz=>of_decide_eq_true (jm.mp^X v z).2 rfl,g3],λx i=>(UF.mp i).elim (λe=>e▸q v F) λi=>(jm.mp^X x i).1,by rw[iu]; omega,Y]
   exact go B [] _ _ rfl λv F=>by cases F
def CN{N:Net}{t b:Int}{m:Nat}{kept r:v_ Aq}{u:Aq}:A4 N t b m kept (u::r)=if X6 (sub N kept) t b u m=t_ then A4 N t b m kept r else A4 N t b m (kept++[u]) r:=rfl
def QV(h:Ps ss n Pd):Dt (EE Pd) n (ss++Tk 2 .no):=by
 let#[N,t,b,m,rfl,i,L,I,p]:=h;have ok:=i.1;have M:=i.2.2;have O:=PySem.sizeLine_eq;unfold Dt;refine#[z0,_,AK (j:=1) rfl,_,N.ts,rfl,rfl,(by first|exact u0|exact u1|exact u2|exact w0|exact w1|omega),λd r P=>?_];have Q:=r.length_eq;have w:d.Nodup:=r.nodup_iff.mpr^BO ok.trise
 have R:∀(c done a:v_ Aq) (B:Slot),done++c=d->(∀u∈a,u∈done)->a.Nodup->A4 N t b m a c=A4 N t b m [] d->
   BF (AT 4) (A8 (AX^Ac (C9 t_) (AW (OL 2)^AD (AH^AW GF^AD (AH^AC 0)^AD (B6^As 3) AY)^AD (AH^AC 1)^AD (AH^AC 4)^AD (AH^AC 2) AY)^wC D.non) (Kw 3 "list" Fx^AE (AC 4) AQ) Au) {EE Pd with nx:=Ap (AW GF^AD (AH^AC 0)^AD (B6^As 3) AY)^EE Pd} (c.map AS) n [.sh^enc N,.sh^.tup [.int t,.int b],.sh^.int (m:Int),.ow^.lst^a.map AS,B]:=by
  intro c
  induction c with
  |nil=>
   intro done a B e s k q;rw[jE]at e;subst e;have f:∀u∈a,u∈N.ts:=λu A=>r.mem_iff.mp^s u A;have C:=sub_len k (BO ok.trise) f;refine#[N,_,a,rfl,rfl,(by first|exact u0|exact u1|exact u2|exact w0|exact w1|omega),λE F G=>?_];rw[OU ok f k F G,show a=A4 N t b m [] done from q];exact p done r P
  | cons u c J=>
   intro done a B e s k q;have f:∀v∈a,v∈N.ts:=λv g=>r.mem_iff.mp (by rw[←e]; exact jM _^s v g);have C:=sub_len k (BO ok.trise) f;have A:u∈N.ts:=r.mem_iff.mp^by rw[←e]; exact f8 _ Op
   have H:u∉done:=by
    rw[←e,jW]at w;exact λz=>w.2.2 u z u Op rfl
   have K:(done++[u])++c=d:=by rw[jS]; exact e
   let#[T,U,_]:=ok.tin u A;refine#[N,_,a,rfl,rfl,(by first|exact u0|exact u1|exact u2|exact w0|exact w1|omega),λE F G=>?_];rw[OU ok f k F G];refine#[sub N a,u,t,b,m,rfl,#[I,I],Cj i a,T,U,G4 ok u A,L,λo V W=>#[rfl,?_]];rw[CN]at q;cases o with
   |none=>
    rw[hldB_iff.mpr (V rfl),if_pos rfl]at q;exact J (done++[u]) a _ K (λv g=>jM _^s v g) k q
   | some l=>
    rw[if_neg λz=>(W l rfl).not^hldB_iff.mp z]at q;exists _,rfl,rfl,_,_,rfl,rfl,by rw[FM]; omega
    have:=J (done++[u]) (a++[u]) (.sh^AS u) K (λv g=>by
     rcases i9.mp g with g|g
     .exact jM _^s v g
     .exact f8 _ g) (by
     rw[jW];exact#[k,jA.mpr #[ip,jT],λx X y Y z=>H^by rw[←Re.mp Y,←z]; exact s x X]) q
    rw[jP]at this;exact this
 exact R d [] [] _ rfl (λu h=>by cases h) jT rfl
def Of(h:Mg ss n Pd):FS (EE Pd) n (ss++Tk 2 .no):=by
 let#[N,t,b,m,rfl,i,I,J,p]:=h;have ok:=i.1;have K:=i.2.2;have L:=PySem.sizeLine_eq;unfold FS;refine#[z0,_,AK (j:=1) rfl,_,N.ts,rfl,rfl,(by first|exact u0|exact u1|exact u2|exact w0|exact w1|omega),λd r M=>?_];have O:=r.length_eq;have w:d.Nodup:=r.nodup_iff.mpr^BO ok.trise
 have P:∀(c done a:v_ Aq) (A:Slot),done++c=d->(∀u∈a,u∈done)->a.Nodup->A4 N t b m a c=A4 N t b m [] d->
   BF (AT 4) (A8 (AX^Ac (C9 t_) (AW Ey^AD (B6^As 3)^AD (AH^AC 1)^AD (AH^AC 4)^AD (AH^AC 2) AY)^wC D.non) (Kw 3 "list" Fx^AE (AC 4) AQ) Au) {EE Pd with nx:=Ap (Az^AE (Ac A5 (AC 0)^wC^D.int 0)^AE (Bl BH^AE (Bl CI^AE (As 3) AQ) AQ) AQ)^EE Pd} (c.map AS) n [.sh^enc N,.sh^.tup [.int t,.int b],.sh^.int (m:Int),.ow^.lst^a.map AS,A]:=by
  intro c
  induction c with
  |nil=>
   intro done a A e s k q;rw[jE]at e;subst e;have f:∀u∈a,u∈N.ts:=λu C=>r.mem_iff.mp^s u C;have E:=sub_len k (BO ok.trise) f;exists _,AK (j:=0) rfl;show CI [D.lst^a.map AS] λz=>BH [z] λy=>2<=sizeLine/\Pd (.tup [.tup^N.ps.map .str,y]) n;refine Dg (ts:=a) rfl ((by first|exact u0|exact u1|exact u2|exact w0|exact w1|omega)) λR S T=>#[z2,?_];have U:=OU ok f k S T
   have:Pd (enc^sub N a) n:=by rw[show a=A4 N t b m [] done from q]; exact p done r M
   rw[←U]at this;exact this
  | cons u c G=>
   intro done a A e s k q;have f:∀v∈a,v∈N.ts:=λv g=>r.mem_iff.mp (by rw[←e]; exact jM _^s v g);have E:=sub_len k (BO ok.trise) f;have C:u∈N.ts:=r.mem_iff.mp^by rw[←e]; exact f8 _ Op
   have F:u∉done:=by
    rw[←e,jW]at w;exact λz=>w.2.2 u z u Op rfl
   have H:(done++[u])++c=d:=by rw[jS]; exact e
   let#[V,W,_]:=ok.tin u C;refine#[N,a,u,t,b,m,rfl,i,f,k,(by first|exact u0|exact u1|exact u2|exact w0|exact w1|omega),V,W,I,J,λo X Y=>#[rfl,?_]];rw[CN]at q;cases o with
   |none=>
    rw[hldB_iff.mpr (X rfl),if_pos rfl]at q;exact G (done++[u]) a _ H (λv g=>jM _^s v g) k q
   | some l=>
    rw[if_neg λz=>(Y l rfl).not^hldB_iff.mp z]at q;exists _,rfl,rfl,_,_,rfl,rfl,by rw[FM]; omega
    have:=G (done++[u]) (a++[u]) (.sh^AS u) H (λv g=>by
     rcases i9.mp g with g|g
     .exact jM _^s v g
     .exact f8 _ g) (by
     rw[jW];exact#[k,jA.mpr #[ip,jT],λx Z y hy z=>F^by rw[←Re.mp hy,←z]; exact s x Z]) q
    rw[jP]at this;exact this
 exact P d [] [] _ rfl (λu h=>by cases h) jT rfl
def SY(h:P1 ss n Pd):GB (EE Pd) n (ss++Tk 0 .no):=by
 let#[rfl,f,p]:=h;unfold GB;have a:=PySem.sizeLine_eq;refine#[z2,z2,z2,g0,z2,z2,z2,z2,z2,z2,(by rw[a]; show 9<=16777216; decide),9,rfl,by cbv,by cbv,f,λr g i=>?_]
 let#[z,j,t,b,rfl,c]:=GC (p:=λd=>∃t b:Int,d=.tup [.int t,.int b]/\FX t b) (xs:=[.tup [.int 2,.int 1],.tup [.int 3,.int 1],.tup [.int 5,.int 2],.tup [.int ((10:Int) ^ (6:Int).toNat),.int 1],.tup [.int 9,.int 2],.tup [.int 3,.int 2],.tup [.int 4,.int 1],.tup [.int 1000,.int 999],.tup [.int 2,.int 1]]) (λd e=>by
  simp only[UF,ip,or_false]at e
  rcases e with rfl|rfl|rfl|rfl|rfl|rfl|rfl|rfl|rfl <;>exact#[_,_,rfl,by cbv,by cbv,by cbv,by cbv]) g^by show r<9; exact i
 exact#[_,j,p t b c]
end
def YK(S:v_ Aq):D:=.lst^S.map AS
def EL:Aq:=#["","",0]
def E7(a:v_ Aq)(k:Nat):v_^v_ Aq:=(jL k).flatMap λi=>(jL i).map λj=>[a.getD i EL,a.getD j EL]
def DU(a:v_ Aq):v_^v_ Aq:=[]::a.map λt=>[t]
def Jn(a:v_ Aq)(k:Nat):E7 a (k+1)=E7 a k++(jL k).map λj=>[a.getD k EL,a.getD j EL]:=by
 unfold E7;rw[List.range_succ,List.flatMap_append,List.flatMap_singleton]
theorem Lg(a:v_ Aq):∀k,(E7 a k).length<=k*k
 |0=>Rs _
 |k+1=>by
  have:=Lg a k
  rw[Jn,eq,FM,mG]
  have:(k+1)*(k+1)=k*k+k+k+1:=by rw[Nat.add_mul,Nat.mul_add]; omega
  omega
def Em{ts:v_ Aq}{i:Nat}(h:i<ts.length):ts[i]?=P3^ts.getD i EL:=by
 rw[jN,No h];rfl
def Nx{a:v_ Aq}{i:Nat}(h:i<a.length):a.getD i EL∈a:=jZ^Em h
def Si{ts:v_ Aq}{k:Nat}{S:v_ Aq}(h:S∈E7 ts k)(e:k<=ts.length)(nd:ts.Nodup):S.length<=2/\S.Nodup/\∀v∈S,v∈ts:=by
 let#[i,a,h]:=k6.mp h;let#[j,b,rfl]:=Sc.mp h;have a:=jn.mp a;have b:=jn.mp b;refine#[Rs _,jA.mpr #[λz=>?_,jA.mpr #[ip,jT]],λv c=>?_]
 .have d:=Em (ts:=ts) (i:=i)^by lk
  rw[Re.mp z,←Em (ts:=ts) (i:=j)^by lk]at d
  have:=(List.getElem?_inj (by lk) nd).mp d
  omega
 simp only[UF,ip,or_false]at c
 rcases c with rfl|rfl
 .exact Nx^by lk
 .exact Nx^by lk
def Jb{b:v_ Aq}{S:v_ Aq}(h:S∈DU b):S.length<=1/\S.Nodup/\∀v∈S,v∈b:=by
 rcases UF.mp h with rfl|h
 .exact#[i6 _,jT,λv a=>by cases a]
 .let#[t,c,rfl]:=Sc.mp h
  exact#[Rs _,jA.mpr #[ip,jT],λv a=>by rw[Re.mp a]; exact c]
def Df{a:v_ Aq}{L:v_^v_ Aq}(b:∀S∈DU a,S∈L)(S:v_ Aq)(d:S.length<=1):∃e∈L,∀v∈a,v∈S↔v∈e:=by
 match S,d with
 |[],_=>exact#[[],b _ Op,λv _=>Iff.rfl]
 |[x],_=>
  by_cases c:x∈a
  .exact#[[x],b _^TW _^Sc.mpr #[x,c,rfl],λv _=>Iff.rfl]
  .exact#[[],b _ Op,λv f=>#[λz=>absurd (by rw[←Re.mp z]; exact f) c,λz=>by cases z]]
 |_::_::_,h=>exact absurd h^by rw[iu,iu]; omega
def V5{a:v_ Aq}{L:v_^v_ Aq}(e:∀S∈DU a,S∈L)(w:∀S∈E7 a a.length,S∈L)(S:v_ Aq)(A:S.length<=2):∃b∈L,∀v∈a,v∈S↔v∈b:=by
 match S,A with
 |[],_=>exact Df e []^i6 _
 |[x],_=>exact Df e [x]^Rs _
 | [x,y],_=>
  by_cases n:x∈a
  .by_cases o:y∈a
   .let#[i,r]:=kA.mp n
    let#[j,s]:=kA.mp o;have t:=(Uf.mp r).1;have u:=(Uf.mp s).1;have k:a.getD i EL=x:=by have:=Em t; rw[r]at this; exact(iw this).symm
    have l:a.getD j EL=y:=by have:=Em u; rw[s]at this; exact(iw this).symm
    have mk:∀p q:Nat,p<a.length->q<p->[a.getD p EL,a.getD q EL]∈L:=λp q B C=>w _^k6.mpr #[p,jn.mpr B,Sc.mpr #[q,jn.mpr C,rfl]]
    rcases nA i j with c|c|c
    .refine#[_,mk j i u c,λv _=>?_]
     rw[k,l];simp only[UF,ip,or_false];exact Or.comm
    .have m:x=y:=by rw[←k,←l,c]
     let#[b,f,g]:=Df e [x]^Rs _;refine#[b,f,λv d=>?_];rw[←g v d,←m];simp
    .refine#[_,mk i j t c,λv _=>?_]
     rw[k,l]
   .let#[b,f,g]:=Df e [x]^Rs _
    refine#[b,f,λv d=>?_];rw[←g v d];simp only[UF,ip,or_false];exact#[λz=>z.elim id λz=>absurd (by rw[←z]; exact d) o,.inl]
  .let#[b,f,g]:=Df e [y]^Rs _
   refine#[b,f,λv d=>?_];rw[←g v d];simp only[UF,ip,or_false];exact#[λz=>z.elim (λz=>absurd (by rw[←z]; exact d) n) id,.inr]
 |_::_::_::_,h=>exact absurd h^by simp only[iu]; omega
def zn(i:Nat):(0+(i:Int)).toNat=i:=by rw[mr]; rfl
section
variable {ss:v_ Slot}{n:Nat}{Pd:D->Nat->Prop}
def Qb(h:P2 ss n Pd):FV (EF Pd) n (ss++Tk 2 .no):=by
 let#[z,f,m,rfl,rfl,w,L,I,p]:=h;have M:=PySem.sizeLine_eq;have r:(f.map AS).length=f.length:=FM ..;unfold FV;exists z0,z1;refine CO (λc=>?_) λc=>?_
 rotate_left
 .have x:m=0:=by
   have c:¬(0:Int)<(m:Int):=λz=>c^decide_eq_true z;lk
  subst x;exact#[_,rfl,p [[]] #[λS l=>by rw[Re.mp l]; exact#[Rs _,jT,nofun],λS l=>#[[],Op,λv _=>by rw[kj.mp^Nat.le_zero.mp l]]]]
 have T:1<=m:=by
  have c:(0:Int)<(m:Int):=of_decide_eq_true c;lk
 refine#[by show(f.map AS).length<=10000000; omega,?_];refine BG (λd=>.lst [d]) (λo=>∃s,o=[s]) _ _ _ _ ?_ #[_,rfl] ?_
 .rintro d J o C N ⟨s,rfl⟩ u
  exact#[z1,u _ #[_,rfl]]
 rw[jB]
 have O:[D.lst []]++(f.map AS).map (λd=>D.lst [d])=(DU f).map YK:=by
  unfold DU;rw[jc,jf,jf];rfl
 refine#[by rw[FM,r]; show 1+f.length<=sizeLine; omega,?_];rw[O];refine CO (λc=>?_) λc=>?_
 .have c:1<(m:Int):=of_decide_eq_true c
  have x:m=2:=by lk
  subst x;exists _,_,rfl,rfl,_,rfl,#[(by first|exact u0|exact u1|exact u2|exact w0|exact w1|omega),(by first|exact u0|exact u1|exact u2|exact w0|exact w1|omega)];refine Ek (all:=DH 0 (((f.map AS).length:Int)).toNat) (λg C o=>C=n/\g.length<=f.length/\∃F,o=[.br^.lst^f.map AS,.sh^.int ((2:Nat):Int),.ow^.lst^(DU f++E7 f g.length).map YK,F]) ?_ ?_ _ [] _ _ rfl #[rfl,i6 _,_,by rw[show E7 f ([]:v_ D).length=[]from rfl,jE]; rfl]
  .rintro C o ⟨rfl,_,F,rfl⟩
   have P:(DH 0 (((f.map AS).length:Int)).toNat).length=f.length:=by rw[DF,r]; rfl
   rw[P];refine#[_,rfl,p (DU f++E7 f f.length) #[λS l=>?_,V5 (λS h=>jM _ h) λS h=>f8 _ h]]
   rcases i9.mp l with l|l
   .let#[a,b]:=Jb l
    exact#[(by first|exact u0|exact u1|exact u2|exact w0|exact w1|omega),b]
   .exact Si l (Rs _) L
  .rintro g d K C o N y ⟨rfl,G,F,rfl⟩ t
   let#[rfl,q]:=T8 y;have A:(g++[D.int (0+(g.length:Int))]).length=g.length+1:=by rw[eq,jI]
   rw[A]at t;generalize g.length=k at q t G ⊢;have q:k<f.length:=by rw[r]at q; exact q
   have B:∀i:Nat,i<f.length->∀j:Int,j=(i:Int)->atI (f.map AS) j=P3^AS^f.getD i EL:=λi E j e=>by
    rw[e];exact AK^by rw[ir,Em E]; rfl
   refine#[_,rfl,rfl,_,rfl,#[(by first|exact u0|exact u1|exact u2|exact w0|exact w1|omega),(by first|exact u0|exact u1|exact u2|exact w0|exact w1|omega)],by rw[DF]; omega,?_];refine BG (λd=>match d with|.int i=>.lst [AS^f.getD k EL,AS^f.getD i.toNat EL]|_=>.non) (λo=>∃s,o=[.br^.lst^f.map AS,.sh^.int (0+(k:Int)),s]) _ _ _ _ ?_ #[_,rfl] ?_
   .rintro d J o I H ⟨s,rfl⟩ u
    let#[i,E,rfl]:=Hb J;have u:H (.lst [AS^f.getD k EL,AS^f.getD (0+(i:Int)).toNat EL]) I [.br^.lst^f.map AS,.sh^.int (0+(k:Int)),.sh^.int (0+(i:Int))]:=u _ #[_,rfl];rw[show(0+(i:Int)).toNat=i from zn i]at u;exact#[_,B k q _^mr _,_,B i (nQ (by rw[zn]at E; exact E) q) _^mr _,z2,u]
   .have Q:(DH 0 ((0+(k:Int))).toNat).map (λd=>match d with|.int i=>D.lst [AS^f.getD k EL,AS^f.getD i.toNat EL]|_=>.non)=((jL k).map λj=>[f.getD k EL,f.getD j EL]).map YK:=by
     unfold DH;rw[jf,jf,show(0+(k:Int)).toNat=k from zn k];refine lG λj _=>?_;show D.lst [AS^f.getD k EL,AS^f.getD (0+(j:Int)).toNat EL]=_;rw[show(0+(j:Int)).toNat=j from zn j];rfl
    rw[jB,Q];have U:=Lg f k;have R:k*k<=60*60:=pW (iz (md q) w)^iz (md q) w;exists _,_,rfl,rfl,?_
    .rw[FM,eq,FM,FM,mG]
     unfold DU;rw[iu,FM];lk
    .refine t _ _ #[rfl,q,.sh^.int (0+(k:Int)),?_]
     rw[Jn,←jS,jP,jP,jP];rfl
 .have x:m=1:=by
   have c:¬(1:Int)<(m:Int):=λz=>c^decide_eq_true z;lk
  subst x;exact#[_,rfl,p (DU f) #[λS l=>Jb l,Df λS h=>h]]
def Mx(h:Ey ss n Pd):EK (EE Pd) n (ss++Tk 2 .no):=by
 let#[N,ts,u,t,b,m,rfl,okn,hin,nd,l60,ha,hb,#[b1,b2,t1,t2],m2,p]:=h;have ok:=okn.1;have hml:(ts.map AS).length=ts.length:=FM ..;unfold EK;refine#[_,ts,m,rfl,rfl,l60,nd,m2,λL hL=>?_]
 have go:∀(rest done:v_^v_ Aq) (s4 s5:Slot),done++rest=L->(∀S∈done,FO (minus (sub N ts) S) t b u)->
   BF (AT 4) (Af (BA 5^WU (AW Ex^AD (B6^BU [P3 4,s_] (Av^As 0) (AT 1) (AX^Ac (Gd t_) (AC 1)^AC 0)^AC 1)^AD (AH^Ac A5 (AC 2)^wC^D.int 0) AY)^Ac A5 (AC 2)^wC^D.int 1)
 (A8 (B7 (AX^Ac (C9 u_) (AC 5)^wC D.non)^BP^AX^AW Cy^AD (AH^AC 5)^AD (AH^AC 1)^AD (AH^Ac A5 (AC 2)^wC^D.int 2) AY) (Ap^AC 4) Au)) {EE Pd with nx:=Ap (wC D.non)^EE Pd} (rest.map YK) n [.br^.lst^ts.map AS,.sh^.tup [.int t,.int b],.sh^AS u,.sh^.int (m:Int),s4,s5]:=by
  intro rest
  induction rest with
  |nil=>
   intro done s4 s5 e hd;rw[jE]at e;subst e;refine p s_ (λ_ S hS=>?_) λl e=>by cases e
   let#[S',h1,h2]:=hL.2 S hS;rw[Q1 (S:=S) (S':=S') λv hv=>h2 v (sub_mem.mp hv).2];exact hd S' h1
  | cons S rest ih=>
   intro done s4 s5 e hd;have hS:S∈L:=by rw[←e]; exact f8 _ Op
   have e':(done++[S])++rest=L:=by rw[jS]; exact e
   let#[s1,s3,s2]:=hL.1 S hS;have okm:=C6 (Cj okn ts) S
   have bad:¬FO (minus (sub N ts) S) t b u->Pd (YK S) n:=λhn=>p (P3 S) (λe=>by cases e) λl e=>by
    cases e;exact#[s3,λv hv=>sub_mem.mpr #[hin v^s2 v hv,s2 v hv],s1,hn]
   refine#[by show(ts.map AS).length<=10000000; omega,?_];refine CD (λd=>!((S.map AS).any λy=>C2 y d)) id (λρ=>∃s,ρ=[.sh^.lst^S.map AS,s]) _ _ _ _ ?_ #[_,rfl] ?_
   .rintro d hd ρ m' nx sk ⟨s,rfl⟩ h1 h2
    let#[v,hv,rfl]:=Sc.mp hd;refine#[B_ ok^hin v hv,(Bw ok λw hw=>hin w^s2 w hw).2,_,rfl,?_];exact CO (λc=>h1 _ #[_,rfl] c) λc=>h2 _ #[_,rfl]^jR.mpr c
   have ef:(ts.map AS).filter (λd=>!((S.map AS).any λy=>C2 y d))=(ts.filter λv=>decide (v∉S)).map AS:=by
    rw[lA]
    congr 1
    refine kF λv _=>?_;show(!((S.map AS).any λy=>C2 y^AS v))=decide (v∉S);rw[Cv,decide_not]
   rw[jB,lM,ef];refine#[_,AK (j:=0) rfl,minus (sub N ts) S,u.a,_,ts.filter λv=>decide (v∉S),rfl,rfl,λv=>?_,okm,ha,λks ds K Mp T=>#[ks,ds,rfl,_,AK (j:=1) rfl,_,A9 u.b,?_]]
   .rw[jm,decide_eq_true_eq,minus_mem,sub_mem]
    exact#[λh=>#[#[hin v h.1,h.1],h.2],λh=>#[h.1.2,h.2]]
   rw[Zn Mp];have hf:=T.far u.b;cases ek:K u.b with
   |none=>
    rw[ek]at hf;exact#[rfl,bad fun#[d,hd,_]=>hf d hd.1]
   | some d=>
    rw[ek]at hf;refine#[rfl,_,AK (j:=2) rfl,d,t,b,u.len,rfl,b1,b2,t1,t2,?_]
    by_cases c:d*b<=u.len*t
    .rw[decide_eq_true c]
     refine ih (done++[S]) _ _ e' λS' hS'=>?_
     rcases i9.mp hS' with hS'|hS'
     .exact hd S' hS'
     .rw[Re.mp hS']; exact#[d,hf,c]
    .rw[decide_eq_false c]
     exact bad fun#[d',hd',h2]=>c^by rw[Least.unique hf hd']; exact h2
 exact go L [] _ _ rfl λS hS=>by cases hS
end
def T5{xs:v_ Str}{pre post:v_ D}{d:D}(h:xs.map D.str=pre++d::post):d=.str^xs.getD pre.length ""/\pre.length<xs.length:=by
 have hl:=congrArg l7 h;rw[FM,eq,iu]at hl;have e:(xs.map D.str)[pre.length]?=P3 d:=by rw[h,ju^Rs _,nc]; rfl
 rw[ir,getD_at^by lk]at e;exact#[(iw e).symm,by lk]
def ZK{xs:v_ Str}(h:rising xs){i j:Nat}(hi:i<xs.length)(hj:j<xs.length)(hlt:cs^xs.getD i ""<cs^xs.getD j ""):i<j:=by
 rcases nA i j with c|c|c
 .exact c
 .rw[c]at hlt; exact absurd hlt^Bo _
 .exact absurd (lE hlt^Kc h c hi)^Bo _
section
variable {ss:v_ Slot}{n:Nat}{Pd:D->Nat->Prop}
def SX(h:P0 ss n Pd):GA (EE Pd) n (ss++Tk 7 .no):=by
 let#[rfl,hn,p]:=h;have szl:=PySem.sizeLine_eq;unfold GA;refine#[3,rfl,by cbv,by cbv,u0,λq1 q10 q11=>#[2,rfl,by cbv,by cbv,u1,λq2 q20 q21=>#[dN (by lk)^by lk,?_]]]
 have hq:0<=q1*q2/\q1*q2<=2:=by
  have:q2=0\/q2=1:=by lk
  rcases this with rfl|rfl
  .rw[Int.mul_zero]; decide
  .rw[Int.mul_one]; omega
 generalize q1*q2=q at hq ⊢;refine#[(5 - q).toNat,by rw[show(((5 - q).toNat:Nat):Int)=5 - q by lk],by lk,by lk,λxs hl hx hr=>?_];refine#[4,rfl,by cbv,by cbv,u3,λway w0 w1=>?_];refine#[(by rw[szl]; show 4<=16777216; decide),4,rfl,by cbv,by cbv,u4,λr0 r00 r01=>?_]
 let#[_,hrare,rare,rfl,rr]:=GC (p:=λd=>∃i:Int,d=.int i/\(i=12\/i=3)) (xs:=[.int 12,.int 12,.int 12,.int 3]) (λd hd=>by
  simp only[UF,ip,or_false]at hd
  rcases hd with rfl|rfl|rfl|rfl
  .exact#[_,rfl,.inl rfl]
  .exact#[_,rfl,.inl rfl]
  .exact#[_,rfl,.inl rfl]
  .exact#[_,rfl,.inr rfl]) r00^by show r0<4; exact r01
 refine#[_,hrare,z0,?_];have rr1:1<=rare/\rare<1073741824:=by rcases rr with rfl|rfl <;>decide
 clear rr;have hx5:xs.length<=5:=by lk
 clear hl hq hrare r00 r01 q10 q11 q20 q21 q
 refine Ek (all:=xs.map D.str) (λpre m ρ=>n - 10 - 20*pre.length<=m/\∃(ts:v_ Ix) (s5 s6 s7:Slot),(∀t∈ts,t.i<t.j/\t.j<xs.length/\1<=t.len/\t.len<=1000000)/\ts.Pairwise cQ/\(∀t∈ts,t.i<pre.length)/\ts.length<=5*pre.length /\
  ρ=[.fd,.sh^.tup^xs.map .str,.sh^.int way,.sh^.int rare,.ow^.lst^(ts.map^Ix.tie xs).map AS,s5,s6,s7]) ?_ ?_ _ [] _ _ rfl #[by show n - 10 - 20*0<=_; omega,[],_,_,_,(λ_ h=>by cases h),pi,(λ_ h=>by cases h),i6 _,rfl]
 .rintro m ρ ⟨hm,ts,s5,s6,s7,h1,h2,h4,h5,rfl⟩
  rw[FM]at hm h5;have okN1:Net.Ok #[xs,ts.map^Ix.tie xs]:=b8 hx hr h1 h2;show CI [D.lst^(ts.map^Ix.tie xs).map AS] λz=>BH [z] λy=>2<=sizeLine/\Pd (.tup [.tup^xs.map .str,y]) m;refine Dg (ts:=ts.map^Ix.tie xs) rfl (by rw[FM]; omega) λts' p1 p2=>#[z2,?_];rw[K8 okN1 okN1.trise p1 p2];exact p #[xs,ts.map^Ix.tie xs] m #[okN1,by show xs.length<=25; omega,by show(ts.map^Ix.tie xs).length<=60; rw[FM]; omega] (by show xs.length<=24; omega)^by lk
 .rintro pre d post m ρ nx hall ⟨hm,ts,s5,s6,s7,h1,h2,h4,h5,rfl⟩ hnx
  let#[rfl,hk]:=T5 hall;have epre:(pre++[D.str^xs.getD pre.length ""]).length=pre.length+1:=by rw[eq,jI]
  rw[epre]at hnx;generalize pre.length=one at hk hnx hm h4 h5 ⊢;clear epre
  refine Ek (all:=xs.map D.str) (λpre m ρ=>n - 10 - 20*one - 4*pre.length<=m/\∃(ts:v_ Ix) (s6 s7:Slot),(∀t∈ts,t.i<t.j/\t.j<xs.length/\1<=t.len/\t.len<=1000000)/\ts.Pairwise cQ/\(∀t∈ts,t.i<one\/(t.i=one/\t.j<pre.length))/\ts.length<=5*one+pre.length /\
   ρ=[.fd,.sh^.tup^xs.map .str,.sh^.int way,.sh^.int rare,.ow^.lst^(ts.map^Ix.tie xs).map AS,.sh^.str^xs.getD one "",s6,s7]) ?_ ?_ _ [] _ _ rfl #[by show n - 10 - 20*one - 4*0<=m; omega,ts,_,_,h1,h2,λt ht=>.inl^h4 t ht,by show ts.length<=5*one+0; omega,rfl]
  .rintro m ρ ⟨hm,ts,s6,s7,h1,h2,h4,h5,rfl⟩
   rw[FM]at hm h5 h4;refine hnx _ _ #[by lk,ts,_,_,_,h1,h2,λt ht=>?_,by lk,rfl]
   rcases h4 t ht with h|h <;>lk
  .rintro pre2 d2 post2 m ρ nx2 hall2 ⟨hm,ts,s6,s7,h1,h2,h4,h5,rfl⟩ hnx2
   let#[rfl,hk2]:=T5 hall2;rw[eq,jI]at hnx2;generalize pre2.length=two at hk2 hnx2 hm h4 h5 ⊢
   have skip:∀m',m - 4<=m'->nx2 m' [.fd,.sh^.tup^xs.map .str,.sh^.int way,.sh^.int rare,.ow^.lst^(ts.map^Ix.tie xs).map AS,.sh^.str^xs.getD one "",.sh^.str^xs.getD two "",s7]:=λm' hm'=>by
    refine hnx2 _ _ #[by rw[Nat.mul_succ,←Nat.sub_sub]; exact iz (lB hm 4) hm',ts,_,_,h1,h2,λt ht=>?_,Nat.le_succ_of_le h5,rfl]
    rcases h4 t ht with h|h
    .exact .inl h
    .exact .inr #[h.1,jx h.2]
   refine CO (λc1=>?_) λ_=>?_
   .have h12:one<two:=ZK hr hk hk2^of_decide_eq_true c1
    have m4:4<=m:=by clear h5; omega
    refine#[rare,rfl,rr1.1,rr1.2,u0,λd0 d00 d01=>CO (λ_=>?_) λ_=>skip _ (Nat.sub_le_sub_left (by cbv) m)];refine#[2,rfl,by cbv,by cbv,u1,λe1 e10 e11=>#[g0,2,rfl,by cbv,by cbv,u2,λe2 e20 e21=>#[9,rfl,by cbv,by cbv,u3,λe3 e30 e31=>?_]]];have e6:(10:Int) ^ (6:Int).toNat=1000000:=rfl
    let#[_,hlen,len,rfl,g1,g2]:=GC (p:=λd=>∃i:Int,d=.int i/\1<=i/\i<=1000000) (xs:=[.int 7,.int (1+e1),.int ((10:Int) ^ (6:Int).toNat - e2),.int (1+e3)]) (λd hd=>by
     simp only[UF,ip,or_false]at hd
     rcases hd with rfl|rfl|rfl|rfl
     .exact#[_,rfl,by cbv,by cbv]
     .exact#[_,rfl,by lk,by lk]
     .exact#[_,rfl,by lk,by lk]
     .exact#[_,rfl,by lk,by lk]) w0^by show way<4; exact w1
    refine#[(by rw[szl]; show 4<=16777216; decide),_,hlen,?_];refine#[_,rfl,rfl,z3,_,_,rfl,rfl,by rw[FM,FM]; omega,?_];refine hnx2 _ _ #[by rw[Nat.mul_succ,←Nat.sub_sub]; exact lB hm 4,ts++[#[one,two,len]],.sh^.str^xs.getD two "",.sh^.int len,λt ht=>?_,?_,λt ht=>?_,by rw[eq,jI]; exact lf h5,?_]
    .rcases i9.mp ht with ht|ht
     .exact h1 t ht
     .rw[Re.mp ht]
      exact#[h12,hk2,g1,g2]
    .rw[nZ]
     refine#[h2,m8 _ _,λs hs t ht=>?_];rw[Re.mp ht]
     rcases h4 s hs with h|h
     .exact .inl h
     .exact .inr h
    .rcases i9.mp ht with ht|ht
     .rcases h4 t ht with h|h
      .exact .inl h
      .exact .inr #[h.1,jx h.2]
     .rw[Re.mp ht]
      exact .inr #[rfl,lI _]
    .rw[jP,jP]
     rfl
   .exact skip _ (Nat.sub_le _ _)
end
theorem Qg{P:v_ Str->v_ Str->Nat->Prop}{xs:v_ Str}:∀(ds:v_ D) (acc ys:v_ Str) (n:Nat),ds.length=ys.length->(acc++ys).Perm xs->ys.length<=n->ys.length<=1000->(∀acc',acc'.Perm xs->P acc' [] (n - ys.length))->US (AW B5^AD (BR 1)^AD (AH^Bl CS^AE (As 0) AQ) AY) P ds acc ys n
 |[],acc,ys,n,hl,hp,hn,_,h=>by
  have e:ys=[]:=kj.mp hl.symm;subst e;rw[jE]at hp;exact h acc hp
 |d::ds,acc,ys,n,hl,hp,hn,h1000,h=>by
  rw[iu]at hl;have hyl:(ys.map D.str).length=ys.length:=FM ..;have y1:1<=ys.length:=by rw[←hl]; exact Nat.le_add_left 1 _
  have yn:1<=n:=iz y1 hn;refine#[_,_,rfl,rfl,_,rfl,by rw[hyl]; exact Int.ofNat_le.mpr y1,by rw[hyl]; exact Int.ofNat_lt.mpr^lN h1000^by cbv,yn,λr r0 r1=>?_];rw[hyl]at r1;have hr:r.toNat<ys.length:=by clear hn h1000 yn y1; omega
  have hat:ys[r.toNat]?=P3 ys[r.toNat]:=No hr;have hle:(ys.eraseIdx r.toNat).length=ys.length - 1:=by rw[List.length_eraseIdx,if_pos hr]
  refine#[r.toNat,ys[r.toNat],by rw[Int.toNat_of_nonneg r0],hat,Qg ds _ _ _ (by rw[hle,←hl]; rfl) ((Lq hat).trans hp) (by rw[hle]; exact lB hn 1) (by rw[hle]; exact iz (Nat.sub_le _ _) h1000) λacc' ha=>?_];rw[hle,Nat.sub_sub,Nat.add_sub_cancel' y1];exact h acc' ha
def Ya(x y:Str):cs x<cs y\/x=y\/cs y<cs x:=by
 by_cases h1:cs x<cs y
 .exact .inl h1
 by_cases h2:cs y<cs x
 .exact .inr^.inr h2
 exact .inr^.inl^Yb^o7 (as:=cs x) (bs:=cs y) h2 h1
def Ze(x y:Str)(l:Int):Aq:=#[if decide (cs y<cs x)=t_ then y else x,if decide (cs x<cs y)=t_ then y else x,l]
def O_(k:Int):v_ (Nat×Nat×Int):=[(0,1,k),(1,2,k),(2,3,k),(3,4,k),(4,5,k),(0,2,3*k),(3,5,3*k),(1,4,4*k - 1),(0,5,4*k)]
def J8(ns:v_ Str)(p:Nat×Nat×Int):Aq:=Ze (ns.getD p.1 "") (ns.getD p.2.1 "") p.2.2
def cA{x y:Str}(h:x≠y)(l:Int):((Ze x y l).a=x/\(Ze x y l).b=y\/(Ze x y l).a=y/\(Ze x y l).b=x)/\cs (Ze x y l).a<cs (Ze x y l).b:=by
 unfold Ze
 rcases Ya x y with c|c|c
 .have n:¬cs y<cs x:=λz=>Bo _^lE c z
  rw[decide_eq_true c,decide_eq_false n];exact#[.inl #[rfl,rfl],c]
 .exact absurd c h
 .have n:¬cs x<cs y:=λz=>Bo _^lE c z
  rw[decide_eq_true c,decide_eq_false n];exact#[.inr #[rfl,rfl],c]
def O9(k:Int):∀p∈O_ k,p.1<6/\p.2.1<6/\p.1≠p.2.1:=by
 intro p hp;unfold O_ at hp;simp only[UF,ip,or_false]at hp
 rcases hp with rfl|rfl|rfl|rfl|rfl|rfl|rfl|rfl|rfl <;>exact#[by dsimp only; decide,by dsimp only; decide,by dsimp only; decide]
def Zm{k:Int}(h1:1<=k)(h2:k<=10):∀p∈O_ k,1<=p.2.2/\p.2.2<=1000000:=by
 intro p hp;unfold O_ at hp;simp only[UF,ip,or_false]at hp
 rcases hp with rfl|rfl|rfl|rfl|rfl|rfl|rfl|rfl|rfl <;>exact#[by dsimp only; omega,by dsimp only; omega]
def Zl(k:Int):(O_ k).Pairwise λp q=>¬(p.1=q.1/\p.2.1=q.2.1)/\¬(p.1=q.2.1/\p.2.1=q.1):=by
 have h:([(0,1),(1,2),(2,3),(3,4),(4,5),(0,2),(3,5),(1,4),(0,5)]:v_ (Nat×Nat)).Pairwise λp q=>¬(p.1=q.1/\p.2=q.2)/\¬(p.1=q.2/\p.2=q.1):=by cbv
 exact kE.mp (show((O_ k).map λp=>(p.1,p.2.1)).Pairwise λp q=>¬(p.1=q.1/\p.2=q.2)/\¬(p.1=q.2/\p.2=q.1)from h)
def bV{ns:v_ Str}(hl:ns.length=6)(nd:ns.Nodup)(hn:∀x∈ns,UZ x){k:Int}(k1:1<=k)(k2:k<=10){ps:v_ Str}(hp:ps.Perm ns)(hr:rising ps){ts:v_ Aq}(ht:ts.Perm^(O_ k).map^J8 ns)(hb:FQ ts):Net.Ok #[ps,ts]:=by
 have inj:∀i j,i<6->j<6->ns.getD i ""=ns.getD j ""->i=j:=λi j hi hj e=>by
  have a1:=getD_at (xs:=ns) (i:=i) (by rw[hl]; exact hi);have a2:=getD_at (xs:=ns) (i:=j) (by rw[hl]; exact hj);rw[e]at a1;let#[b1,c1]:=Uf.mp a1;let#[b2,c2]:=Uf.mp a2;exact(oq nd).mp^c1.trans c2.symm
 have two:∀p∈O_ k,((J8 ns p).a=ns.getD p.1 ""/\(J8 ns p).b=ns.getD p.2.1 ""\/(J8 ns p).a=ns.getD p.2.1 ""/\(J8 ns p).b=ns.getD p.1 "")/\cs (J8 ns p).a<cs (J8 ns p).b:=λp hp=>by
  let#[i1,i2,i3]:=O9 k p hp;exact cA (λe=>i3^inj _ _ i1 i2 e) p.2.2
 refine#[λx hx=>hn x^hp.mem_iff.mp hx,hr,λt h=>?_,RT hb^(ht.map ends).nodup_iff.mpr ?_]
 .let#[p,hpi,rfl]:=Sc.mp^ht.mem_iff.mp h
  let#[i1,i2,i3]:=O9 k p hpi;let#[l1,l2]:=Zm k1 k2 p hpi;let#[h1,h2]:=two p hpi;have m1:ns.getD p.1 ""∈ps:=hp.mem_iff.mpr (getD_mem^by rw[hl]; exact i1);have m2:ns.getD p.2.1 ""∈ps:=hp.mem_iff.mpr (getD_mem^by rw[hl]; exact i2);refine#[?_,?_,h2,l1,l2]
  .rcases h1 with⟨e,_⟩|⟨e,_⟩ <;>rw[e] <;>assumption
  .rcases h1 with⟨_,e⟩|⟨_,e⟩ <;>rw[e] <;>assumption
 .rw[jf]
  refine kE.mpr^(Zl k).imp_of_mem λ{p q} hpi hqi #[n1,n2] e=>?_;let#[i1,i2,_]:=O9 k p hpi;let#[j1,j2,_]:=O9 k q hqi;have ea:(J8 ns p).a=(J8 ns q).a:=congrArg Prod.fst e;have eb:(J8 ns p).b=(J8 ns q).b:=congrArg Prod.snd e
  rcases(two p hpi).1 with⟨a1,a2⟩|⟨a1,a2⟩ <;>rcases(two q hqi).1 with⟨c1,c2⟩|⟨c1,c2⟩
  .exact n1 #[inj _ _ i1 j1 (by rw[←a1,←c1,ea]),inj _ _ i2 j2^by rw[←a2,←c2,eb]]
  .exact n2 #[inj _ _ i1 j2 (by rw[←a1,←c1,ea]),inj _ _ i2 j1^by rw[←a2,←c2,eb]]
  .exact n2 #[inj _ _ i1 j2 (by rw[←a2,←c2,eb]),inj _ _ i2 j1^by rw[←a1,←c1,ea]]
  .exact n1 #[inj _ _ i1 j1 (by rw[←a2,←c2,eb]),inj _ _ i2 j2^by rw[←a1,←c1,ea]]
section
variable {ss:v_ Slot}{n:Nat}{Pd:D->Nat->Prop}
def Om(h:Mi ss n Pd):Eu (EE Pd) n (ss++Tk 9 .no):=by
 let#[rfl,hn,p]:=h;have szl:=PySem.sizeLine_eq;unfold Eu;refine#[6,rfl,by cbv,(by first|exact u0|exact u1|exact u2|exact u3|exact u4|exact u5|omega),λxs hl hx hr=>?_];refine#[xs,rfl,rfl,by lk,6,rfl,#[by cbv,by cbv],by rw[DF]; decide,?_];refine Qg (xs:=xs) _ _ _ _ (by rw[DF,hl]; rfl) (List.Perm.refl _) (by lk) (by lk) λns hp=>?_;have nl:ns.length=6:=hp.length_eq.trans hl;have nd:ns.Nodup:=hp.nodup_iff.mpr^SJ hr;have hns:∀x∈ns,UZ x:=λx h=>hx x^hp.mem_iff.mp h;rw[hl]
 have e6:∃s a b c d t,ns=[s,a,b,c,d,t]:=by
  match ns,nl with
  |[s,a,b,c,d,t],_=>exact#[s,a,b,c,d,t,rfl]
 let#[s,a,b,c,d,t,rfl]:=e6;refine#[rfl,rfl,?_];refine#[3,rfl,by cbv,by cbv,(by first|exact u0|exact u1|exact u2|exact u3|exact u4|exact u5|omega),λq q0 q1=>?_];have cm:∀i:Int,CMul i (2+q):=λi=>dN (by lk) (by lk);refine#[z3,z3,z3,z3,z3,cm _,z3,cm _,z3,(by rw[szl]; show 7<=16777216; decide),?_];refine#[cm _,z3,cm _,z3,z2,(by rw[szl]; show 7+2<=16777216; decide),?_];refine#[(by rw[szl]; show 6<=16777216; decide),_,[s,a,b,c,d,t],rfl,rfl,by show 6<64; decide,λss' hp' hs=>?_];refine#[(by show 7+2<=10000000; decide),?_];refine BG (λd=>match d with|.tup [.str x,.str y,.int l]=>AS^Ze x y l|_=>.non) (λρ=>∃s0 s1 s2,ρ=[s0,s1,s2]) _ _ _ _ ?_ #[_,_,_,rfl] ?_
 .rintro e he ρ m nx ⟨s0,s1,s2,rfl⟩ h1
  obtain⟨x,y,l,rfl⟩:∃(x y:Str) (l:Int),e=.tup [.str x,.str y,.int l]:=by
   simp only[List.cons_append,jB,UF,ip,or_false]at he
   rcases he with rfl|rfl|rfl|rfl|rfl|rfl|rfl|rfl|rfl <;>exact#[_,_,_,rfl]
  exact#[rfl,rfl,x,y,rfl,x,y,rfl,z3,h1 _ #[_,_,_,rfl]]
 .dsimp only[AQ]
  refine Dg (ts:=(O_ (2+q)).map^J8 [s,a,b,c,d,t]) ?_ (by rw[FM]; show 9<64; decide) ?_
  .rfl
  intro ts' p1 p2;refine#[z2,?_];have ok:=bV nl nd hns (k:=2+q) (by lk) (by lk) hp' (Gj hs^hp'.nodup_iff.mpr nd) p1 p2;refine p #[ss',ts'] _ #[ok,by show ss'.length<=25; rw[hp'.length_eq]; show 6<=25; decide,by show ts'.length<=60; rw[p1.length_eq,FM]; show 9<=60; decide] (by show ss'.length<=24; rw[hp'.length_eq]; show 6<=24; decide)^by lk
end
end Nt
namespace Dp
open L2
def Rv:Ad:=λ_ _ _=>False
section
variable {X:Cx}{κ:Kd}{st:Stmt}
def RI:DS X κ st Rv:=#[_,λ_ _ _ _ _ _ h=>h.elim,λ_ _ _ _ _ _ _ _ _ _ w=>w]
end
end Dp
namespace Nt
open L2 Dp
def thn(N:Net)(ts:v_ Aq):Prop:=(∀t∈ts,t∈N.ts)/\ts.Pairwise Bm
abbrev GZ(w:v_ Str):D:=.tup^w.map .str
def gP(t b:Int):Prop:=1<=b/\b<=1000000/\1<=t/\t<=1000000
def walkedK(k:Nat)(M:Net)(a b:Str)(w:v_ Str)(d:Int):Prop:=(∃r,w=a::r)/\w.getLast?=P3 b/\walk M w d/\w.length<=k/\∀x∈w,x∈M.ps
abbrev walked:=walkedK 1000
def Yy:W2:=λss n P=>∃(M:Net) (a b:Str) (w:v_ Str) (d:Int),ss=[.sh^enc M,.sh^.str a,.sh^.str b,.sh^GZ w]/\okN M/\walked M a b w d/\P (.int d) n
def Pq:W2:=λss n P=>∃(M:Net) (t b:Int) (u:Aq) (w:v_ Str) (d:Int),ss=[.sh^enc M,.sh^.tup [.int t,.int b],.sh^AS u,.sh^GZ w]/\okN M/\gP t b/\walked M u.a u.b w d/\d*b<=u.len*t/\P .non n
def Du:Ad:=(Af (BA 4^AW aB^AD (AH^AC 0)^AD (AH^AC 3) AY)
 (Af (A8 (B7 (AX^Ac (C9 u_) (AC 4)^wC D.non)^B7 (AX^Ac (Ge t_) (Ac A5 (AC 3)^wC^D.int 0)^AC 1)^AX^Ac (Ge t_) (Ac A5 (AC 3)^bD^wC^D.int 1)^AC 2) (Ap^wC D.non) Au)
 (Ap^AC 4)))
def NF:Ad:=(Af (BA 4^AW Yy^AD (AH^AC 0)^AD (AH^Ac A5 (AC 2)^wC^D.int 0)^AD (AH^Ac A5 (AC 2)^wC^D.int 1)^AD (AH^AC 3) AY)
 (Af (A8 (AX^Ac (C9 u_) (AC 4)^wC D.non) (Ap^wC^D.str "way") Au)
 (Ap^WO (AX^AW Cy^AD (AH^AC 4)^AD (AH^AC 1)^AD (AH^Ac A5 (AC 2)^wC^D.int 2) AY) (wC D.non)^wC^D.str "far")))
def U7{N:Net}(ok:N.Ok){w:v_ Str}(hl:w.length<=1000)(h:∀x∈w,x∈N.ps):cW^.tup^w.map .str:=by
 let#[a,b,c]:=Il ok h;exact#[a,by show K4 _<=160000; omega,by show ND _+1<=50; omega]
theorem thn.thinB{N:Net}{ts:v_ Aq}(h:thn N ts):thinB N^enc #[N.ps,ts]=t_:=thinB_iff.mpr #[ts,rfl,h.1,h.2]
def Sx{M:Net}(okm:okN M){a b:Str}{w:v_ Str}{d:Int}(h:walked M a b w d):cE M^GZ w=.int d:=by
 let#[#[r,rfl],_,hw,_,hin]:=h;exact UT okm.1 (hin _ Op) hw
section
variable {ss:v_ Slot}{n:Nat}{Pd:D->Nat->Prop}
def Ga(h:Yy ss n Pd):Du (EE Pd) n (ss++Tk 1 .no):=by
 let#[M,a,b,w,d,rfl,okm,hw,p]:=h;have e:=Sx okm hw;let#[#[r,rfl],hl,hwk,h30,hin]:=hw;unfold Du;refine#[M,GZ (a::r),rfl,okm.1,by have:=okm.2.1; omega,okm.2.2,U7 okm.1 h30 hin,?_];rw[e];refine#[rfl,.str a,AK (j:=0) rfl,?_];refine CO (λc=>absurd c^by simp) λ_=>?_;refine#[1,rfl,.str b,UW hl,?_];refine CO (λc=>absurd c^by simp) λ_=>?_;exact p
def LS(h:Pq ss n Pd):NF (EE Pd) n (ss++Tk 1 .no):=by
 let#[M,t,b,u,w,d,rfl,okm,#[b1,b2,t1,t2],hw,hle,p]:=h;refine#[_,AK rfl,_,AK rfl,M,_,_,w,d,rfl,okm,hw,#[rfl,?_]];refine#[_,AK rfl,d,t,b,_,rfl,b1,b2,t1,t2,?_];rw[decide_eq_true hle];exact p
def T4{N:Net}(okn:okN N){ts:v_ Aq}(h:ts.Sublist N.ts):thn N ts:=#[λt ht=>h.subset ht,okn.1.trise.sublist h]
end
end Nt
namespace L2
open PySem.AutoSeq1 (wpAny_loadPart')
def Y_{prog:jK}{w:jQ}{A:jd}{R:Result->On->Prop}{s:On}(t:Ch)(items:Array Ev)(n:Nat)(x:Ev)(e:Ev->Bool)(j:Nat)(hj:j<items.size)(hit:e items[j]=t_)(hno:∀m (hm:m<items.size),m<j->e items[m]=u_)
  (hl:s.heap.get? t=P3 {cls:=.type "tuple",dict:=s_,data:=.seq items n,slots:=#[]}) (he:∀y,y∈items->PySem.SeqAt.EqAt A.in1 s y x^e y)
  (h:R (.ok^.ret^.int (j:Int) s.toks) {s with toks:=s.toks+1}):
  wpAny (model prog w) A.in1 (ll.«tuple.index» #[[.ref t,x],[]]) (λfin s'=>match fin with|.done f=>R (.ok f) s'|.again c'=>c'.quiet=t_/\codeAny (model prog w) A c' R s') (λe s'=>R (.error e) s') s:=by
 let#[hp,g,d,tk,os]:=s
 wp_walk using j8 hl
 have go:∀(Q:w_ _×Unit->On->Prop) (E:Ev->On->Prop),(∀r,Q (P3 r,()) #[hp,g,d,tk+1,os]\/True)->∀(k i:Nat),i<=j->i+k=items.size->
   (∀r:Fin,r=.done^.ret^.int (j:Int) tk->Q (P3 r,()) #[hp,g,d,tk+1,os])->
   wpAny (model prog w) A.in1 (forIn (List.range' i k 1) ((s_:w_ Fin),()) (fun(i:Nat) __s=>match items[i]? with
      | some y=>do
       let __do_lift ←eqBool y x
       if __do_lift=t_ then do
         let __do_lift ←retInt (i:Int)
         pure (ForInStep.done (P3 __do_lift,()))
        else pure^k9 (s_,())
      |x=>pure^k9 (s_,()))) Q E #[hp,g,d,tk,os]:=by
  intro Q E _ k
  induction k with
  |zero=>intro i h1 h2; omega
  | succ k ih=>
   intro i h1 h2 hQ;have hlt:i<items.size:=by lk
   rw[List.range'_succ,lu];have hi:items[i]?=P3 items[i]:=jj hlt;simp only[hi];refine Db^Db^he _ (oY hlt) prog w _ _ ?_
   by_cases c:i=j
   .subst c
    rw[hit]
    wp_walk
    exact hQ _ rfl
   .rw[hno i hlt^by lk]
    wp_walk
    exact ih (i+1) (by lk) (by lk) hQ
 show wpAny (model prog w) A.in1 (forIn [:min items.size items.size] ((s_:w_ Fin),()) _) _ _ _;rw[Std.Legacy.Range.forIn_eq_forIn_range']
 have er:List.range' (Std.Legacy.Range.start [:min items.size items.size]) (pX [:min items.size items.size])^Std.Legacy.Range.step [:min items.size items.size]=List.range' 0 items.size 1:=by
  simp[pX]
 rw[er];refine go _ _ (λ_=>.inr trivial) items.size 0 (i6 _) (pC _) λr er=>?_;subst er;exact T0 h
section
variable {X:Cx}
def d7:V->v_ V->Hp->VK->Prop:=λx vs H Q=>∃(a:Ch) (xs:v_ V) (y:V) (ds:v_ lv) (d:lv) (j:Nat),x=.ref a/\vs=[y]/\H a=P3^.tup xs/\RVs H ds xs/\RV H d y/\kn ds=t_/\d.canLay0=t_/\d.depth<=100 /\
 (∃dj,ds[j]?=P3 dj/\ji dj d=t_)/\(∀m dm,m<j->ds[m]?=P3 dm->ji dm d=u_)/\Q (.int (j:Int)) H
def b9{k:Nat}(hr:Room k X.A):au X "tuple.index" d7:=by
 intro zH s Z H x vs v us Q I rx rv h;let#[l,xs,y,ds,d,j,rfl,rfl,hH,hds,hd,c1,c2,dd,#[dj,hj,hit],hno,q]:=h;cases rx;let#[u,rfl,ru]:=rv.one;let#[z,its,r,#[#[cls,dt,data,sl],e,e2,n,e3,e4,e5]]:=(show ObjOk X.prog X.w H s.heap l^.tup xs from I.hok l _ hH);simp only at e2 e3 e4 e5;subst e2 e3 e4 e5;let#[as,ra]:=RVs.reads I hds r;let#[bs,rb]:=RV.reads I hd ru;have hm:=PySem.SeqAt.readsAll_map ds its as c1 ra;have hlen:ds.length=its.length:=by rw[←hm,FM]
 have hu:=hr.un;have hmin:min (kR ds) d.depth<=d.depth:=mP _ _
 have at_:∀m dm,ds[m]?=P3 dm->∀(h:m<its.toArray.size),PySem.SeqAt.readOf s.heap its.toArray[m]=dm:=λm dm e h=>by
  rw[←hm,ir]at e;have h':m<its.length:=by simpa using h
  simp_all
 have hjl:j<its.length:=by grind
 have key:=Y_ (prog:=X.prog) (w:=X.w) (A:=X.A) (R:=wants (EP X zH Z Q) X.xe) l its.toArray n u (λy=>ji (PySem.SeqAt.readOf s.heap y) d) j (by lk) (by simp_all) (λm hm' hlt=>by
  have hml:m<ds.length:=by simp_all
  rw[at_ m ds[m] (No hml) hm'];exact hno m ds[m] hlt (No hml)) e (PySem.SeqAt.items_eqAt (vs:=its.toArray) (by lk) rb c1 c2^by lk) #[.int j,H,I.tok _,#[_,rfl],q]
 exact nN^mQ PySem.F.slot_tuple_index.plain PySem.F.entry_tuple_index^PySem.F.slot_tuple_index.check _ _ _ _ _ _ _ _ #[_,e,rfl] (PySem.F.args_tuple_index_2 _ _) key
def gS(r:V->v_ V->Hp->VK->Prop)(to:TE)(t:TA):TE:=λZ H Q=>to Z H λx H1=>(∃a xs,x=.ref a/\H1 a=P3^.tup xs)/\t Z H1 λxs H2=>r x xs H2 Q
def bn{o e:jJ}{es:v_ jJ}{to:TE}{t:TA}{name:Str}{apos cpos:Pos}{id:String}{r:V->v_ V->Hp->VK->Prop}(slot:Slot "tuple" name id)(hty:typeOf^.builtin id=pure^.type "method_descriptor")(hm:au X id r)(ho:PE X o to)(ha:PA X (e::es) t)
  (hbase:attributeBase o name X.env^eval o X.env=eval o X.env:=by rfl)
  (hfew:((backTo cpos^starEach (e::es) X.env).all (λx=>!x.1)&&(backToKw cpos^keywordEach [] X.env).all (λx=>x.1.isSome)
   && decide ((e::es).length+([]:v_ k7).length+(if([]:v_ k7).isEmpty then 0 else 1)<30))=t_:=by rfl)
  (hline:(apos.endLine==cpos.line)=t_:=by rfl) (hs:starEach (e::es) X.env=(u_,eval e X.env)::starEach es X.env:=by rfl) (hplain:(backTo cpos^starEach es X.env).any (·.1)=u_:=by rfl):
  PE X (.Call (.Attribute o name apos) (e::es) [] cpos) (gS r to t):=by
 intro zH s Z H Q I h;refine wpAny_Call_method_late hbase hfew hline rfl (thn (ho zH s Z H _ I h) λv s1 #[x,H1,I1,r1,#[a,xs,ex,hx],q1]=>?_);subst ex;have ev:v=ja a:=r1;subst ev;let#[z,its,_,o,e1,e2,n,e3,e4,e5]:=(I1.hok a _ hx);refine#["tuple",id,PySem.F.plainAttrs_tuple,slot,hty,#[o,e1,e2],λb eb=>by simp_all,?_];have hA:=ha cpos zH s1 Z H1 _ I1 q1;rw[hs]at hA ⊢;refine lL (by grind)^mN ?_;exact thn hA λus s2 #[vs,H2,I2,r2,q2]=>hm zH s2 Z H2 (.ref a) vs (.ref a) us Q I2 r1 r2 q2
end
end L2
namespace Dp
open L2
section
variable {X:Cx}{zU:Kd}{a e:Expr}{es:v_ Expr}{wa:DW}{ws:EW}
def fJ(d:D)(ds:v_ D)(P:D->Prop):Prop:=∃(xs:v_ D) (y:D) (j:Nat),d=.tup xs/\ds=[y]/\Cs^.tup xs/\Cs y/\(∃x,xs[j]?=P3 x/\C2 x y=t_)/\(∀m x,m<j->xs[m]?=P3 x->C2 x y=u_)/\P^.int (j:Int)
def OS(wo:DW)(ws:EW):DW:=λn ρ P=>wo n ρ λd n1=>(∃xs,d=.tup xs)/\ws n1 ρ λds n2=>fJ d ds λz=>P z n2
def fZ{K:Frag}:h7 K .sh "tuple" d7 fJ:=by
 intro U M H d ds x vs P Q dom vM hx hp w q;let#[xs,y,j,rfl,rfl,#[n1,l1,_],#[n2,l2,d2],#[x0,hx0,hit],hno,w]:=w;let#[v,rfl,hy]:=Ei hp;let#[a,us,rfl,hn,hs]:=hx.tup
 have get:∀(m:Nat) (p:lv),(Bj xs)[m]?=P3 p->∃x,xs[m]?=P3 x/\p=toPy x:=λm p e=>by
  rw[Cf,ir]at e;let#[x,e1,rfl]:=jY.mp e
  grind
 refine#[a,us,v,_,_,j,rfl,rfl,hn,hs.rv n1,hy.rv n2,l1,l2,d2,#[_,by rw[Cf,ir,hx0]; rfl,hit],λm p hm e=>?_,q _ H (.int j) .refl rfl w];let#[x',e1,rfl]:=get m p e;exact hno m x' hm e1
def JI{k:Nat}{apos cpos:Pos}(hr:Room k X.A)(ho:DE X a zU wa)(ha:aF X (e::es) ws)
  (hbase:attributeBase a "index" X.env^eval a X.env=eval a X.env:=by rfl)
  (hfew:((backTo cpos^starEach (e::es) X.env).all (λx=>!x.1)&&(backToKw cpos^keywordEach [] X.env).all (λx=>x.1.isSome)
   && decide ((e::es).length+([]:v_ k7).length+(if([]:v_ k7).isEmpty then 0 else 1)<30))=t_:=by rfl)
  (hline:(apos.endLine==cpos.line)=t_:=by rfl) (hs:starEach (e::es) X.env=(u_,eval e X.env)::starEach es X.env:=by rfl) (hplain:(backTo cpos^starEach es X.env).any (·.1)=u_:=by rfl):
  DE X (.Call (.Attribute a "index" apos) (e::es) [] cpos) .sh (OS wa ws):=by
 let#[t,h1,h2]:=ho;let#[u,g1,g2]:=ha;refine#[_,bn PySem.F.slot_tuple_index PySem.F.type_tuple_index (b9 hr) h1 g1 hbase hfew hline hs hplain,λC M H n ρ Z P Q R w q=>?_];refine h2 C M H n ρ Z _ _ R w λx H1 d n1 e1 f1 r1 p=>?_;have R1:=R.step e1 f1;have tx:=r1.tpOf R.dom R.vM;let#[#[xs,rfl],p]:=p;refine#[by let#[a,us,rfl,hn,hs]:=tx.tup; exact#[a,us,rfl,hn],?_];refine g2 C M H1 n1 ρ Z _ _ R1 p λvs H2 ds n2 e2 f2 r2 p2=>?_;have R2':=R1.step e2 f2;refine fZ C.V M H2 (.tup xs) ds x vs _ _ R2'.dom R2'.vM (tx.pres (R1.pres e2) e2 R.uV) r2 p2 λv H3 z g vr pz=>?_;exact q v H3 z n2 ((e1.trans e2).trans g.ext) (f2.grow g) (VR.back (e1.trans e2) vr) pz
end
end Dp
namespace L2
open PySem.W
end L2
namespace Dp
open L2
end Dp
namespace Nt
open L2 Dp
def S0:D->Bool
 |.int i=>decide (0<=i)
 |_=>u_
def dL(N:Net):D->Bool
 |.tup xs=>((xs.length:Int)==(N.ps.length:Int))&&xs.all S0
 |_=>u_
def gf:D->Int
 |.int i=>i
 |_=>0
def He(N:Net)(xs:v_ D)(a:Str):Int:=gf^(Bi (N.ps.map .inr) xs^.inr a).getD .non
def FY(i:Int):Int:=if i<0 then -i else i
def Fw(N:Net):D->Bool
 |.tup xs=>dL N^.tup xs&&N.ts.all λt=>decide (FY (He N xs t.a - He N xs t.b)<=t.len)
 |_=>u_
def F3(m:Int):w_ Int->Int
 |some d=>if d<m then d else m
 |none=>m
def Pt:W2:=λss n P=>∃(N:Net) (d:D),ss=[.sh^enc N,.sh d]/\okN N/\P (.bl^dL N d) n
def aC:W2:=λss n P=>∃(N:Net) (xs:v_ D) (a b:Str),ss=[.sh^enc N,.sh^.tup xs,.sh^.str a,.sh^.str b]/\okN N/\xs.length=N.ps.length/\(∀x∈xs,S0 x=t_)/\a∈N.ps/\b∈N.ps/\P (.int^FY (He N xs a - He N xs b)) n
def Yz:W2:=λss n P=>∃(N:Net) (d:D),ss=[.sh^enc N,.sh d]/\okN N/\P (.bl^Fw N d) n
def Te:W2:=λss n P=>∃(N:Net) (s:Str) (m:Int),ss=[.sh^enc N,.sh^.str s,.sh^.int m]/\okN N/\s∈N.ps/\∀F:OO,Told N s F->P (.tup (N.ps.map λx=>.int (F3 m ((F x).map (·.1))))) n
def G1:Ad:=(Ap^J7 (AW Cz^AD (AH^Bl CS^AE (Ac A5 (AC 0)^wC^D.int 0) AQ)^AD (AH^AC 1) AY)^Bl HE^AE (BU [s_] (Av^AC 1) (AT 0) CY^J7 (AW FJ^AD (AH^AC 0) AY)^Ac (f2 λi j=>D.bl (decide (j<=i))) (AC 0)^wC^D.int 0) AQ)
def PV:Ad:=(Ap^Bl Vz^AE (Ac CV (Ac A5 (AC 1)^OS (Ac A5 (AC 0)^wC^D.int 0)^AE (AC 2) AQ)^Ac A5 (AC 1)^OS (Ac A5 (AC 0)^wC^D.int 0)^AE (AC 3) AQ) AQ)
def MQ:Ad:=(Af (A8 (BP^AX^AW Pt^AD (AH^AC 0)^AD (AH^AC 1) AY) (Ap^wC^D.bl u_) Au)
 (Ap^Bl HE^AE (BU [P3 0,P3 1,s_,s_,s_] (Av^Ac A5 (AC 0)^wC^D.int 1) (B3 3^Ab (AT 2)^Ab (AT 3)^Ab (AT 4) BN) CY^Ac YD (AW aC^AD (AH^AC 0)^AD (AH^AC 1)^AD (AH^AC 2)^AD (AH^AC 3) AY)^AC 4) AQ))
def F5:Ad:=(Af (BA 3^AW Pz^AD (AH^AC 0)^AD (AH^AC 1) AY)
 (Ap^Bl BH^AE (BU [P3 2,P3 3,s_] (Av^Ac A5 (AC 0)^wC^D.int 0) (AT 2) CY^WO (AX^Ac (ID u_) (AC 2)^AC 1) (Bl RF^AE (AC 0)^AE (Ac A5 (Ac Bx (AC 1)^AC 2)^wC^D.int 0) AQ)^AC 0) AQ))
theorem Tw:∀{ks:v_ Key}{ds:v_ D}{k:Key}{z:D},Bi ks ds k=P3 z->z∈ds
 |[],_,k,z,h=>by cases h
 |_::_,[],k,z,h=>by cases h
 |k0::ks,d::ds,k,z,h=>by
  have h':(if k0=k then P3 d else Bi ks ds k)=P3 z:=h
  split at h'
  .grind
  .exact TW _^Tw h'
theorem WZ:∀{ps:v_ Str}{xs:v_ D}{j:Nat}{a:Str},ps.Nodup->ps[j]?=P3 a->Bi (ps.map .inr) xs^.inr a=xs[j]?
 |[],xs,j,a,_,h=>by simp at h
 |p::ps,[],j,a,_,h=>by rfl
 | p::ps,x::xs,j,a,nd,h=>by
  rw[jA]at nd;show(if ke p=.inr a then P3 x else Bi _ xs _)=_;cases j with
  |zero=>
   grind
  |succ j=>
   rw[if_neg λz=>nd.1 (by rw[kr z]; exact jZ h),WZ nd.2 h];simp
def ge_int{d:D}(h:S0 d=t_):∃i,d=.int i/\0<=i:=by
 cases d with
 |int i=>exact#[i,rfl,of_decide_eq_true h]
 |_=>cases h
def ZJ{ps:v_ Str}(h:rising ps):ps.Nodup:=pj (λ{a b} z e=>by grind) h
def gM{N:Net}{xs:v_ D}(hl:xs.length=N.ps.length)(hg:∀x∈xs,S0 x=t_){a:Str}(ha:a∈N.ps):Bi (N.ps.map .inr) xs^.inr a=P3^.int^He N xs a:=by
 let#[z,hz]:=Iq (ds:=xs) (by grind)^Sc.mpr #[a,ha,rfl];let#[i,rfl,_]:=ge_int^hg z^Tw hz;unfold He;rw[hz];rfl
section
variable {ss:v_ Slot}{n:Nat}{Pd:D->Nat->Prop}
def La(h:Pt ss n Pd):G1 (EE Pd) n (ss++Tk 0 .no):=by
 let#[N,d,rfl,okn,p]:=h;have l25:=okn.2.1;unfold G1;refine#[_,AK (j:=0) rfl,_,_,rfl,rfl,_,d,rfl,?_];cases d with
 | tup xs=>
  have p':Pd (.bl (((xs.length:Int)==(N.ps.length:Int))&&xs.all S0)) n:=p;rw[FM];refine S_ (b1:=((xs.length:Int)==(N.ps.length:Int))) (λhb p2=>?_) p';have hl:xs.length=N.ps.length:=by have:=beq_iff_eq.mp hb; omega
  refine#[by show xs.length<=10000000; omega,?_];refine BG (λd=>.bl^S0 d) (λρ=>∃s,ρ=[s]) _ _ _ _ ?_ #[_,rfl] ?_
  .rintro d hd ρ m nx ⟨s,rfl⟩ hnx
   refine#[[d],rfl,rfl,?_];cases d with
   |int i=>exact hnx _ #[_,rfl]
   |_=>exact hnx _ #[_,rfl]
  .rw[jB]
   exact Fz (p:=S0) (P:=λz=>Pd z n) p2
 |_=>exact p
def Nw{N:Net}(okn:okN N){xs:v_ D}(hl:xs.length=N.ps.length)(hg:∀x∈xs,S0 x=t_){a:Str}(ha:a∈N.ps):∃j:Nat,xs[j]?=P3^.int^He N xs a/\Cs^.tup^N.ps.map .str/\Cs^.str a/\(∃x,(N.ps.map D.str)[j]?=P3 x/\C2 x^.str a=t_)/\∀(m:Nat) (x:D),m<j->(N.ps.map D.str)[m]?=P3 x->C2 x^.str a=u_:=by
 have nd:=ZJ okn.1.rise;let#[j,hj]:=kA.mp ha;refine#[j,by rw[←WZ nd hj,gM hl hg ha],GR okn.1.names,?_,#[.str a,by simp_all,by rw[Ki,beq_self_eq_true]],λm x hm hx=>?_]
 .exact FC (B:=0) (by cbv) (λc hc=>by have:=(okn.1.names a ha).2.2 c hc; omega)^i6 _
 .rw[ir]at hx
  let#[y,hy,rfl]:=jY.mp hx;rw[Ki,beq_eq_false_iff_ne];intro e;subst e;let#[h1,e1]:=Uf.mp hy;let#[h2,e2]:=Uf.mp hj
  have:=(oq nd).mp^e1.trans e2.symm
  omega
def Mt(h:aC ss n Pd):PV (EE Pd) n (ss++Tk 0 .no):=by
 let#[N,xs,a,b,rfl,okn,hl,hg,ha,hb,p]:=h;let#[i,i2,hlay,i3,i4,i5]:=Nw okn hl hg ha;let#[j,j2,_,j3,j4,j5]:=Nw okn hl hg hb;exact#[_,AK rfl,#[_,rfl],_,_,i,rfl,rfl,hlay,i3,i4,i5,_,AK i2,_,AK rfl,#[_,rfl],_,_,j,rfl,rfl,hlay,j3,j4,j5,_,AK j2,p]
def QZ(h:Yz ss n Pd):MQ (EE Pd) n (ss++Tk 0 .no):=by
 let#[N,d,rfl,okn,p]:=h;have ok:=okn.1;have l60:=okn.2.2;unfold MQ;refine#[N,d,rfl,okn,?_];show if(!(dL N d))=t_ then _ else _
 cases hp:dL N d with
 | false=>
  have:Fw N d=u_:=by
   cases d with
   |tup xs=>show(dL N^.tup xs&&_)=u_; rw[hp]; rfl
   |_=>rfl
  rw[this]at p;exact C8 p
 | true=>
  cases d with
  | tup xs=>
   have hp':(((xs.length:Int)==(N.ps.length:Int))&&xs.all S0)=t_:=hp;rw[iq]at hp';have hl:xs.length=N.ps.length:=by have:=beq_iff_eq.mp hp'.1; omega
   have hg:∀x∈xs,S0 x=t_:=jh.mp hp'.2;have p':Pd (.bl (dL N^.tup xs&&N.ts.all λt=>decide (FY (He N xs t.a - He N xs t.b)<=t.len))) n:=p;rw[hp,nF]at p';refine Ba #[_,AK (j:=1) rfl,by show(N.ts.map AS).length<=10000000; rw[FM]; omega,?_];refine BG (λd=>match d with|.tup [.str a,.str b,.int l]=>.bl (decide (FY (He N xs a - He N xs b)<=l))|_=>.non) (λρ=>∃s2 s3 s4,ρ=[.sh^enc N,.sh^.tup xs,s2,s3,s4]) _ _ _ _ ?_ #[_,_,_,rfl] ?_
   .rintro d hd ρ m nx ⟨s2,s3,s4,rfl⟩ hnx
    let#[t,ht,rfl]:=Sc.mp hd;let#[m1,m2,_]:=ok.tin t ht;exact#[rfl,rfl,N,xs,t.a,t.b,rfl,okn,hl,hg,m1,m2,hnx _ #[_,_,_,rfl]]
   .rw[jB,jf]
    exact Fz (p:=λt:Aq=>decide (FY (He N xs t.a - He N xs t.b)<=t.len)) (P:=λz=>Pd z n) p'
  |_=>cases hp
def KA(h:Te ss n Pd):F5 (EE Pd) n (ss++Tk 1 .no):=by
 let#[N,s,m,rfl,okn,hs,p]:=h;have l25:=okn.2.1;unfold F5;refine#[N,s,rfl,okn,hs,λks ds F M T=>?_];refine#[_,AK (j:=0) rfl,by grind,?_];refine BG (λd=>match d with|.str x=>.int (F3 m ((F x).map (·.1)))|_=>.non) (λρ=>∃s2,ρ=[.sh^.int m,.sh^.dic ks ds,s2]) _ _ _ _ ?_ #[_,rfl] ?_
 .rintro d hd ρ m' nx ⟨s2,rfl⟩ hnx
  let#[x,hx,rfl]:=Sc.mp hd;refine#[ks,ds,_,rfl,A9 x,?_];show if((Bi ks ds^.inr x).isSome)=t_ then _ else _
  have hnx:nx (.int (F3 m ((F x).map (·.1)))) m' [.sh^.int m,.sh^.dic ks ds,.sh^.str x]:=hnx _ #[.sh^.str x,rfl];rw[M.at_];cases ex:F x with
  |none=>
   rw[ex]at hnx;exact Ba hnx
  |some q=>
   rw[ex]at hnx;exact C8 #[ks,ds,_,KQ q,rfl,A9 x,by rw[M.at_,ex]; rfl,_,AK (j:=0) rfl,hnx]
 .rw[jB,jf]
  exact p F T
end
def YZ{m:Int}(hm:0<=m){o:w_ Int}(ho:∀d,o=P3 d->0<=d):0<=F3 m o/\F3 m o<=m:=by
 cases o with
 |none=>exact#[hm,mB _]
 |some d=>
  show 0<=(if d<m then d else m)/\(if d<m then d else m)<=m
  grind
end Nt
namespace Dp
open L2
mutual
def flat:D->Bool
 |.tup ds=>Eo ds
 |.lst _=>u_
 |.dic _ _=>u_
 |.fdi _ _=>u_
 |.dit _ _=>u_
 |_=>t_
def Eo:v_ D->Bool
 |[]=>t_
 |d::ds=>flat d&&Eo ds
end
section
variable {K:Frag}{M M':Addr->Prop}{H:Hp}
mutual
theorem Zp:∀(d:D) {v:V},flat d=t_->At K M H d v->At K M' H d v
 |.non,_,_,h=>h
 |.bl _,_,_,h=>h
 |.int _,_,_,h=>h
 |.str _,_,_,h=>h
 |.tup ds,_,f,#[a,vs,e,n,h]=>#[a,vs,e,n,L7 ds f h]
 |.lst _,_,f,_=>by cases f
 |.dic _ _,_,f,_=>by cases f
 |.fdi _ _,_,f,_=>by cases f
 |.dit _ _,_,f,_=>by cases f
theorem L7:∀(ds:v_ D) {vs:v_ V},Eo ds=t_->Ats K M H ds vs->Ats K M' H ds vs
 |[],_,_,h=>h
 |d::ds,_,f,#[v,r,e,h,hs]=>#[v,r,e,Zp d (iq _ _▸f:_/\_).1 h,L7 ds (iq _ _▸f:_/\_).2 hs]
end
end
end Dp
set_option maxHeartbeats 400000
namespace Dp
open L2
end Dp
namespace Nt
open L2 Dp
abbrev KZ(t b:Int):D:=.tup [.int t,.int b]
def GH:W2:=λss n P=>∃(M:Net) (u:Aq),ss=[.sh^enc M,.sh^AS u]/\okN M/\P (enc #[M.ps,M.ts.filter λv=>BS (CG v)^CG u]) n
def JX:W2:=λss n P=>∃t b l:Int,ss=[.sh^KZ t b,.sh^.int l]/\gP t b/\P (.int (l*t / b+1)) n
def JU:W2:=λss n P=>∃(M:Net) (t b:Int) (u:Aq) (xs:v_ D),ss=[.sh^enc M,.sh^KZ t b,.sh^AS u,.sh^.tup xs]/\okN M/\gP t b/\u.a∈M.ps/\u.b∈M.ps/\Fw M^.tup xs=t_/\u.len*t<FY (He M xs u.a - He M xs u.b)*b/\P .non n
def IQ:Ad:=(Ap^AW GF^AD (AH^AC 0)^AD (B6^BU [P3 1,s_] (Av^Ac A5 (AC 0)^wC^D.int 1) (AT 1) (AX^Ac Gc (AW Rn^AD (AH^AC 1) AY)^AW Rn^AD (AH^AC 0) AY)^AC 1) AY)
def JM:Ad:=(Ap^Ac Br (Ac (YF WN λi j=>D.int (i / j)) (Ac FP (AC 1)^Ac A5 (AC 0)^wC^D.int 0)^Ac A5 (AC 0)^wC^D.int 1)^wC^D.int 1)
def JL:Ad:=(Af (A8 (BP^AX^AW Yz^AD (AH^AC 0)^AD (AH^AC 3) AY) (Ap^wC^D.str "fair") Au)
 (Ap^WO (AX^AW Cy^AD (AH^AW aC^AD (AH^AC 0)^AD (AH^AC 3)^AD (AH^Ac A5 (AC 2)^wC^D.int 0)^AD (AH^Ac A5 (AC 2)^wC^D.int 1) AY)^AD (AH^AC 1)^AD (AH^Ac A5 (AC 2)^wC^D.int 2) AY) (wC^D.str "near")^wC D.non))
def NU{N:Net}(okn:okN N)(S:v_ Aq):thn N (sub N S).ts:=T4 okn List.filter_sublist
def walkedK.up{k:Nat}(hk:k<=1000){M:Net}{a b:Str}{w:v_ Str}{d:Int}(h:walkedK k M a b w d):walked M a b w d:=#[h.1,h.2.1,h.2.2.1,iz h.2.2.2.1 hk,h.2.2.2.2]
def Uj{M:Net}{xs:v_ D}(h:Fw M^.tup xs=t_):xs.length=M.ps.length/\∀x∈xs,S0 x=t_:=by
 have h:=(iq _ _▸h).1;have h:=iq _ _▸h
 grind
section
variable {ss:v_ Slot}{n:Nat}{Pd:D->Nat->Prop}
def Sa(h:GH ss n Pd):IQ (EE Pd) n (ss++Tk 0 .no):=by
 let#[M,u,rfl,okm,p]:=h;have ok:=okm.1;have l60:=okm.2.2;unfold IQ;refine#[_,AK (j:=1) rfl,by show(M.ts.map AS).length<=10000000; rw[FM]; omega,?_];refine CD (λd=>match d with|.tup [.str x,.str y,.int l]=>BS [.inl l,.inr x,.inr y]^CG u|_=>u_) id (λρ=>∃s,ρ=[.sh^AS u,s]) _ _ _ _ ?_ #[_,rfl] ?_
 .rintro d hd ρ m nx sk ⟨s,rfl⟩ h1 h2
  let#[v,hv,rfl]:=Sc.mp hd;refine#[_,_,_,rfl,_,_,_,rfl,CG v,CG u,rfl,rfl,rfl,?_];rw[Vq];show if BS (CG v) (CG u)=t_ then _ else _
  exact CO (λc=>h1 _ #[_,rfl] c) λc=>h2 _ #[_,rfl]^jR.mpr c
 .rw[jB,lM]
  have e:(M.ts.map AS).filter (λd=>match d with|.tup [.str x,.str y,.int l]=>BS [.inl l,.inr x,.inr y]^CG u|_=>u_)=(M.ts.filter λv=>BS (CG v)^CG u).map AS:=by
   rw[lA];rfl
  rw[e];have okd:=T4 okm^List.filter_sublist (l:=M.ts) (p:=λv=>BS (CG v)^CG u);refine#[M,_,M.ts.filter λv=>BS (CG v)^CG u,rfl,rfl,by have:=kB (λv=>BS (CG v)^CG u) M.ts; omega,λts' p1 p2=>?_];rw[E3 p1 p2^FG okd.2];exact p
def Qd(h:JX ss n Pd):JM (EE Pd) n (ss++Tk 0 .no):=by
 let#[t,b,l,rfl,#[b1,b2,t1,t2],p]:=h;exact#[_,AK rfl,.inr^by lk,_,AK rfl,#[by lk,by lk],p]
def QW(h:JU ss n Pd):JL (EE Pd) n (ss++Tk 0 .no):=by
 let#[M,t,b,u,xs,rfl,okm,#[b1,b2,t1,t2],ha,hb,hf,hlt,p]:=h;let#[f1,f2]:=Uj hf;refine#[M,_,rfl,okm,?_];rw[hf];refine Ba #[_,AK rfl,_,AK rfl,M,_,_,_,rfl,okm,f1,f2,ha,hb,_,AK rfl,_,t,b,_,rfl,b1,b2,t1,t2,?_];rw[decide_eq_false^by lk];exact p
end
def GO{N:Net}(g:Str->Int){a:Str}(ha:a∈N.ps):He N ((N.ps.map g).map .int) a=g a:=by
 unfold He;rw[jf,KW,if_pos ha];rfl
def N5{M:Net}(ok:M.Ok)(g:Str->Int)(h0:∀x∈M.ps,0<=g x)(h:∀t∈M.ts,FY (g t.a - g t.b)<=t.len):Fw M^.tup^(M.ps.map g).map .int=t_:=by
 show(((((M.ps.map g).map _).length==(M.ps.length:Int))&&((M.ps.map g).map _).all _)&&M.ts.all _)=t_;rw[FM,FM,beq_self_eq_true,iq];refine#[jh.mpr λd hd=>?_,jh.mpr λt ht=>?_]
 .let#[i,hi,rfl]:=Sc.mp hd
  let#[x,hx,rfl]:=Sc.mp hi;exact decide_eq_true^h0 x hx
 .let#[m1,m2,_]:=ok.tin t ht
  rw[GO g m1,GO g m2]
  simp_all
def Ui{M:Net}(ok:M.Ok){s x:Str}{o:w_ Int}(h:dS M s x o):∀d,o=P3 d->0<=d:=λd e=>by
 rw[e]at h;exact(h).1.pos ok
def MG{M:Net}(ok:M.Ok){s:Str}{G:Kn}(hG:∀x,dS M s x^G x){m:Int}{t:Aq}(ht:t∈M.ts):FY (F3 m^G t.a - F3 m^G t.b)<=t.len:=by
 let#[_,_,_,l1,_]:=ok.tin t ht;let#[d1,d2]:=IE ht
 have up:∀{y z:Str}{l:Int},Ed M y z l->∀d,G y=P3 d->∃d',G z=P3 d'/\d'<=d+l:=λ{y z l} he d e=>by
  have hy:=hG y;rw[e]at hy;have hw:Wk M s z (d+l):=Wk.snoc (show Least M s y d from hy).1 he;have hz:=hG z;cases ez:G z with
  |none=>rw[ez]at hz; exact absurd hw^hz _
  |some d'=>rw[ez]at hz; exact#[d',rfl,(show Least M s z d' from hz).2 _ hw]
 have u1:=up d1;have u2:=up d2;cases ea:G t.a with
 |none=>
  cases eb:G t.b with
  |none=>unfold FY F3; split <;>lk
  |some b=>grind
 | some a=>
  cases eb:G t.b with
  |none=>grind
  |some b=>
   let#[b',z1,h1]:=u1 a ea;rw[eb]at z1; cases z1
   let#[a',z2,h2]:=u2 b eb;rw[ea]at z2; cases z2
   show(if(if a<m then a else m) - (if b<m then b else m)<0 then -((if a<m then a else m) - (if b<m then b else m))else(if a<m then a else m) - (if b<m then b else m))<=t.len
   split <;>split <;>split <;>lk
end Nt
set_option maxRecDepth 10000
namespace St
open PySem.SetTable
def Yn{t t':jV}(h:t.mask=t'.mask)(p:Probe):t.advance p=t'.advance p:=by
 unfold mS; rw[h]
def st(t:jV)(p:Probe):Nat->Probe
 |0=>p
 |n+1=>t.advance^st t p n
theorem Kb{t t':jV}(h:t.mask=t'.mask)(p:Probe):∀n,st t p n=st t' p n
 |0=>rfl
 |n+1=>by simp only[st,Kb h p n,Yn h]
theorem R_(t:jV)(p:Probe)(a:Nat):∀b,st t p (a+b)=st t (st t p a) b
 |0=>rfl
 |b+1=>by rw[←Nat.add_assoc]; simp only[st,R_ t p a b]
theorem QL(t:jV)(p:Probe)(h:p.dummy=s_):∀n,(st t p n).dummy=s_
 |0=>h
 |n+1=>by
  have:=QL t p h n
  simp only[st,mS]
  split <;>simpa using this
structure Ok (t:jV) (p:Probe):Prop where
 more:p.more<=9
 i:p.i<=t.mask
 j:p.j+p.more<=t.mask
 per:p.perturb<2 ^ 64
def Ni{m i:Nat}(h:i<=m):runEnd m i<=m/\i<=runEnd m i/\runEnd m i<=i+9:=by
 unfold runEnd; split <;>lk
def Lw(t:jV)(p:Probe):Probe:=
 {p with j:=(leap t.mask p.i p.perturb).1,more:=runEnd t.mask (leap t.mask p.i p.perturb).1 - (leap t.mask p.i p.perturb).1,i:=(leap t.mask p.i p.perturb).1,perturb:=(leap t.mask p.i p.perturb).2}
def O5{t:jV}{p:Probe}(h:p.perturb<2 ^ 64):Ok t^Lw t p/\(Lw t p).j=(Lw t p).i:=by
 have hi:(leap t.mask p.i p.perturb).1<=t.mask:=by
  exact Nat.le_of_lt_succ^nj _^pA t.mask
 let#[a,b,c]:=Ni hi;refine#[#[?_,?_,?_,?_],rfl]
 .show runEnd _ _ - _<=9; omega
 .exact hi
 .show(leap t.mask p.i p.perturb).1+(runEnd t.mask (leap t.mask p.i p.perturb).1 - (leap t.mask p.i p.perturb).1)<=_; omega
 .show p.perturb / 32<_; omega
def c5{t:jV}{p:Probe}(h:Ok t p):Ok t^t.advance p:=by
 unfold mS
 split
 .rename_i hm
  have:=h.more; have:=h.j
  exact#[by show p.more - 1<=9; omega,h.i,by show p.j+1+(p.more - 1)<=_; omega,h.per]
 .exact(O5 h.per).1
theorem aK{t:jV}{p:Probe}(h:Ok t p):∀n,Ok t^st t p n
 |0=>h
 |n+1=>c5^aK h n
def QK(t:jV)(x:Int):Ok t^t.probeStart x:=by
 have hi:bits x % (t.mask+1)<=t.mask:=by
  exact Nat.le_of_lt_succ^nj _^pA t.mask
 let#[a,b,c]:=Ni hi;refine#[?_,hi,?_,?_]
 .show runEnd _ _ - _<=9; omega
 .show bits x % (t.mask+1)+(runEnd t.mask (bits x % (t.mask+1)) - bits x % (t.mask+1))<=_; omega
 .show bits x<_
  unfold bits;have h1:=oI x (show(0:Int)<2 ^ 64 by cbv);have h2:=pF x (show(2 ^ 64:Int)≠0 by cbv);lk
theorem Wq(t:jV):∀(m:Nat) (p:Probe),p.more=m->st t p (m+1)=Lw t p
 |0,p,h=>by
  show t.advance p=_;unfold mS;rw[if_neg^by lk]; rfl
 | m+1,p,h=>by
  have e:st t p (m+1+1)=st t (t.advance p) (m+1):=by
   have:=R_ t p 1 (m+1)
   rw[show 1+(m+1)=m+1+1 by lk]at this;exact this
  have ha:t.advance p={p with j:=p.j+1,more:=p.more - 1}:=by
   unfold mS; rw[if_pos^by lk]
  rw[e,Wq t m (t.advance p) (by rw[ha]; show p.more - 1=m; omega),ha];rfl
def lp(t:jV)(p:Probe):Nat->Probe
 |0=>p
 |n+1=>Lw t^lp t p n
theorem UR{t:jV}{p:Probe}(h:Ok t p):∀n,Ok t^lp t p n
 |0=>h
 |n+1=>(O5 (UR h n).per).1
theorem aa{t:jV}{p:Probe}(h:Ok t p):∀n,∃k,k<=10*n/\st t p k=lp t p n
 |0=>#[0,by lk,rfl]
 |n+1=>by
  let#[k,hk,e]:=aa h n;have hm:=(UR h n).more;refine#[k+((lp t p n).more+1),by lk,?_];rw[R_,e,Wq t _ _ rfl]; rfl
theorem Xo(t:jV)(p:Probe):∀n,(lp t p n).perturb=p.perturb / 32 ^ n
 |0=>by simp[lp]
 |n+1=>by
  show(lp t p n).perturb / 32=_;rw[Xo t p n,pP,Nat.pow_succ]
def it(m:Nat)(i:Nat):Nat->Nat
 |0=>i
 |n+1=>(it m i n*5+1) % (m+1)
theorem Xp{t:jV}{p:Probe}(h:p.perturb<2 ^ 64):∀n,(lp t p (13+n)).i=it t.mask (lp t p 13).i n
 |0=>rfl
 | n+1=>by
  show(leap t.mask (lp t p (13+n)).i (lp t p (13+n)).perturb).1=_
  have hz:(lp t p (13+n)).perturb / 32=0:=by
   rw[Xo,pP];apply Nat.div_eq_of_lt;have h1:32 ^ 13<=32 ^ (13+n):=Nat.pow_le_pow_right (by cbv) (by lk);have h2:(2:Nat) ^ 64<=32 ^ 13:=by cbv
   omega
  simp only[leap,hz,Xp h n,it]
def fz(m:Nat):Prop:=∀a,a<=m->∀b,b<=m->∃n,n<=m/\it m a n=b
def fX(m:Nat):Bool:=(jL (m+1)).all λa=>(jL (m+1)).all λb=>(jL (m+1)).any λn=>it m a n==b
def cw{m:Nat}(h:fX m=t_):fz m:=by
 intro a ha b hb;simp only[fX,jh,jn,kZ,beq_iff_eq]at h;let#[n,hn,e]:=h a (by lk) b (by lk);exact#[n,by lk,e]
def g7:fz 7:=cw^by decide +kernel
def cC{t:jV}{p:Probe}(C:fz t.mask)(h:Ok t p){b:Nat}(hb:b<=t.mask):∃n,n<=13+t.mask/\(lp t p n).j=b/\(lp t p n).i=b:=by
 let#[n,hn,e]:=C _ (UR h 13).i b hb;refine#[13+n,by lk,?_,?_]
 .have:(lp t p (13+n)).j=(lp t p (13+n)).i:=by
   rw[show 13+n=(12+n)+1 by lk];exact(O5 (UR h (12+n)).per).2
  rw[this,Xp h.per,e]
 .rw[Xp h.per,e]
def bS{t:jV}{p:Probe}(C:fz t.mask)(h:Ok t p){b:Nat}(hb:b<=t.mask):∃k,k<=10*(13+t.mask)/\(st t p k).j=b:=by
 let#[n,hn,e,_]:=cC C h hb;let#[k,hk,f]:=aa h n;exact#[k,by lk,by rw[f,e]]
def Up(xs:Array Nat):Prop:=∀i k:Nat,i<k->∀a b:Nat,xs[i]?=P3 a->xs[k]?=P3 b->a<b
def Yg(xs:Array Nat)(j:Nat)(U:Up xs):∀(f lo hi:Nat),hi - lo<=f->lo<=hi->hi<=xs.size->
  (∀i a:Nat,i<lo->xs[i]?=P3 a->a<j)->(∀i a:Nat,hi<=i->xs[i]?=P3 a->j<=a)->
  lo<=below.go xs j f lo hi/\below.go xs j f lo hi<=hi/\(∀i a:Nat,i<below.go xs j f lo hi->xs[i]?=P3 a->a<j)/\(∀i a:Nat,below.go xs j f lo hi<=i->xs[i]?=P3 a->j<=a):=by
 intro f
 induction f with
 |zero=>
  intro lo hi h1 h2 h3 h4 h5;have e:lo=hi:=by lk
  subst e;exact#[Rs _,Rs _,h4,h5]
 | succ f ih=>
  intro lo hi h1 h2 h3 h4 h5;unfold below.go
  split
  .rename_i hlt
   have hm:(lo+hi) / 2<xs.size:=by lk
   have hg:xs[(lo+hi) / 2]?=P3 xs[(lo+hi) / 2]:=jj hm
   have hd:xs.getD ((lo+hi) / 2) j=xs[(lo+hi) / 2]:=by
    rw[Array.getD_eq_getD_getElem?,hg]; rfl
   dsimp only
   rw[hd]
   split
   .rename_i hc
    let#[a,b,c,d]:=ih ((lo+hi) / 2+1) hi (by lk) (by lk) h3 (by
     intro i a hi' he
     by_cases h:i=(lo+hi) / 2
     .subst h; rw[hg]at he; cases he; exact hc
     .exact nQ (U i _ (by lk) a _ he hg) hc) h5
    exact#[by lk,b,c,d]
   .rename_i hc
    let#[a,b,c,d]:=ih lo ((lo+hi) / 2) (by lk) (by lk) (by lk) h4 (by
     intro i a hi' he
     by_cases h:i=(lo+hi) / 2
     .subst h; rw[hg]at he; cases he; omega
     .have:=U _ i (by lk) _ a hg he
      omega)
    exact#[a,by lk,c,d]
  .have e:lo=hi:=by lk
   subst e;exact#[Rs _,Rs _,h4,h5]
def MO(xs:Array Nat)(j:Nat)(U:Up xs):below xs j<=xs.size/\(∀i a:Nat,i<below xs j->xs[i]?=P3 a->a<j)/\(∀i a:Nat,below xs j<=i->xs[i]?=P3 a->j<=a):=by
 let#[_,b,c,d]:=Yg xs j U xs.size 0 xs.size (by lk) (by lk) (Rs _) (by intro i a h; omega) (by
  intro i a h he;rw[l_ h]at he; cases he)
 exact#[b,c,d]
def below_at{xs:Array Nat}{j i:Nat}(U:Up xs)(h:xs[i]?=P3 j):below xs j=i:=by
 let#[_,c,d]:=MO xs j U
 rcases nA (below xs j) i with l|l|l
 .exfalso
  have hs:i<xs.size:=by
   rcases Nat.lt_or_ge i xs.size with q|q
   .exact q
   .rw[l_ q]at h; cases h
  have hb:below xs j<xs.size:=by lk
  have:=d _ _ (Rs _)^jj hb
  have:=U _ _ l _ _ (jj hb) h
  omega
 .exact l
 .exfalso
  have:=c i j l h
  omega
def NY{t:jV}{j i:Nat}(U:Up t.place)(h:t.place[i]?=P3 j):t.slot j=.live i:=by
 unfold SetTable.slot;rw[below_at U h];simp[h]
def SA{t:jV}{j:Nat}(hd:t.dummies=#[])(h:∀i:Nat,t.place[i]?≠P3 j):t.slot j=.empty:=by
 unfold SetTable.slot
 have e:(t.place[below t.place j]?==P3 j)=u_:=by
  have:=h^below t.place j
  simpa using this
 simp[e,hd,SetTable.has]
theorem Xk{α:Type}[DecidableEq α]:∀{l m:v_ α},l.Nodup->l ⊆ m->l.length<=m.length
 |[],m,_,_=>i6 _
 |a::l,m,h,s=>by
  have ha:a∈m:=s^.head _;have hn:=jA.mp h
  have:=Xk (l:=l) (m:=m.erase a) hn.2 λx hx=>(List.mem_erase_of_ne (fun(e:x=a)=>hn.1 (e▸hx))).mpr^s^.tail _ hx
  rw[pB ha]at this
  have:=pO ha
  rw[iu]; omega
def In(t:jV)(j:Nat):Prop:=∃i:Nat,t.place[i]?=P3 j
structure Tab (t:jV) (hs:Nat->Option Int):Prop where
 cov:fz t.mask
 dum:t.dummies=#[]
 up:Up t.place
 le:∀i j:Nat,t.place[i]?=P3 j->j<=t.mask
 few:t.place.size<=t.mask
 has:∀i j:Nat,t.place[i]?=P3 j->∃x,hs i=P3 x/\∃k:Nat,(st t (t.probeStart x) k).j=j/\∀k':Nat,k'<k->In t (st t (t.probeStart x) k').j
def Tab.free{t:jV}{hs:Nat->w_ Int}(T:Tab t hs):∃b,b<=t.mask/\¬In t b:=by
 apply lW;intro hn;have hall:∀b,b<=t.mask->In t b:=λb hb=>lW λh=>hn #[b,hb,h]
 have hsub:jL (t.mask+1) ⊆ t.place.toList:=by
  intro b hb;let#[i,hi]:=hall b (by have:=jn.mp hb; omega);exact jZ^by simpa using hi
 have:=Xk (List.nodup_range (n:=t.mask+1)) hsub
 simp at this
 have:=T.few
 omega
def Tab.first{t:jV}{hs:Nat->w_ Int}(T:Tab t hs){p:Probe}(h:Ok t p):∃N,N<=10*(13+t.mask)/\¬In t (st t p N).j/\∀k,k<N->In t (st t p k).j:=by
 let#[b,hb,hn]:=T.free;let#[k,hk,e]:=bS T.cov h hb
 have:∀k,¬In t (st t p k).j->∃N,N<=k/\¬In t (st t p N).j/\∀k,k<N->In t (st t p k).j:=by
  intro k
  induction k using Nat.strongRecOn with
  | ind k ih=>
   intro hk
   by_cases hq:∀k',k'<k->In t (st t p k').j
   .exact#[k,Rs _,hk,hq]
   .have#[k',hk']:=Classical.not_forall.mp hq
    have#[h1,h2]:=Classical.not_imp.mp hk';let#[N,a,b,c]:=ih k' h1 h2;exact#[N,by lk,b,c]
 let#[N,a,b,c]:=this k (by rw[e]; exact hn);exact#[N,by lk,b,c]
def XR{t:jV}(dum:t.dummies=#[])(U:Up t.place)(ha:Nat->Int)(x:Int)(p:Probe)(hp:p.dummy=s_){N:Nat}(hN:¬In t (st t p N).j)(hin:∀k,k<N->In t (st t p k).j):
  ∀(f n:Nat),n<=N->N - n<f->
   (oa t ha x f^st t p n=P3^.empty (st t p N).j s_/\∀k i:Nat,n<=k->k<N->t.place[i]?=P3 (st t p k).j->ha i≠x) \/
   (∃m i:Nat,n<=m/\m<N/\t.place[i]?=P3 (st t p m).j/\ha i=x/\oa t ha x f^st t p n=P3^.candidate (st t p m).j i^st t p (m+1)/\∀k i:Nat,n<=k->k<m->t.place[i]?=P3 (st t p k).j->ha i≠x):=by
 intro f
 induction f with
 |zero=>intro n _ h; omega
 | succ f ih=>
  intro n hn hf;unfold oa
  by_cases he:n=N
  .subst he
   rw[SA dum λi hi=>hN #[i,hi]];left;refine#[?_,λk i h1 h2=>by lk]
   dsimp only
   rw[QL t p hp]
  .let#[i,hi]:=hin n^by lk
   rw[NY U hi]
   dsimp only
   by_cases hx:ha i=x
   .right
    refine#[n,i,Rs _,by lk,hi,hx,?_,λk i h1 h2=>by lk];simp only[hx,beq_self_eq_true,↓reduceIte]; rfl
   .have hb:(ha i==x)=u_:=by simpa using hx
    simp only[hb,jD,↓reduceIte]
    have uniq:∀i',t.place[i']?=P3 (st t p n).j->ha i'≠x:=by
     intro i' hi'
     have:=below_at U hi; have:=below_at U hi'
     have:i'=i:=by lk
     subst this; exact hx
    rcases ih (n+1) (by lk) (by lk)with⟨a,b⟩|⟨m,i',h1,h2,h3,h4,h5,h6⟩
    .left
     refine#[a,λk i' h1 h2 h3=>?_]
     by_cases hk:k=n
     .subst hk; exact uniq i' h3
     .exact b k i' (by lk) h2 h3
    .right
     refine#[m,i',by lk,h2,h3,h4,h5,λk i'' q1 q2 q3=>?_]
     by_cases hk:k=n
     .subst hk; exact uniq i'' q3
     .exact h6 k i'' (by lk) q2 q3
def Kg{α:Type}(xs:Array α){p:Nat}(x:α)(hp:p<=xs.size)(i:Nat):(insertAt xs p x)[i]?=if i<p then xs[i]? else if i=p then P3 x else xs[i - 1]?:=by
 have e:(insertAt xs p x).toList=xs.toList.take p++x::xs.toList.drop p:=by
  simp[insertAt,mZ,kW]
 rw[←mJ,e];have hl:(xs.toList.take p).length=p:=by simp; omega
 by_cases h1:i<p
 .rw[if_pos h1,kL^by lk,ot h1,mJ]
 .rw[if_neg h1,ju^by lk,hl]
  by_cases h2:i=p
  .rw[if_pos h2]; subst h2; simp
  .rw[if_neg h2,show i - p=(i - p - 1)+1 by lk,m7,List.getElem?_drop,mJ]
   congr 1; omega
def L4{α:Type}(xs:Array α){p:Nat}(x:α)(hp:p<=xs.size):(insertAt xs p x).size=xs.size+1:=by
 have e:(insertAt xs p x).toList=xs.toList.take p++x::xs.toList.drop p:=by
  simp[insertAt,mZ,kW]
 have:=congrArg l7 e
 simp at this;lk
def ZL{t:jV}{es:Array (Int×Ev)}{x:Int}{v:Ev}{N:Nat}(T:Tab t (λi=>es[i]?.map (·.1)))(hs:t.place.size=es.size)(hroom:t.place.size+1<=t.mask)
  (hN:¬In t (st t (t.probeStart x) N).j) (hin:∀k,k<N->In t (st t (t.probeStart x) k).j):
  Tab (t.put (st t (t.probeStart x) N).j).1 (λi=>(insertAt es (t.put (st t (t.probeStart x) N).j).2 (x,v))[i]?.map (·.1))/\(t.put (st t (t.probeStart x) N).j).1.place.size=es.size+1
   /\ (t.put (st t (t.probeStart x) N).j).2<=es.size:=by
 generalize hj:(st t (t.probeStart x) N).j=j at *;let#[b1,b2,b3]:=MO t.place j T.up
 have hle:j<=t.mask:=by
  rw[←hj]; have:=(aK (QK t x) N).j; omega
 have hd:(t.put j).1.dummies=#[]:=by
  show(if has t.dummies j then eraseAt t.dummies^below t.dummies j else t.dummies)=#[];rw[T.dum]; simp[has]
 have hp:∀i,(t.put j).1.place[i]?=if i<below t.place j then t.place[i]? else if i=below t.place j then P3 j else t.place[i - 1]?:=λi=>Kg t.place j b1 i
 have hq:∀i,(insertAt es (t.put j).2 (x,v))[i]?=if i<below t.place j then es[i]? else if i=below t.place j then P3 (x,v)else es[i - 1]?:=λi=>Kg es (x,v) (hs▸b1) i
 have hm:(t.put j).1.mask=t.mask:=rfl;have hst:∀p n,st (t.put j).1 p n=st t p n:=λp n=>Kb hm p n;have hps:∀y,(t.put j).1.probeStart y=t.probeStart y:=λy=>rfl
 have hIn:∀b,In t b->In (t.put j).1 b:=by
  rintro b ⟨i,hi⟩
  by_cases h:i<below t.place j
  .exact#[i,by rw[hp,if_pos h]; exact hi]
  .exact#[i+1,by rw[hp,if_neg^by lk,if_neg^by lk]; exact hi]
 refine#[#[T.cov,hd,?_,?_,?_,?_],by rw[←hs]; exact L4 _ _ b1,hs▸b1]
 .intro i k hik a b ha hb
  rw[hp]at ha hb
  by_cases h1:k<below t.place j
  .rw[if_pos h1]at hb; rw[if_pos^by lk]at ha; exact T.up i k hik a b ha hb
  .rw [if_neg h1]at hb
   by_cases h2:k=below t.place j
   .rw[if_pos h2]at hb; cases hb
    rw[if_pos^by lk]at ha;exact b2 i a (by lk) ha
   .rw[if_neg h2]at hb
    by_cases h3:i<below t.place j
    .rw[if_pos h3]at ha; exact T.up i (k - 1) (by lk) a b ha hb
    .rw[if_neg h3]at ha
     by_cases h4:i=below t.place j
     .rw[if_pos h4]at ha; cases ha
      have h5:=b3 (k - 1) b (by lk) hb;have h6:b≠j:=by rintro rfl; exact hN #[_,hb]
      omega
     .rw[if_neg h4]at ha; exact T.up (i - 1) (k - 1) (by lk) a b ha hb
 .intro i a ha
  rw[hp]at ha
  split at ha
  .exact T.le _ _ ha
  .split at ha
   .cases ha; exact hle
   .exact T.le _ _ ha
 .show(insertAt t.place (below t.place j) j).size<=t.mask
  rw[L4 _ _ b1]; exact hroom
 .intro i a ha
  rw[hp]at ha;show ∃y:Int,Option.map (λe:Int×Ev=>e.1) (insertAt es (t.put j).2 (x,v))[i]?=P3 y/\_;rw[hq]
  have old:∀i':Nat,t.place[i']?=P3 a->∃y:Int,Option.map (λe:Int×Ev=>e.1) es[i']?=P3 y/\∃k:Nat,(st (t.put j).1 ((t.put j).1.probeStart y) k).j=a/\∀k':Nat,k'<k->In (t.put j).1 (st (t.put j).1 ((t.put j).1.probeStart y) k').j:=by
   intro i' hi';let#[y,hy,k,hk,hk']:=T.has i' a hi';refine#[y,hy,k,by rw[hst,hps]; exact hk,λk' h=>?_];rw[hst,hps]; exact hIn _^hk' k' h
  by_cases h1:i<below t.place j
  .rw[if_pos h1]at ha ⊢; exact old i ha
  .rw[if_neg h1]at ha ⊢
   by_cases h2:i=below t.place j
   .rw[if_pos h2]at ha ⊢; cases ha
    refine#[x,rfl,N,by rw[hst,hps]; exact hj,λk' h=>?_];rw[hst,hps]; exact hIn _^hin k' h
   .rw[if_neg h2]at ha ⊢; exact old (i - 1) ha
structure Lay (t:jV) (done:List Int) (o:Array^Option Nat):Prop where
 size:o.size=t.mask+1
 own:∀j q:Nat,o[j]?=P3^P3 q->∃x,done[q]?=P3 x/\∃k:Nat,(st t (t.probeStart x) k).j=j/\∀k':Nat,k'<k->∃q':Nat,o[(st t (t.probeStart x) k').j]?=P3 (P3 q')
 all:∀q:Nat,q<done.length->∃j:Nat,o[j]?=P3 (P3 q)
 inj:∀j j' q:Nat,o[j]?=P3^P3 q->o[j']?=P3^P3 q->j=j'
end St
set_option maxRecDepth 10000
set_option maxHeartbeats 1000000
namespace St
open PySem.SetTable
section
variable {prog:Program}{w:World}{K:Type}[DecidableEq K](knd:KeyKind prog w K)
def NV(k:v_ K):Prop:=∀vs,ItemsAre knd k vs->∃v r,vs=v::r/\∀n,hashByValue n v=pure u_
def Holds(h:i8)(e:Int×Ev)(k:v_ K):Prop:=e.1=tupleKeyHash knd k/\∃b,e.2=.ref b/\kz knd h k b
inductive Ents (h:i8):List (Int×Ev)->List^List K->Prop
 |nil:Ents h [] []
 |cons {e:Int×Ev}{k:List K}{es:List (Int×Ev)}{ks:List^List K}:Holds knd h e k->Ents h es ks->Ents h (e::es) (k::ks)
variable {knd}
def Ents.len{h:i8}{es:v_ (Int×Ev)}{ks:v_^v_ K}(x:Ents knd h es ks):es.length=ks.length:=by
 induction x with
 |nil=>rfl
 |cons _ _ ih=>simp[ih]
def Ents.get{h:i8}{es:v_ (Int×Ev)}{ks:v_^v_ K}(x:Ents knd h es ks):∀{i:Nat}{e:Int×Ev},es[i]?=P3 e->∃k,ks[i]?=P3 k/\Holds knd h e k:=by
 induction x with
 |nil=>intro i e h; simp at h
 |@cons e0 k0 es ks h1 _ ih=>
  intro i e h;cases i with
  |zero=>simp at h; subst h; exact#[k0,rfl,h1]
  |succ i=>exact ih^by simpa using h
def Ents.take{h:i8}{es:v_ (Int×Ev)}{ks:v_^v_ K}(x:Ents knd h es ks){e:Int×Ev}{k:v_ K}(y:Holds knd h e k)(p:Nat):Ents knd h (es.take p++e::es.drop p) (ks.take p++k::ks.drop p):=by
 induction x generalizing p with
 |nil=>simpa using Ents.cons y .nil
 |cons h1 h2 ih=>
  cases p with
  |zero=>exact .cons y^.cons h1 h2
  |succ p=>exact .cons h1^ih p
variable (knd)
structure SetIs (B h:i8) (a:Ch) (ks:List^List K) (o:Obj) (es:Array (Int×Ev)) (ep:Nat) (t:jV):Prop where
 sub:∀b o,B.get? b=P3 o->h.get? b=P3 o
 out:B.get? a=s_
 obj:h.get? a=P3 o
 ex:o.ExactSet
 dat:o.data=.set es ep t
 tab:Tab t (λi=>es[i]?.map (·.1))
 size:t.place.size=es.size
 mask:(t.mask=7/\es.size<=4)\/t.mask=31
 few:es.size<=18
 ents:∃kk,Ents knd B es.toList kk/\List.Perm kk ks
 nd:ks.Nodup
 plain:es.size=0\/t.plain=u_
 led:t.led=!(w.params.followText "set-order")
variable {knd}
def SetIs.odd{B h:i8}{a:Ch}{ks:v_^v_ K}{o:Obj}{es:Array (Int×Ev)}{ep:Nat}{t:jV}(S:SetIs knd B h a ks o es ep t):t.gaveWay=u_:=by
 unfold SetTable.gaveWay
 rcases S.mask with⟨h,_⟩|h <;>rw[h] <;>rfl
def SetIs.fits{B h:i8}{a:Ch}{ks:v_^v_ K}{o:Obj}{es:Array (Int×Ev)}{ep:Nat}{t:jV}(S:SetIs knd B h a ks o es ep t):t.fits es.size=t_:=by
 unfold SetTable.fits pd;rw[S.tab.dum,S.size]
 have:=S.tab.few; rw[S.size]at this
 simpa using this
variable {A:Around}{E:Value->Shared->Prop}{s:Shared}
def T6{Q:Bool->On->Prop}{b:Ch}{k:v_ K}(hk:kz knd s.heap k b)(h:Q u_ s):wpAny (model prog w) A (ofAClassStatement 8^.ref b) Q E s:=by
 have hT:=hk.typeIs;let#[o,items,n,ho,_,hd,hi]:=hk;unfold ofAClassStatement;refine Db^mI (T:="tuple") hT ?_
 dsimp only
 rw[if_pos^by cbv];refine Db^T0 ?_;simp only[oU,jD,↓reduceIte];refine Db^kH ho hd ?_
 dsimp only
 refine Db ?_;rw[←mo];refine o0 _ (λrest r s'=>r.1=s_/\s'=s/\∀v∈rest,carriedByValue v=t_) _ ?_ ?_ _ _ #[rfl,rfl,hi.byValue]
 .rintro v rest r s' ⟨hr,rfl,hall⟩
  have hv:=hall v Op
  have e:ofAClassStatement 7 v=pure u_:=by
   cases v with
   |ref a=>simp[carriedByValue]at hv
   |_=>first|rfl|simp[ofAClassStatement]|(unfold ofAClassStatement; rfl)
  rw[e];refine Db^T0 ?_;simp only[jD,if_false];exact T0 #[rfl,rfl,λu hu'=>hall u^TW _ hu']
 .rintro⟨r1,r2⟩ s' ⟨hr,rfl,_⟩
  simp only at hr;subst hr;exact T0 h
def ia{Q:Bool->On->Prop}{b:Ch}{k:v_ K}(hk:kz knd s.heap k b)(nv:NV knd k)(h:Q u_ s):wpAny (model prog w) A (hashByValue 8^.ref b) Q E s:=by
 have hT:=hk.typeIs;let#[o,items,n,ho,_,hd,hi]:=hk;let#[v,r,e,hv]:=nv _ hi;unfold hashByValue;refine Db^mX hT F.slot_tuple_hash.lookup ?_;show wpAny _ _ (seqItems?^.ref b >>=_) _ _ _;refine Db^kH ho hd ?_;refine Db ?_;show wpAny _ _ (forIn items _ _) _ _ _;rw[←mo,e,lu,hv];refine Db^Db^T0 ?_;simp only[pY,↓reduceIte];exact T0^T0^T0 h
def VD{b:Ch}{k:v_ K}(hu:A.units<cLine)(hk:kz knd s.heap k b):∀(vs:v_ Ev) {Q:Bool->On->Prop},(∀v∈vs,∃c k',v=.ref c/\kz knd s.heap k' c)->Q u_ s->wpAny (model prog w) A (searchCouldBeSeen (.ref b) vs) Q E s:=by
 intro vs Q hv h;unfold searchCouldBeSeen;refine Db ?_;refine o0 _ (λrest r s'=>r.1=s_/\s'=s/\∀v∈rest,∃c k',v=.ref c/\kz knd s.heap k' c) _ ?_ ?_ _ _ #[rfl,rfl,hv]
 .rintro v rest r s' ⟨hr,rfl,hall⟩
  let#[c,k',rfl,hc]:=hall v Op;have tl:∀u∈rest,∃c k',u=ja c/\kz knd s'.heap k' c:=λu hu'=>hall u^TW _ hu'
  dsimp only
  split
  .exact T0 #[rfl,rfl,tl]
  .refine Db^wpAny_eqIsQuiet_tuple hk ?_
   simp only[oU,jD,↓reduceIte];refine Db^wpAny_eqIsQuiet_tuple hc ?_;simp only[oU,jD,↓reduceIte];refine Db^T6 hk ?_;simp only[jD,↓reduceIte];refine Db^T6 hc ?_;simp only[jD,↓reduceIte];exact T0 #[rfl,rfl,tl]
 .rintro⟨r1,r2⟩ s' ⟨hr,rfl,_⟩
  simp only at hr;subst hr;exact T0 h
def SetIs.keyAt{B h:i8}{a:Ch}{ks:v_^v_ K}{o:Obj}{es:Array (Int×Ev)}{ep:Nat}{t:jV}(S:SetIs knd B h a ks o es ep t){i:Nat}{e:Int×Ev}(he:es[i]?=P3 e):∃k,k∈ks/\Holds knd B e k:=by
 let#[kk,x,p]:=S.ents;let#[k,h1,h2]:=x.get (i:=i) (e:=e) (by simpa using he);exact#[k,p.mem_iff.mp^jZ h1,h2]
def GL{B h:i8}(sub:∀b o,B.get? b=P3 o->h.get? b=P3 o){k:v_ K}{b:Ch}(x:kz knd B k b):kz knd h k b:=by
 let#[o,items,n,h1,h2]:=x;exact#[o,items,n,sub b o h1,h2]
def bW{B:i8}{a b:Ch}{k:v_ K}{ks:v_^v_ K}{o:Obj}{es:Array (Int×Ev)}{ep:Nat}{t:jV}(S:SetIs knd B s.heap a ks o es ep t)(hu:A.units<cLine)(hk:kz knd B k b){N:Nat}
  (hN:¬In t (st t (t.probeStart^tupleKeyHash knd k) N).j) (hin:∀m,m<N->In t (st t (t.probeStart^tupleKeyHash knd k) m).j) (hle:N<=10*(13+t.mask)) {Q:SetFound->On->Prop}
  (h1:k∈ks->Q (.there s_) s) (h2:k∉ks->Q (.free (st t (t.probeStart^tupleKeyHash knd k) N).j u_) s):
  ∀(f n:Nat) (stand:w_ Probe),n<=N->N - n<f->stand.getD^t.probeStart^tupleKeyHash knd k=st t (t.probeStart^tupleKeyHash knd k) n->
   (∀(m i:Nat) (e:Int×Ev),m<n->t.place[i]?=P3 (st t (t.probeStart^tupleKeyHash knd k) m).j->es[i]?=P3 e->¬Holds knd B e k)->
   wpAny (model prog w) A (setSearchFrom a (.ref b) (tupleKeyHash knd k) t_ f stand) Q E s:=by
 intro f
 induction f with
 |zero=>intro n _ _ h; omega
 | succ f ih=>
  intro n stand hn hf hst hno;unfold setSearchFrom;refine Db^nB S.obj S.dat S.fits ?_
  dsimp only
  rw[S.odd,hst];simp only[jD,↓reduceIte];have P:=XR S.tab.dum S.tab.up (λi=>(es[i]?.map (·.1)).getD 0) (tupleKeyHash knd k) (t.probeStart^tupleKeyHash knd k) rfl hN hin (10*turns t.mask) n hn (by unfold turns; omega)
  rcases P with⟨e,hq⟩|⟨m,i,q1,q2,q3,q4,e,q6⟩
  .have e:t.probe (λi=>(es[i]?.map (·.1)).getD 0) (tupleKeyHash knd k)^st t (t.probeStart^tupleKeyHash knd k) n=_:=e
   erw [e]
   dsimp only
   refine T0^h2 λhmem=>?_;let#[kk,x,p]:=S.ents;let#[i,hi]:=kA.mp^p.mem_iff.mpr hmem
   have hil:i<es.size:=by
    have:=x.len; have:=(Uf.mp hi).1
    rw[←j9]; omega
   have hei:es[i]?=P3 es[i]:=jj hil;let#[k',hk',hh]:=x.get (i:=i) (e:=es[i]) (by simpa using hei);rw[hi]at hk'; cases hk'
   have hpl:i<t.place.size:=by rw[S.size]; exact hil
   have hpi:t.place[i]?=P3 t.place[i]:=jj hpl;let#[x0,hx0,m,hm,hm']:=S.tab.has i _ hpi
   have hx0:x0=tupleKeyHash knd k:=by
    rw[hei]at hx0
    have:es[i].1=x0:=by simpa using hx0
    rw[←this]; exact hh.1
   subst hx0
   have hmN:m<N:=by
    rcases nA m N with l|l|l
    .exact l
    .subst l; exact absurd #[i,by rw[hpi,hm]] hN
    .exact absurd (hm' N l) hN
   by_cases hmn:m<n
   .exact hno m i es[i] hmn (by rw[hpi,hm]) hei hh
   .refine hq m i (by lk) hmN (by rw[hpi,hm]) ?_
    rw[hei]; exact hh.1
  .have e:t.probe (λi=>(es[i]?.map (·.1)).getD 0) (tupleKeyHash knd k)^st t (t.probeStart^tupleKeyHash knd k) n=_:=e
   erw [e]
   dsimp only
   have hil:i<es.size:=by
    rw[←S.size]
    rcases Nat.lt_or_ge i t.place.size with l|l
    .exact l
    .rw[l_ l]at q3; cases q3
   have hei:es[i]?=P3 es[i]:=jj hil;let#[k',hk',hh]:=S.keyAt hei;let#[c,hc,hkc]:=hh.2
   have rest:wpAny (model prog w) A (do
     let P3 (_,y):=es[i]?|unsupported "internal:set-entry"
     let equal ←holding [y]^eqBool y^.ref b
     let (es',_,t') ←setState a
     if t_&&equal then return .there s_
     let P3 same:=t'.sameMemory t.moves t.mask|unsupported "set.changed-during-lookup:is-the-new-block-at-the-old-address"
     let still ←match (if same then t'.slot (st t (t.probeStart^tupleKeyHash knd k) m).j else .empty)with
      |.live i'=>match es'[i']? with
       |some (_,y')=>do pure (if ←isSame y' y then P3 i' else s_)
       |none=>pure s_
      |_=>pure s_
     match still with
     |none=>rule "set.search.anew"; setSearchFrom a (.ref b) (tupleKeyHash knd k) t_ f s_
     |some i'=>if equal then return .there^P3 i' else setSearchFrom a (.ref b) (tupleKeyHash knd k) t_ f^P3^st t (t.probeStart^tupleKeyHash knd k) (m+1)) Q E s:=by
    rw[hei]
    dsimp only
    refine Db^jb ?_;rw[hc];refine wpAny_eqBool_tuple hu (GL S.sub hkc) (GL S.sub hk) ?_;refine Db^nB S.obj S.dat S.fits ?_
    dsimp only
    by_cases hkk:k'=k
    .subst hkk
     simp only[decide_true,Bool.and_self,↓reduceIte];exact T0^h1 hk'
    .simp only[hkk,decide_false,Bool.and_false,jD,↓reduceIte]
     have hsm:t.sameMemory t.moves t.mask=P3 t_:=by simp[SetTable.sameMemory]
     rw[hsm];simp only[↓reduceIte,NY S.tab.up q3,hei];refine Db ?_;rw[hc];refine wpAny_isSame_ref_self^Db^T0 ?_;simp only[↓reduceIte];refine ih (m+1) _ (by lk) (by lk) rfl λm' i' e' hm' hi' he' hh'=>?_
     by_cases hmm:m'=m
     .subst hmm
      have e1:=below_at S.tab.up q3; have e2:=below_at S.tab.up hi'
      have:i'=i:=by lk
      subst this;rw[hei]at he'; cases he'
      let#[c',hc',hkc']:=hh'.2;rw[hc]at hc'; cases hc'
      exact hkk^hkc.inj hkc'
     .by_cases hm2:m'<n
      .exact hno m' i' e' hm2 hi' he' hh'
      .refine q6 m' i' (by lk) (by lk) hi' ?_
       rw[he']; exact hh'.1
   cases hl:t.led with
   |true=>
    simp only[oU,jD,↓reduceIte];exact rest
   | false=>
    simp only[pY,↓reduceIte];refine Db^VD hu (GL S.sub hk) _ (λv hv=>?_) ?_
    .let#[e',he',rfl]:=Sc.mp hv
     have he':e'∈es:=by
      have:=pZ.mp he'
      exact(Array.mem_filter.mp this).1
     let#[i',hi']:=Array.mem_iff_getElem?.mp he';let#[k2,_,h3]:=S.keyAt hi';let#[c2,hc2,hk2]:=h3.2;exact#[c2,k2,hc2,GL S.sub hk2]
    .simp only[jD,↓reduceIte]
     exact rest
theorem Tab.plain{t:jV}{hs:Nat->w_ Int}(T:Tab t hs)(b:Bool):Tab {t with plain:=b} hs:=
 #[T.cov,T.dum,T.up,T.le,T.few,λi j hi=>by
  let#[x,hx,k,h1,h2]:=T.has i j hi;refine#[x,hx,k,?_,λk' hk'=>?_]
  .exact(congrArg Probe.j (Kb (t:={t with plain:=b}) (t':=t) rfl (t.probeStart x) k)).trans h1
  .let#[i',hi']:=h2 k' hk'
   exact#[i',hi'.trans^congrArg P3^congrArg Probe.j (Kb (t:=t) (t':={t with plain:=b}) rfl (t.probeStart x) k')]]
end
end St
set_option maxHeartbeats 4000000
namespace St
open PySem.SetTable
section
variable {prog:Program}{w:World}{A:Around}{R:Result->Shared->Prop}{I:Addr}{fp wr:v_ Addr}{n:Nat}{P:Nat->Value->Prop}{St:Nat->Heap->Prop}
def Wc(W:Walks prog w A.in1 I fp wr n P St)(S:Ch)(hSf:S∉fp)(Inv:Nat->i8->Prop)
  (hmove:∀i h h',Inv i h->(∀b o,b∉wr->h.get? b=P3 o->h'.get? b=P3 o)->Inv i h')
  (hadd:∀i v (s:On) (Q:Bool->On->Prop) (E:Ev->On->Prop),i<n->P i v->Inv i s.heap->(∀h' tk b,(∀c,c≠S->h'.get? c=s.heap.get? c)->Inv (i+1) h'->Q b {s with heap:=h',toks:=tk})->wpAny (model prog w) A.in1 (setAdd S v) Q E s):
  ∀(k i:Nat) (s:On),n - i=k->i<=n->St i s.heap->Inv i s.heap->
   (∀h' tk,(∀b o,b∉S::wr->s.heap.get? b=P3 o->h'.get? b=P3 o)->Inv n h'->R (.ok^.ret .none) {s with heap:=h',toks:=tk})->
   codeAny (model prog w) A (.builtin "set.update.loop" #[[.ref S,.ref I],[]]) R s:=by
 intro k
 induction k with
 |zero=>
  intro i s hk hi hst hS hR;have hin:i=n:=by lk
  subst hin;refine jq mw ?_;rw[kI lR _];show wpAny _ A.in1 (pyNext^.ref I >>=_) _ _ s;refine Db^W.done s _ _ hst λh' tk hk'=>?_;show wpAny _ A.in1 (ret jg) _ _ _;exact T0^hR h' tk (λb o hb e=>hk' b o (λz=>hb^TW _ z) e)^hmove i _ _ hS hk'
 | succ k ih=>
  intro i s hk hi hst hS hR;have hlt:i<n:=by lk
  refine jq mw ?_;rw[kI lR _];show wpAny _ A.in1 (pyNext^.ref I >>=_) _ _ s;refine Db^W.item i s _ _ hlt hst λv h' tk hP hst' hk'=>?_;show wpAny _ A.in1 (holding [v]^setAdd S v >>=_) _ _ _;refine Db^jb ?_;refine hadd i v {s with heap:=h',toks:=tk} _ _ hlt hP (hmove i _ _ hS hk') λh2 tk2 b hs2 hI2=>?_;refine T0 #[kd lR _,?_];refine ih (i+1) _ (by lk) hlt (W.frame _ _ _ hst' λb hb o e=>?_) hI2 λh3 tk3 hk3 hI3=>hR h3 tk3 (λb o hb e=>hk3 b o hb ?_) hI3
  .exact(hs2 b λz=>hSf^by rw[←z]; exact hb).trans e
  .have hb2:b≠S:=λz=>hb^by rw[z]; exact Op
   exact(hs2 b hb2).trans^hk' b o (λz=>hb^TW _ z) e
end
section
variable {prog:Program}{w:World}{A:Around}{E:Value->Shared->Prop}{s:Shared}
def ZH(a:Ev){Q₁:Ev->On->Prop}
  (h:Q₁ (.ref s.heap.objs.size) {s with heap:=s.heap.push {cls:=.type "set",dict:=s_,data:=.set #[] 0^.fresh 0 0 (!(w.params.followText "set-order"))}}):
  codeAny (model prog w) A (.call (.builtin "set.__new__") #[[.type "set",a],[]]) (wants Q₁ E) s:=by
 refine pI ?_;show wpAny _ A.in1 (do checkBuiltinCall "set.__new__" #[[.type "set",a],[]]; again^.builtin "set.__new__" #[[.type "set",a],[]]) _ _ s;refine Db^pM (F.newCall_set_1 a)^T0 #[kd F.plain_set_new _,jq F.entry_set_new ?_];rw[kI F.plain_set_new _];unfold ll.«set.__new__» Builtin.Frozenset.newClass;have hsub:=sub_set_self;let#[hp,g,d,tk,os]:=s
 dsimp only
 wp_walk
 refine wpAny_askSetting^T0 ?_
 dsimp only
 simp only[newObj];refine Db^wpAny_alloc^T0 ?_;exact T0 h
def Ck(w:jQ):Obj:={cls:=.type "set",dict:=s_,data:=.set #[] 0^.fresh 0 0 (!(w.params.followText "set-order"))}
def Mm:isSubtype (.type "tuple")^.type "set"=pure u_:=by rw[isSubtype_type]; kernel_rfl
def LA:isSubtype (.type "tuple")^.type "frozenset"=pure u_:=by rw[isSubtype_type]; kernel_rfl
def set_tuple{l:Ch}{items:Array Ev}{Q:Ev->On->Prop}(hh:A.handled=s_)(hl:s.heap.IsTuple l items)(Inv:Nat->i8->Prop)
  (h0:∀h',(∀b o,s.heap.get? b=P3 o->h'.get? b=P3 o)->h'.get? s.heap.objs.size=P3^Ck w->Inv 0 h')
  (hmove:∀i h h',Inv i h->(∀b o,b∉[s.heap.objs.size+1]->h.get? b=P3 o->h'.get? b=P3 o)->Inv i h')
  (hadd:∀i v (s':On) (Q:Bool->On->Prop) (E:Ev->On->Prop),i<items.size->items[i]?=P3 v->Inv i s'.heap->(∀h' tk b,(∀c,c≠s.heap.objs.size->h'.get? c=s'.heap.get? c)->Inv (i+1) h'->Q b {s' with heap:=h',toks:=tk})->wpAny (model prog w) A.in1.in1.in1 (setAdd s.heap.objs.size v) Q E s')
  (h:∀(h':i8) (tk:Nat),Inv items.size h'->(∀b o,s.heap.get? b=P3 o->h'.get? b=P3 o)->Q (.ref s.heap.objs.size) {s with heap:=h',toks:=tk}):
  wpAny (model prog w) A (call (.type "set") [.ref l]) Q E s:=by
 let#[c,tl,hmro]:=li.mro;have hmade:=li.made;have hsub:=li.sub;refine nN^pI ?_;show wpAny _ _ (callAny (.type "set") _) _ _ _;refine T0 #[Code.quiet_builtin _ (by decide +kernel),jq F.entry_type_call ?_];rw[Around.under_plain (weight_type_call_type "set" [.ref l] []) rfl];have h1:=li.notType;have h2:=li.canCreate;have hct:=F.typeCall_set_1^.ref l
 repeat (any_goals (first|assumption|wp_step))
 refine mh (ZH (.ref l) (E:=E) (Q₁:=λobj s₁=>obj=.ref s.heap.objs.size/\s₁={s with heap:=s.heap.push^Ck w}) #[rfl,rfl]) λr s₁ hr=>?_;cases r with
 |error e=>exact hr
 | ok fl=>
  cases fl with
  | ret obj=>
   let#[rfl,rfl]:=hr;have hS:(s.heap.push^Ck w).get? s.heap.objs.size=P3^Ck w:=XV _ rfl;have hT:Shared.TypeIs {s with heap:=s.heap.push^Ck w} (.ref s.heap.objs.size) "set":=#[_,hS,rfl];have hli:=li.init.lookup;have hbi:=li.init.bind^.ref s.heap.objs.size
   repeat (any_goals (first|assumption|wp_step))
   refine mh (mQ (R:=wants (λr s₂=>r=.none/\∃h' tk,s₂={s with heap:=h',toks:=tk}/\Inv items.size h' /\
     (∀b o,s.heap.get? b=P3 o->h'.get? b=P3 o)) E) li.init.plain F.entry_set_init^check_set_init_1 hT ?_) λr₂ s₂ hr₂=>?_
   .let#[ol,hol,hcl,nl,hdl]:=hl
    let#[ocls,odict,odata,oslots]:=ol;simp only at hcl hdl;subst hcl; subst hdl
    have hS:(s.heap.push^Ck w).get? s.heap.objs.size=P3 {cls:=.type "set",dict:=s_,data:=.set #[] 0^.fresh 0 0 (!(w.params.followText "set-order"))}:=hS;have hol':(s.heap.push^Ck w).get? l=P3 {cls:=.type "tuple",dict:=odict,data:=.seq items nl,slots:=oslots}:=Go _ hol;have hsls:=Mm;have hslf:=LA;have hne:(lq "tuple"==lq "dict")=u_:=by cbv
    have hl1:(s.heap.push^Ck w).IsTuple l items:=#[_,hol',rfl,nl,rfl];unfold ll.«set.__init__» noKeywords Builtin.Frozenset.updateFrom;generalize hPI:pyIter=PI
    wp_walk
    subst hPI;refine jz hl1 ?_;refine Db^wpAny_runValue ?_;have hlS:l<s.heap.objs.size:=ZB hol;have hh3:A.in1.in1.in1.handled=s_:=by simp[hh]
    have esz:(s.heap.push^Ck w).objs.size=s.heap.objs.size+1:=j7 ..
    have hneI:l≠(s.heap.push^Ck w).objs.size:=by
     rw[esz]; exact i_^jx hlS
    have hSf:s.heap.objs.size∉[(s.heap.push^Ck w).objs.size,l]:=by
     rw[esz]; simp only[UF,Re,ip,or_false,not_or]
     exact#[i_^lI _,mH hlS]
    refine Wc (Walks.tuple hh3 _ l hneI items) s.heap.objs.size hSf Inv (by rw[esz]; exact hmove) hadd (items.size - 0) 0 _ (by lk) (i6 _)
     #[#[_,XV _ rfl,rfl,rfl],(hl1.push _)] (h0 _ (λb o e=>Go _^Go _ e)^Go _ hS) ?hR
    case hR=>
     intro h' tk' hm hS';show wpAny _ _ _ _ _ _;refine T0 ?_;show wpAny _ _ (ret jg) _ _ _;refine T0 #[rfl,h',tk',rfl,hS',λb o e=>?_];have hb:=ZB e;have hb1:b≠s.heap.objs.size:=i_ hb
     have hb2:b≠(s.heap.push^Ck w).objs.size:=by
      rw[esz]; exact i_^jx hb
     exact hm b o (by simp only[UF,Re,ip,or_false,not_or]; exact#[hb1,hb2])^Go _^Go _ e
   .cases r₂ with
    |error e=>exact hr₂
    | ok fl₂=>
     cases fl₂ with
     |ret r=>
      let#[rfl,h',tk,rfl,hS',hk']:=hr₂
      repeat (any_goals (first|assumption|wp_step))
      exact h _ _ hS' hk'
     |_=>exact hr₂.elim
  |_=>exact hr.elim
end
section
variable {w:World}
variable {o:Obj}{es:Array (Int×Value)}{ep:Nat}{t:SetTable}
structure Rw (w:jQ) (o:Obj) (es:Array (Int×Ev)) (ep:Nat) (t:jV):Prop where
 ex:o.ExactSet
 dat:o.data=.set es ep t
 fit:t.fits es.size=t_
 up:Up t.place
 size:t.place.size=es.size
 few:es.size<=sizeLine
 led:w.params.followText "set-order"=u_->t.led=t_
end
section
variable {prog:Program}{w:World}{K:Type}[DecidableEq K]{knd:KeyKind prog w K}
def YA{B h:i8}{a:Ch}(sub:∀b o,B.get? b=P3 o->h.get? b=P3 o)(out:B.get? a=s_)(ho:h.get? a=P3^Ck w):
  SetIs knd B h a [] (Ck w) #[] 0 (.fresh 0 0 (!(w.params.followText "set-order"))) where
 sub:=sub
 out:=out
 obj:=ho
 ex:=#[rfl,rfl,rfl]
 dat:=rfl
 tab:=#[g7,rfl,λi k _ a b ha=>by simp[oE]at ha,λi j hi=>by simp[oE]at hi,by simp[oE],λi j hi=>by simp[oE]at hi]
 size:=rfl
 mask:=.inl #[rfl,by simp]
 few:=by simp
 ents:=#[[],.nil,.nil]
 nd:=by simp
 plain:=.inl rfl
 led:=rfl
def SetIs.move{B h h':i8}{a:Ch}{ks:v_^v_ K}{o:Obj}{es:Array (Int×Ev)}{ep:Nat}{t:jV}(S:SetIs knd B h a ks o es ep t)(k:∀b o,(b=a\/∃o,B.get? b=P3 o)->h.get? b=P3 o->h'.get? b=P3 o):SetIs knd B h' a ks o es ep t:=
 {S with sub:=λb o e=>k b o (.inr #[o,e])^S.sub b o e,obj:=k a o (.inl rfl) S.obj}
end
end St
namespace L2
open PySem.W
def WA:bootBuiltins "set"=P3^.type "set":=by kernel_rfl
def cN(k:Key):kOf k=kV k:=by cases k <;>rfl
def Zh(ks:v_ Key):ks.map kOf=ks.map kV:=lG λk _=>cN k
def Za{P:jK}{w:jQ}{x:Str}{r:v_ Key}:St.NV (BM P w) (.inr x::r):=by
 intro vs h;cases h with
 |@cons _ v _ vs h1 h2=>
  let#[t,rfl]:=(cO (k:=.inr x) h1:RelV (.str x) v);exact#[_,_,rfl,λn=>by cases n <;>rfl]
structure hX (keys:List^List Key) (js:List Nat):Prop where
 lt:∀j∈js,j<keys.length
 nd:(js.map λj=>keys.getD j []).Nodup
 all:∀x∈keys,x∈js.map λj=>keys.getD j []
 ord:∀i j,i<=j->j<js.length->BS (keys.getD (js.getD j 0) [])^keys.getD (js.getD i 0) []=u_
end L2
namespace Dp
open L2
end Dp
namespace L2
open PySem.W
end L2
namespace Dp
open L2
end Dp
namespace L2
end L2
namespace Dp
open L2
section
variable {a:Expr}
mutual
theorem At.frz{K:Frag}{M:Ch->Prop}{H:Hp}{a:Ch}{f:Ch->Obj}{kvs:v_ (Key×V)}(ha:H a=P3^.dK kvs):∀{d:D}{v:V},Hx d=t_->At K M H d v->At K M (HB H [a] f) d v
 |.non,v,_,h=>h
 |.bl b,v,_,h=>h
 |.int i,v,_,h=>h
 |.str x,v,_,h=>h
 |.tup ds,v,hn,h=>by
  let#[b,vs,e,n2,hs]:=h;refine#[b,vs,e,?_,Ats.frz ha hn hs];unfold NdT at n2 ⊢;rw[En λz=>by rw[Re.mp z,ha]at n2; cases n2];exact n2
 |.lst ds,v,hn,h=>by
  let#[b,vs,e,#[n1,n2],hs]:=h;refine#[b,vs,e,#[n1,?_],Ats.frz ha hn hs];rw[En λz=>by rw[Re.mp z,ha]at n2; cases n2];exact n2
 |.dic _ _,v,hn,h=>by cases hn
 |.fdi _ _,v,hn,h=>by cases hn
 |.dit _ _,v,hn,h=>by cases hn
theorem Ats.frz{K:Frag}{M:Ch->Prop}{H:Hp}{a:Ch}{f:Ch->Obj}{kvs:v_ (Key×V)}(ha:H a=P3^.dK kvs):∀{ds:v_ D}{vs:v_ V},ES ds=t_->Ats K M H ds vs->Ats K M (HB H [a] f) ds vs
 |[],vs,_,h=>h
 |d::ds,vs,hn,h=>by
  let#[v,r,e,h1,h2]:=h;have hn:(Hx d&&ES ds)=t_:=hn;rw[iq]at hn;exact#[v,r,e,At.frz ha hn.1 h1,Ats.frz ha hn.2 h2]
end
end
def CQ:v_^v_ Key->v_ D->v_ Key->w_ D
 |k0::ks,d::ds,k=>if k0=k then P3 d else CQ ks ds k
 |_,_,_=>s_
def Q8:v_ D->w_^v_ Key
 |[]=>P3 []
 |d::ds=>match keyOf d,Q8 ds with
  |some k,P3 ks=>P3 (k::ks)
  |_,_=>s_
def keysOf:D->w_^v_ Key
 |.tup ds=>Q8 ds
 |_=>s_
section
variable {K:Frag}{X:Cx}
theorem Ky{M:Ch->Prop}{H:Hp}{k:v_ Key}:∀{ks:v_^v_ Key}{ds:v_ D}{vs:v_ V},Ats K M H ds vs->
  match CQ ks ds k with
  |some z=>∃v,DD (ks.zip vs) k=P3 v/\At K M H z v
  |none=>DD (ks.zip vs) k=s_
 |[],ds,vs,h=>by unfold CQ; exact rfl
 |k0::ks,[],vs,h=>by cases h; exact rfl
 | k0::ks,d::ds,vs,h=>by
  let#[v,r,rfl,h1,h2]:=h;have ih:=Ky (k:=k) (ks:=ks) h2;unfold CQ
  by_cases e:k0=k
  .rw[if_pos e]
   refine#[v,?_,h1];show DD ((k0,v)::ks.zip r) k=P3 v;rw[EY e]
  .rw[if_neg e]
   have:DD ((k0,v)::ks.zip r) k=DD (ks.zip r) k:=EZ e
   rw[show(k0::ks).zip (v::r)=(k0,v)::ks.zip r from rfl,this];exact ih
def Xv{M:Ch->Prop}{H:Hp}{d:D}{v:V}{k:Key}(e:keyOf d=P3 k)(h:At K M H d v):v=kV k:=by
 cases d with
 |int i=>cases e; exact h
 |str x=>cases e; exact h.1
 |_=>cases e
theorem Q7{M:Ch->Prop}{H:Hp}:∀{ds:v_ D}{vs:v_ V}{ks:v_ Key},Q8 ds=P3 ks->Ats K M H ds vs->vs=ks.map kV
 |[],vs,ks,e,h=>by cases e; exact h
 | d::ds,vs,ks,e,h=>by
  let#[v,r,rfl,h1,h2]:=h;unfold Q8 at e;cases c1:keyOf d with
  |none=>rw[c1]at e; cases e
  | some k=>
   cases c2:Q8 ds with
   |none=>rw[c1,c2]at e; cases e
   |some k2=>
    rw[c1,c2]at e;cases e;rw[Q7 c2 h2,Xv c1 h1];rfl
def JE{U M:Ch->Prop}{H:Hp}{d:D}{v:V}{k:v_ Key}(e:keysOf d=P3 k)(h:AtT K U M H d v):∃b,v=.ref b/\H b=P3^.tup^k.map kV:=by
 cases d with
 |tup ds=>
  let#[a,vs,rfl,ha,hs]:=h.tup;refine#[a,rfl,?_];rw[←Q7 e hs];exact ha
 |_=>cases e
def YS{U M:Ch->Prop}{H:Hp}{x:V}{ks:v_^v_ Key}{ds:v_ D}(h:AtT K U M H (.dit ks ds) x):∃a vs,x=.ref a/\Rd H a^.dT^ks.zip vs/\Ats K M H ds vs:=by
 let#[a,vs,rfl,_,ha,_,hs]:=h;exact#[a,vs,rfl,.inl ha,hs]
def Ut{H:Hp}{a b:Ch}{kvs:v_ (v_ Key×V)}{k:v_ Key}(e:Rd H a^.dT kvs)(eb:H b=P3^.tup^k.map kV):DGet H a (.ref b)^DD kvs k:=.inr #[kvs,k,b,e,rfl,eb,rfl]
def YC(neg:Bool)(e d:D)(P:D->Prop):Prop:=∃ks ds k,d=.dit ks ds/\keysOf e=P3 k/\P^.bl (if neg then !(CQ ks ds k).isSome else(CQ ks ds k).isSome)
def N6(d e:D)(P:D->Prop):Prop:=∃ks ds k z,d=.dit ks ds/\keysOf e=P3 k/\CQ ks ds k=P3 z/\P z
def Yo:GI K .sh XB^YC t_:=λU M H e d y x P Q dom vM hy hx w q=>by
 let#[ks,ds,k,rfl,he,w]:=w;let#[a,vs,rfl,ha,hs]:=YS hx;let#[b,rfl,eb]:=JE he hy;refine#[a,DD (ks.zip vs) k,rfl,Ut ha eb,q _ H (.bl _) .refl rfl ?_];have h:=Ky (k:=k) (ks:=ks) hs;cases c:CQ ks ds k with
 |none=>rw[c]at h w; rw[show DD (ks.zip vs) k=s_ from h]; exact w
 |some z=>rw[c]at h w; let#[v,h1,_]:=h; rw[h1]; exact w
def c7:GI K .sh XD N6:=λU M H d e x y P Q dom vM hx hy w q=>by
 let#[ks,ds,k,z,rfl,he,hz,w]:=w;let#[a,vs,rfl,ha,hs]:=YS hx;let#[b,rfl,eb]:=JE he hy;have h:=Ky (k:=k) (ks:=ks) hs;rw[hz]at h;let#[v,h1,h2]:=h;exact#[a,v,rfl,by rw[←h1]; exact Ut ha eb,q v H z .refl h2 w]
variable {a b:Expr}{zU zO:Kd}{wa wb:DW}{pos:Pos}
def Z3{k:Nat}(hr:Room k X.A)(ha:DE X a zU wa)(hb:DE X b zO wb)(hs:aE b:=by intro _ _; rfl):DE X (.Subscript a b pos) .sh^Ac N6 wa wb:=by
 let#[ta,ha1,ha2]:=ha;let#[tb,hb1,hb2]:=hb;exact#[EX XD ta tb,Ke (IB hr) ha1 hb1 hs,λC M H n ρ Z P Q R w q=>FH c7 ha2 hb2 C M H n ρ Z P Q R w q]
end
def L5(ks:v_^v_ Key)(k:v_ Key):Bool:=ks.any λk0=>decide (k0=k)
def hasK_iffU{ks:v_^v_ Key}{k:v_ Key}:L5 ks k=t_↔k∈ks:=by
 unfold L5;rw[kZ];exact#[fun#[x,hx,e]=>by rw[←of_decide_eq_true e]; exact hx,λh=>#[k,h,decide_eq_true rfl]]
def Cq(ks:v_^v_ Key)(k:v_ Key):v_^v_ Key:=if L5 ks k=t_ then ks else ks++[k]
def Cp{α:Type}(ks:v_^v_ Key)(ds:v_ α)(k:v_ Key)(d:α):v_ α:=if L5 ks k=t_ then kq (λk0 d0=>if k0=k then d else d0) ks ds else ds++[d]
def Yi{ks:v_^v_ Key}{vs:v_ V}(hl:ks.length=vs.length)(k:v_ Key):((ks.zip vs).any λkv=>decide (kv.1=k))=L5 ks k:=by
 rw[je,kZ,hasK_iffU];constructor
 .rintro⟨⟨a,b⟩,hm,e⟩
  have e:a=k:=of_decide_eq_true e;rw[←e];exact(lr hm).1
 .intro h
  let#[i,hi,e]:=mR.mp h;refine#[(ks[i],vs[i]'(by lk)),?_,by rw[e]; exact decide_eq_true rfl];exact mR.mpr #[i,by rw[nh]; omega,by rw[List.getElem_zip]]
def VN{ks:v_^v_ Key}{vs:v_ V}(hl:ks.length=vs.length)(k:v_ Key)(v:V):putK (ks.zip vs) k v=(Cq ks k).zip^Cp ks vs k v:=by
 unfold putK Cq Cp;rw[Yi hl]
 by_cases h:L5 ks k=t_
 .rw [if_pos h,if_pos h,if_pos h]
  have go:∀(ks:v_^v_ Key) (vs:v_ V),((ks.zip vs).map λkv=>if kv.1=k then(kv.1,v)else kv)=ks.zip^kq (λk0 d0=>if k0=k then v else d0) ks vs:=by
   intro ks
   induction ks with
   |nil=>intro vs; rfl
   | cons a ks ih=>
    intro vs;cases vs with
    |nil=>rfl
    |cons b vs=>
     show(if a=k then(a,v)else(a,b))::_=(a,if a=k then v else b)::_;exact oZ.mpr #[by split <;>rfl,ih vs]
  exact go ks vs
 .rw[if_neg h,if_neg h,if_neg h,ni hl]
  rfl
theorem Ats.putU{K:Frag}{M:Ch->Prop}{H:Hp}{k:v_ Key}{d:D}{v:V}(hd:At K M H d v):∀{ks:v_^v_ Key}{ds:v_ D}{vs:v_ V},Ats K M H ds vs->Ats K M H (kq (λk0 d0=>if k0=k then d else d0) ks ds)^kq (λk0 d0=>if k0=k then v else d0) ks vs
 |[],ds,vs,h=>rfl
 |a::ks,[],vs,h=>by cases(show vs=[]from h); rfl
 |a::ks,e::ds,vs,h=>by
  let#[u,r,rfl,h1,h2]:=h;refine#[_,_,rfl,?_,Ats.putU hd h2];show At K M H (if a=k then d else e) (if a=k then v else u)
  by_cases e1:a=k
  .rw[if_pos e1,if_pos e1]; exact hd
  .rw[if_neg e1,if_neg e1]; exact h1
def Ats.putXU{K:Frag}{M:Ch->Prop}{H:Hp}{k:v_ Key}{d:D}{v:V}{ks:v_^v_ Key}{ds:v_ D}{vs:v_ V}(hd:At K M H d v)(h:Ats K M H ds vs):Ats K M H (Cp ks ds k d)^Cp ks vs k v:=by
 unfold Cp
 split
 .exact Ats.putU hd h
 .exact h.append^Ats.one hd
def Lc{α:Type}{ks:v_^v_ Key}{ds:v_ α}{k:v_ Key}{d:α}(hl:ks.length=ds.length):(Cq ks k).length=(Cp ks ds k d).length:=by
 unfold Cq Cp
 split
 .rw[mV]; omega
 .rw[eq,eq]; show ks.length+1=ds.length+1; omega
def GK{ks:v_^v_ Key}{ds:v_ D}{k:v_ Key}{d:D}(hl:ks.length=ds.length)(j:v_ Key):CQ (Cq ks k) (Cp ks ds k d) j=if j=k then P3 d else CQ ks ds j:=by
 unfold Cq Cp
 by_cases h':L5 ks k=t_
 .have h:=hasK_iffU.mp h'
  rw[if_pos h',if_pos h']
  have go:∀(ks:v_^v_ Key) (ds:v_ D),ks.length=ds.length->(j=k->k∈ks)->CQ ks (kq (λk0 d0=>if k0=k then d else d0) ks ds) j=if j=k then P3 d else CQ ks ds j:=by
   intro ks
   induction ks with
   |nil=>
    intro ds _ hm
    by_cases e:j=k
    .exact absurd (hm e) ip
    .rw[if_neg e]; cases ds <;>rfl
   | cons a ks ih=>
    intro ds hl hm;cases ds with
    |nil=>cases hl
    | cons e ds=>
     show(if a=j then P3 (if a=k then d else e)else CQ ks _ j)=if j=k then P3 d else if a=j then P3 e else CQ ks ds j
     by_cases e1:a=j
     .rw[if_pos e1,if_pos e1]
      by_cases e2:j=k
      .rw[if_pos e2,if_pos^e1.trans e2]
      .rw[if_neg e2,if_neg λz=>e2^e1.symm.trans z]
     .rw[if_neg e1,if_neg e1]
      refine ih ds (by simpa using hl) λz=>(UF.mp^hm z).resolve_left λw=>e1^w.symm.trans z.symm
  exact go ks ds hl λ_=>h
 .have h:k∉ks:=λz=>h'^hasK_iffU.mpr z
  rw[if_neg h',if_neg h']
  have go:∀(ks:v_^v_ Key) (ds:v_ D),ks.length=ds.length->k∉ks->CQ (ks++[k]) (ds++[d]) j=if j=k then P3 d else CQ ks ds j:=by
   intro ks
   induction ks with
   | nil=>
    intro ds hl _;cases ds with
    |nil=>
     show(if k=j then P3 d else s_)=if j=k then P3 d else s_
     by_cases e:j=k
     .rw[if_pos e,if_pos e.symm]
     .rw[if_neg e,if_neg λz=>e z.symm]
    |cons e ds=>cases hl
   | cons a ks ih=>
    intro ds hl hm;cases ds with
    |nil=>cases hl
    |cons e ds=>
     show(if a=j then P3 e else CQ (ks++[k]) (ds++[d]) j)=if j=k then P3 d else if a=j then P3 e else CQ ks ds j
     rw[ih ds (by simpa using hl) λz=>hm^TW _ z]
     by_cases e1:a=j
     .rw[if_pos e1,if_pos e1,if_neg λz=>hm^by rw[←z,←e1]; exact Op]
     .rw[if_neg e1,if_neg e1]
  exact go ks ds hl h
section
variable {X:Cx}{a b e:Expr}{κ zU zO:Kd}{wa wb:DW}{pos pos':Pos}
def WW:DW:=λn _ P=>P (.dit [] []) n
def YY:DE X (.Dict [] [] pos) .fr WW:=by
 refine#[_,Xb,λC M H n ρ Z P Q R w q=>λp hp=>?_];have g:Grow H^BQ H p^.dT []:=BE hp;exact q _ _ (.dit [] []) n g.ext (R.feed.grow g) #[p,rfl,hp,[],An,rfl,rfl] w
def P6(i:Nat)(wk wv:DW):Ad:=λD2 n ρ=>∃ks ds,ρ[i]?=P3^.ow^.dit ks ds/\wv n ρ λd n1=>wk n1 ρ λk n2=>∃key,keysOf k=P3 key/\ks.length<sizeLine/\D2.nx n2^ρ.set i^.ow^.dit (Cq ks key)^Cp ks ds key d
def Uo{i k:Nat}{x:jJ}(hr:Room k X.A)(hx:PE X x^CC i)(ha:DE X a zU wa)(hb:DE X b zO wb)(hk:zO≠.tp:=by intro z; cases z)
  (hs:swapsWith b (P3^.Subscript x a pos') pos.line X.env=pure u_:=by rfl):DS X κ (.Assign [.Subscript x a pos'] b pos)^P6 i wa wb:=by
 let#[t,h1,h2]:=ha;let#[u,g1,g2]:=hb;refine#[_,Hd (IB hr) hx h1 g1 hs,λC M H n ρ Z D2 E R L w=>?_];let#[ks,ds,hd,w]:=w;refine g2 C M H n ρ Z _ _ R w λv H1 d n1 e1 f1 r1 p=>?_;have R1:=R.step e1 f1;let#[ad,ea,m,nv,tt]:=R1.sl i _ hd;refine#[.ref ad,getD_some ea,?_];refine h2 C M H1 n1 ρ Z _ _ R1 p λy H2 kk n2 e2 f2 r2 p=>?_;let#[key,hkey,hlt,p]:=p;have R2:=R1.step e2 f2;let#[ad',ea',m',nv',tt']:=R2.sl i _ hd;rw[ea]at ea';cases ea';let#[vs,hH,hl,hs']:=tt';have hat:At X.K M H2 d v:=(r1.shOf R.dom hk).pres^R1.pres e2;have hvl:ks.length=vs.length:=by rw[hl,hs'.length]
 let#[b,rfl,eb]:=JE hkey^r2.tpOf R1.dom R1.vM;refine#[ad,_,rfl,DPut.t hH eb (by rw[nh]; omega),L.nx M _ n2 _ Z (R2.mut (e:=.dit (Cq ks key)^Cp ks ds key d) hd ea #[Cp ks vs key v,by rw[An,VN hvl],Lc hl,(hs'.putXU hat).pres^Cr m' hH]) p]
end
end Dp
namespace L2
open PySem.W
end L2
namespace Dp
open L2
section
variable {X:Cx}
def Zw{κ:Kd}{body:v_ jH}{wb:Ad}{h₀:ExceptHandler}{hs:v_ ExceptHandler}{pos:Pos}(hx:∀e s,X.xe e s->False)(hb:Rt X κ body wb):DS X κ (.Try body (h₀::hs) [] [] pos) wb:=by
 let#[t,b1,b2]:=hb;refine#[t,λzH s Z H D I h=>?_,b2];refine wpAny_Try_except ?_;refine jo (b1 zH s Z H D I h) (λf s1 q=>?_) λe s1 q=>(hx e s1 q).elim;cases f with
 |next=>exact T0 q
 |_=>exact q
end
end Dp
namespace Nt
open L2 Dp
structure iL (N:Net) (s:Str) (F:OO) (c:Nat) (T:List Aq):Prop where
 ins:∀t∈T,t∈N.ts
 nd:T.Nodup
 many:T.length+1=c
 wk:∀x d q,F x=P3 (d,q)->Wk (sub N T) s x d
def Er:Ad:=(Af (A8 (B7 (BP^AX^D4 "tuple"^AC 1)^B7 (AX^Ac PC (Bl CS^AE (AC 1) AQ)^wC^D.int 2)^B7 (AX^Ac PC (Ac A5 (AC 1)^wC^D.int 0)^Ac A5 (AC 0)^wC^D.int 0)^BP^AX^D4 "tuple"^Ac A5 (AC 1)^wC^D.int 1) (Ap^wC^D.bl u_) Au)
 (Af (CZ (Av^Ac A5 (AC 1)^wC^D.int 1) (AT 2)^A8 (B7 (BP^AX^D4 "tuple"^AC 2)^B7 (AX^Ac PC (Bl CS^AE (AC 2) AQ)^wC^D.int 3)^B7 (BP^AX^AW FJ^AD (AH^Ac A5 (AC 2)^wC^D.int 2) AY)^AX^Ac (Gd t_) (AC 2)^Ac A5 (AC 0)^wC^D.int 1) (Ap^wC^D.bl u_) Au)
 (Ap^Bl HE^AE (BU [P3 1,s_] (FZ^AE (Ac CV (Bl CS^AE (Ac A5 (AC 1)^wC^D.int 1) AQ)^wC^D.int 1) AQ) (AT 1) CY^Ac Gc (Ac A5 (Ac A5 (AC 0)^wC^D.int 1)^AC 1)^Ac A5 (Ac A5 (AC 0)^wC^D.int 1)^Ac Br (AC 1)^wC^D.int 1) AQ)))
end Nt
namespace L2
end L2
namespace Dp
open L2
end Dp
namespace L2
open AutoSeq1 (wpAny_loadPart')
end L2
namespace Dp
open L2
end Dp
namespace Nt
open L2 Dp
def ic(N:Net)(s x:Str):Prop:=∃d,Wk N s x d
structure iP (N:Net) (s:Str) (ks:List Key):Prop where
 nd:ks.Nodup
 dom:∀k∈ks,∃x:Str,k=.inr x
 mem:∀x:Str,.inr x∈ks↔ic N s x
inductive gG:D->Prop
 |s (x:Str):gG^.str x
 |i (k:Int):gG^.int k
 |t (xs:List D) (h:∀x,x∈xs->gG x):gG^.tup xs
def VA{N:Net}(a b c:D):Ez N^.tup [a,b,c]=(Ik c&&(N.ts.map AS).any λy=>C2 y^.tup [a,b,c]):=by
 rw[je,tofB_iff,iq,kZ];constructor
 .rintro⟨t,ht,e⟩
  have e3:c=.int t.len:=by injection e with e; injection e with _ e; injection e with _ e; injection e
  exact#[by rw[e3]; rfl,AS t,Sc.mpr #[t,ht,rfl],by rw[e]; exact FD t]
 .rintro⟨hw,y,hy,e⟩
  let#[t,ht,rfl]:=Sc.mp hy;let#[z,e2,hz]:=N7 e;have e3:c=z:=by injection e2 with e; injection e with _ e; injection e with _ e; injection e
  subst e3;rw[e2];cases c with
  |int i=>exact#[t,ht,by rw[hz i rfl]; rfl]
  |_=>cases hw
def Tz{N:Net}{d:D}(h:∀a b c,d≠.tup [a,b,c]):Ez N d=u_:=by
 rw[jR];intro z;let#[t,_,e]:=tofB_iff.mp z;exact h _ _ _ e
def cV(ts:v_ Aq):D->Bool
 |.int k=>BS (CK^ts.getD k.toNat #["","",0])^CK^ts.getD (k.toNat+1) #["","",0]
 |_=>t_
def Z9(ts:v_ Aq):WD^ts.map AS=t_↔∀k,k+1<ts.length->BS (CK^ts.getD k #["","",0])^CK^ts.getD (k+1) #["","",0]=t_:=by
 induction ts with
 |nil=>exact#[λ_ k h=>absurd h^by simp,λ_=>rfl]
 | cons s r ih=>
  cases r with
  |nil=>exact#[λ_ k h=>absurd h^by simp,λ_=>rfl]
  | cons t r=>
   show((Xm (AS s)^AS t==P3 t_)&&WD^(t::r).map AS)=t_↔_;rw[iq,ih,JB];constructor
   .rintro⟨h1,h2⟩ k hk
    cases k with
    |zero=>exact iw^eq_of_beq h1
    |succ k=>exact h2 k^by simpa using hk
   .intro h
    have h0:=h 0 (by simp);exact#[by rw[show BS (CK s)^CK t=t_ from h0]; rfl,λk hk=>h (k+1)^by simpa using hk]
def c6(ts:v_ Aq)(m:Nat)(hm:m=(((ts.length:Nat):Int) - 1).toNat):(DH 0 m).all^cV ts=WD^ts.map AS:=by
 rw[je,Z9,jh];constructor
 .intro h k hk
  have:=h (.int (0+(k:Int)))^Sc.mpr #[k,jn.mpr^by lk,rfl]
  have e:cV ts^.int (0+(k:Int))=BS (CK^ts.getD (0+(k:Int)).toNat #["","",0])^CK^ts.getD ((0+(k:Int)).toNat+1) #["","",0]:=rfl;rw[e,show(0+(k:Int)).toNat=k by lk]at this;exact this
 .intro h d hd
  let#[k,hk,rfl]:=Hb hd;have e:cV ts^.int (0+(k:Int))=BS (CK^ts.getD (0+(k:Int)).toNat #["","",0])^CK^ts.getD ((0+(k:Int)).toNat+1) #["","",0]:=rfl;rw[e,show(0+(k:Int)).toNat=k by lk];exact h k^by lk
section
variable {ss:v_ Slot}{n:Nat}{Pd:D->Nat->Prop}
def Iy(h:OK ss n Pd):Er (EE Pd) n (ss++Tk 1 .no):=by
 let#[N,d,rfl,ok,l1,l2,hf,hs,hd,p]:=h;have szl:=PySem.sizeLine_eq;have layi:∀i:Int,Cs^.int i:=λi=>#[rfl,rfl,i6 _];have layp:Cs^.tup^N.ps.map .str:=GR ok.names;unfold Er;cases d with
 | tup zs =>
  by_cases hz:zs.length=2
  .obtain⟨x,y,rfl⟩:∃x y,zs=[x,y]:=by
    match zs,hz with
    |[x,y],_=>exact#[x,y,rfl]
   have f1:HD (10 ^ 41) x:=hf.1;have hd':max (S3 x)^max (S3 y) 0+1<=90:=hd;have hs':Rq x+1+(Rq y+1+0)<=200000:=hs;refine#[_,_,rfl,rfl,layi _,layi _,?_];refine CO (λc=>absurd c^by show ¬(!C2 (.int 2) (.int 2))=t_; decide) λ_=>?_;refine#[_,AK (j:=0) rfl,_,AK (j:=0) rfl,FC (B:=10 ^ 41) (by cbv) f1^by lk,layp,?_];refine CO (λc=>?_) λc=>?_
   .have:thinB N^.tup [x,y]=u_:=by
     rw[jR];intro z;let#[ts,e,_]:=thinB_iff.mp z;have e1:x=.tup^N.ps.map .str:=by injection e with e; injection e
     rw[eqD_strs.mpr e1]at c;cases c
    rw[this]at p;exact p
   .have ex:C2 x^.tup^N.ps.map .str=t_:=by
     cases e:C2 x^.tup^N.ps.map .str with
     |true=>rfl
     |false=>rw[e]at c; exact absurd rfl c
    refine#[_,AK (j:=1) rfl,?_];cases y with
    | tup xs=>
     rw[←Ir ok,ex,nF]at p;have f2:Gx (10 ^ 41) xs:=hf.2.1;have dx:ND xs<=88:=by have:max (S3 x)^max (ND xs+1) 0+1<=90:=hd'; omega
     have hl:=O3 xs;have sx:K4 xs<=200000:=by have:Rq x+1+(K4 xs+1+0)<=200000:=hs'; omega
     refine Ba #[_,AK (j:=1) rfl,?_]
     have go:∀(vs us:v_ D) (s2:Slot),xs=us++vs->us.all^Ez N=t_->BF (AT 2) (A8 (B7 (BP^AX^D4 "tuple"^AC 2)^B7 (AX^Ac PC (Bl CS^AE (AC 2) AQ)^wC^D.int 3)^B7 (BP^AX^AW FJ^AD (AH^Ac A5 (AC 2)^wC^D.int 2) AY)^AX^Ac (Gd t_) (AC 2)^Ac A5 (AC 0)^wC^D.int 1) (Ap^wC^D.bl u_) Au)
       {EE Pd with nx:=λn ρ=>(Ap^Bl HE^AE (BU [P3 1,s_] (FZ^AE (Ac CV (Bl CS^AE (Ac A5 (AC 1)^wC^D.int 1) AQ)^wC^D.int 1) AQ) (AT 1) CY^Ac Gc (Ac A5 (Ac A5 (AC 0)^wC^D.int 1)^AC 1)^Ac A5 (Ac A5 (AC 0)^wC^D.int 1)^Ac Br (AC 1)^wC^D.int 1) AQ) (EE Pd) n ρ} vs n [.sh^enc N,.sh^.tup [x,.tup xs],s2]:=by
      intro vs
      induction vs with
      | nil=>
       intro us s2 e ha;rw[jE]at e;subst e;let#[ts,rfl,hts]:=K3 ha;rw[ha,nF]at p;have tl:=Lv ts;have tl2:(ts.map AS).length=ts.length:=FM ..;refine#[_,AK (j:=1) rfl,_,_,rfl,rfl,_,rfl,#[by lk,by lk],by rw[DF]; omega,?_];refine BG (λe=>.bl^cV ts e) (λρ=>∃s,ρ=[.sh^.tup [x,.tup^ts.map AS],s]) _ _ _ _ ?_ #[_,rfl] ?_
       .rintro d hd ρ m' nx ⟨s,rfl⟩ hnx
        let#[k,hk,rfl]:=Hb hd;have k1:k<ts.length:=by lk
        have k2:k+1<ts.length:=by lk
        have g1:(ts.map AS)[k]?=P3 (AS ts[k]):=by rw[ir,No k1]; rfl
        have g2:(ts.map AS)[k+1]?=P3 (AS ts[k+1]):=by rw[ir,No k2]; rfl
        refine#[_,AK (j:=1) rfl,AS ts[k],by rw[show(0+(k:Int))=((k:Nat):Int) by lk]; exact AK g1,_,AK (j:=1) rfl,AS ts[k+1],by rw[show(0+(k:Int)+1)=((k+1:Nat):Int) by lk]; exact AK g2,?_];refine Ul (JB _ _) ?_;have e1:ts.getD k #["","",0]=ts[k]:=by rw[jN,No k1]; rfl
        have e2:ts.getD (k+1) #["","",0]=ts[k+1]:=by rw[jN,No k2]; rfl
        have:=hnx [.sh^.tup [x,.tup^ts.map AS],.sh^.int (0+(k:Int))] #[_,rfl]
        rw[show cV ts^.int (0+(k:Int))=BS (CK ts[k]) (CK ts[k+1]) by show BS (CK^ts.getD (0+(k:Int)).toNat #["","",0])^CK^ts.getD ((0+(k:Int)).toNat+1) #["","",0]=_; rw[show(0+(k:Int)).toNat=k by lk,e1,e2]]at this;exact this
       .rw[jB]
        show HE [D.lst^(DH 0 (((ts.map AS).length:Int) - 1).toNat).map λe=>D.bl^cV ts e] λz=>Pd z n;refine Fz (l:=DH 0 (((ts.map AS).length:Int) - 1).toNat) (p:=cV ts) ?_;rw[c6 ts _^by rw[tl2]];exact p
      | cons d vs ih=>
       intro us s2 e ha;have hm:d∈xs:=by rw[e]; exact f8 _ Op
       have bad:Ez N d=u_->Pd (.bl u_) n:=λz=>by
        have:xs.all^Ez N=u_:=by rw[e,List.all_append,nE,z]; simp
        rw[this]at p;exact p
       have good:Ez N d=t_->∀s2,BF _ _ _ vs n [.sh^enc N,.sh^.tup [x,.tup xs],s2]:=λz s2=>ih (us++[d]) s2 (by rw[e,jS]; rfl) (by rw[List.all_append,ha,nE,z]; rfl);cases d with
       | tup zs=>
        by_cases hz3:zs.length=3
        .obtain⟨a,b',c,rfl⟩:∃a b c,zs=[a,b,c]:=by
          match zs,hz3 with
          |[a,b,c],_=>exact#[a,b,c,rfl]
         refine#[_,_,rfl,rfl,layi _,layi _,?_];refine CO (λc=>absurd c^by show ¬(!C2 (.int 3) (.int 3))=t_; decide) λ_=>?_;refine#[_,AK (j:=2) rfl,[_],rfl,rfl,?_];have ld:Cs^.tup [a,b',c]:=FC (B:=10 ^ 41) (by cbv) (fines_iff.mp f2 _ hm) (by have:=dps_le.mp dx _ hm; omega);have tt:=VA (N:=N) a b' c;cases w:Ik c with
         |false=>
          rw[w]at tt;show if(!Ik c)=t_ then _ else _
          rw[w];exact C8^bad tt
         | true=>
          rw[w,nF]at tt;show if(!Ik c)=t_ then _ else _
          rw[w];refine Ba #[_,AK (j:=1) rfl,ld,(Bw ok λ_ h=>h).1,_,rfl,?_]
          have fin:∀b:Bool,Ez N^.tup [a,b',c]=b->(if(!b)=t_ then Pd (.bl u_) n else BF _ _ _ vs n [.sh^enc N,.sh^.tup [x,.tup xs],.sh^.tup [a,b',c]]):=λb hb=>by
           cases b with
           |false=>exact C8^bad hb
           |true=>exact Ba^good hb _
          exact fin _ tt
        .refine#[_,_,rfl,rfl,layi _,layi _,?_]
         have hb:=bad (Tz λa b c e=>hz3^by injection e with e; rw[e]; rfl);refine CO (λ_=>hb) λc=>absurd ?_ c;show(!((zs.length:Int)==3))=t_;rw[oX,beq_eq_false_iff_ne];lk
       |_=>exact bad^Tz λa b c e=>by cases e
     exact go xs [] _ rfl rfl
    |_=>
     rw[Fa λp xs e=>by cases e]at p;exact C8 p
  .refine#[_,_,rfl,rfl,layi _,layi _,?_]
   rw[Fa λp xs e=>hz^by injection e with e; rw[e]; rfl]at p;refine CO (λ_=>p) λc=>absurd ?_ c;show(!((zs.length:Int)==2))=t_;rw[oX,beq_eq_false_iff_ne];lk
 |_=>
  rw[Fa λp xs e=>by cases e]at p;exact p
section
variable {ts:v_ Aq}
def G_(ts:v_ Aq):Keyed CH^ts.map AS:=by
 refine#[λx hx=>?_,λx hx y hy ka kb ea eb=>?_]
 .let#[t,_,rfl]:=Sc.mp hx
  exact#[CK t,rfl,kc _ _]
 .let#[t,_,rfl]:=Sc.mp hx
  let#[u,_,rfl]:=Sc.mp hy;cases(show P3^CK t=P3 ka from ea);cases(show P3^CK u=P3 kb from eb);rfl
end
end
end Nt
namespace L2
end L2
namespace Dp
open L2
end Dp
namespace Nt
open L2 Dp
def gZ(N M:Net)(xs:v_ D):Prop:=xs.length=N.ps.length/\(∀x∈xs,S0 x=t_)/\Fw M^.tup xs=t_
abbrev RD(N:Net)(xs:v_ D)(a c:Str):Int:=FY (He N xs a - He N xs c)
def Pw:W2:=λss n P=>∃(N:Net) (xs:v_ D) (a c:Str),ss=[.sh^.tup^N.ps.map .str,.sh^.tup xs,.sh^.str a,.sh^.str c]/\okN N/\xs.length=N.ps.length/\(∀x∈xs,S0 x=t_)/\a∈N.ps/\c∈N.ps/\P (.int^RD N xs a c) n
def IU:Ad:=(Af (A8 (B7 (BP^AX^D4 "tuple"^AC 2)^AX^Ac (Ge u_) (Bl CS^AE (AC 2) AQ)^wC^D.int 0) (Ap^wC D.non) Au)
 (Af (A8 (B7 (BP^AX^Bl HE^AE (BU [P3 0,s_] (Av^AC 2) (AT 1) CY^J7 (D4 "str"^AC 1)^Ac (Gd u_) (AC 1)^AC 0) AQ)^B7 (AX^Ac (Ge t_) (Ac A5 (AC 2)^wC^D.int 0)^AC 3)^AX^Ac (Ge t_) (Ac A5 (AC 2)^bD^wC^D.int 1)^AC 4) (Ap^wC D.non) Au)
 (Af (CU 5 WW)
 (Af (CZ (Av^AC 1) (B3 3^Ab (AT 6)^Ab (AT 7)^Ab (AT 8) BN) (Af (P6 5 (Az^AE (AC 6)^AE (AC 7) AQ)^AC 8)
 (P6 5 (Az^AE (AC 7)^AE (AC 6) AQ)^AC 8)))
 (Af (BA 9^wC^D.int 0)
 (Af (CZ (Mj^AE (AC 2)^AE (Y4 L9 (AC 2) (Gh^wC^D.int 1) DA) AQ) (B3 2^Ab (AT 6)^Ab (AT 7) BN) (Af (A8 (AX^Ac (YC t_) (Az^AE (AC 6)^AE (AC 7) AQ)^As 5) (Ap^wC D.non) Au)
 (BA 9^Ac Br (AC 9)^Ac N6 (As 5)^Az^AE (AC 6)^AE (AC 7) AQ)))
 (Ap^AC 9)))))))
def Es:Ad:=(Af (A8 (B7 (BP^AX^D4 "tuple"^AC 2)^AX^Ac (Ge t_) (Bl CS^AE (AC 2) AQ)^Bl CS^AE (AC 0) AQ) (Ap^wC^D.bl u_) Au)
 (Af (A8 (BP^AX^Bl HE^AE (BU [s_] (Av^AC 2) (AT 0) CY^J7 (AW FJ^AD (AH^AC 0) AY)^Ac (f2 λi j=>D.bl (decide (j<=i))) (AC 0)^wC^D.int 0) AQ) (Ap^wC^D.bl u_) Au)
 (Af (CZ (Av^AC 1) (B3 3^Ab (AT 3)^Ab (AT 4)^Ab (AT 5) BN)^A8 (AX^Ac (f2 λi j=>D.bl (decide (j<i))) (Bl Vz^AE (Ac CV (Ac A5 (AC 2)^OS (AC 0)^AE (AC 3) AQ)^Ac A5 (AC 2)^OS (AC 0)^AE (AC 4) AQ) AQ)^AC 5) (Ap^wC^D.bl u_) Au)
 (Ap^wC^D.bl t_))))
def IV:Ad:=(Ap^Bl Vz^AE (Ac CV (Ac A5 (AC 1)^OS (AC 0)^AE (AC 2) AQ)^Ac A5 (AC 1)^OS (AC 0)^AE (AC 3) AQ) AQ)
def ZN{N M:Net}(okn:okN N)(okm:okN M)(eM:M.ps=N.ps){a:Str}(ha:a∈N.ps){F:OO}(T:Told M a F){m:Int}(m0:0<=m):
  gZ N M (M.ps.map λx=>.int (F3 m ((F x).map (·.1))))/\∀c∈N.ps,RD N (M.ps.map λx=>.int (F3 m ((F x).map (·.1)))) a c=F3 m ((F c).map (·.1)):=by
 have e:(M.ps.map λx=>D.int (F3 m ((F x).map (·.1))))=(M.ps.map λx=>F3 m ((F x).map (·.1))).map .int:=by rw[jf]; rfl
 rw[e];have ge:=λx=>(YZ m0^Ui okm.1^T.far x).1;refine#[#[by rw[FM,FM,eM],λx hx=>?_,N5 okm.1 _ (λx _=>ge x) λu hu=>MG okm.1 T.far hu],λc hc=>?_]
 .let#[i,hi,rfl]:=Sc.mp hx
  let#[y,hy,rfl]:=Sc.mp hi;exact decide_eq_true^ge y
 .rw[eM]
  show FY (He N _ a - He N _ c)=_;rw[GO _ ha,GO _ hc,T.start]
  have:=ge c
  show FY ((if(0:Int)<m then 0 else m) - _)=_;unfold FY
  split <;>split <;>lk
def Kv{N:Net}{a c:Str}{w:v_ Str}(h:Way N a c^P3 w):∃l,walkedK 30 N a c w l/\Least N a c l:=by
 let#[d,r,e,h1,h2,h3,h4,h5]:=h;exact#[d,#[#[r,e],h1,h2,h4,h5],h3]
def S9{xs:v_ Str}{x:Str}:((xs.map D.str).any λy=>C2 y^.str x)=decide (x∈xs):=by
 rw[je,kZ,decide_eq_true_eq];constructor
 .rintro⟨d,hd,e⟩
  let#[y,hy,rfl]:=Sc.mp hd;rw[Ki,beq_iff_eq]at e;rw[←e]; exact hy
 .exact λh=>#[.str x,Sc.mpr #[x,h,rfl],by rw[Ki,beq_self_eq_true]]
def Fy{α:Type}{l:v_ α}{P:D->Prop}(h:P^.bl t_):HE [.lst^l.map λ_=>.bl t_] P:=by
 refine Fz (p:=λ_=>t_) ?_;rw[jh.mpr λ_ _=>rfl];exact h
def T7:2<=sizeLine:=by cbv
structure Led (done:List Aq) (ks:List^List Key) (ds:List D):Prop where
 len:ks.length=ds.length
 le:ks.length<=2*done.length
 at1:∀u∈done,CQ ks ds [.inr u.a,.inr u.b]=P3 (.int u.len)
 at2:∀u∈done,CQ ks ds [.inr u.b,.inr u.a]=P3^.int u.len
def Iz{ks:v_^v_ Key}{k:v_ Key}:(Cq ks k).length<=ks.length+1:=by
 unfold Cq
 split
 .lk
 .rw[eq]; exact Rs _
def Led.put{M:Net}(ok:M.Ok){done:v_ Aq}{v:Aq}{ks:v_^v_ Key}{ds:v_ D}(h:Led done ks ds)(hd:∀u∈done,u∈M.ts)(hv:v∈M.ts):
  Led (done++[v]) (Cq (Cq ks [.inr v.a,.inr v.b]) [.inr v.b,.inr v.a]) (Cp (Cq ks [.inr v.a,.inr v.b]) (Cp ks ds [.inr v.a,.inr v.b]^.int v.len) [.inr v.b,.inr v.a]^.int v.len):=by
 have l1:=Lc (k:=[.inr v.a,.inr v.b]) (d:=D.int v.len) h.len;have lt:∀u∈M.ts,cs u.a<cs u.b:=λu hu=>(ok.tin u hu).2.2.1
 have key:∀{x y z w:Str},([.inr x,.inr y]:v_ Key)=[.inr z,.inr w]->x=z/\y=w:=λe=>by
  have:=List.cons.inj e
  exact#[kr this.1,kr (List.cons.inj this.2).1]
 refine#[Lc l1,?_,λu hu=>?_,λu hu=>?_]
 .have:=h.le
  have a:=Iz (ks:=ks) (k:=[.inr v.a,.inr v.b]);have b:=Iz (ks:=Cq ks [.inr v.a,.inr v.b]) (k:=[.inr v.b,.inr v.a]);rw[eq,jI];lk
 .have hm:u∈M.ts:=by rcases i9.mp hu with hu|hu; exact hd u hu; rw[Re.mp hu]; exact hv
  rw[GK l1,GK h.len]
  split
  .rename_i e
   let#[e1,e2]:=key e
   have:=lt u hm
   rw[e1,e2]at this;exact absurd (Std.lt_trans this^lt v hv)^Bo _
  .split
   .rename_i e
    let#[e1,e2]:=key e;rw[C3 ok.trise u hm v hv e1 e2]
   .rename_i e
    rcases i9.mp hu with hu|hu
    .exact h.at1 u hu
    .exact absurd (by rw[Re.mp hu]) e
 .have hm:u∈M.ts:=by rcases i9.mp hu with hu|hu; exact hd u hu; rw[Re.mp hu]; exact hv
  rw[GK l1,GK h.len]
  split
  .rename_i e
   let#[e1,e2]:=key e;rw[C3 ok.trise u hm v hv e2 e1]
  .rename_i e0
   split
   .rename_i e
    let#[e1,e2]:=key e
    have:=lt u hm
    rw[e1,e2]at this;exact absurd (Std.lt_trans this^lt v hv)^Bo _
   .rcases i9.mp hu with hu|hu
    .exact h.at2 u hu
    .exact absurd (by rw[Re.mp hu]) e0
section
variable {ss:v_ Slot}{n:Nat}{Pd:D->Nat->Prop}
def VJ(h:Pw ss n Pd):IV (EE Pd) n (ss++Tk 0 .no):=by
 let#[N,xs,a,b,rfl,okn,hl,hg,ha,hb,p]:=h;let#[i,i2,hlay,i3,i4,i5]:=Nw okn hl hg ha;let#[j,j2,_,j3,j4,j5]:=Nw okn hl hg hb;unfold IV;exact#[#[_,rfl],_,_,i,rfl,rfl,hlay,i3,i4,i5,_,AK i2,#[_,rfl],_,_,j,rfl,rfl,hlay,j3,j4,j5,_,AK j2,p]
def YB{N:Net}{xs:v_ D}(h:Fw N^.tup xs=t_):xs.length=N.ps.length/\(∀x∈xs,S0 x=t_)/\∀u∈N.ts,FY (He N xs u.a - He N xs u.b)<=u.len:=by
 have h':((((xs.length:Int)==(N.ps.length:Int))&&xs.all S0)&&N.ts.all λt=>decide (FY (He N xs t.a - He N xs t.b)<=t.len))=t_:=h;rw[iq,iq]at h';exact#[by have:=beq_iff_eq.mp h'.1.1; omega,jh.mp h'.1.2,λu hu=>of_decide_eq_true^jh.mp h'.2 u hu]
end
end Nt
namespace L2
end L2
namespace Dp
open L2
end Dp
namespace L2
def HX(A:jd)(H:Hp):Prop:=∃a C dx u,A.handled=P3^.ref a/\H a=P3 u/\XT C dx a u
structure iK (P:jK) (w:jQ) (K:Frag) (tg:jJ) (J:It) (fp:List Ch) (it:Ch) (tn:Nat->i8->Prop):Prop where
 mem:it∈fp
 obj:∀i h,tn i h->∀b∈fp,∃o,h.get? b=P3 o/\∀v,o.data≠.cell v
 keep:∀i h h',tn i h->(∀b∈fp,∀o,h.get? b=P3 o->h'.get? b=P3 o)->tn i h'
 item:∀(X:Cx),X.prog=P->X.w=w->X.K=K->HX X.A X.H₀->∀(i:Nat) (zH:List (Ch×Obj)) (s:On) (Z:St) (H:Hp) (E:Ev->On->Prop),Inv X zH Z H s->(∀b∈fp,Gg X zH H b)->tn i s.heap->J.go i H->
  wpAny (model P w) X.A (pyNext^.ref it) (λr s1=>∃u,r=P3 u /\
   wpAny (model P w) X.A (letOwnedTupleGo tg (.ref it) u) (λ_ s2=>∃x H',Inv X zH Z H' s2/\RelV x u/\J.yld i H x H'/\tn (i+1) s2.heap/\∀b∈fp,H' b=s_) E s1) E s
 done:∀(X:Cx),X.prog=P->X.w=w->X.K=K->HX X.A X.H₀->∀(i:Nat) (zH:List (Ch×Obj)) (s:On) (Z:St) (H:Hp) (E:Ev->On->Prop),Inv X zH Z H s->(∀b∈fp,Gg X zH H b)->tn i s.heap->J.stop i H->
  wpAny (model P w) X.A (pyNext^.ref it) (λr s1=>r=s_/\Inv X zH Z H s1) E s
 self:∀(A:jd) (i:Nat) (s:On) (Q:Ev->On->Prop) (E:Ev->On->Prop),tn i s.heap->Q (.ref it) s->wpAny (model P w) A (pyIter^.ref it) Q E s
end L2
namespace Dp
open L2
end Dp
namespace L2
structure fj (k:Nat) (A:jd):Prop where
 dp:A.depth+3*k+5<recursionLimit
 un:A.units+16*k+200<cLine
 gd:A.guards=P3 []
structure iQ (P:jK) (w:jQ) (K:Frag) (mg:Str->Option Ev) (base:i8) (k:Nat) (f:Ch) (fd:jt) (ps:List Str) (sp:Sp):Prop where
 len:∀vs H Q E,sp vs H Q E->vs.length=ps.length
 run:∀(A:jd) (outer:List Env) (s:On) (H:Hp) (args:Args) (us:List Ev) (vs:List V) (Q:VK) (E:XK),fj k A->HX A H->Env0 P w K mg base A outer s H->n_ s fd args^ps.zip us->Vals vs us->sp vs H Q E->
  codeAny (model P w) A (.call (.ref f) args) (CR J6 outer P w H s Q E) s
end L2
namespace Dp
open L2
end Dp
namespace L2
end L2
namespace Dp
open L2
end Dp
namespace L2
open PySem.W
structure ij (prog:jK) (w:jQ) (A:jd) (I d:Ch) (n:Nat) (base:i8) (key:Nat->Ch) (val:Nat->Ev) (ch:Ch->Prop) (St:Nat->i8->Prop):Prop where
 new:∀b,ch b->base.get? b=s_
 item:∀(i:Nat) (s:On) (Q:Option Ev->On->Prop) (E:Ev->On->Prop),i<n->St i s.heap->(∀b o,base.get? b=P3 o->s.heap.get? b=P3 o)->(∃o,s.heap.get? d=P3 o)->
  (∀h' tk a o c,h'.get? a=P3 o->o.cls=.type "tuple"->o.data=.seq #[ .ref^key i,val i] c->St (i+1) h'->(∀b o,¬ch b->s.heap.get? b=P3 o->h'.get? b=P3 o)->Q (P3^.ref a) {s with heap:=h',toks:=tk})->wpAny (model prog w) A (pyNext^.ref I) Q E s
 done:∀(s:On) (Q:Option Ev->On->Prop) (E:Ev->On->Prop),St n s.heap->(∀b o,base.get? b=P3 o->s.heap.get? b=P3 o)->(∀h' tk,(∀b o,¬ch b->s.heap.get? b=P3 o->h'.get? b=P3 o)->Q s_ {s with heap:=h',toks:=tk})->wpAny (model prog w) A (pyNext^.ref I) Q E s
 frame:∀i h h',St i h->me d h h'->St i h'
 dch:¬ch d
end L2
namespace Dp
open L2
end Dp
namespace L2
end L2
namespace Dp
open L2
end Dp
namespace L2
end L2
namespace Dp
open L2
end Dp
namespace L2
end L2
namespace Dp
open L2
end Dp
namespace L2
end L2
namespace Dp
open L2
end Dp
namespace L2
end L2
namespace Dp
open L2
end Dp
namespace L2
end L2
namespace Dp
open L2
def Ry:Ad:=λD2 n ρ=>D2.bk n ρ
def YO{X:Cx}{κ:Kd}{pos:Pos}:DS X κ (.Break pos) Ry:=#[_,XQ,λC M H n ρ Z D2 E R L w=>L.bk M H n ρ Z R w]
end Dp
namespace L2
end L2
namespace Dp
open L2
end Dp
namespace L2
section
variable {X:Cx}
def eG(K:Frag):V->v_ V->Hp->VK->Prop:=λx vs H Q=>∃(a:Ch) (xs:v_ V) (y:V) (ds:v_ lv) (d:lv) (j:Nat),x=.ref a/\vs=[y]/\SqL K H a xs/\RVs H ds xs/\RV H d y/\kn ds=t_/\d.canLay0=t_/\d.depth<=100 /\
 (∃dj,ds[j]?=P3 dj/\ji dj d=t_)/\(∀m dm,m<j->ds[m]?=P3 dm->ji dm d=u_)/\Q (.int (j:Int)) H
def b_{k:Nat}(hr:Room k X.A):au X "list.index"^eG X.K:=by
 intro zH s Z H x vs v us Q I rx rv h;let#[l,xs,y,ds,d,j,rfl,rfl,hH,hds,hd,c1,c2,dd,#[dj,hj,hit],hno,q]:=h;cases rx;let#[u,rfl,ru]:=rv.one;let#[its,r,pl,z]:=I.list hH;let#[as,ra]:=RVs.reads I hds r;let#[bs,rb]:=RV.reads I hd ru;have hm:=PySem.SeqAt.readsAll_map ds its as c1 ra;have hlen:ds.length=its.length:=by grind
 have hu:=hr.un;have hmin:min (kR ds) d.depth<=d.depth:=mP _ _
 have at_:∀m dm,ds[m]?=P3 dm->∀(h:m<its.toArray.size),PySem.SeqAt.readOf s.heap its.toArray[m]=dm:=λm dm e h=>by
  rw[←hm,ir]at e;have h':m<its.length:=by simpa using h
  simp_all
 have hjl:j<its.length:=by grind
 have hz:=r.length;have szl:=PySem.sizeLine_eq;let#[#[cls,dt,data,sl],n,e,e2,e4,e3]:=pl;simp only at e2 e3 e4;subst e2 e3 e4;have key:=PySem.SeqAt.list_indexAt l its.toArray n s_ sl u _ j (by lk) (by lk) (by simp_all) (λm hm' hlt=>?_) X.prog X.w X.A (wants (EP X zH Z Q) X.xe) s #[e,PySem.SeqAt.items_eqAt (vs:=its.toArray) (by lk) rb c1 c2^by lk,#[.int j,H,I.tok _,#[_,rfl],q]]
 .exact nN^mQ PySem.F.slot_list_index.plain PySem.F.entry_list_index^PySem.F.slot_list_index.check _ _ _ _ _ _ _ _ #[_,e,rfl] (PySem.F.args_list_index_2 _ _) key
 have hml:m<ds.length:=by simp_all
 rw[at_ m ds[m] (No hml) hm'];exact hno m ds[m] hlt (No hml)
end
end L2
namespace Dp
open L2
def fM(d:D)(ds:v_ D)(P:D->Prop):Prop:=∃(xs:v_ D) (y:D) (j:Nat),d=.lst xs/\ds=[y]/\Cs^.tup xs/\Cs y/\(∃x,xs[j]?=P3 x/\C2 x y=t_)/\(∀m x,m<j->xs[m]?=P3 x->C2 x y=u_)/\P^.int (j:Int)
def fc{K:Frag}:h7 K .sh "list" (eG K) fM:=by
 intro U M H d ds x vs P Q dom vM hx hp w q;let#[xs,y,j,rfl,rfl,#[n1,l1,_],#[n2,l2,d2],#[x0,hx0,hit],hno,w]:=w;let#[v,rfl,hy]:=Ei hp;let#[a,us,rfl,_,hn,hs]:=hx
 have get:∀(m:Nat) (p:lv),(Bj xs)[m]?=P3 p->∃x,xs[m]?=P3 x/\p=toPy x:=λm p e=>by
  rw[Cf,ir]at e;let#[x,e1,rfl]:=jY.mp e
  grind
 refine#[a,us,v,_,_,j,rfl,rfl,.inl hn,hs.rv n1,hy.rv n2,l1,l2,d2,#[_,by rw[Cf,ir,hx0]; rfl,hit],λm p hm e=>?_,q _ H (.int j) .refl rfl w];let#[x',e1,rfl]:=get m p e;exact hno m x' hm e1
def aI:Ad:=λD2 n ρ=>D2.ct n ρ
def Zz{X:Cx}{κ:Kd}{pos:Pos}:DS X κ (.Continue pos) aI:=#[_,Qf,λC M H n ρ Z D2 E R L w=>L.ct M H n ρ Z R w]
def Rel.setNo{K:Frag}{C:Fm}{M:Ch->Prop}{H:Hp}{n:Nat}{ρ:v_ Slot}{Z:L2.St}(R:Rel K C M H n ρ Z){i:Nat}{o:w_ V}:Rel K C M H n (ρ.set i .no)^Z.set i o:=by
 have two:∀(j:Nat) (s:Slot),(ρ.set i .no)[j]?=P3 s->s≠.no->ρ[j]?=P3 s/\((Z.set i o)[j]?).getD s_=(Z[j]?).getD s_:=λj s q hs=>by
  rcases G5 q with⟨_,_,rfl⟩|⟨hj,q⟩
  .exact absurd rfl hs
  .exact#[q,LB hj]
 have ow:∀{s:Slot},s.owns=t_->s≠.no:=λh z=>by rw[z]at h; cases h
 refine#[by rw[k_,k_]; exact R.len,R.sub,R.dom,R.ext,R.fU,R.uV,R.vM,R.feed,λj s q=>?_,R.pin,λj d a q z=>?_,λj s a q h z=>?_,λj k s t a q1 o1 q2 o2 z1 z2=>?_,λp hp=>?_]
 .by_cases hs:s=.no
  .subst hs; trivial
  .let#[h1,h2]:=two j s q hs
   rw[h2];exact R.sl j s h1
 .let#[h1,h2]:=two j _ q^by intro w; cases w
  exact R.br0 j d a h1 (h2▸z)
 .let#[h1,h2]:=two j _ q^ow h
  exact R.new j s a h1 h (h2▸z)
 .let#[h1,h2]:=two j _ q1^ow o1
  let#[h3,h4]:=two k _ q2^ow o2;exact R.two j k s t a h1 o1 h3 o2 (h2▸z1) (h4▸z2)
 .let#[h1,h2,h3,h4]:=R.kept p hp
  refine#[h1,h2,h3,λj d q z=>?_];let#[h5,h6]:=two j _ q (by intro w; cases w);exact h4 j d h5 (h6▸z)
section
variable {X:Cx}{κ zX:Kd}{i j r:Nat}{x y:Str}{e1 e2:Expr}{rest:v_ Stmt}{w1:DW}{w2:EW}{wr:Ad}{p3 p4 q0 q3 q5 q6:Pos}
def iC(i j r:Nat)(w1:DW)(w2:EW)(wr:Ad):Ad:=λD2 n ρ=>∃d xs,ρ[i]?=P3^.ow d/\ρ[r]?=P3^.ow^.lst xs/\xs.length<sizeLine/\w1 n (ρ.set i^.sh d) λz n1=>w2 n1 ((ρ.set i^.sh d).set j^.sh z) λys n2=>∃v,ys=[v]/\flat v=t_/\wr D2 n2^(ρ.set j .no).set r^.ow^.lst (xs++[v])
def cf(i j r:Nat)(hN:X.N.Nodup)(hj:X.N[j]?=P3 x)(hx:Loc X.env.scope x)(h1:DE X e1 zX w1)(hv:PE X (.Name y q0)^CC r)(h2:aw X [e2] w2)(hrest:Rt X κ rest wr)(hk:zX≠.tp:=by intro z; cases z)(n2:j≠r:=by cbv)
  (hs1:swapsWith e1 (P3^.Name x p3) p4.line X.env=pure u_:=by rfl) (hf:X.fn x=t_\/X.env.scope.names.lookup x=P3 .local:=by first|exact .inl rfl|exact .inr rfl|assumption)
  (hfew:((backTo q5^starEach [e2] X.env).all (λx=>!x.1)&&(backToKw q5^keywordEach [] X.env).all (λx=>x.1.isSome)&&decide (([e2]:v_ jJ).length+([]:v_ k7).length+(if([]:v_ k7).isEmpty then 0 else 1)<30))=t_:=by rfl)
  (hline:(q3.endLine==q5.line)=t_:=by rfl) (hst:starEach [e2] X.env=(u_,eval e2 X.env)::starEach [] X.env:=by rfl) (hsw:swapsWith (.Call (.Attribute (.Name y q0) "append" q3) [e2] [] q5) s_ q6.line X.env=pure u_:=by rfl):
  Rt X κ (.Assign [.Name x p3] e1 p4::.Expr (.Call (.Attribute (.Name y q0) "append" q3) [e2] [] q5) q6::rest) (iC i j r w1 w2 wr):=by
 let#[t1,a1,b1]:=h1;let#[t2,a2,b2]:=h2;let#[tr,ar,br]:=hrest;refine#[_,BY (E6 hN hj hx a1 hs1 hf)^BY (UG (Qk PySem.F.plainAttrs_list PySem.F.slot_list_append PySem.F.type_list_append Bc hv a2 rfl hfew hline hst rfl) hsw) ar,λC M H n ρ Z D2 E R L #[d,xs,hi,hr,hl,w]=>?_];let#[a,e1,m,nv,tp]:=R.sl i _ hi;have R':=R.freeze hi e1
 have back:∀{H1:Hp}{n1:Nat},FeedC X.K C.F (λb=>M b/\b≠a) H1 n1->FeedC X.K C.F M H1 n1:=λf1 f hf=>by
  let#[x,r,cells,g1,g2,g3,g4]:=f1 f hf;let#[_,_,_,_,_,o3,_]:=R.feed f hf;exact#[x,r,cells,g1,g2,#[o3.1,g3.2],g4]
 refine b1 C _ H n _ Z _ _ R' w λv H1 z n1 x1 f1 r1 w=>?_;have R1':=(R'.step x1 f1).set (i:=j)^r1.shOf R'.dom hk;have R1:=(R.step x1^back f1).setNo (i:=j) (o:=P3 v);have hr':(ρ.set j .no)[r]?=P3^.ow^.lst xs:=by rw[nJ n2]; exact hr
 let#[b,er,mb,nb,tb]:=R1.sl r _ hr';refine#[.ref b,getD_some er,O8 (d:=.lst xs) (T:="list") rfl (tb.att nb),?_];refine b2 C _ H1 n1 _ _ _ _ R1' w λvs H2 ys n2 x2 f2 r2 #[u,hy,fl,w]=>?_;subst hy;have R2:=R1.step x2^back f2;let#[b',er',mb',nb',tb']:=R2.sl r _ hr';rw[er]at er';cases er';exact Ew M H2 b (.lst xs) [u] vs (λe _=>wr D2 n2^(ρ.set j .no).set r^.ow e) _ mb' tb' (L7 [u] (by unfold Eo Eo; rw[fl]; rfl) r2) #[xs,u,rfl,rfl,hl,w] λo d' z v t2 hz pp=>br C M _ n2 _ _ D2 E (R2.mut hr' er t2) L pp
end
end Dp
namespace Nt
open L2 Dp
def Yk{M:Net}(ok:M.Ok){a x:Str}{K:Kn}(T:LTold M a K){dx:Int}(e:K x=P3 dx)(ne:x≠a):∃y dy l,K y=P3 dy/\look M.ts y x=P3 l/\dy+l=dx:=by
 let#[h1,h2]:=T.least x dx e;cases h1 with
 |nil=>exact absurd rfl ne
 | @snoc y _ d l w f=>
  have hk:=T.all y d w;cases ey:K y with
  |none=>exact absurd ey hk
  |some dy=>
   let#[g1,g2]:=T.least y dy ey;refine#[y,dy,l,ey,Hy ok f,?_]
   have:=g2 d w
   have:=h2 _^.snoc g1 f
   omega
structure ie (M:Net) (K:Kn) (acc:List Str) (x:Str):Prop where
 lst:acc.getLast?=P3 x
 nd:acc.Nodup
 ins:∀u∈acc,u∈M.ps
 far:∀dx,K x=P3 dx->∀u∈acc,∃du,K u=P3 du/\dx<=du
def Pu:W2:=λss n P=>∃(N:Net) (a c:Str) (z:D) (us:v_ Aq),ss=[.br z,.sh^.str a,.sh^.str c]/\E5 z=P3^us.map AS/\(∀u,u∈us↔u∈N.ts)/\okN N/\a∈N.ps/\c∈N.ps/\∀o,Way N a c o->P (ZV o) n
def Vj:Ad:=(Af (BA 8^WO (AX^Ac (Ge u_) (AC 5)^Ac A5 (As 4)^wC^D.int 0) (AC 6)^WO (AX^Ac (Ge u_) (AC 6)^Ac A5 (As 4)^wC^D.int 0) (AC 5)^wC D.non)
 (A8 (HI (AX^Ac (C9 t_) (AC 8)^wC D.non)^HI (AX^Ac (ID u_) (AC 8)^AC 3)^AX^Ac (Ge u_) (Ac Br (Ac Bx (AC 3)^AC 8)^AC 7)^Ac Bx (AC 3)^Ac A5 (As 4)^wC^D.int 0) (Af (Kw 4 "list" cY^AE (wC^D.int 0)^AE (AC 8) AQ)
 Ry) Au))
def IR:Ad:=(Af (BA 3^AW Ex^AD (B6^As 0)^AD (AH^AC 1) AY)
 (Af (A8 (AX^Ac (ID t_) (AC 2)^AC 3) (Ap^wC D.non) Au)
 (Af (CU 4^Bq^AE (AC 2) AQ)
 (Af (Io (AX^Ac (Ge t_) (Ac A5 (As 4)^wC^D.int 0)^AC 1)^WV 0 (B3 3^Ab (AT 5)^Ab (AT 6)^Ab (AT 7) BN) Vj)
 (Ap^Bl BH^AE (As 4) AQ)))))
def Lb(K:Kn)(x:Str)(dx:Int)(t:Aq):Prop:=(t.a=x/\∃dy,K t.b=P3 dy/\dy+t.len=dx)\/(t.a≠x/\t.b=x/\∃dy,K t.a=P3 dy/\dy+t.len=dx)
structure WI39 (N:Net) (K:Kn) (c:Str) (dc:Int) (x:Str) (r:List Str) (dx:Int):Prop where
 lst:(x::r).getLast?=P3 c
 wk:∃e,walk N (x::r) e/\dx+e=dc
 at_:K x=P3 dx
 nd:(x::r).Nodup
 far:∀y∈x::r,y∈N.ps/\∃dy,K y=P3 dy/\dx<=dy
def WI39.step{N:Net}{K:Kn}{c x y:Str}{dc dx dy l:Int}{r:v_ Str}(I:WI39 N K c dc x r dx)(hy:K y=P3 dy)(hyp:y∈N.ps)(l1:1<=l)(e:dy+l=dx)(ed:Ed N y x l):WI39 N K c dc y (x::r) dy:=by
 refine#[by exact I.lst,?_,hy,jA.mpr #[λh=>?_,I.nd],λz hz=>?_]
 .let#[e',h1,h2]:=I.wk
  exact#[_,#[l,e',ed,h1,rfl],by lk]
 .let#[_,d',h1,h2]:=I.far y h
  grind
 .rcases UF.mp hz with rfl|hz
  .grind
  .let#[h0,d',h1,h2]:=I.far z hz
   grind
section
variable {ss:v_ Slot}{n:Nat}{Pd:D->Nat->Prop}
def VI(h:Pu ss n Pd):IR (EE Pd) n (ss++Tk 6 .no):=by
 let#[N,a,c,z,us,rfl,hz,hus,okn,ha,hc,p]:=h;have ok:=okn.1;have szl:=PySem.sizeLine_eq;unfold IR;refine#[N,a,z,us,rfl,hz,hus,okn,ha,λks ds K Mp T=>?_];refine#[ks,ds,_,rfl,A9 c,?_];show if(!(Bi ks ds^.inr c).isSome)=t_ then _ else _
 rw[Mp.at_];cases ec:K c with
 |none=>exact C8^p s_ λd hd=>T.all c d hd ec
 | some dc=>
  refine Ba #[z1,?_];have c0:0<=dc:=(T.least c dc ec).1.pos ok
  refine#[λm n' ρ=>n'=n/\∃(x:Str) (r:v_ Str) (dx:Int) (s5 s6 s7 s8:Slot),ρ=[.br z,.sh^.str a,.sh^.str c,.sh^.dic ks ds,.ow^.lst^(x::r).map .str,s5,s6,s7,s8]/\WI39 N K c dc x r dx/\m=dx.toNat,
   #[_,rfl,c,[],dc,_,_,_,_,rfl,#[rfl,#[0,rfl,by lk],ec,by simp,λy hy=>by rw[Re.mp hy]; exact#[hc,dc,ec,mB _]],rfl],?_]
  rintro m n' ρ ⟨rfl,x,r,dx,s5,s6,s7,s8,rfl,I,rfl⟩;have hlen:(x::r).length<=N.ps.length:=OR I.nd λy hy=>(I.far y hy).1;have l25:=okn.2.1;refine#[_,AK (j:=0) rfl,?_];show if(!(x==a))=t_ then _ else _
  cases cx:x==a with
  |true=>
   have ex:x=a:=eq_of_beq cx;subst ex;refine Ba ?_;let#[e,h1,h2]:=I.wk;have hl:=T.least x dx I.at_;have e0:dx=0:=Int.le_antisymm (hl.2 0 .nil)^hl.1.pos ok
   have:e=dc:=by lk
   subst this;exact p (P3 (x::r)) #[e,r,rfl,I.lst,h1,T.least c e ec,by lk,λy hy=>(I.far y hy).1]
  | false=>
   have ne:x≠a:=λz=>by rw[z,beq_self_eq_true]at cx; cases cx
   refine C8 #[λn2 zN=>∃m',m'<dx.toNat/\n2=n'/\∃(x:Str) (r:v_ Str) (dx:Int) (s5 s6 s7 s8:Slot),zN=[.br z,.sh^.str a,.sh^.str c,.sh^.dic ks ds,.ow^.lst^(x::r).map .str,s5,s6,s7,s8]/\WI39 N K c dc x r dx/\m'=dx.toNat,λn2 zN h=>h,z,us.map AS,rfl,hz,?_];let#[y,dy,l,ey,el,e]:=Yk ok T I.at_ ne
   have ed:Ed N y x l:=by
    unfold look at el;cases cc:(ED N.ts y).find? λz=>decide (z.1=x)with
    |none=>rw[cc]at el; cases el
    |some q=>
     rw[cc]at el;have e1:q.1=x:=of_decide_eq_true^pH (p:=λz:Str×Int=>decide (z.1=x)) cc;have e2:q.2=l:=iw el;rw[←e1,←e2];exact mY cc
   have ex:∃t∈us,Lb K x dx t:=by
    let#[t,ht,rfl,hj]:=ed.tie ok;have hab:=(ok.tin t ht).2.2.1
    rcases hj with⟨rfl,rfl⟩|⟨rfl,rfl⟩
    .exact#[t,(hus t).mpr ht,.inr #[λz=>by rw[z]at hab; exact k8 _ hab,rfl,dy,ey,e]]
    .exact#[t,(hus t).mpr ht,.inl #[rfl,dy,ey,e]]
   have go:∀(rest:v_ Aq) (D2:E2) (s5 s6 s7 s8:Slot),(∀t∈rest,t∈N.ts)->(∃t∈rest,Lb K x dx t)->
     (∀(y:Str) (dy l:Int) (s5 s6 s7 s8:Slot),K y=P3 dy->y∈N.ps->1<=l->dy+l=dx->Ed N y x l->D2.nx n' [.br z,.sh^.str a,.sh^.str c,.sh^.dic ks ds,.ow^.lst^(y::x::r).map .str,s5,s6,s7,s8])->
     BF (B3 3^Ab (AT 5)^Ab (AT 6)^Ab (AT 7) BN) Vj D2 (rest.map AS) n' [.br z,.sh^.str a,.sh^.str c,.sh^.dic ks ds,.ow^.lst^(x::r).map .str,s5,s6,s7,s8]:=by
    intro rest
    induction rest with
    |nil=>intro D2 s5 s6 s7 s8 _ #[t,ht,_]; cases ht
    | cons t rest ih=>
     intro D2 s5 s6 s7 s8 hr hq hend;have htN:=hr t Op;let#[ma,mb,hab,t1,t2]:=ok.tin t htN;let#[d1,d2]:=IE htN
     have on:¬Lb K x dx t->∀s5 s6 s7 s8,BF (B3 3^Ab (AT 5)^Ab (AT 6)^Ab (AT 7) BN) Vj D2 (rest.map AS) n' [.br z,.sh^.str a,.sh^.str c,.sh^.dic ks ds,.ow^.lst^(x::r).map .str,s5,s6,s7,s8]:=λhn s5 s6 s7 s8=>by
      let#[t',ht',hq']:=hq
      rcases UF.mp ht' with rfl|ht'
      .exact absurd hq' hn
      .exact ih D2 _ _ _ _ (λu hu=>hr u^TW _ hu) #[t',ht',hq'] hend
     have tail:∀(y:Str) (l:Int),y∈N.ps->Ed N y x t.len->(∀dy,K y=P3 dy->dy+t.len=dx->Lb K x dx t)->(Lb K x dx t->∃dy,K y=P3 dy/\dy+t.len=dx)->(A8 (HI (AX^Ac (C9 t_) (AC 8)^wC D.non)^HI (AX^Ac (ID u_) (AC 8)^AC 3)^AX^Ac (Ge u_) (Ac Br (Ac Bx (AC 3)^AC 8)^AC 7)^Ac Bx (AC 3)^Ac A5 (As 4)^wC^D.int 0) (Af (Kw 4 "list" cY^AE (wC^D.int 0)^AE (AC 8) AQ)
 Ry) Au) {D2 with nx:=BF (B3 3^Ab (AT 5)^Ab (AT 6)^Ab (AT 7) BN) Vj D2^rest.map AS,ct:=BF (B3 3^Ab (AT 5)^Ab (AT 6)^Ab (AT 7) BN) Vj D2^rest.map AS,bk:=D2.nx} n' [.br z,.sh^.str a,.sh^.str c,.sh^.dic ks ds,.ow^.lst^(x::r).map .str,.sh^.str t.a,.sh^.str t.b,.sh^.int t.len,.sh^.str y]:=λy _ hy hed hq1 hq2=>by
      refine#[rfl,?_];refine#[ks,ds,_,rfl,A9 y,?_];show if(Bi ks ds^.inr y).isSome=t_ then _ else _
      rw[Mp.at_];cases ey:K y with
      |none=>exact Ba^Ba^on (λh=>by let#[dy,h1,_]:=hq2 h; rw[ey]at h1; cases h1) _ _ _ _
      | some dy=>
       refine C8 #[ks,ds,_,.int dy,rfl,A9 y,by rw[Mp.at_,ey]; rfl,_,AK (j:=0) rfl,ks,ds,_,.int dx,rfl,A9 x,by rw[Mp.at_,I.at_]; rfl,?_];show if((dy+t.len:Int)==dx)=t_ then _ else _
       cases cq:(dy+t.len:Int)==dx with
       |false=>exact Ba^on (λh=>by let#[dy',h1,h2]:=hq2 h; rw[ey]at h1; cases h1; rw[h2,beq_self_eq_true]at cq; cases cq) _ _ _ _
       |true=>
        refine C8 #[_,rfl,rfl,_,0,_,rfl,rfl,by cbv,by lk,by cbv,by rw[FM]; omega,?_];exact hend y dy t.len _ _ _ _ ey hy t1 (eq_of_beq cq) hed
     unfold Vj;refine#[rfl,rfl,_,AK (j:=0) rfl,?_];show if(t.a==x)=t_ then _ else _
     cases ca:t.a==x with
     |true=>
      have ea:t.a=x:=eq_of_beq ca;exact C8^tail t.b t.len mb (by rw[←ea]; exact d2) (λdy h1 h2=>.inl #[ea,dy,h1,h2]) λh=>h.elim (λh=>h.2) λh=>absurd ea h.1
     | false=>
      have na:t.a≠x:=λz=>by rw[z,beq_self_eq_true]at ca; cases ca
      refine Ba #[_,AK (j:=0) rfl,?_];show if(t.b==x)=t_ then _ else _
      cases cb:t.b==x with
      |true=>
       have eb:t.b=x:=eq_of_beq cb;exact C8^tail t.a t.len ma (by rw[←eb]; exact d1) (λdy h1 h2=>.inr #[na,eb,dy,h1,h2]) λh=>h.elim (λh=>absurd h.1 na) λh=>h.2.2
      |false=>
       have nb:t.b≠x:=λz=>by rw[z,beq_self_eq_true]at cb; cases cb
       refine Ba ?_;exact#[rfl,on (λh=>h.elim (λh=>na h.1) λh=>nb h.2.1) _ _ _ _]
   refine go us _ _ _ _ _ (λt ht=>(hus t).mp ht) ex λy dy l s5 s6 s7 s8 h1 h2 h3 h4 h5=>?_;have y0:0<=dy:=(T.least y dy h1).1.pos ok;exact#[dy.toNat,by lk,rfl,y,x::r,dy,_,_,_,_,rfl,I.step h1 h2 h3 h4 h5,rfl]
end
end Nt
namespace St
open PySem.SetTable
section
variable {prog:Program}{w:World}{K:Type}[DecidableEq K]{knd:KeyKind prog w K}{A:Around}{E:Value->Shared->Prop}{s:Shared}
def Wv{B:i8}{a b:Ch}{k:v_ K}{ks:v_^v_ K}{o:Obj}{es:Array (Int×Ev)}{ep:Nat}{t:jV}(S:SetIs knd B s.heap a ks o es ep t)(hu:A.units<cLine)(hk:kz knd B k b)(nv:NV knd k)(room:ks.length<4)(hm:k∉ks){Q:Bool->On->Prop}
  (h:∀h' tk,(∀c,c≠a->h'.get? c=s.heap.get? c)->(∃o es' ep t,SetIs knd B h' a (ks++[k]) o es' ep t)->Q t_ {s with heap:=h',toks:=tk}):
  wpAny (model prog w) A (setAdd a^.ref b) Q E s:=by
 unfold setAdd;refine jb^Db^wpAny_pyHash_tuple hu (GL S.sub hk) ?_;generalize s.toks+(k.length+1)=tk;unfold setAddHashed setAddHashedIn;let#[N,n1,n2,n3]:=S.tab.first^QK t^tupleKeyHash knd k
 have S':SetIs knd B ({s with toks:=tk}:On).heap a ks o es ep t:=S;refine jb^Db^nB (s:={s with toks:=tk}) S.obj S.dat S.fits ?_
 dsimp only
 rw[show byScan (.ref b) es=u_ from rfl];simp only[jD,↓reduceIte];refine Db ?_;unfold setSearch;refine bW (s:={s with toks:=tk}) S' hu hk n2 n3 n1 (λhm'=>absurd hm' hm) (λ_=>?_) 100000 0 s_ (by lk) (by rcases S.mask with⟨e,_⟩|e <;>rw[e]at n1 <;>lk) rfl (λm i e hm=>by lk)
 .dsimp only
  refine Db^nB (s:={s with toks:=tk}) S.obj S.dat S.fits ?_
  dsimp only
  have hlen:es.size=ks.length:=by
   let#[kk,x,p]:=S.ents;rw[←j9,x.len,p.length_eq]
  have hroom:t.place.size+1<=t.mask:=by
   rw[S.size]
   rcases S.mask with⟨e,l⟩|e
   .rw[e]; omega
   .rw[e]; omega
  let#[T1,z1,z2]:=ZL (v:=.ref b) S.tab S.size hroom n2 n3;have hmask:(t.put (st t (t.probeStart^tupleKeyHash knd k) N).j).1.mask=t.mask:=rfl;have hled:(t.put (st t (t.probeStart^tupleKeyHash knd k) N).j).1.led=t.led:=rfl;have hpl:(t.put (st t (t.probeStart^tupleKeyHash knd k) N).j).1.plain=t.plain:=rfl;generalize t.put (st t (t.probeStart^tupleKeyHash knd k) N).j=pt at T1 z1 z2 hmask hled hpl ⊢;let#[t1,p]:=pt
  dsimp only at T1 z1 z2 hmask hled hpl ⊢
  have hes1:(insertAt es p (tupleKeyHash knd k,ja b)).size=es.size+1:=L4 _ _ z2
  have hlist:(insertAt es p (tupleKeyHash knd k,ja b)).toList=es.toList.take p++(tupleKeyHash knd k,ja b)::es.toList.drop p:=by
   simp[insertAt,mZ,kW]
  have hents:∃kk,Ents knd B (insertAt es p (tupleKeyHash knd k,ja b)).toList kk/\List.Perm kk (ks++[k]):=by
   let#[kk,x,q]:=S.ents;refine#[_,by rw[hlist]; exact x.take #[rfl,b,rfl,hk] p,?_];have e:kk=kk.take p++kk.drop p:=(List.take_append_drop p kk).symm;refine List.Perm.trans List.perm_middle ?_;rw[←e];exact(List.Perm.cons k q).trans (List.perm_append_singleton k ks).symm
  have hnd:(ks++[k]).Nodup:=by
   rw[jW];refine#[S.nd,by simp,?_];intro x hx y hy e;rw[Re]at hy;subst hy; subst e; exact hm hx
  generalize insertAt es p (tupleKeyHash knd k,ja b)=es1 at T1 hes1 hents ⊢
  have tail:∀t2:jV,Tab t2 (λi=>es1[i]?.map (·.1))->t2.mask=t.mask->t2.led=t.led->t2.plain=u_->t2.place.size=es1.size->
    wpAny (model prog w) A (do
     storeSet a es1 t2
     if !u_&&t2.tooFull then setRelay a (SetTable.grown (es.size+1))
     return t_) Q E {s with toks:=tk}:=by
   intro t2 T2 m2 l2 p2 s2
   have ff:t2.fits es1.size=t_:=by
    unfold SetTable.fits pd;rw[T2.dum,s2]
    have:=T2.few; rw[s2]at this
    simpa using this
   refine Db^wpAny_storeSet_of (s:={s with toks:=tk}) S.obj S.dat ?_^by rw[hes1,jX]; have:=S.few; omega
   have hg:(s.heap.update a^oo es1 t2).get? a=P3 {o with data:=.set es1 (ep+1) t2}:=by
    have:=lT (oo es1 t2) S.obj^by rw[putSet_of es1 t2 S.dat]; rfl
    rw[putSet_of es1 t2 S.dat]at this; exact this
   have sb:∀c,c≠a->(s.heap.update a^oo es1 t2).get? c=s.heap.get? c:=λc hc=>(n6 s.heap a^oo es1 t2).2 c hc
   have su2:∀b o,B.get? b=P3 o->(s.heap.update a^oo es1 t2).get? b=P3 o:=λb o e=>by
    rw[sb b λz=>by rw[z,S.out]at e; cases e]; exact S.sub b o e
   have hf:t2.tooFull=u_:=by
    unfold SetTable.tooFull pd;rw[T2.dum,s2,hes1,m2]
    have:=S.few
    rcases S.mask with⟨e,l⟩|e <;>rw[e] <;>simp <;>lk
   simp only[pY,nF,hf,jD,↓reduceIte];exact T0^h _ tk sb #[{o with data:=.set es1 (ep+1) t2},es1,ep+1,t2,su2,S.out,hg,S.ex,rfl,T2,s2,by rw[m2]; exact S.mask.imp (λz=>#[z.1,by lk]) id,by lk,hents,hnd,.inr p2,by rw[l2]; exact S.led]
  rw[hpl]
  split
  .refine Db^ia (s:={s with toks:=tk}) (GL S.sub hk) nv ?_
   simp only[jD,↓reduceIte];exact tail _ (T1.plain u_) hmask hled rfl (by rw[hes1]; exact z1)
  .rename_i hp
   refine Db^T0 ?_;simp only[↓reduceIte];exact tail _ T1 hmask hled (by rw[hpl]; simpa using hp)^by rw[hes1]; exact z1
def set_two{l:Ch}{items:Array Ev}{keys:v_^v_ K}{Q:Ev->On->Prop}(hh:A.handled=s_)(hu:A.in1.in1.in1.units<cLine)(hl:s.heap.IsTuple l items)(hlen:items.size=keys.length)(h4:keys.length<=4)(nd:keys.Nodup)
  (hit:∀(i:Nat) (v:Ev) (k:v_ K),items[i]?=P3 v->keys[i]?=P3 k->∃b,v=.ref b/\kz knd s.heap k b) (nv:∀k∈keys,NV knd k)
  (h:∀h' tk o es ep t,(∀b o,s.heap.get? b=P3 o->h'.get? b=P3 o)->SetIs knd s.heap h' s.heap.objs.size keys o es ep t->Q (.ref s.heap.objs.size) {s with heap:=h',toks:=tk}):
  wpAny (model prog w) A (call (.type "set") [.ref l]) Q E s:=by
 have out:s.heap.get? s.heap.objs.size=s_:=by
  cases e:s.heap.get? s.heap.objs.size with
  |none=>rfl
  |some o=>exact absurd (ZB e)^jr _
 refine set_tuple hh hl (λi h=>∃o es ep t,SetIs knd s.heap h s.heap.objs.size (keys.take i) o es ep t) ?_ ?_ ?_ ?_
 .intro h' hk ho
  exact#[_,_,_,_,YA hk out ho]
 .rintro i h h' ⟨o,es,ep,t,S⟩ hk
  refine#[o,es,ep,t,S.move λb o hb e=>hk b o (λz=>?_) e];rw[Re]at z
  rcases hb with hb|⟨o',hb⟩
  .rw[z]at hb; exact absurd hb^oz _
  .rw[z]at hb; exact absurd (ZB hb)^mO.mpr^kJ _
 .rintro i v s' Q E hi hv ⟨o,es,ep,t,S⟩ q
  have hil:i<keys.length:=by lk
  have hk:keys[i]?=P3 keys[i]:=No hil;let#[b,rfl,hb]:=hit i v _ hv hk;have e2:keys.take (i+1)=keys.take i++[keys[i]]:=by rw[List.take_add_one,hk]; rfl
  refine Wv S hu hb (nv _^jv hil) (by rw[mM]; omega) (λz=>?_) λh' tk sb hS=>q h' tk t_ sb (by rw[e2]; exact hS);have n2:=nd.sublist^oV (i+1) keys;rw[e2]at n2;exact(jW.mp n2).2.2 _ z _ (Re.mpr rfl) rfl
 .rintro h' tk ⟨o,es,ep,t,S⟩ hk
  rw[kW^by lk]at S;exact h h' tk o es ep t hk S
end
end St
namespace L2
open PySem.W
section
variable {X:Cx}{e:Expr}{te:TE}{p1 p2 q1 q2:Pos}
def Wj(K:Frag)(te:TE):TE:=λZ H Q=>te Z H λx H1=>∃(l:Ch) (vs:v_ V) (keys:v_^v_ Key),x=.ref l/\SqT K H1 l vs/\KeysAt K H1 vs keys/\keys.length<=4/\keys.Nodup/\(∀k∈keys,∃x r,k=.inr x::r)/\Q (.int keys.length) H1
def Sh(hc:X.calm=t_){k0:Nat}(hr:Room k0 X.A)(he:PE X e te)(hg1:Gl X "len")(hm1:X.mg "len"=s_)(hg2:Gl X "set")(hm2:X.mg "set"=s_)(h1:starEach [mq (.Name "set" p2) [e] [] q2] X.env=[(u_,eval (mq (.Name "set" p2) [e] [] q2) X.env)]:=by rfl)
  (h2:starEach [e] X.env=[(u_,eval e X.env)]:=by rfl):PE X (.Call (.Name "len" p1) [.Call (.Name "set" p2) [e] [] q2] [] q1)^Wj X.K te:=by
 intro zH s Z H Q I h;refine kU^Dl I hg1 hm1 PySem.boot_len ?_;refine nO ?_ h1 rfl;rw[h1];refine kT ?_;refine kU^Dl I hg2 hm2 WA ?_;refine j_ ?_ h2 rfl;rw[h2];refine kT^thn (he zH s Z H _ I h) λu s1 #[x,H1,I1,r1,l,vs,keys,ex,hq,hk,h4,nd,htx,q]=>km ?_;subst ex;cases r1;let#[its,r',pl,hz]:=I1.tuple hq;have hlen:=r'.length;have hkl:=hk.len
 have hI:∀(i:Nat) (v:Ev) (k:v_ Key),its.toArray[i]?=P3 v->keys[i]?=P3 k->∃b,v=.ref b/\kz (BM X.prog X.w) s1.heap k b:=by
  intro i v k e1 e2;let#[a,e3,sq]:=hk.at_ i k e2;let#[u,e4,r4]:=r'.get e3;cases r4;have e1:its[i]?=P3 v:=by simpa using e1
  rw[e1]at e4; cases e4
  let#[it2,r5,#[o,ho,hc,n,hd],_]:=I1.tuple sq;rw[Zh]at r5;exact#[a,rfl,o,it2.toArray,n,ho,hc,hd,by rw[n8]; exact JG r5]
 refine St.set_two (knd:=BM X.prog X.w) (items:=its.toArray) (keys:=keys) (show X.A.handled=s_ from I.ok.hd hc) (by have:=hr.un; show X.A.units+1+1+1<cLine; omega) pl (by rw[iy]; omega) h4 nd hI (λk hk'=>by let#[x,r,rfl]:=htx k hk'; exact Za) λh' tk o es ep t hkp S=>km ?_
 have hn:es.size=keys.length:=by
  let#[kk,x,p]:=S.ents;rw[←j9,x.len,p.length_eq]
 refine call_len_set S.obj S.ex S.dat S.fits (by lk) ?_;have J:Inv X zH Z H1 {s1 with heap:=h',toks:=tk+1+1}:=I1.kept (t':=tk+1+1) hkp;exact#[.int keys.length,H1,J,by rw[hn]; exact#[_,rfl],q]
end
end L2
namespace Dp
open L2
def P7(wa:DW):DW:=λn ρ P=>wa n ρ λd n1=>∃xs,d=.tup xs/\xs.length<=4/\Keyed CH xs/\(∀x∈xs,∃s r,CH x=P3 (.inr s::r))/\(xs.map CH).Nodup/\P (.int xs.length) n1
section
variable {X:Cx}{a:Expr}{zU:Kd}{wa:DW}{p1 p2 q1 q2:Pos}
def S5(hc:X.calm=t_){k0:Nat}(hr:Room k0 X.A)(ha:DE X a zU wa)(hg1:Gl X "len")(hm1:X.mg "len"=s_)(hg2:Gl X "set")(hm2:X.mg "set"=s_)(h1:starEach [mq (.Name "set" p2) [a] [] q2] X.env=[(u_,eval (mq (.Name "set" p2) [a] [] q2) X.env)]:=by rfl)
  (h2:starEach [a] X.env=[(u_,eval a X.env)]:=by rfl):DE X (.Call (.Name "len" p1) [.Call (.Name "set" p2) [a] [] q2] [] q1) .sh^P7 wa:=by
 let#[t,a1,a2]:=ha;refine#[_,Sh hc hr a1 hg1 hm1 hg2 hm2 h1 h2,λC M H n ρ Z P Q R w q=>?_];refine a2 C M H n ρ Z _ _ R w λv H1 d n1 e1 f1 r1 p=>?_;let#[xs,rfl,h4,hK,htx,nd,p]:=p;let#[ad,vs,rfl,hq,hs]:=(r1.tpOf R.dom R.vM).tup;let#[keys,hl,hk]:=El hK.1
 have em:xs.map CH=keys.map P3:=by
  refine o8 (by rw[FM,FM,hl]) λi h1 h2=>?_;rw[FM]at h1;let#[k,e1,e2,_]:=hk i xs[i] (No h1);rw[o9,o9,e2];rw[No^by lk]at e1;exact e1.symm
 rw[em]at nd;refine#[ad,vs,keys,rfl,hq.sq,GS (λd k v _=>GU) hs hK hl hk,by lk,(kE.mp nd).imp λh e=>h^congrArg P3 e,λk hkm=>?_,q _ _ (.int _) n1 e1 f1 rfl (by rw[hl]; exact p)];let#[i,hi]:=kA.mp hkm;have hil:i<xs.length:=by rw[←hl]; exact(Uf.mp hi).1
 let#[k',e1,e2,_]:=hk i xs[i] (No hil);rw[hi]at e1; cases e1
 let#[x,r,e3]:=htx _^jv hil;rw[e2]at e3; cases e3
 exact#[x,r,rfl]
end
end Dp
namespace Nt
open L2 Dp
def Ds(t b:Int)(u:Aq):Nat->Net->D->Prop
 |0,N,d=>∃(w:v_ Str) (l:Int),d=.tup [GZ w,.tup []]/\walkedK 30 N u.a u.b w l/\l*b<=u.len*t
 |m+1,N,d=>∃(w:v_ Str) (l:Int) (us:v_ Aq) (bs:v_ D),d=.tup [GZ w,.tup bs]/\(walkedK 30 N u.a u.b w l/\l*b<=u.len*t)/\Over N.ts w us/\us.length<=30/\bs.length=us.length/\∀p∈us.zip bs,Ds t b u m (CW N p.1) p.2
def cT(A:Net)(t b:Int)(u:Aq)(m:Nat)(x y:D):Prop:=∃(S:v_ Aq) (xs:v_ D),x=.tup^S.map AS/\y=.tup xs/\S.Pairwise Bm/\(∀v∈S,v∈A.ts)/\S.length<=m/\Fw (minus A S)^.tup xs=t_/\u.len*t<RD (minus A S) xs u.a u.b*b
def GN(A:Net)(t b:Int)(u:Aq)(m:Nat)(row:D):Prop:=(¬P4 A t b u m/\∃x y,row=.tup [.str "in",x,y]/\cT A t b u m x y)\/(P4 A t b u m/\∃d,row=.tup [.str "out",d]/\Ds t b u m A d)
def PapI(N:Net)(t b:Int)(m:Nat)(ord:v_ Aq)(rs:v_ D):Prop:=∀pre u post row,pre++u::post=ord->rs[pre.length]?=P3 row->GN (sub N^A4 N t b m [] pre) t b u m row
def Rp(N:Net)(t b:Int)(m:Nat)(ord:v_ Aq)(rs:v_ D):Prop:=rs.length=ord.length/\PapI N t b m ord rs
def tiesAre(A:Net)(us:v_ Aq):Prop:=(∀v,v∈us↔v∈A.ts)/\us.Nodup/\us.length<=60
def Ks(j:Nat):W2:=λss n P=>∃(N:Net) (u:Aq) (t b:Int) (m:Nat),ss=[.sh^enc N,.sh^AS u,.sh^.int (m:Int)]/\m<=j/\okN N/\u.a∈N.ps/\u.b∈N.ps/\P4 N t b u m/\∀d,Ds t b u m N d->P d n
def Ih:W2:=λss n P=>∃(A:Net) (t b:Int) (u:Aq) (m:Nat),ss=[.sh^enc A,.sh^KZ t b,.sh^AS u,.sh^.int (m:Int)]/\okN A/\FX t b/\u.a∈A.ps/\u.b∈A.ps/\fresh u/\m<=2/\∀row,GN A t b u m row->P row n
def Mf:W2:=λss n P=>∃(N:Net) (t b:Int) (m:Nat),ss=[.sh^enc N,.sh^KZ t b,.sh^.int (m:Int)]/\okN N/\FX t b/\m<=2/\∀(ord:v_ Aq) (rs:v_ D),ord.Perm N.ts->Cu ord->Rp N t b m ord rs->P (.tup rs) n
def JV:W2:=λss n P=>∃(A:Net) (S:v_ Aq) (m:Nat),ss=[.sh^enc A,.sh^.int (m:Int),.sh^.tup^S.map AS]/\okN A/\S.Pairwise Bm/\(∀v∈S,v∈A.ts)/\S.length<=m/\P (.bl t_) n
def Td:W2:=λss n P=>∃(A:Net) (t b:Int) (u:Aq) (m:Nat) (x y:D),ss=[.sh^enc A,.sh^KZ t b,.sh^AS u,.sh^.int (m:Int),.sh^.tup [.str "in",x,y]]/\okN A/\FX t b/\u.a∈A.ps/\u.b∈A.ps/\cT A t b u m x y/\P (.bl t_) n
def GY(j:Nat):W2:=λss n P=>∃(N:Net) (t b:Int) (u:Aq) (m:Nat) (d:D),ss=[.sh^enc N,.sh^KZ t b,.sh^AS u,.sh^.int (m:Int),.sh d]/\m<=j/\okN N/\FX t b/\Ds t b u m N d/\P (.bl t_) n
noncomputable def A1(N:Net)(t b:Int)(m:Nat)(ord:v_ Aq):Net:=sub N^A4 N t b m [] ord
def JW:W2:=λss n P=>∃(N:Net) (t b:Int) (m:Nat) (pre post:v_ Aq) (u:Aq) (row:D),ss=[.sh^enc^A1 N t b m (pre++u::post),.sh^KZ t b,.sh^AS u,.sh^.int (m:Int),.sh row]/\okN N/\FX t b/\m<=2/\(pre++u::post).Perm N.ts/\Cu (pre++u::post)/\GN (sub N^A4 N t b m [] pre) t b u m row/\P .non n
def Tc(r:D):W2:=λss n P=>∃(N:Net) (t b:Int) (m:Nat) (ord:v_ Aq) (rs:v_ D),ss=[.sh^enc N,.sh^KZ t b,.sh^.int (m:Int),.sh^enc^A1 N t b m ord,.sh^.tup rs]/\okN N/\N.ps.length<=24/\FX t b/\m<=2/\ord.Perm N.ts/\Cu ord/\Rp N t b m ord rs/\P r n
def Px:W2:=Tc^.bl t_
def Tp:W2:=Tc .non
def Tl:W2:=Tc .non
def To:W2:=λss n P=>∃(M:Net) (z:D) (us:v_ Aq) (a c:Str) (w:v_ Str) (l:Int),ss=[.sh^.tup^M.ps.map .str,.sh z,.sh^GZ w,.sh^.str a,.sh^.str c]/\E5 z=P3^us.map AS/\tiesAre M us/\okN M/\walkedK 30 M a c w l/\P (.int l) n
def Mh:W2:=λss n P=>∃(M:Net) (z:D) (us:v_ Aq) (xs:v_ D),ss=[.sh^.tup^M.ps.map .str,.sh z,.sh^.tup xs]/\E5 z=P3^us.map AS/\tiesAre M us/\okN M/\Fw M^.tup xs=t_/\P (.bl t_) n
def Ic:W2:=λss n P=>∃(A:Net) (us:v_ Aq) (w:v_ Str) (l:Int),ss=[.sh^.lst^us.map AS,.sh^GZ w]/\tiesAre A us/\okN A/\walk A w l/\w.length<=30/\∀vs:v_ Aq,Over A.ts w vs->vs.length<=30->P (.lst^vs.map AS) n
def Ig(j:Nat):W2:=λss n P=>∃(A:Net) (q:D) (t b:Int) (u:Aq) (m:Nat) (us:v_ Aq) (d:D),ss=[.sh^.tup [.tup^A.ps.map .str,q],.sh^KZ t b,.sh^.int (m:Int),.sh^.lst^us.map AS,.sh^AS u,.sh d]/\m<=j/\tiesAre A us/\okN A/\FX t b/\Ds t b u m A d/\P (.bl t_) n
def Ie(j:Nat):W2:=λss n P=>∃(A:Net) (us:v_ Aq) (u:Aq) (t b:Int) (m:Nat),ss=[.sh^.lst^us.map AS,.sh^AS u,.sh^.int (m:Int)]/\m<=j/\tiesAre A us/\okN A/\u.a∈A.ps/\u.b∈A.ps/\P4 A t b u m/\∀d,Ds t b u m A d->P d n
def Tj:W2:=λss n P=>∃(A:Net) (q:D) (t b:Int) (u:Aq) (m:Nat) (us:v_ Aq) (x y:D),ss=[.sh^.tup [.tup^A.ps.map .str,q],.sh^KZ t b,.sh^.int (m:Int),.sh^.lst^us.map AS,.sh^AS u,.sh x,.sh y]/\m<=2/\tiesAre A us/\okN A/\FX t b/\u.a∈A.ps/\u.b∈A.ps/\cT A t b u m x y/\P (.bl t_) n
def Ti:W2:=λss n P=>∃(M:Net) (q z:D) (us:v_ Aq) (a:Str),ss=[.sh^.tup [.tup^M.ps.map .str,q],.br z,.sh^.str a,.sh^.int (10 ^ 31)]/\E5 z=P3^us.map AS/\(∀v,v∈us↔v∈M.ts)/\okN M/\a∈M.ps/\∀xs:v_ D,Fw M^.tup xs=t_->(∀c∈M.ps,∃o,dS M a c o/\RD M xs a c=o.getD (10 ^ 31))->Eo xs=t_->P (.tup xs) n
def Tf:W2:=λss n P=>∃(N:Net) (t b:Int) (m:Nat) (ord:v_ Aq),ss=[.sh^enc N,.sh^KZ t b,.sh^.int (m:Int),.sh^enc^A1 N t b m ord,.sh^.int 0]/\okN N/\FX t b/\m<=2/\ord.Perm N.ts/\Cu ord/\∀rs:v_ D,Rp N t b m ord rs->P (.tup rs) n
def J3(Wr:W2):Ad:=(Af (BA 3^AW Z_^AD (AH^AC 0)^AD (AH^Ac A5 (AC 1)^wC^D.int 0)^AD (AH^Ac A5 (AC 1)^wC^D.int 1) AY)
 (Af (A8 (AX^Ac (Ge u_) (AC 2)^wC^D.int 0) (Ap^Az^AE (AC 3)^AE (Az AQ) AQ) Au)
 (Af (BA 4^BU [P3 1,P3 0,P3 2,s_] (Av^AW Mc^AD (AH^AC 0)^AD (AH^AC 3) AY) (AT 3) CY^AW Wr^AD (AH^AW DZ^AD (AH^AC 1)^AD (AH^Bq^AE (AC 3) AQ) AY)^AD (AH^AC 0)^AD (AH^Ac CV (AC 2)^wC^D.int 1) AY)
 (Ap^Az^AE (AC 3)^AE (Bl BH^AE (AC 4) AQ) AQ))))
def Dx:Ad:=(Af (BA 4^AW (OL 2)^AD (AH^AC 0)^AD (AH^AC 1)^AD (AH^AC 2)^AD (AH^AC 3) AY)
 (Af (A8 (AX^Ac (C9 u_) (AC 4)^wC D.non) (Ap^Az^AE (wC^D.str "out")^AE (AW (Ks 2)^AD (AH^AC 0)^AD (AH^AC 2)^AD (AH^AC 3) AY) AQ) Au)
 (Af (BA 5^AW Te^AD (AH^AW DZ^AD (AH^AC 0)^AD (AH^AC 4) AY)^AD (AH^Ac A5 (AC 2)^wC^D.int 0)^AD (AH^AW JX^AD (AH^AC 1)^AD (AH^Ac A5 (AC 2)^wC^D.int 2) AY) AY)
 (Ap^Az^AE (wC^D.str "in")^AE (Bl BH^AE (Bl CI^AE (AC 4) AQ) AQ)^AE (AC 5) AQ))))
def Dv:Ad:=(Af (BA 3^AW Ps^AD (AH^AC 0)^AD (AH^AC 1)^AD (AH^AC 2) AY)
 (Ap^Bl BH^AE (BU [P3 1,P3 2,P3 3,s_] (Av^AW EV^AD (AH^Ac A5 (AC 0)^wC^D.int 1) AY) (AT 3) CY^AW Ih^AD (AH^AW GH^AD (AH^AC 2)^AD (AH^AC 3) AY)^AD (AH^AC 0)^AD (AH^AC 3)^AD (AH^AC 1) AY) AQ))
def F6:Ad:=(Af (A8 (B7 (BP^AX^D4 "tuple"^AC 2)^AX^Ac (f2 λi j=>D.bl (decide (j<i))) (Bl CS^AE (AC 2) AQ)^AC 1) (Ap^wC^D.bl u_) Au)
 (Ap^J7 (Bl HE^AE (BU [P3 0,s_] (Av^AC 2) (AT 1) CY^AW aA^AD (AH^AC 0)^AD (AH^AC 1) AY) AQ)^AW Kr^AD (AH^AC 2) AY))
def IL:Ad:=(Ap^J7 (AW JV^AD (AH^AC 0)^AD (AH^AC 3)^AD (AH^Ac A5 (AC 4)^wC^D.int 1) AY)^Ac (C9 u_) (AW JU^AD (AH^AW DZ^AD (AH^AC 0)^AD (AH^Ac A5 (AC 4)^wC^D.int 1) AY)^AD (AH^AC 1)^AD (AH^AC 2)^AD (AH^Ac A5 (AC 4)^wC^D.int 2) AY)^wC D.non)
def fB(Wr:W2):Ad:=(A8 (BP^AX^AW Wr^AD (AH^AW DZ^AD (AH^AC 0)^AD (AH^Bq^AE (AC 6) AQ) AY)^AD (AH^AC 1)^AD (AH^AC 2)^AD (AH^Ac CV (AC 3)^wC^D.int 1)^AD (AH^AC 7) AY) (Ap^wC^D.bl u_) Au)
def J1(Wr:W2):Ad:=(Af (A8 (B7 (BP^AX^AW Cz^AD (AH^wC^D.int 2)^AD (AH^AC 4) AY)^AX^Ac (C9 t_) (AW Pq^AD (AH^AC 0)^AD (AH^AC 1)^AD (AH^AC 2)^AD (AH^Ac A5 (AC 4)^wC^D.int 0) AY)^wC D.non) (Ap^wC^D.bl u_) Au)
 (Af (BA 5^WO (AX^Ac (f2 λi j=>D.bl (decide (j<i))) (AC 3)^wC^D.int 0) (AW Mc^AD (AH^AC 0)^AD (AH^Ac A5 (AC 4)^wC^D.int 0) AY)^Bq AQ)
 (Af (A8 (BP^AX^AW Cz^AD (AH^Bl CS^AE (AC 5) AQ)^AD (AH^Ac A5 (AC 4)^wC^D.int 1) AY) (Ap^wC^D.bl u_) Au)
 (Af (CZ (Mj^AE (AC 5)^AE (Ac A5 (AC 4)^wC^D.int 1) AQ) (B3 2^Ab (AT 6)^Ab (AT 7) BN)^fB Wr)
 (Ap^wC^D.bl t_)))))
def Dw:Ad:=(Af (BA 5^AW GH^AD (AH^AC 0)^AD (AH^AC 2) AY)
 (Af (A8 (AX^Ac (Gd u_) (AC 2)^Ac A5 (AC 0)^wC^D.int 1) (Af (A8 (B7 (BP^AX^AW Cz^AD (AH^wC^D.int 3)^AD (AH^AC 4) AY)^AX^Ac (Ge t_) (Ac A5 (AC 4)^wC^D.int 0)^wC^D.str "in") (Ap^wC^D.str "word") Au)
 (Ap^WO (AX^AW Td^AD (AH^AC 5)^AD (AH^AC 1)^AD (AH^AC 2)^AD (AH^AC 3)^AD (AH^AC 4) AY) (wC D.non)^wC^D.str "in")) Au)
 (Af (A8 (B7 (BP^AX^AW Cz^AD (AH^wC^D.int 2)^AD (AH^AC 4) AY)^AX^Ac (Ge t_) (Ac A5 (AC 4)^wC^D.int 0)^wC^D.str "out") (Ap^wC^D.str "word") Au)
 (Ap^WO (AX^AW (GY 2)^AD (AH^AC 5)^AD (AH^AC 1)^AD (AH^AC 2)^AD (AH^AC 3)^AD (AH^Ac A5 (AC 4)^wC^D.int 1) AY) (wC D.non)^wC^D.str "out"))))
def e8:Ad:=(Af (BA 7^AW JW^AD (AH^AC 3)^AD (AH^AC 1)^AD (AH^AC 6)^AD (AH^AC 2)^AD (AH^Ac A5 (AC 4)^AC 5) AY)
 (A8 (AX^Ac (C9 t_) (AC 7)^wC D.non) Rv Au))
def EJ:Ad:=(Af (A8 (B7 (BP^AX^AW OK^AD (AH^AC 0)^AD (AH^AC 3) AY)^BP^AX^AW Cz^AD (AH^Bl CS^AE (Ac A5 (AC 0)^wC^D.int 1) AQ)^AD (AH^AC 4) AY) Rv Au)
 (Af (CZ (aH^AW EV^AD (AH^Ac A5 (AC 0)^wC^D.int 1) AY) (B3 2^Ab (AT 5)^Ab (AT 6) BN) e8)
 (Ap^wC^D.bl t_)))
def eh:Ad:=(Kw 2 "list" Zt^AE (BU [P3 3,P3 4,s_] (Av^AC 0) (AT 2) (HI (AX^Ac (Ge u_) (Ac A5 (AC 2)^wC^D.int 0)^Bl RE^AE (AC 0)^AE (AC 1) AQ)^AX^Ac (Ge u_) (Ac A5 (AC 2)^wC^D.int 1)^Bl RG^AE (AC 0)^AE (AC 1) AQ)^AC 2) AQ)
def Dy:Ad:=(Af (CU 2^Bq AQ)
 (Af (CZ (Mj^AE (AC 1)^AE (Y4 L9 (AC 1) (Gh^wC^D.int 1) DA) AQ) (B3 2^Ab (AT 3)^Ab (AT 4) BN) eh)
 (JZ 2)))
def e_(Wr:W2):Ad:=(A8 (BP^AX^AW Wr^AD (AH^AC 0)^AD (AH^AC 1)^AD (AH^Ac CV (AC 2)^wC^D.int 1)^AD (AH^BU [P3 7,P3 8,s_] (Av^AC 3) (AT 2) (AX^Ac PC (AC 2)^Ac A5 (AC 0)^AC 1)^AC 2)^AD (AH^AC 4)^AD (AH^Ac A5 (Ac A5 (AC 5)^wC^D.int 1)^AC 8) AY) (Ap^wC^D.bl u_) Au)
def Et(Wr:W2):Ad:=(Af (A8 (B7 (BP^AX^D4 "tuple"^AC 5)^B7 (AX^Ac (Ge t_) (Bl CS^AE (AC 5) AQ)^wC^D.int 2)^BP^AX^D4 "tuple"^Ac A5 (AC 5)^wC^D.int 1) (Ap^wC^D.bl u_) Au)
 (Af (BA 6^AW To^AD (AH^Ac A5 (AC 0)^wC^D.int 0)^AD (AH^AC 3)^AD (AH^Ac A5 (AC 5)^wC^D.int 0)^AD (AH^Ac A5 (AC 4)^wC^D.int 0)^AD (AH^Ac A5 (AC 4)^wC^D.int 1) AY)
 (Af (A8 (B7 (AX^Ac (C9 u_) (AC 6)^wC D.non)^BP^AX^AW Cy^AD (AH^AC 6)^AD (AH^AC 1)^AD (AH^Ac A5 (AC 4)^wC^D.int 2) AY) (Ap^wC^D.bl u_) Au)
 (Af (BA 7^WO (AX^Ac (f2 λi j=>D.bl (decide (j<i))) (AC 2)^wC^D.int 0) (AW Ic^AD (AH^AC 3)^AD (AH^Ac A5 (AC 5)^wC^D.int 0) AY)^Bq AQ)
 (Af (A8 (AX^Ac (Ge t_) (Bl CS^AE (Ac A5 (AC 5)^wC^D.int 1) AQ)^Bl CS^AE (AC 7) AQ) (Ap^wC^D.bl u_) Au)
 (Af (CZ (FZ^AE (Bl CS^AE (AC 7) AQ) AQ) (AT 8)^e_ Wr)
 (Ap^wC^D.bl t_)))))))
def e9:Ad:=(A8 (B7 (BP^AX^D4 "tuple"^AC 7)^B7 (AX^Ac (Ge t_) (Bl CS^AE (AC 7) AQ)^wC^D.int 3)^B7 (BP^AX^AW FJ^AD (AH^Ac A5 (AC 7)^wC^D.int 2) AY)^AX^Ac (Gd t_) (AC 7)^AC 3) (Ap^wC^D.bl u_) Au)
def Zf:Ad:=(Af (A8 (B7 (AX^Ac PC (Bl L_^AE (AC 5) AQ)^Bl CI^AE (AC 5) AQ)^AX^Ac PC (P7^AC 5)^Bl CS^AE (AC 5) AQ) (Ap^wC^D.bl u_) Au)
 (Af (A8 (BP^AX^AW Mh^AD (AH^Ac A5 (AC 0)^wC^D.int 0)^AD (AH^BU [P3 5,s_] (Av^AC 3) (AT 1) (AX^Ac (Gd t_) (AC 1)^AC 0)^AC 1)^AD (AH^AC 6) AY) (Ap^wC^D.bl u_) Au)
 (Ap^bC^AW Cy^AD (AH^AW Pw^AD (AH^Ac A5 (AC 0)^wC^D.int 0)^AD (AH^AC 6)^AD (AH^Ac A5 (AC 4)^wC^D.int 0)^AD (AH^Ac A5 (AC 4)^wC^D.int 1) AY)^AD (AH^AC 1)^AD (AH^Ac A5 (AC 4)^wC^D.int 2) AY)))
def F_:Ad:=(Af (A8 (B7 (BP^AX^D4 "tuple"^AC 5)^AX^Ac (f2 λi j=>D.bl (decide (j<i))) (Bl CS^AE (AC 5) AQ)^AC 2) (Ap^wC^D.bl u_) Au)
 (Af (CZ (Av^AC 5) (AT 7) e9)
 Zf))
def cG:Ad:=(Af (BA 7^Ac A5 (AC 5)^AC 6)
 (Af (BA 8^Ac A5 (AC 4)^AC 6)
 (Af (BA 9^BU [P3 3,s_] (Av^Y4 L9 (AC 5) DA^Gh^AC 6) (AT 1) (AX^Ac (Gd u_) (AC 1)^Ac A5 (AC 0)^wC^D.int 1)^AC 1)
 (Af (bE (Ac A5 (Bq^AE (Az^AE (wC^D.str "out")^AE (wC^D.int 2) AQ)^AE (Az^AE (wC^D.str "in")^AE (wC^D.int 3) AQ) AQ)^Bl YE^AE (Ac (Gd u_) (AC 7)^Ac A5 (AC 3)^wC^D.int 1) AQ)^B3 2^Ab (AT 10)^Ab (AT 11) BN)
 (Af (A8 (B7 (BP^AX^D4 "tuple"^AC 8)^B7 (AX^Ac (Ge t_) (Bl CS^AE (AC 8) AQ)^AC 11)^B7 (BP^AX^D4 "str"^Ac A5 (AC 8)^wC^D.int 0)^AX^Ac (Ge t_) (Ac A5 (AC 8)^wC^D.int 0)^AC 10) (Ap^Az^AE (wC^D.str "word")^AE (AC 6) AQ) Au)
 (Af (A8 (AX^Ac (Ge u_) (AC 10)^wC^D.str "in") (BA 12^AW Tj^AD (AH^AC 0)^AD (AH^AC 1)^AD (AH^AC 2)^AD (AH^AC 9)^AD (AH^AC 7)^AD (AH^Ac A5 (AC 8)^wC^D.int 1)^AD (AH^Ac A5 (AC 8)^wC^D.int 2) AY)^BA 12^AW (Ig 2)^AD (AH^AC 0)^AD (AH^AC 1)^AD (AH^AC 2)^AD (AH^AC 9)^AD (AH^AC 7)^AD (AH^Ac A5 (AC 8)^wC^D.int 1) AY)
 (A8 (BP^AX^AC 12) (Ap^Az^AE (AC 10)^AE (AC 6) AQ) Au)))))))
def IW:Ad:=(Af (A8 (B7 (BP^AX^AW OK^AD (AH^AC 0)^AD (AH^AC 3) AY)^B7 (BP^AX^D4 "tuple"^AC 4)^AX^Ac (Ge t_) (Bl CS^AE (AC 4) AQ)^Bl CS^AE (Ac A5 (AC 0)^wC^D.int 1) AQ) (Ap^Az^AE (wC^D.str "shape")^AE (wC^D.int 0) AQ) Au)
 (Af (BA 5^AW EV^AD (AH^Ac A5 (AC 0)^wC^D.int 1) AY)
 (Af (CZ (FZ^AE (Bl CS^AE (AC 5) AQ) AQ) (AT 6) cG)
 (Ap^wC D.non))))
def IT:Ad:=(Af (BA 5^wC^D.str "other")
 (Af (BA 5^WO (AX^Ac (cX u_) (AW Px^AD (AH^AC 0)^AD (AH^AC 1)^AD (AH^AC 2)^AD (AH^AC 3)^AD (AH^AC 4) AY)^wC^D.bl t_) (wC D.non)^wC^D.str "other")
 (Ap^AC 5)))
def FT:Ad:=(Af (BA 4^AW Ex^AD (B6^As 1)^AD (AH^AC 2) AY)
 (Ap^Bl BH^AE (BU [P3 3,P3 4,s_] (Av^Ac A5 (AC 0)^wC^D.int 0) (AT 2) CY^Tv (AC 1) (AC 2)^AC 0) AQ))
def e7(Wr:W2):Ad:=(Kw 4 "list" Fx^AE (AW Wr^AD (AH^BU [P3 5,s_] (Av^AC 0) (AT 1) (AX^Ac PC (AC 1)^AC 0)^AC 1)^AD (AH^AC 1)^AD (AH^Ac CV (AC 2)^wC^D.int 1) AY) AQ)
def G2(Wr:W2):Ad:=(Af (BA 3^AW Pu^AD (B6^AC 0)^AD (AH^Ac A5 (AC 1)^wC^D.int 0)^AD (AH^Ac A5 (AC 1)^wC^D.int 1) AY)
 (Af (A8 (AX^Ac (C9 u_) (AC 3)^wC D.non) (Ap^wC D.non) Au)
 (Af (A8 (AX^Ac (Ge u_) (AC 2)^wC^D.int 0) (Ap^Az^AE (AC 3)^AE (Az AQ) AQ) Au)
 (Af (CU 4^Bq AQ)
 (Af (CZ (Av^AW Ic^AD (AH^AC 0)^AD (AH^AC 3) AY) (AT 5)^e7 Wr)
 (Ap^Az^AE (AC 3)^AE (Bl BH^AE (As 4) AQ) AQ))))))
def en:Ad:=(Af (BA 10^AW Ey^AD (B6^As 6)^AD (AH^AC 1)^AD (AH^AC 8)^AD (AH^AC 2) AY)
 (Af (BA 10^WO (AX^Ac (C9 u_) (AC 10)^wC D.non) (Bq AQ)^AC 10)
 (Af (BA 11^BU [P3 10,s_] (Av^As 6) (AT 1) (AX^Ac (Gd t_) (AC 1)^AC 0)^AC 1)
 (Af (Kw 5 "list" Fx^AE (Az^AE (wC^D.str "in")^AE (Bl BH^AE (Bl CI^AE (AC 10) AQ) AQ)^AE (AW Ti^AD (AH^AC 0)^AD (B6^AC 11)^AD (AH^Ac A5 (AC 8)^wC^D.int 0)^AD (AH^Ac (YF NO λi j=>D.int (i ^ j.toNat)) (wC^D.int 10)^wC^D.int 31) AY) AQ) AQ)
 (Kw 6 "list" Fx^AE (AC 8) AQ)))))
def eo:Ad:=(iC 6 9 5 (Ac A5 (Bq^AE (AC 6)^AE (Bl L_^AE (Ac A5 (AC 3)^wC^D.int 1) AQ)^AE (Y4 L9 (AC 7) DA^Gh^iB "list" fM (AC 7)^AE (AC 8) AQ) AQ)^AC 4) (AE (Az^AE (wC^D.str "out")^AE (AW (Ie 2)^AD (AH^AC 9)^AD (AH^AC 8)^AD (AH^AC 2) AY) AQ) AQ)
 aI)
def cF:Ad:=(Af (A8 (AX^Ac (Gd t_) (AC 8)^Ac A5 (AC 3)^wC^D.int 1) eo Au)
 en)
def Dz:Ad:=(Af (CU 5^Bq AQ)
 (Af (CU 6^Bq AQ)
 (Af (BA 7^AW EV^AD (AH^Ac A5 (AC 0)^wC^D.int 1) AY)
 (Af (CZ (Av^AC 7) (AT 8) cF)
 (Ap^Bl BH^AE (As 5) AQ)))))
def ac:Ad:=(Af (A8 (AX^Ac (C9 t_) (AW Tp^AD (AH^AC 5)^AD (AH^AC 6)^AD (AH^AC 7)^AD (AH^Ac A5 (AC 3)^AC 4)^AD (AH^AC 8) AY)^wC D.non) (Ap^wC^D.bl u_) Au)
 (A8 (AX^Ac (C9 t_) (AW Tl^AD (AH^AC 5)^AD (AH^AC 6)^AD (AH^AC 7)^AD (AH^Ac A5 (AC 3)^AC 4)^AD (AH^AC 8) AY)^wC D.non) (Ap^wC^D.bl u_) Au))
def gh:Ad:=(Af (bE (Ac A5 (As 2)^AC 4)^B3 3^Ab (AT 5)^Ab (AT 6)^Ab (AT 7) BN)
 (CZ (Av^Bq^AE (AW Mf^AD (AH^AC 5)^AD (AH^AC 6)^AD (AH^AC 7) AY)^AE (AW Tf^AD (AH^AC 5)^AD (AH^AC 6)^AD (AH^AC 7)^AD (AH^Ac A5 (AC 3)^AC 4)^AD (AH^wC^D.int 0) AY) AQ) (AT 8) ac))
def Xs:Ad:=(Af (CZ (Av^Bq^AE (wC^D.int 0)^AE (wC^D.int 1)^AE (wC^D.int 2)^AE (wC^D.int 3)^AE (wC^D.int 0) AQ) (AT 4) gh)
 (Ap^wC^D.bl t_))
def OG:Ad:=(Af (CU 2^Bq^AE (Az^AE (AW Tg^AD (BR 1)^AD (AH^wC^D.int 6)^AD (AH^wC^D.int 9) AY)^AE (AW Md^AD (BR 1) AY)^AE (AW B5^AD (BR 1)^AD (AH^wC^D.int 3) AY) AQ) AQ)
 (Af (Kw 2 "list" Fx^AE (Az^AE (AW P0^AD (BR 1) AY)^AE (AW P1^AD (BR 1) AY)^AE (wC^D.int 2) AQ) AQ)
 (Af (Kw 2 "list" Fx^AE (Az^AE (AW P0^AD (BR 1) AY)^AE (AW P1^AD (BR 1) AY)^AE (wC^D.int 1) AQ) AQ)
 (Af (Kw 2 "list" Fx^AE (Az^AE (AW Mi^AD (BR 1) AY)^AE (Az^AE (wC^D.int 3)^AE (wC^D.int 2) AQ)^AE (wC^D.int 1) AQ) AQ)
 (Af (BA 3^BU [s_,s_,s_] (Av^As 2) (B3 3^Ab (AT 0)^Ab (AT 1)^Ab (AT 2) BN) CY^AW Mg^AD (AH^AC 0)^AD (AH^AC 1)^AD (AH^AC 2) AY)
 Xs)))))
theorem De{N:Net}{t b:Int}{m:Nat}:∀(pre:v_ Aq) {kept r:v_ Aq},A4 N t b m kept (pre++r)=A4 N t b m (A4 N t b m kept pre) r
 |[],_,_=>rfl
 |u::pre,kept,r=>by
  rw[List.cons_append,CN,CN]
  split <;>exact De _
theorem Be{N:Net}{t b:Int}{m:Nat}:∀{rest kept:v_ Aq},(∀u∈kept,u∈A4 N t b m kept rest)/\∀u∈A4 N t b m kept rest,u∈kept\/u∈rest
 |[],kept=>#[λu h=>h,λu h=>.inl h]
 | v::r,kept=>by
  rw[CN]
  split
  .exact#[Be.1,λu h=>(Be.2 u h).imp id^TW _]
  .refine#[λu h=>Be.1 u^jM _ h,λu h=>?_]
   rcases Be.2 u h with h|h
   .rcases i9.mp h with h|h
    .exact .inl h
    .exact .inr (Re.mp h▸Op)
   .exact .inr^TW _ h
section
variable {N:Net}{t b:Int}{m:Nat}{pre post:v_ Aq}{u:Aq}
def JF(nd:(pre++u::post).Nodup):u∈A4 N t b m [] (pre++u::post)↔¬P4 (sub N^A4 N t b m [] pre) t b u m:=by
 let#[_,n2,n3]:=jW.mp nd;have n2:=(jA.mp n2).1;have hu:u∉A4 N t b m [] pre:=λz=>(Be.2 u z).elim (λz=>nomatch z) λz=>n3 u z u Op rfl;rw[De,CN,←hldB_iff]
 split
 .rename_i c
  exact#[λz=>((Be.2 u z).elim hu n2).elim,λz=>(z c).elim]
 .rename_i c
  exact#[λ_=>c,λ_=>Be.1 u^f8 _ Op]
def TC(nd:(pre++u::post).Nodup)(hr:Cu (pre++u::post)){v:Aq}:(v∈A4 N t b m [] (pre++u::post)/\BS (CG v)^CG u=t_)↔v∈A4 N t b m [] pre:=by
 let#[_,n2,n3]:=jW.mp nd;let#[_,r2,r3]:=nZ.mp hr;constructor
 .rintro⟨hv,hlt⟩
  rw[De]at hv
  rcases(Be (rest:=u::post)).2 v hv with z|z
  .exact z
  .rcases UF.mp z with rfl|z
   .rw[Cg]at hlt; cases hlt
   simp_all
 .intro hv
  have hp:v∈pre:=((Be (rest:=pre)).2 v hv).elim (λz=>nomatch z) id;refine#[by rw[De]; exact(Be (rest:=u::post)).1 v hv,?_];cases e:BS (CG v)^CG u with
  |true=>rfl
  |false=>exact absurd (QU^Cd _ _ e^r3 v hp u Op)^n3 v hp u Op
def MS(nd:(pre++u::post).Nodup)(hr:Cu (pre++u::post)):(#[(A1 N t b m (pre++u::post)).ps,(A1 N t b m (pre++u::post)).ts.filter λv=>BS (CG v)^CG u]:Net)=sub N^A4 N t b m [] pre:=by
 unfold A1 sub
 congr 1
 rw[oK];refine kF λv _=>?_;rw[je,iq,decide_eq_true_eq,decide_eq_true_eq,and_comm];exact TC nd hr
end
def V_{t b:Int}{u:Aq}:∀{m:Nat}{N:Net}{d:D},Ds t b u m N d->flat d=t_:=by
 have fw:∀w:v_ Str,Eo^w.map D.str=t_:=λw=>by
  induction w with
  |nil=>rfl
  |cons x w ih=>exact ih
 have f2:∀(w:v_ Str) (bs:v_ D),Eo bs=t_->flat^.tup [GZ w,.tup bs]=t_:=λw bs h=>by
  show(Eo^w.map D.str&&(Eo bs&&t_))=t_;rw[fw,h]; rfl
 intro m
 induction m with
 |zero=>rintro N d ⟨w,l,rfl,_⟩; exact f2 w [] rfl
 | succ m ih=>
  rintro N d ⟨w,l,us,bs,rfl,_,_,_,hl,h⟩;refine f2 w bs ?_
  have:∀(bs:v_ D) (us:v_ Aq),bs.length=us.length->(∀p∈us.zip bs,flat p.2=t_)->Eo bs=t_:=λbs=>by
   induction bs with
   |nil=>intro _ _ _; rfl
   | cons x bs ih=>
    intro us hl h;cases us with
    |nil=>cases hl
    |cons v us=>
     show(flat x&&Eo bs)=t_;rw[h (v,x) Op,ih us (Nat.succ.inj hl) λp hp=>h p^TW _ hp];rfl
  exact this bs us hl λp hp=>ih^h p hp
def Ws{A:Net}(ok:A.Ok){l S:v_ Aq}(hk:∀v∈l,v∈A.ts)(nd:l.Nodup)(p1:S.Perm l)(p2:FQ S):S.Pairwise Bm:=by
 have e:=congrArg Net.ts^OU ok hk nd p1 p2
 have:S=(sub A l).ts:=e
 rw[this];exact ok.trise.filter _
def RA{A:Net}(ok:A.Ok){t b:Int}{u:Aq}{m:Nat}{l S:v_ Aq}(h:brkL A t b u m l)(p1:S.Perm l)(p2:FQ S){xs:v_ D}(hf:Fw (minus A l)^.tup xs=t_)(hg:u.len*t<RD (minus A l) xs u.a u.b*b):GN A t b u m^.tup [.str "in",.tup^S.map AS,.tup xs]:=by
 have e:minus A S=minus A l:=Q1 λv _=>p1.mem_iff;exact .inl #[h.not,_,_,rfl,S,xs,rfl,rfl,Ws ok h.2.1 h.1 p1 p2,λv hv=>h.2.1 v^p1.mem_iff.mp hv,by rw[p1.length_eq]; exact h.2.2.1,by rw[e]; exact hf,by rw[e]; exact hg]
def PapI.snoc{N:Net}{t b:Int}{m:Nat}{done rest:v_ Aq}{u:Aq}{rs:v_ D}{row:D}(h:PapI N t b m (done++u::rest) rs)(hl:rs.length=done.length)(hr:GN (sub N (A4 N t b m [] done)) t b u m row):PapI N t b m (done++u::rest) (rs++[row]):=λpre v post r e hr'=>by
 rcases Nat.lt_or_ge pre.length rs.length with c|c
 .rw[kL c]at hr'
  exact h pre v post r e hr'
 .have hp:pre.length=rs.length:=by
   have:=(Uf.mp hr').1
   rw[eq,jI]at this;lk
  let#[rfl,e2]:=List.append_inj e^hp.trans hl;cases e2;rw[ju c,hp,nc]at hr';cases hr';exact hr
section
variable {ss:v_ Slot}{n:Nat}{Pd:D->Nat->Prop}
def VM{Wr:W2}{j:Nat}(hrec:∀ss n P,j≠0->Ks (j - 1) ss n P->Wr ss n P)(h:Ks j ss n Pd):J3 Wr (EE Pd) n (ss++Tk 2 .no):=by
 let#[N,u,t,b,m,rfl,hm,okn,ha,hb,hh,p]:=h;unfold J3;refine#[_,AK (j:=0) rfl,_,AK (j:=1) rfl,N,u.a,u.b,rfl,okn,ha,hb,λo ho=>?_];let#[d0,hd0,hle]:=RB hh;cases o with
 |none=>exact absurd hd0.1^ho d0
 | some w=>
  let#[l,hw,hl]:=Kv ho;obtain rfl:=hl.unique hd0;cases m with
  |zero=>exact#[z0,z2,p _ #[w,l,rfl,hw,hle]]
  | succ m=>
   refine#[N,w,l,rfl,okn,hw.2.2.1,hw.2.2.2.1,hw.2.2.2.2,λus hov hul=>#[by show(us.map AS).length<=10000000; rw[FM]; omega,?_]]
   have go:∀(Q:v_ D->Nat->Prop),(∀bs:v_ D,bs.length=us.length->(∀p∈us.zip bs,Ds t b u m (CW N p.1) p.2)->Q bs n)->∀(rest done:v_ Aq) (bs:v_ D) (s:Slot),done++rest=us->bs.length=done.length->(∀p∈done.zip bs,Ds t b u m (CW N p.1) p.2)->
     EG (AT 3) CY (AW Wr^AD (AH^AW DZ^AD (AH^AC 1)^AD (AH^Bq^AE (AC 3) AQ) AY)^AD (AH^AC 0)^AD (AH^Ac CV (AC 2)^wC^D.int 1) AY) Q (rest.map AS) bs n [.sh^AS u,.sh^enc N,.sh^.int ((m+1:Nat):Int),s]:=by
    intro Q hQ rest
    induction rest with
    |nil=>
     intro done bs s e hl hb;rw[jE]at e;subst e;exact hQ bs hl hb
    |cons v rest ih=>
     intro done bs s e hl hb';have hv:v∈us:=by rw[←e]; exact f8 _ Op
     refine#[z1,N,_,[v],rfl,rfl,okn,λx hx=>Re.mp hx▸hov.mem v hv,?_];rw[HF];refine hrec _ _ _ (by lk) #[CW N v,u,t,b,m,by rw[show(m:Int)=((m+1:Nat):Int) - 1 by lk],by lk,F1 okn v,ha,hb,RC hh,λd hd=>?_];refine ih (done++[v]) (bs++[d]) _ (by rw[jS]; exact e) (by rw[eq,eq,hl]; rfl) λq hq=>?_;rw[ni hl.symm]at hq
     rcases i9.mp hq with hq|hq
     .exact hb' q hq
     .rw[Re.mp hq]; exact hd
   refine go _ (λbs hl hbs=>#[z2,p _ #[w,l,us,bs,rfl,#[hw,hle],hov,hul,hl,hbs]]) us [] [] _ rfl rfl λq hq=>nomatch hq
def Vy{M:Net}{t b:Int}{u:Aq}(hn:¬FO M t b u){o:w_ Int}(h:dS M u.a u.b o){m:Int}(hm:u.len*t<m*b):u.len*t<F3 m o*b:=by
 cases o with
 |none=>exact hm
 |some d=>
  show _<(if d<m then d else m)*b
  split
  .exact Int.not_le.mp λz=>hn #[d,h,z]
  .exact hm
def SW(h:Ih ss n Pd):Dx (EE Pd) n (ss++Tk 2 .no):=by
 let#[A,t,b,u,m,rfl,okn,tm,ha,hb,hu,hm,p]:=h;let#[b1,b2,t1,t2]:=tm;unfold Dx;refine#[A,u,t,b,m,rfl,#[hm,hm],okn,ha,hb,hu,#[b1,b2,t1,t2],λo h1 h2=>#[rfl,?_]];cases o with
 |none=>exact C8 #[A,u,t,b,m,rfl,hm,okn,ha,hb,h1 rfl,λd hd=>#[z2,p _^.inr #[h1 rfl,d,rfl,hd]]]
 | some l=>
  have hl:=h2 l rfl;refine Ba #[A,_,l,rfl,rfl,okn,hl.2.1,_,AK (j:=0) rfl,_,AK (j:=2) rfl,t,b,u.len,rfl,#[b1,b2,t1,t2],?_];have okm:=C6 okn l;have hlt:u.len*t<(u.len*t / b+1)*b:=Int.lt_ediv_add_one_mul_self _^by lk
  have m0:0<=u.len*t / b+1:=by
   have:=Int.ediv_nonneg (Int.mul_nonneg (show 0<=u.len by have:=hu.2.2.1; omega) (show 0<=t by lk)) (show 0<=b by lk)
   omega
  refine#[minus A l,u.a,_,rfl,okm,ha,λF T=>?_];let#[f1,f2]:=ZN okm okm rfl ha T m0;show CI [D.lst^l.map AS] λz=>BH [z] λy=>3<=sizeLine/\Pd (.tup [.str "in",y,.tup _]) n;refine Dg (ts:=l) rfl (by have:=hl.2.2.1; omega) λS p1 p2=>#[z3,p _^RA okn.1 hl p1 p2 f1.2.2 ?_];rw[f2 u.b hb];exact Vy hl.2.2.2 (T.far u.b) hlt
def SO(h:Mf ss n Pd):Dv (EE Pd) n (ss++Tk 1 .no):=by
 let#[N,t,b,m,rfl,okn,tm,hm,p]:=h;have ok:=okn.1;have l60:=okn.2.2;unfold Dv;refine#[N,t,b,m,rfl,okn,tm,hm,λord o1 o2=>?_];refine#[_,AK (j:=1) rfl,_,N.ts,rfl,rfl,by lk,λo' p1 p2=>?_];obtain rfl:=DJ (p1.trans o1.symm) p2 o2;have nd:o'.Nodup:=o1.nodup_iff.mpr^BO ok.trise;refine#[by show(o'.map AS).length<=10000000; rw[FM,o1.length_eq]; omega,?_]
 have go:∀(Q:v_ D->Nat->Prop),(∀rs:v_ D,Rp N t b m o' rs->Q rs n)->∀(rest done:v_ Aq) (rs:v_ D) (s:Slot),done++rest=o'->rs.length=done.length->PapI N t b m o' rs->
   EG (AT 3) CY (AW Ih^AD (AH^AW GH^AD (AH^AC 2)^AD (AH^AC 3) AY)^AD (AH^AC 0)^AD (AH^AC 3)^AD (AH^AC 1) AY) Q (rest.map AS) rs n [.sh^KZ t b,.sh^.int (m:Int),.sh^enc^A1 N t b m o',s]:=by
  intro Q hQ rest
  induction rest with
  |nil=>
   intro done rs s e hl hI;rw[jE]at e;subst e;exact hQ rs #[hl,hI]
  |cons u rest ih=>
   intro done rs s e hl hI;subst e;have hu:u∈N.ts:=o1.mem_iff.mp^f8 _ Op;let#[m1,m2,_]:=ok.tin u hu;refine#[A1 N t b m _,u,rfl,Cj okn _,?_];rw[MS nd o2];refine#[_,t,b,u,m,rfl,Cj okn _,tm,m1,m2,G4 ok u hu,hm,λrow hr=>?_];exact ih (done++[u]) (rs++[row]) _ (by rw[jS]; rfl) (by rw[eq,eq,hl]; rfl)^hI.snoc hl hr
 exact go _ (λrs h=>p o' rs o1 o2 h) o' [] [] _ rfl rfl λpre u post row _ h=>by cases h
end
def bT{A:Net}(okn:okN A){S:v_ Aq}(hr:S.Pairwise Bm)(hin:∀v∈S,v∈A.ts):(∀v∈S,Ez A^AS v=t_)/\WD^S.map AS=t_:=by
 have h:=thn.thinB (N:=A) (ts:=S) #[hin,hr];unfold enc at h;rw[←Ir okn.1,iq,iq]at h;exact#[λv hv=>jh.mp h.2.1 _^List.mem_map_of_mem hv,h.2.2]
theorem Over.uniq{N:Net}(ok:N.Ok):∀{w:v_ Str}{us vs:v_ Aq},Over N.ts w us->Over N.ts w vs->us=vs
 |[],_,_,h,_=>h.elim
 |[_],[],[],_,_=>rfl
 |[_],_::_,_,h,_=>h.elim
 |[_],[],_::_,_,h=>h.elim
 |_::_::_,[],_,h,_=>h.elim
 |_::_::_,_::_,[],_,h=>h.elim
 | x::y::r,u::us,v::vs,#[h1,h2,h3],#[g1,g2,g3]=>by
  rw[h3.uniq ok g3];have l1:=(ok.tin u h1).2.2.1;have l2:=(ok.tin v g1).2.2.1
  congr 1
  rcases h2 with⟨rfl,rfl⟩|⟨rfl,rfl⟩
  .rcases g2 with⟨a,c⟩|⟨a,c⟩
   .exact C3 ok.trise u h1 v g1 a.symm c.symm
   .rw[a,c]at l2; exact absurd (lE l1 l2)^Bo _
  .rcases g2 with⟨a,c⟩|⟨a,c⟩
   .rw[a,c]at l2; exact absurd (lE l1 l2)^Bo _
   .exact C3 ok.trise u h1 v g1 c.symm a.symm
section
variable {ss:v_ Slot}{n:Nat}{Pd:D->Nat->Prop}
def LZ(h:JV ss n Pd):F6 (EE Pd) n (ss++Tk 0 .no):=by
 let#[A,S,m,rfl,okn,hr,hin,hl,p]:=h;have l60:=okn.2.2;have hS:=sub_len (BO hr) (BO okn.1.trise) hin;let#[h1,h2]:=bT okn hr hin;unfold F6;refine#[_,_,rfl,rfl,?_];show if decide ((m:Int)<((S.map AS).length:Int))=t_ then _ else _
 rw[FM,decide_eq_false^by lk];refine Ba #[by show(S.map AS).length<=10000000; rw[FM]; omega,?_];refine BG (λ_=>.bl t_) (λρ=>∃s,ρ=[.sh^enc A,s]) _ _ _ _ ?_ #[_,rfl] ?_
 .rintro d hd ρ m nx ⟨s,rfl⟩ hnx
  let#[v,hv,rfl]:=Sc.mp hd;refine#[A,_,rfl,okn.1,B_ okn.1^hin v hv,?_];rw[h1 v hv];exact hnx _ #[_,rfl]
 rw[jB]
 delta AQ
 dsimp only
 refine Fy #[_,S.map AS,rfl,rfl,by rw[FM]; omega,λa ha b hb=>?_,?_]
 .let#[s,_,rfl]:=Sc.mp ha
  let#[t,_,rfl]:=Sc.mp hb;exact#[_,JB s t]
 rw[h2];exact p
def Wz(h:Td ss n Pd):IL (EE Pd) n (ss++Tk 0 .no):=by
 let#[A,t,b,u,m,x,y,rfl,okn,tm,ha,hb,#[S,xs,rfl,rfl,hr,hin,hl,hf,hg],p]:=h;unfold IL;exact#[_,AK (j:=1) rfl,A,S,m,rfl,okn,hr,hin,hl,_,AK (j:=1) rfl,A,_,S,rfl,rfl,okn,hin,_,AK (j:=2) rfl,minus A S,t,b,u,xs,rfl,C6 okn S,tm,ha,hb,hf,hg,rfl,p]
def QY{Wr:W2}{j:Nat}(hrec:∀ss n P,j≠0->GY (j - 1) ss n P->Wr ss n P)(h:GY j ss n Pd):J1 Wr (EE Pd) n (ss++Tk 3 .no):=by
 let#[N,t,b,u,m,d,rfl,hm,okn,tm,hb,p]:=h;unfold J1;cases m with
 |zero=>
  let#[w,l,rfl,hw,hle]:=hb;refine#[2,_,rfl,_,AK (j:=0) rfl,N,t,b,u,w,l,rfl,okn,tm,walkedK.up (by cbv) hw,hle,rfl,?_];exact#[z0,_,_,rfl,rfl,_,AK (j:=1) rfl,0,_,rfl,_,AK (j:=1) rfl,_,_,_,_,rfl,rfl,rfl,p]
 | succ m=>
  let#[w,l,us,bs,rfl,#[hw,hle],hov,hul,hl,hbs]:=hb;refine#[2,_,rfl,_,AK (j:=0) rfl,N,t,b,u,w,l,rfl,okn,tm,walkedK.up (by cbv) hw,hle,rfl,?_];refine Ba^CO (λ_=>?_) λc=>absurd (decide_eq_true (by lk:(0:Int)<((m+1:Nat):Int))) c;refine#[_,AK (j:=0) rfl,N,w,l,rfl,okn,hw.2.2.1,hw.2.2.2.1,hw.2.2.2.2,λus' hov' _=>?_];obtain rfl:=hov.uniq okn.1 hov';refine#[_,_,rfl,rfl,_,AK (j:=1) rfl,_,_,rfl,?_];show if(!((bs.length:Int)==((us.map AS).length:Int)))=t_ then _ else _
  rw[hl,FM,beq_self_eq_true];refine Ba #[_,AK (j:=1) rfl,_,_,_,_,rfl,rfl,rfl,?_]
  have go:∀(vs:v_ Aq) (ds:v_ D) (s6 s7:Slot),vs.length=ds.length->(∀p∈vs.zip ds,p.1∈N.ts/\Ds t b u m (CW N p.1) p.2)->
    BF (B3 2^Ab (AT 6)^Ab (AT 7) BN) (fB Wr) {EE Pd with nx:=Ap (wC^D.bl t_)^EE Pd} (DM (vs.map AS) ds) n [.sh^enc N,.sh^KZ t b,.sh^AS u,.sh^.int ((m+1:Nat):Int),.sh^.tup [GZ w,.tup bs],.sh^.lst^us.map AS,s6,s7]:=by
   intro vs
   induction vs with
   |nil=>intro ds s6 s7 _ _; exact p
   | cons v vs ih=>
    intro ds s6 s7 hl h;cases ds with
    |nil=>cases hl
    |cons d ds=>
     let#[h1,h2]:=h (v,d) Op;refine#[rfl,rfl,z1,N,_,[v],rfl,rfl,okn,λx hx=>Re.mp hx▸h1,?_];rw[HF];refine hrec _ _ _ (by lk) #[CW N v,t,b,u,m,d,by rw[show(m:Int)=((m+1:Nat):Int) - 1 by lk],by lk,F1 okn v,tm,h2,Ba ?_];exact ih ds _ _ (Nat.succ.inj hl) λq hq=>h q^TW _ hq
  exact go us bs _ _ hl.symm λq hq=>#[hov.mem q.1 (lr hq).1,hbs q hq]
def Qc(h:JW ss n Pd):Dw (EE Pd) n (ss++Tk 1 .no):=by
 let#[N,t,b,m,pre,post,u,row,rfl,okn,tm,hm,o1,o2,hr,p]:=h;have ok:=okn.1;have nd:(pre++u::post).Nodup:=o1.nodup_iff.mpr^BO ok.trise;have hu:u∈N.ts:=o1.mem_iff.mp^f8 _ Op;let#[m1,m2,_]:=ok.tin u hu;have okt:okN^A1 N t b m (pre++u::post):=Cj okn _;have okA:=Cj okn^A4 N t b m [] pre;unfold Dw;refine#[_,u,rfl,okt,?_];rw[MS nd o2];refine#[_,AK (j:=1) rfl,B_ ok hu,(Bw okt.1 λv h=>h).1,_,rfl,?_];show if(((A1 N t b m (pre++u::post)).ts.map AS).any λy=>C2 y^AS u)=t_ then _ else _
 rw[Cv]
 rcases hr with⟨hn,x,y,rfl,hi⟩|⟨hn,d,rfl,hd⟩
 .rw[decide_eq_true (p:=u∈(A1 N t b m (pre++u::post)).ts)^sub_mem.mpr #[hu,(JF nd).mpr hn]]
  exact C8 #[3,_,rfl,_,AK (j:=0) rfl,_,t,b,u,m,x,y,rfl,okA,tm,m1,m2,hi,p]
 .rw[decide_eq_false (p:=u∈(A1 N t b m (pre++u::post)).ts) λz=>(JF nd).mp (sub_mem.mp z).2 hn]
  exact Ba #[2,_,rfl,_,AK (j:=0) rfl,_,AK (j:=1) rfl,_,t,b,u,m,d,rfl,hm,okA,tm,hd,p]
def VL(h:Px ss n Pd):EJ (EE Pd) n (ss++Tk 3 .no):=by
 let#[N,t,b,m,ord,rs,rfl,okn,l24,tm,hm,o1,o2,#[hl,hI],p]:=h;have l60:=okn.2.2;have ht:thn N (A1 N t b m ord).ts:=NU okn _;have okt:okN^A1 N t b m ord:=Cj okn _;have sz:=Wn okt;unfold EJ;refine#[N,enc^A1 N t b m ord,rfl,okn.1,l24,l60,(N0 (by cbv) _).1 _ (Rs _) sz.1,by have:=sz.2.1; omega,by have:=sz.2.2; omega,?_];rw[show thinB N^enc^A1 N t b m ord=t_ from ht.thinB];refine Ba #[_,AK (j:=1) rfl,_,_,rfl,rfl,_,_,rfl,?_];show if(!((rs.length:Int)==((N.ts.map AS).length:Int)))=t_ then _ else _
 rw[hl,FM,o1.length_eq,beq_self_eq_true];refine Ba #[_,AK (j:=1) rfl,_,N.ts,rfl,rfl,by lk,λo' p1 p2=>#[_,rfl,?_]];obtain rfl:=DJ (p1.trans o1.symm) p2 o2
 have go:∀(rest done:v_ Aq) (s5 s6 s7:Slot),done++rest=o'->
   BF (B3 2^Ab (AT 5)^Ab (AT 6) BN) e8 {EE Pd with nx:=Ap (wC^D.bl t_)^EE Pd} (Gy done.length (rest.map AS)) n [.sh^enc N,.sh^KZ t b,.sh^.int (m:Int),.sh^enc^A1 N t b m o',.sh^.tup rs,s5,s6,s7]:=by
  intro rest
  induction rest with
  |nil=>intro done s5 s6 s7 _; exact p
  |cons u rest ih=>
   intro done s5 s6 s7 e;have hk:done.length<rs.length:=by rw[hl,←e,eq,iu]; omega
   have hr:=No hk;refine#[rfl,rfl,_,AK hr,N,t,b,m,done,rest,u,_,by rw[e],okn,tm,hm,by rw[e]; exact o1,by rw[e]; exact o2,hI done u rest _ e hr,rfl,Ba ?_]
   have:=ih (done++[u]) (.sh^.int (done.length:Int)) (.sh^AS u) (.sh .non)^by rw[jS]; exact e
   rw[eq,jI]at this;exact this
 exact go o' [] _ _ _ rfl
def W4(h:Tl ss n Pd):IT (EE Pd) n (ss++Tk 1 .no):=by
 let#[N,t,b,m,ord,rs,rfl,r]:=h;unfold IT;exact#[N,t,b,m,ord,rs,rfl,r]
end
def Led.ed41{M:Net}(ok:M.Ok){us:v_ Aq}(hm:∀v,v∈us↔v∈M.ts){ks:v_^v_ Key}{ds:v_ D}(h:Led us ks ds){x y:Str}{l:Int}(e:Ed M x y l):CQ ks ds [.inr x,.inr y]=P3^.int l:=by
 obtain⟨u,hu,rfl,⟨rfl,rfl⟩|⟨rfl,rfl⟩⟩:=e.tie ok
 .exact h.at1 u^(hm u).mpr hu
 .exact h.at2 u^(hm u).mpr hu
def tiesAre.drop{A:Net}{us:v_ Aq}(h:tiesAre A us)(v:Aq):tiesAre (CW A v) (us.filter λx=>decide (x≠v)):=#[λx=>by
 show x∈us.filter _↔x∈A.ts.filter _;rw[jm,jm,h.1 x],h.2.1.filter _,iz (kB _ _) h.2.2]
section
variable {ss:v_ Slot}{n:Nat}{Pd:D->Nat->Prop}
def W5(h:To ss n Pd):IU (EE Pd) n (ss++Tk 5 .no):=by
 let#[M,z,us,a,c,w,l,rfl,hz,#[hm,_,l60],okm,#[#[r,rfl],hl,hw,h30,hin],p]:=h;have ok:=okm.1;have hlen:(a::r).length<=30:=h30;unfold IU;refine#[_,_,rfl,rfl,#[by show((a::r).map D.str).length<=10000000; rw[FM]; omega,?_]];refine BG (λ_=>.bl t_) (λρ=>∃s,ρ=[.sh^.tup^M.ps.map .str,s]) _ _ _ _ ?_ #[_,rfl] ?_
 .rintro d hd ρ m nx ⟨s,rfl⟩ hnx
  let#[x,hx,rfl]:=Sc.mp hd;refine#[Lx^ok.names x^hin x hx,GR ok.names,_,rfl,?_];show nx (.bl^(M.ps.map D.str).any λy=>C2 y^.str x) m _;rw[S9,decide_eq_true^hin x hx];exact hnx _ #[_,rfl]
 rw[jB]
 delta AQ
 dsimp only
 refine Fy ?_;refine Ba #[_,AK (j:=0) rfl,CO (λc=>absurd c^by simp) λ_=>#[1,rfl,_,UW hl,CO (λc=>absurd c^by simp) λ_=>?_]]
 have go:∀(rest done:v_ Aq) (ks:v_^v_ Key) (ds:v_ D) (s6 s7 s8:Slot) (D2:E2),done++rest=us->Led done ks ds->
   (∀ks ds s6 s7 s8,Led us ks ds->D2.nx n [.sh^.tup^M.ps.map .str,.sh z,.sh^GZ (a::r),.sh^.str a,.sh^.str c,.ow^.dit ks ds,s6,s7,s8,.no])->
   BF (B3 3^Ab (AT 6)^Ab (AT 7)^Ab (AT 8) BN) (Af (P6 5 (Az^AE (AC 6)^AE (AC 7) AQ)^AC 8)
 (P6 5 (Az^AE (AC 7)^AE (AC 6) AQ)^AC 8)) D2 (rest.map AS) n [.sh^.tup^M.ps.map .str,.sh z,.sh^GZ (a::r),.sh^.str a,.sh^.str c,.ow^.dit ks ds,s6,s7,s8,.no]:=by
  intro rest
  induction rest with
  |nil=>intro done ks ds s6 s7 s8 D2 e L h; rw[jE]at e; subst e; exact h _ _ _ _ _ L
  |cons u rest ih=>
   intro done ks ds s6 s7 s8 D2 e L h;have hu:u∈M.ts:=(hm u).mp (by rw[←e]; exact f8 _ Op);have hd:∀v∈done,v∈M.ts:=λv hv=>(hm v).mp (by rw[←e]; exact jM _ hv);have dl:done.length+rest.length+1=us.length:=by rw[←e,eq,iu]; omega
   have k1:=L.le;have k2:=Iz (ks:=ks) (k:=[.inr u.a,.inr u.b]);refine#[rfl,rfl,ks,ds,rfl,T7,[.inr u.a,.inr u.b],rfl,by rw[jX]; omega,_,_,rfl,T7,[.inr u.b,.inr u.a],rfl,by rw[jX]; omega,?_];exact ih (done++[u]) _ _ _ _ _ D2 (by rw[jS]; exact e) (L.put ok hd hu) h
 suffices main:∀ks ds s6 s7 s8,Led us ks ds->Af (BA 9^wC^D.int 0) (Af (CZ (Mj^AE (AC 2)^AE (Y4 L9 (AC 2) (Gh^wC^D.int 1) DA) AQ) (B3 2^Ab (AT 6)^Ab (AT 7) BN) (Af (A8 (AX^Ac (YC t_) (Az^AE (AC 6)^AE (AC 7) AQ)^As 5) (Ap^wC D.non) Au)
 (BA 9^Ac Br (AC 9)^Ac N6 (As 5)^Az^AE (AC 6)^AE (AC 7) AQ)))^Ap^AC 9) (EE Pd) n [.sh^.tup^M.ps.map .str,.sh z,.sh^GZ (a::r),.sh^.str a,.sh^.str c,.ow^.dit ks ds,s6,s7,s8,.no] by
  have fin:=go us [] [] [] .no .no .no {EE Pd with nx:=Af (BA 9^wC^D.int 0) (Af (CZ (Mj^AE (AC 2)^AE (Y4 L9 (AC 2) (Gh^wC^D.int 1) DA) AQ) (B3 2^Ab (AT 6)^Ab (AT 7) BN) (Af (A8 (AX^Ac (YC t_) (Az^AE (AC 6)^AE (AC 7) AQ)^As 5) (Ap^wC D.non) Au)
 (BA 9^Ac Br (AC 9)^Ac N6 (As 5)^Az^AE (AC 6)^AE (AC 7) AQ)))^Ap^AC 9)^EE Pd} rfl #[rfl,Rs _,nofun,nofun] main
  cases z with
  |tup xs=>cases hz; exact fin
  |lst xs=>cases hz; exact fin
  |_=>cases hz
 intro ks ds s6 s7 s8 L;refine#[_,_,_,((a::r).map D.str).drop 1,rfl,rfl,by rw[V4]; rfl,?_]
 have go2:∀(r:v_ Str) (x:Str) (d acc:Int) (s2 s6 s7:Slot),walk M (x::r) d->acc+d=l->
   BF (B3 2^Ab (AT 6)^Ab (AT 7) BN) (Af (A8 (AX^Ac (YC t_) (Az^AE (AC 6)^AE (AC 7) AQ)^As 5) (Ap^wC D.non) Au)
 (BA 9^Ac Br (AC 9)^Ac N6 (As 5)^Az^AE (AC 6)^AE (AC 7) AQ)) {EE Pd with nx:=Ap (AC 9)^EE Pd} (DM ((x::r).map D.str)^r.map D.str) n [.sh^.tup^M.ps.map .str,.sh z,s2,.sh^.str a,.sh^.str c,.ow^.dit ks ds,s6,s7,s8,.sh^.int acc]:=by
  intro r
  induction r with
  |nil=>
   intro x d acc s2 s6 s7 hw e;have hd:d=0:=hw;rw[hd,Int.add_zero]at e;subst e;exact p
  |cons y r ih=>
   intro x d acc s2 s6 s7 hw e;let#[l1,e1,he,hw1,rfl]:=hw;have hv:=L.ed41 ok hm he;refine#[rfl,rfl,T7,ks,ds,_,rfl,rfl,?_];show if(!(CQ ks ds [.inr x,.inr y]).isSome)=t_ then _ else _
   rw[hv];refine Ba #[T7,ks,ds,_,_,rfl,rfl,hv,?_];exact ih y e1 (acc+l1) _ _ _ hw1^by lk
 exact go2 r a l 0 _ _ _ hw^mr _
def SR(h:Mh ss n Pd):Es (EE Pd) n (ss++Tk 3 .no):=by
 let#[M,z,us,xs,rfl,hz,hm,okm,hf,p]:=h;let#[hl,hg,ht]:=YB hf;have l25:=okm.2.1;unfold Es;refine#[_,_,rfl,rfl,_,_,rfl,rfl,?_];rw[FM];show if(!((xs.length:Int)==(M.ps.length:Int)))=t_ then _ else _
 rw[hl,beq_self_eq_true];refine Ba #[by show xs.length<=10000000; omega,?_];refine BG (λ_=>.bl t_) (λρ=>∃s,ρ=[s]) _ _ _ _ ?_ #[_,rfl] ?_
 .rintro d hd ρ m nx ⟨s,rfl⟩ hnx
  let#[i,rfl,hi]:=ge_int^hg d hd;refine#[[_],rfl,rfl,?_];show nx (.bl (decide ((0:Int)<=i))) m _;rw[decide_eq_true hi];exact hnx _ #[_,rfl]
 rw[jB]
 delta AQ
 dsimp only
 refine Fy^Ba ?_
 have go:∀(rest:v_ Aq) (s3 s4 s5:Slot),(∀u∈rest,u∈M.ts)->
   BF (B3 3^Ab (AT 3)^Ab (AT 4)^Ab (AT 5) BN) (A8 (AX^Ac (f2 λi j=>D.bl (decide (j<i))) (Bl Vz^AE (Ac CV (Ac A5 (AC 2)^OS (AC 0)^AE (AC 3) AQ)^Ac A5 (AC 2)^OS (AC 0)^AE (AC 4) AQ) AQ)^AC 5) (Ap^wC^D.bl u_) Au) {EE Pd with nx:=Ap (wC^D.bl t_)^EE Pd} (rest.map AS) n [.sh^.tup^M.ps.map .str,.sh z,.sh^.tup xs,s3,s4,s5]:=by
  intro rest
  induction rest with
  |nil=>intro s3 s4 s5 _; exact p
  |cons u rest ih=>
   intro s3 s4 s5 hu;have hu0:=hu u Op;let#[m1,m2,_]:=okm.1.tin u hu0;let#[i,i2,hlay,i3,i4,i5]:=Nw okm hl hg m1;let#[j,j2,_,j3,j4,j5]:=Nw okm hl hg m2;refine#[rfl,rfl,#[_,rfl],_,_,i,rfl,rfl,hlay,i3,i4,i5,_,AK i2,#[_,rfl],_,_,j,rfl,rfl,hlay,j3,j4,j5,_,AK j2,?_];show if(decide (u.len<FY (He M xs u.a - He M xs u.b)))=t_ then _ else _
   rw[decide_eq_false^Int.not_lt.mpr^ht u hu0];exact Ba^ih _ _ _ λv hv=>hu v^TW _ hv
 have fin:=go us .no .no .no λu h=>(hm.1 u).mp h;cases z with
 |tup xs=>cases hz; exact fin
 |lst xs=>cases hz; exact fin
 |_=>cases hz
def UP{us:v_ Aq}{v:Aq}:(us.map AS).filter (λd=>!C2 d (AS v))=(us.filter λx=>decide (x≠v)).map AS:=by
 rw[lA]
 congr 1
 refine kF λx _=>?_
 have:=Cv (ts:=[x]) (t:=v)
 show(!C2 (AS x) (AS v))=_;rw[decide_not,←show decide (v∈[x])=decide (x=v)from decide_eq_decide.mpr #[λh=>(Re.mp h).symm,λh=>Re.mpr h.symm],←this];show _=!(C2 (AS x)^AS v||false);rw[Bool.or_false]
def SM(h:Ic ss n Pd):Dy (EF Pd) n (ss++Tk 3 .no):=by
 let#[A,us,w,l,rfl,#[hm,nd,l60],okn,hw,hl,p]:=h;have ok:=okn.1;unfold Dy
 have go:∀(r:v_ Str) (x:Str) (d:Int) (acc:v_ Aq) (s3 s4:Slot),walk A (x::r) d->acc.length+r.length<=30->(∀vs:v_ Aq,Over A.ts (x::r) vs->vs.length=r.length->Pd (.lst^(acc++vs).map AS) n)->
   BF (B3 2^Ab (AT 3)^Ab (AT 4) BN) eh {EF Pd with nx:=JZ 2^EF Pd} (DM ((x::r).map .str)^r.map .str) n [.sh^.lst^us.map AS,.sh^GZ w,.ow^.lst^acc.map AS,s3,s4]:=by
  intro r
  induction r with
  |nil=>
   intro x d acc s3 s4 hw _ h
   have:=h [] trivial rfl
   rw[jE]at this;exact#[_,rfl,this]
  | cons y r ih=>
   intro x d acc s3 s4 hw hal h;let#[l,d',he,hw',rfl]:=hw;let#[t,ht,tl,te,ea,eb]:=Wg ok he;refine#[rfl,rfl,_,rfl,rfl,by show(us.map AS).length<=10000000; rw[FM]; omega,?_];refine CD (λd=>match d with|.tup [.str a,.str b,.int _]=>(a==t.a)&&(b==t.b)|_=>u_) id (λρ=>∃s,ρ=[.sh^.str x,.sh^.str y,s]) _ _ _ _ ?_ #[_,rfl] ?_
   .rintro d hd ρ m nx sk ⟨s,rfl⟩ h1 h2
    let#[v,hv,rfl]:=Sc.mp hd;refine#[_,AK (j:=0) rfl,x,y,rfl,?_];show if(v.a==(if decide (cs y<cs x)=t_ then y else x))=t_ then _ else _
    rw[ea];refine CO (λc=>#[_,AK (j:=1) rfl,x,y,rfl,?_]) λc=>h2 _ #[_,rfl] (by show((v.a==t.a)&&(v.b==t.b))=u_; rw[jR.mpr c]; rfl);show if(v.b==(if decide (cs x<cs y)=t_ then y else x))=t_ then _ else _
    rw[eb];refine CO (λc2=>h1 _ #[_,rfl] ?_) λc2=>h2 _ #[_,rfl] ?_
    .show((v.a==t.a)&&(v.b==t.b))=t_; rw[c,c2]; rfl
    .show((v.a==t.a)&&(v.b==t.b))=u_; rw[jR.mpr c2,Bool.and_false]
   have ef:(us.map AS).filter (λd=>match d with|.tup [.str a,.str b,.int _]=>(a==t.a)&&(b==t.b)|_=>u_)=[t].map AS:=by
    rw[lA]
    congr 1
    have e1:us.filter ((λd=>match d with|.tup [.str a,.str b,.int _]=>(a==t.a)&&(b==t.b)|_=>u_)∘AS)=us.filter λv=>decide (v=t):=by
     refine kF λv hv=>?_;show((v.a==t.a)&&(v.b==t.b))=decide (v=t);rw[je,iq,beq_iff_eq,beq_iff_eq,decide_eq_true_eq];exact#[fun#[h1,h2]=>C3 ok.trise v ((hm v).mp hv) t ht h1 h2,λh=>by rw[h]; exact#[rfl,rfl]]
    rw[e1]
    have p1:(us.filter λv=>decide (v=t)).Perm [t]:=(mU (nd.filter _)^jA.mpr #[ip,jT]).mpr λv=>by
     rw[jm,decide_eq_true_eq,Re];exact#[λh=>h.2,λh=>#[by rw[h]; exact(hm t).mpr ht,h]]
    exact List.perm_singleton.mp p1
   rw[jB,lM,ef];have hlen:(acc.map AS).length=acc.length:=FM ..;rw[iu]at hal;refine#[_,_,rfl,rfl,by rw[hlen,FM,jX]; show acc.length+1<=16777216; omega,?_]
   have:=ih y d' (acc++[t]) (.sh^.str x) (.sh^.str y) hw' (by rw[eq,jI]; omega) λvs h1 h2=>by
    have:=h (t::vs) #[ht,te,h1]^by rw[iu,iu,h2]
    rw[jS];exact this
   rw[jP]at this;exact this
 cases w with
 |nil=>exact hw.elim
 |cons x r=>
  rw[iu]at hl;refine#[z0,_,_,(x::r).map .str,r.map .str,rfl,rfl,by show P3^Dp.cutD (D.str x::r.map .str) (P3 1) s_=_; rw[V4]; rfl,?_];exact go r x l [] _ _ hw (by show 0+_<=30; omega) λvs h1 h2=>p vs h1^by lk
def SS{Wr:W2}{j:Nat}(hrec:∀ss n P,j≠0->Ig (j - 1) ss n P->Wr ss n P)(h:Ig j ss n Pd):Et Wr (EE Pd) n (ss++Tk 3 .no):=by
 let#[A,q,t,b,u,m,us,d,rfl,hm,hus,okn,#[b1,b2,t1,t2],hb,p]:=h;have ok:=okn.1;unfold Et;cases m with
 |zero=>
  let#[w,l,rfl,hw,hle]:=hb;refine#[_,_,rfl,rfl,_,AK (j:=1) rfl,?_];refine#[_,AK (j:=0) rfl,_,AK (j:=0) rfl,_,AK (j:=0) rfl,_,AK (j:=1) rfl,A,_,us,u.a,u.b,w,l,rfl,rfl,hus,okn,hw,rfl,_,AK (j:=2) rfl,l,t,b,u.len,rfl,b1,b2,t1,t2,?_];rw[decide_eq_true hle];exact#[z0,_,AK (j:=1) rfl,_,_,rfl,rfl,_,_,rfl,rfl,_,_,rfl,rfl,0,rfl,#[by cbv,by cbv],p]
 | succ m=>
  let#[w,l,vs,bs,rfl,#[hw,hle],hov,hul,hl,hbs]:=hb;refine#[_,_,rfl,rfl,_,AK (j:=1) rfl,?_];refine#[_,AK (j:=0) rfl,_,AK (j:=0) rfl,_,AK (j:=0) rfl,_,AK (j:=1) rfl,A,_,us,u.a,u.b,w,l,rfl,rfl,hus,okn,hw,rfl,_,AK (j:=2) rfl,l,t,b,u.len,rfl,b1,b2,t1,t2,?_];rw[decide_eq_true hle];refine Ba^CO (λ_=>?_) λc=>absurd (decide_eq_true (by lk:(0:Int)<((m+1:Nat):Int))) c;refine#[_,AK (j:=0) rfl,A,us,w,l,rfl,hus,okn,hw.2.2.1,hw.2.2.2.1,λvs' hov' _=>?_];obtain rfl:=hov.uniq ok hov';have hml:(vs.map AS).length=vs.length:=FM ..;refine#[_,AK (j:=1) rfl,_,_,rfl,rfl,_,_,rfl,rfl,?_];show if(!((bs.length:Int)==((vs.map AS).length:Int)))=t_ then _ else _
  rw[hl,hml,beq_self_eq_true];refine Ba #[_,_,rfl,rfl,_,rfl,#[by lk,by lk],?_]
  have go:∀(k lo:Nat) (s8:Slot),lo+k=vs.length->
    BF (AT 8) (e_ Wr) {EE Pd with nx:=Ap (wC^D.bl t_)^EE Pd} (DH (lo:Int) k) n [.sh^.tup [.tup^A.ps.map .str,q],.sh^KZ t b,.sh^.int ((m+1:Nat):Int),.sh^.lst^us.map AS,.sh^AS u,.sh^.tup [GZ w,.tup bs],.sh^.int l,.sh^.lst^vs.map AS,s8]:=by
   intro k
   induction k with
   |zero=>intro lo s8 _; exact p
   | succ k ih=>
    intro lo s8 e;have h1:=No (show lo<vs.length by lk);have h2:=No (show lo<bs.length by lk);generalize vs[lo]=v at h1;generalize bs[lo]=d at h2;have hv:=hov.mem v^jZ h1;have hz:(v,d)∈vs.zip bs:=jZ (i:=lo) (by rw[om]; exact#[h1,h2]);have e1:(vs.map AS)[lo]?=P3^AS v:=by rw[ir,h1]; rfl
    rw[QT];refine#[by show(us.map AS).length<=10000000; rw[FM]; have:=hus.2.2; omega,?_];refine CD (λd=>!C2 d (AS v)) id (λρ=>∃s,ρ=[.sh^.lst^vs.map AS,.sh^.int (lo:Int),s]) _ _ _ _ ?_ #[_,rfl] ?_
    .rintro d hd ρ m nx sk ⟨s,rfl⟩ g1 g2
     let#[x,hx,rfl]:=Sc.mp hd;exact#[_,AK e1,B_ ok^(hus.1 x).mp hx,B_ ok hv,CO (λc=>g1 _ #[_,rfl] c) λc=>g2 _ #[_,rfl]^jR.mpr c]
    rw[jB,lM,UP];refine#[_,AK (j:=1) rfl,_,AK h2,hrec _ _ _ (by lk) #[CW A v,q,t,b,u,m,_,d,by rw[show(m:Int)=((m+1:Nat):Int) - 1 by lk]; rfl,by lk,hus.drop v,F1 okn v,#[b1,b2,t1,t2],hbs _ hz,Ba ?_]];exact ih (lo+1) _^by lk
  exact go _ 0 _^by rw[hml]; exact pC _
def SQ{Wr:W2}{j:Nat}(hrec:∀ss n P,j≠0->Ie (j - 1) ss n P->Wr ss n P)(h:Ie j ss n Pd):G2 Wr (EE Pd) n (ss++Tk 3 .no):=by
 let#[A,us,u,t,b,m,rfl,hm,hus,okn,ha,hb,hh,p]:=h;have ok:=okn.1;unfold G2;refine#[_,AK (j:=0) rfl,_,AK (j:=1) rfl,A,u.a,u.b,_,us,rfl,rfl,hus.1,okn,ha,hb,λo ho=>?_];let#[d0,hd0,hle]:=RB hh;cases o with
 |none=>exact absurd hd0.1^ho d0
 | some w=>
  let#[l,hw,hl]:=Kv ho;obtain rfl:=hl.unique hd0;cases m with
  |zero=>exact#[rfl,z0,z2,p _ #[w,l,rfl,hw,hle]]
  | succ m=>
   refine#[rfl,Ba ?_];refine#[z0,A,us,w,l,rfl,hus,okn,hw.2.2.1,hw.2.2.2.1,λvs hov hul=>?_]
   have go:∀(rest done:v_ Aq) (bs:v_ D) (s5:Slot),done++rest=vs->bs.length=done.length->(∀p∈done.zip bs,Ds t b u m (CW A p.1) p.2)->
     BF (AT 5) (e7 Wr) {EE Pd with nx:=Ap (Az^AE (AC 3)^AE (Bl BH^AE (As 4) AQ) AQ)^EE Pd} (rest.map AS) n [.sh^.lst^us.map AS,.sh^AS u,.sh^.int ((m+1:Nat):Int),.sh^GZ w,.ow^.lst bs,s5]:=by
    intro rest
    induction rest with
    |nil=>
     intro done bs s5 e hl hb;rw[jE]at e;subst e;exact#[z2,p _ #[w,l,done,bs,rfl,#[hw,hle],hov,hul,hl,hb]]
    | cons v rest ih=>
     intro done bs s5 e hl hb';have hv:=hov.mem v (by rw[←e]; exact f8 _ Op);have dl:done.length<=30:=by rw[←e,eq]at hul; omega
     refine#[_,rfl,rfl,by show(us.map AS).length<=10000000; rw[FM]; have:=hus.2.2; omega,?_];refine CD (λd=>!C2 d (AS v)) id (λρ=>∃s,ρ=[.sh^AS v,s]) _ _ _ _ ?_ #[_,rfl] ?_
     .rintro d hd ρ m nx sk ⟨s,rfl⟩ g1 g2
      let#[x,hx,rfl]:=Sc.mp hd;exact#[B_ ok^(hus.1 x).mp hx,B_ ok hv,CO (λc=>g1 _ #[_,rfl] c) λc=>g2 _ #[_,rfl]^jR.mpr c]
     rw[jB,lM,UP];refine hrec _ _ _ (by lk) #[CW A v,_,u,t,b,m,by rw[show(m:Int)=((m+1:Nat):Int) - 1 by lk],by lk,hus.drop v,F1 okn v,ha,hb,RC hh,λd hd=>?_];refine#[_,_,rfl,rfl,by rw[jX]; omega,ih (done++[v]) (bs++[d]) _ (by rw[jS]; exact e) (by rw[eq,eq,hl]; rfl) λq hq=>?_];rw[ni hl.symm]at hq
     rcases i9.mp hq with hq|hq
     .exact hb' q hq
     .rw[Re.mp hq]; exact hd
   exact go vs [] [] _ rfl rfl λq hq=>nomatch hq
end
def Nu{k:Nat}(h:k<=100):Cs^.int (k:Int):=FC (B:=100) (by cbv) (by show((k:Int)).natAbs<=100; omega)^i6 _
def Lr{A:Net}{us S:v_ Aq}(h:tiesAre A us):tiesAre (minus A S) (us.filter λv=>decide (v∉S)):=#[λx=>by rw[jm,h.1 x,minus_mem,decide_eq_true_eq],h.2.1.filter _,iz (kB _ _) h.2.2]
def Lo{us S:v_ Aq}:(us.map AS).filter (λd=>!((S.map AS).any λy=>C2 y d))=(us.filter λv=>decide (v∉S)).map AS:=by
 rw[lA]
 congr 1
 refine kF λv _=>?_;show(!((S.map AS).any λy=>C2 y^AS v))=decide (v∉S);rw[Cv,decide_not]
def PF(S:v_ Aq):C2 (.lst^S.map AS)^.lst^S.map AS=t_:=by
 show mT (Bj^S.map AS)^Bj^S.map AS=t_
 induction S with
 |nil=>rfl
 |cons x xs ih=>
  show(C2 (AS x)^AS x&&mT (Bj^xs.map AS)^Bj^xs.map AS)=t_;rw[ih,FD];rfl
def Vx(l:v_ Int):Eo^l.map .int=t_:=by
 induction l with
 |nil=>rfl
 |cons x l ih=>exact ih
def YH(k:Int):C2 (.int k)^.int k=t_:=beq_self_eq_true k
section
variable {ss:v_ Slot}{n:Nat}{Pd:D->Nat->Prop}
def W3(h:Tj ss n Pd):F_ (EE Pd) n (ss++Tk 1 .no):=by
 let#[A,q,t,b,u,m,us,x,y,rfl,hm,hus,okn,#[b1,b2,t1,t2],ha,hb,#[S,xs,rfl,rfl,hr,hin,hl,hf,hg],p]:=h;have ok:=okn.1;have hml:(S.map AS).length=S.length:=FM ..;have okm:=C6 okn S;have l60:=hus.2.2;have lt:Cs^.lst^us.map AS:=(Bw ok λv hv=>(hus.1 v).mp hv).2;let#[f1,f2]:=Uj hf;unfold F_;refine#[_,_,rfl,rfl,?_];show if decide ((m:Int)<((S.map AS).length:Int))=t_ then _ else _
 rw[hml,decide_eq_false^by lk];refine Ba ?_
 have fin:∀s7:Slot,Zf (EE Pd) n [.sh^.tup [.tup^A.ps.map .str,q],.sh^KZ t b,.sh^.int (m:Int),.sh^.lst^us.map AS,.sh^AS u,.sh^.tup^S.map AS,.sh^.tup xs,s7]:=λs7=>by
  unfold Zf;refine#[_,_,rfl,rfl,by rw[hml]; omega,G_ S,λxs' hp ho=>?_];let#[S',p1,rfl]:=NR (g:=YU) (λ_=>rfl) hp;obtain rfl:=E3 p1 (Kf ho)^FG hr;refine#[(Bw ok hin).2,(Bw ok hin).2,?_];rw[PF];refine#[S'.map AS,rfl,by lk,G_ S',λx hx=>?_,?_,_,_,rfl,rfl,by rw[hml]; exact Nu^by lk,by rw[hml]; exact Nu^by lk,?_]
  .let#[v,_,rfl]:=Sc.mp hx
   exact#[_,_,rfl]
  .exact kE.mpr^kE.mpr^(BO hr).imp λh e=>h^QD^iw e
  rw[YH];refine Ba #[_,AK (j:=0) rfl,by show(us.map AS).length<=10000000; rw[FM]; omega,?_];refine CD (λd=>!((S'.map AS).any λy=>C2 y d)) id (λρ=>∃s,ρ=[.sh^.tup^S'.map AS,s]) _ _ _ _ ?_ #[_,rfl] ?_
  .rintro d hd ρ m nx sk ⟨s,rfl⟩ h1 h2
   let#[v,hv,rfl]:=Sc.mp hd;exact#[B_ ok^(hus.1 v).mp hv,(Bw ok hin).1,_,rfl,CO (λc=>h1 _ #[_,rfl] c) λc=>h2 _ #[_,rfl]^jR.mpr c]
  rw[jB,lM,Lo];refine#[minus A S',_,_,xs,rfl,rfl,Lr hus,okm,hf,Ba ?_];refine#[_,AK (j:=0) rfl,_,AK (j:=0) rfl,_,AK (j:=1) rfl,minus A S',xs,u.a,u.b,rfl,okm,f1,f2,ha,hb,_,AK (j:=2) rfl,_,t,b,_,rfl,b1,b2,t1,t2,?_];rw[decide_eq_false^by lk];exact p
 have go:∀(rest:v_ Aq) (s7:Slot),(∀v∈rest,v∈A.ts)->BF (AT 7) e9 {EE Pd with nx:=Zf^EE Pd} (rest.map AS) n [.sh^.tup [.tup^A.ps.map .str,q],.sh^KZ t b,.sh^.int (m:Int),.sh^.lst^us.map AS,.sh^AS u,.sh^.tup^S.map AS,.sh^.tup xs,s7]:=by
  intro rest
  induction rest with
  |nil=>intro s7 _; exact fin s7
  |cons v rest ih=>
   intro s7 h;have hv:=h v Op;refine#[_,_,rfl,rfl,_,AK (j:=2) rfl,[_],rfl,rfl,B_ ok hv,lt,_,rfl,?_];show if(!((us.map AS).any λy=>C2 y^AS v))=t_ then _ else _
   rw[Cv,decide_eq_true^(hus.1 v).mpr hv];exact Ba^ih _ λx hx=>h x^TW _ hx
 exact go S _ hin
def W1(h:Ti ss n Pd):FT (EE Pd) n (ss++Tk 1 .no):=by
 let#[M,q,z,us,a,rfl,hz,hus,okm,ha,p]:=h;have l25:=okm.2.1;unfold FT;refine#[M,a,z,us,rfl,hz,hus,okm,ha,λks ds K Mp T=>?_];refine#[_,AK (j:=0) rfl,by show(M.ps.map D.str).length<=10000000; rw[FM]; omega,?_];refine BG (λd=>match d with|.str x=>.int^(K x).getD (10 ^ 31)|_=>.non) (λρ=>∃s,ρ=[.sh^.int (10 ^ 31),.sh^.dic ks ds,s]) _ _ _ _ ?_ #[_,rfl] ?_
 .rintro d hd ρ n' nx ⟨s,rfl⟩ hnx
  let#[x,hx,rfl]:=Sc.mp hd;have k:nx (.int^(K x).getD (10 ^ 31)) n' [.sh^.int (10 ^ 31),.sh^.dic ks ds,.sh^.str x]:=hnx _ #[_,rfl];refine#[ks,ds,rfl,_,A9 x,?_];rw[Mp.at_ x];cases e:K x with
  |none=>rw[e]at k; exact k
  |some d=>rw[e]at k; exact k
 .rw[jB]
  have ec:∀x,(K x).getD (10 ^ 31)=F3 (10 ^ 31)^K x:=λx=>by
   cases e:K x with
   |none=>rfl
   |some d=>
    have:=T.top x d e
    exact(if_pos^Int.lt_of_le_of_lt this^by cbv).symm
  have e:(M.ps.map D.str).map (λd=>match d with|.str x=>D.int^(K x).getD (10 ^ 31)|_=>.non)=(M.ps.map λx=>F3 (10 ^ 31)^K x).map .int:=by
   rw[jf,jf];exact lG λx _=>congrArg D.int^ec x
  rw[e];have ge:=λx=>(YZ (show(0:Int)<=10 ^ 31 by cbv)^Ui okm.1^T.far x).1
  have ea:F3 (10 ^ 31)^K a=0:=by
   cases e:K a with
   |none=>exact absurd e^T.all a 0 .nil
   |some d=>
    have h:=T.least a d e;have h0:=h.2 0 .nil;have h1:=h.1.pos okm.1;have e2:=ec a;rw[e]at e2;rw[←e2];show d=0;lk
  refine p _ (N5 okm.1 _ (λx _=>ge x) λu hu=>MG okm.1 T.far hu) (λc hc=>#[K c,T.far c,?_])^Vx _;show FY (He M _ a - He M _ c)=_;rw[GO _ ha,GO _ hc,ea,ec c]
  have:=ge c
  unfold FY
  split <;>lk
end
section
variable {N:Net}{t b:Int}{m:Nat}{ord done rest:v_ Aq}{u:Aq}
def Zg(nd:done.Nodup):(A4 N t b m [] done).Nodup:=by
 have:∀(r k:v_ Aq),(k++r).Nodup->(A4 N t b m k r).Nodup:=λr=>by
  induction r with
  |nil=>intro k h; rw[jE]at h; exact h
  |cons v r ih=>
   intro k h;rw[CN]
   split
   .exact ih k^h.sublist^(List.Sublist.refl k).append^List.sublist_cons_self v r
   .exact ih _^by rw[jS]; exact h
 exact this done [] nd
def Xw(okn:okN N)(nd:ord.Nodup)(o1:ord.Perm N.ts)(e:done++rest=ord):tiesAre (sub N (A4 N t b m [] done)) (A4 N t b m [] done):=by
 have hd:∀v∈A4 N t b m [] done,v∈N.ts:=λv hv=>o1.mem_iff.mp (by rw[←e]; exact jM _^(Be.2 v hv).elim (λz=>nomatch z) id);have n1:(A4 N t b m [] done).Nodup:=Zg (nd.sublist^by rw[←e]; exact List.sublist_append_left _ _);exact#[λv=>#[λh=>sub_mem.mpr #[hd v h,h],λh=>(sub_mem.mp h).2],n1,iz (sub_len n1 (BO okn.1.trise) hd) okn.2.2]
def WC(okn:okN N)(nd:ord.Nodup)(o1:ord.Perm N.ts)(e:done++rest=ord):tiesAre (sub N (A4 N t b m [] done)) (done.filter λv=>decide (v∈(A1 N t b m ord).ts)):=by
 have nd':=nd;rw[←e]at nd';let#[n1,_,n3]:=jW.mp nd';refine#[λv=>?_,n1.filter _,iz (kB _ _) ?_]
 .rw[jm,decide_eq_true_eq,sub_mem]
  have:v∈(A1 N t b m ord).ts↔v∈N.ts/\v∈A4 N t b m [] ord:=sub_mem
  rw[this,←e,De];constructor
  .rintro⟨h1,h2,h3⟩
   exact#[h2,(Be.2 v h3).elim id λz=>(n3 v h1 v z rfl).elim]
  .rintro⟨h1,h2⟩
   exact#[(Be.2 v h2).elim (λz=>nomatch z) id,h1,Be.1 v h2]
 .have:=o1.length_eq
  rw[←e,eq]at this
  have:=okn.2.2
  omega
def Ub(okn:okN N)(nd:ord.Nodup)(o1:ord.Perm N.ts)(e:done++u::rest=ord):(u∈(A1 N t b m ord).ts)↔¬P4 (sub N (A4 N t b m [] done)) t b u m:=by
 subst e;refine(sub_mem (N:=N) (kept:=A4 N t b m [] (done++u::rest)) (u:=u)).trans ?_;rw[JF nd];exact#[λh=>h.2,λh=>#[o1.mem_iff.mp^f8 _ Op,h]]
end
section
variable {ss:v_ Slot}{n:Nat}{Pd:D->Nat->Prop}

def W6(h:Tp ss n Pd):IW (EE Pd) n (ss++Tk 8 .no):=by
 let#[N,t,b,m,r,F,rfl,g,M,V,W,w,o2,#[X,hI],p]:=h;have ok:=g.1;have O:=g.2.2;have ht:thn N (A1 N t b m r).ts:=NU g _;have G:okN^A1 N t b m r:=Cj g _;have P:=Wn G;unfold IW;refine#[N,enc^A1 N t b m r,rfl,ok,M,O,(N0 (by cbv) _).1 _ (Rs _) P.1,by have:=P.2.1; omega,by have:=P.2.2; omega,?_];rw[show thinB N^enc^A1 N t b m r=t_ from ht.thinB];refine Ba #[_,_,rfl,rfl,_,AK (j:=1) rfl,_,_,rfl,rfl,?_];show if(!((F.length:Int)==((N.ts.map AS).length:Int)))=t_ then _ else _
 rw[X,FM,w.length_eq,beq_self_eq_true];refine Ba #[_,AK (j:=1) rfl,_,N.ts,rfl,rfl,by lk,λf p1 p2=>?_];obtain rfl:=DJ (p1.trans w.symm) p2 o2;have Y:f.Nodup:=w.nodup_iff.mpr^BO ok.trise;have ol:=w.length_eq;have H:(f.map AS).length=f.length:=FM ..;have I:=(Bw G.1 (ts:=(A1 N t b m f).ts) λv h=>h).1;exists _,_,rfl,rfl,_,rfl,#[by lk,by lk];rw[H]
 have go:∀(a done:v_ Aq) (R B C E k l o:Slot),done++a=f->
   BF (AT 6) cG {EE Pd with nx:=Ap (wC D.non)^EE Pd} (DH (done.length:Int) a.length) n [.sh^enc N,.sh^KZ t b,.sh^.int (m:Int),.sh^enc^A1 N t b m f,.sh^.tup F,.sh^.lst^f.map AS,R,B,C,E,k,l,o]:=by
  intro a
  induction a with
  |nil=>intro done R B C E k l o _; exact p
  | cons u a ih=>
   intro done R B C E k l o e;have hk:done.length<F.length:=by rw[X,←e,eq,iu]; omega
   have S:=No hk;have A:=hI done u a _ e S;generalize F[done.length]=row at S A;have e1:(f.map AS)[done.length]?=P3^AS u:=by rw[ir,←e,ju^Rs _,nc]; rfl
   have hu:u∈N.ts:=w.mem_iff.mp (by rw[←e]; exact f8 _ Op);let#[m1,m2,_]:=ok.tin u hu;have J:=Cj g (A4 N t b m [] done);have hA:=WC (t:=t) (b:=b) (m:=m) g Y w e
   have ec:Dp.cutD (f.map AS) s_^P3 (done.length:Int)=done.map AS:=by
    rw[cr,H,←e,jP,Nat.min_eq_left (by rw[eq]; omega),List.take_append_of_le_length (by rw[FM]; exact Rs _),kW^by rw[FM]; exact Rs _]
   rw[iu,QT];exists _,AK e1,_,AK S
   have next:∀o B C E k l,BF (AT 6) cG {EE Pd with nx:=Ap (wC D.non)^EE Pd} (DH ((done.length:Int)+1) a.length) n [.sh^enc N,.sh^KZ t b,.sh^.int (m:Int),.sh^enc^A1 N t b m f,.sh^.tup F,.sh^.lst^f.map AS,.sh^.int (done.length:Int),B,C,E,k,l,o]:=λo B C E k l=>by
    have:=ih (done++[u]) (.sh^.int (done.length:Int)) B C E k l o^by rw[jS]; exact e
    rw[eq,jI]at this;exact this
   have K:∀Q:v_ D->Nat->Prop,Q ((done.filter λv=>decide (v∈(A1 N t b m f).ts)).map AS) n->EG (AT 1) (AX^Ac (Gd u_) (AC 1)^Ac A5 (AC 0)^wC^D.int 1) (AC 1) Q (Dp.cutD (f.map AS) s_^P3 (done.length:Int)) [] n [.sh^enc^A1 N t b m f,.no]:=λQ hQ=>by
    rw[ec];refine CD (λd=>((A1 N t b m f).ts.map AS).any λy=>C2 y d) id (λρ=>∃s,ρ=[.sh^enc^A1 N t b m f,s]) _ _ _ _ ?_ #[_,rfl] ?_
    .rintro d T ρ m' nx sk ⟨s,rfl⟩ h1 h2
     let#[v,hv,rfl]:=Sc.mp T;exact#[_,AK (j:=1) rfl,B_ ok (w.mem_iff.mp^by rw[←e]; exact jM _ hv),I,_,rfl,CO (λc=>h1 _ #[_,rfl] c) λc=>h2 _ #[_,rfl]^jR.mpr c]
    rw[jB,lM,lA];rw[show done.filter ((λd=>((A1 N t b m f).ts.map AS).any λy=>C2 y d)∘AS)=done.filter λv=>decide (v∈(A1 N t b m f).ts)from kF λv _=>Cv];exact hQ
   refine#[by show(Dp.cutD (f.map AS) s_^P3 (done.length:Int)).length<=10000000; rw[ec,FM]; omega,K _ ?_];have L:=Ub (t:=t) (b:=b) (m:=m) g Y w e;exists z2,z2,z2,_,AK (j:=1) rfl,B_ ok hu,I
   rcases A with⟨U,x,y,rfl,hi⟩|⟨U,d,rfl,T⟩
   .have q:(((A1 N t b m f).ts.map AS).any λy=>C2 y^AS u)=t_:=by rw[Cv,decide_eq_true^L.mpr U]
    exists _,rfl;rw[q];exact#[_,AK (j:=1) rfl,rfl,rfl,_,_,rfl,rfl,_,AK (j:=0) rfl,_,AK (j:=0) rfl,_,AK (j:=1) rfl,_,AK (j:=2) rfl,sub N (A4 N t b m [] done),_,t,b,u,m,_,x,y,rfl,W,hA,J,V,m1,m2,hi,next _ _ _ _ _ _]
   .have q:(((A1 N t b m f).ts.map AS).any λy=>C2 y^AS u)=u_:=by rw[Cv,decide_eq_false λz=>L.mp z U]
    exists _,rfl;rw[q];exact#[_,AK (j:=0) rfl,rfl,rfl,_,_,rfl,rfl,_,AK (j:=0) rfl,_,AK (j:=0) rfl,_,AK (j:=1) rfl,sub N (A4 N t b m [] done),_,t,b,u,m,_,d,rfl,W,hA,J,V,T,next _ _ _ _ _ _]
 exact go f [] _ _ _ _ _ _ _ rfl
def W0(h:Tf ss n Pd):Dz (EE Pd) n (ss++Tk 7 .no):=by
 let#[N,t,b,m,U,rfl,k,tm,hm,H,o2,p]:=h;have ok:=k.1;have a3:=k.2.2;have a4:=jX;have V:okN^A1 N t b m U:=Cj k _;unfold Dz;refine#[z0,z0,_,AK (j:=1) rfl,_,N.ts,rfl,rfl,by lk,λw p1 p2=>?_];obtain rfl:=DJ (p1.trans H.symm) p2 o2;have O:w.Nodup:=H.nodup_iff.mpr^BO ok.trise;have ol:=H.length_eq;have W:=(Bw V.1 (ts:=(A1 N t b m w).ts) λv h=>h).1
 have go:∀(f done:v_ Aq) (E:v_ D) (I F q r:Slot),done++f=w->E.length=done.length->PapI N t b m w E->
   BF (AT 8) cF {EE Pd with nx:=Ap (Bl BH^AE (As 5) AQ)^EE Pd} (f.map AS) n [.sh^enc N,.sh^KZ t b,.sh^.int (m:Int),.sh^enc^A1 N t b m w,.sh^.int 0,.ow^.lst E,.ow^.lst^(A4 N t b m [] done).map AS,.sh^.lst^w.map AS,I,F,q,r]:=by
  intro f
  induction f with
  |nil=>
   intro done E I F q r e P X;rw[jE]at e;subst e;exact p E #[P,X]
  | cons u f ih=>
   intro done E I F q r e P X;have Q:u∈N.ts:=H.mem_iff.mp (by rw[←e]; exact f8 _ Op);let#[Y,Z,_]:=ok.tin u Q;have dl:done.length<=60:=by rw[←e,eq]at ol; omega
   have K:=Cj k (A4 N t b m [] done);have L:=Xw (t:=t) (b:=b) (m:=m) k O H e;have G:∀v∈A4 N t b m [] done,v∈N.ts:=λv B=>(sub_mem.mp^(L.1 v).mp B).1;have a0:=L.2.2;have M:=Ub (t:=t) (b:=b) (m:=m) k O H e;have e':(done++[u])++f=w:=by rw[jS]; exact e
   have C:A4 N t b m [] (done++[u])=if X6 (sub N (A4 N t b m [] done)) t b u m=t_ then A4 N t b m [] done else A4 N t b m [] done++[u]:=by
    rw[De,CN];rfl
   have nx:∀{A:D} (I F q r:Slot),GN (sub N (A4 N t b m [] done)) t b u m A->BF (AT 8) cF {EE Pd with nx:=Ap (Bl BH^AE (As 5) AQ)^EE Pd} (f.map AS) n [.sh^enc N,.sh^KZ t b,.sh^.int (m:Int),.sh^enc^A1 N t b m w,.sh^.int 0,.ow^.lst (E++[A]),.ow^.lst^(A4 N t b m [] (done++[u])).map AS,.sh^.lst^w.map AS,I,F,q,r]:=λI F q r hr=>by
    refine ih (done++[u]) _ I F q r e' (by rw[eq,eq,P]; rfl) ?_;subst e;exact X.snoc P hr
   exists _,AK (j:=1) rfl,B_ ok Q,W,_,rfl;show if(!(((A1 N t b m w).ts.map AS).any λy=>C2 y^AS u))=t_ then _ else _
   rw[Cv]
   by_cases c:P4 (sub N (A4 N t b m [] done)) t b u m
   .rw[decide_eq_false (p:=u∈(A1 N t b m w).ts) λz=>M.mp z c]
    rw[if_pos^hldB_iff.mpr c]at C;rw[C]at nx;refine C8 #[_,E,rfl,rfl,by lk,?_];exists _,AK (j:=1) rfl,rfl,w.map AS,AS u,done.length,rfl,rfl,(Bw ok λv B=>H.mem_iff.mp B).1,B_ ok Q,#[AS u,by rw[ir,←e,ju^Rs _,nc]; rfl,FD u],λi x hi hx=>?_,z3,_,AK (j:=0) rfl
    .rw[ir,←e,kL hi]at hx
     let#[v,B,rfl]:=jY.mp hx;refine jR.mpr λz=>?_
     have:=(Kh v u).mp z
     subst this;rw[←e]at O;exact(jW.mp O).2.2 v (jZ B) v Op rfl
    refine#[sub N (A4 N t b m [] done),_,u,t,b,m,rfl,hm,L,K,Y,Z,c,λd R=>#[z2,_,rfl,?_,nx _ _ _ _^.inr #[c,d,rfl,R]]];show(t_&&(flat d&&t_))=t_;rw[V_ R];rfl
   .rw [decide_eq_true (p:=u∈(A1 N t b m w).ts)^M.mpr c]
    rw[if_neg λz=>c^hldB_iff.mp z]at C;rw[C]at nx;refine Ba #[N,_,u,t,b,m,rfl,k,G,L.2.1,a0,Y,Z,tm,hm,λo h1 h2=>#[rfl,?_]];cases o with
    |none=>exact absurd (h1 rfl) c
    | some l=>
     have T:=h2 l rfl;have a1:=C6 K l;have ln:∀v∈l,v∈N.ts:=λv B=>(sub_mem.mp^T.2.1 v B).1;have lm:=Lr (S:=l) L;refine Ba #[by show((A4 N t b m [] done).map AS).length<=10000000; rw[FM]; omega,?_];refine CD (λd=>!((l.map AS).any λy=>C2 y d)) id (λρ=>∃s,ρ=[.sh^.lst^l.map AS,s]) _ _ _ _ ?_ #[_,rfl] ?_
     .rintro d R ρ m' nx sk ⟨s,rfl⟩ g1 g2
      let#[v,B,rfl]:=Sc.mp R;exact#[B_ ok^G v B,(Bw ok ln).2,_,rfl,CO (λc=>g1 _ #[_,rfl] c) λc=>g2 _ #[_,rfl]^jR.mpr c]
     rw[jB,lM,Lo];refine#[_,rfl,rfl,_,_,rfl,rfl,by rw[FM]; have:=T.2.2.1; omega,G_ l,λa5 hp ho=>?_];let#[S,q1,rfl]:=NR (g:=YU) (λ_=>rfl) hp;refine#[_,AK (j:=0) rfl,#[by cbv,by cbv,by cbv],minus (sub N (A4 N t b m [] done)) l,_,_,_,u.a,rfl,rfl,lm.1,a1,Y,λxs f1 f2 f3=>#[z3,_,_,rfl,rfl,by lk,_,rfl,rfl,_,_,rfl,rfl,by rw[FM]; omega,?_]]
     have A:=RA K.1 T q1 (Kf ho) f1 (by
      let#[o,ho,hg]:=f2 u.b Z;rw[hg];cases o with
      |none=>
       have:=(G4 ok u Q).2.2
       let#[b1,b2,t1,t2]:=tm;have h1:u.len*t<=1000000*1000000:=Int.mul_le_mul this.2 t2 (by lk) (by cbv);have h2:(10:Int) ^ 31*1<=10 ^ 31*b:=mC b1 (by cbv);exact Int.lt_of_le_of_lt h1^Int.lt_of_lt_of_le (by cbv) h2
      |some d=>exact Int.not_le.mp λz=>T.2.2.2 #[d,ho,z])
     have:=nx (.sh^AS u) F (.sh^.lst^l.map AS) (.sh^.lst^((A4 N t b m [] done).filter λv=>decide (v∉l)).map AS) A
     rw[jP]at this;exact this
 exact go w [] [] _ _ _ _ rfl rfl λa6 u a2 A _ h=>by cases h
end
def cy(L c:v_ D)(k:Nat):Prop:=∃(N:Net) (t b:Int) (m:Nat) (a:v_ Aq),L[k]?=P3^.tup [enc N,KZ t b,.int (m:Int)]/\c[k]?=P3^enc^A1 N t b m a/\okN N/\N.ps.length<=24/\FX t b/\m<=2/\a.Perm N.ts/\Cu a
def fR{n:Nat}{L f:v_ D}(h:∀k,k<4->cy L f k):Xs {nx:=λ_ _=>False,rt:=λd _=>d=.bl t_} n [.no,.fd,.ow^.lst L,.sh^.lst f,.no,.no,.no,.no,.no]:=by
 unfold Xs;refine#[by rw[jX]; show 5<=16777216; decide,?_];refine Nn (λ_ m s=>m=n/\∃u v w x y,s=[.no,.fd,.ow^.lst L,.sh^.lst f,u,v,w,x,y]) ?_ _ _ _ ?_ #[rfl,_,_,_,_,_,rfl]
 .rintro m s ⟨rfl,u,v,w,x,y,rfl⟩
  exact(rfl:D.bl t_=.bl t_)
 .rintro _ d F s nx G ⟨rfl,u,v,w,x,y,rfl⟩ z
  obtain⟨k,H,rfl⟩:∃k:Nat,k<4/\d=.int (k:Int):=by
   simp only[UF,ip,or_false]at G
   rcases G with rfl|rfl|rfl|rfl|rfl
   .exact#[0,by cbv,rfl]
   .exact#[1,by cbv,rfl]
   .exact#[2,by cbv,rfl]
   .exact#[3,by cbv,rfl]
   .exact#[0,by cbv,rfl]
  let#[N,t,b,m,e,I,A,a,g,l,o,p,q]:=h k H
  have i:∀(c:v_ D) (B:E2),Rp N t b m e c->B.nx F [.no,.fd,.ow^.lst L,.sh^.lst f,.sh^.int (k:Int),.sh^enc N,.sh^KZ t b,.sh^.int (m:Int),.sh^.tup c]->ac B F [.no,.fd,.ow^.lst L,.sh^.lst f,.sh^.int (k:Int),.sh^enc N,.sh^KZ t b,.sh^.int (m:Int),.sh^.tup c]:=λc B r J=>
   #[_,AK A,N,t,b,m,e,c,rfl,a,g,l,o,p,q,r,rfl,Ba #[_,AK A,N,t,b,m,e,c,rfl,a,g,l,o,p,q,r,rfl,Ba J]]
  refine#[_,AK I,rfl,rfl,N,t,b,m,rfl,a,l,o,λj c K M r=>?_];obtain rfl:=DJ (K.trans p.symm) M q;refine#[_,AK A,N,t,b,m,j,rfl,a,l,o,p,q,λC E=>#[z2,?_]];exact i c _ r^i C _ E^z _ _ #[rfl,_,_,_,_,_,rfl]
def SU:OG {nx:=λ_ _=>False,rt:=λd _=>d=.bl t_} 3000 (.no::.fd::Tk 7 .no):=by
 have h:=PySem.sizeLine_eq;unfold OG;refine#[6,9,rfl,by cbv,by cbv,by cbv,by cbv,by cbv,λt H u l1 y I a=>?_];have a:2870<=H:=a;refine#[rfl,u0,λv w j l m=>#[3,rfl,by cbv,by cbv,u1,λz J K=>#[z3,z1,?_]]];refine#[_,rfl,rfl,rfl,u2,λA L c M b=>?_];have b:2668<=L:=v3 a b;clear a;refine#[rfl,u0,λB C n=>#[z3,_,_,rfl,rfl,(by rw[h]; show 1+1<=16777216; decide),?_]];refine#[_,rfl,rfl,rfl,u1,λD N e O i=>?_];have i:2467<=N:=v2 b i;clear b;refine#[rfl,u0,λE F o=>#[z3,_,_,rfl,rfl,(by rw[h]; show 2+1<=16777216; decide),?_]];refine#[_,rfl,rfl,rfl,u1,λG n4 f P x=>?_];clear x i;exists z2,z3,_,_,rfl,rfl,(by rw[h]; show 3+1<=16777216; decide);obtain⟨p,rfl⟩:∃p:Nat,z=(p:Int):=#[z.toNat,by lk];have g:okN t:=#[u,iz y^by cbv,iz I^by cbv];have q:FX v w:=#[j,Int.le_trans l m,Int.le_trans j l,m];have r:FX 3 2:=#[by cbv,by cbv,by cbv,by cbv];have s:p<=2:=by lk
 refine#[by show 4<=10000000; decide,?_];refine#[rfl,rfl,t,v,w,p,rfl,g,q,s,λQ R S=>?_];refine#[rfl,rfl,A,B,C,2,rfl,c,n,by cbv,λT U V=>?_];refine#[rfl,rfl,D,E,F,1,rfl,e,o,by cbv,λW X Y=>?_];refine#[rfl,rfl,G,3,2,1,rfl,f,r,by cbv,λZ a4 r4=>?_];refine fR λk hk=>?_
 match k,hk with
 |0,_=>exact#[t,v,w,p,Q,rfl,rfl,g,iz y^by cbv,q,s,R,S]
 |1,_=>exact#[A,B,C,2,T,rfl,rfl,c,M,n,by cbv,U,V]
 |2,_=>exact#[D,E,F,1,W,rfl,rfl,e,O,o,by cbv,X,Y]
 |3,_=>exact#[G,3,2,1,Z,rfl,rfl,f,P,r,by cbv,a4,r4]
end Nt
namespace K41
open L2 Dp Nt
section
variable (P:Program)(w:World)(K:Frag)(mg:Str->w_ Value)(base:Heap)
abbrev TR:Prop:=Got P w K mg base "is_whole" 1 ["thing"] .sh FJ
abbrev NI:Prop:=Got P w K mg base "is_tuple_of" 1 ["count","thing"] .sh Cz
abbrev Rj:Prop:=Got P w K mg base "is_rising" 1 ["things"] .sh Kr
abbrev WH:Prop:=Got P w K mg base "rank_of" 1 ["tie"] .sh Rn
abbrev TN:Prop:=Got P w K mg base "order_of" 4 ["ties"] .fr EV
abbrev TK:Prop:=Got P w K mg base "steps_of" 1 ["net"] .sh Me
abbrev dA:Prop:=Got P w K mg base "only" 1 ["net","ties"] .sh GF
abbrev Ri:Prop:=Got P w K mg base "is_tie_of" 2 ["net","thing"] .sh aA
abbrev WI:Prop:=Got P w K mg base "is_thin" 3 ["net","thing"] .sh OK
abbrev TU:Prop:=Got P w K mg base "ahead_of" 2 ["net","tie"] .sh GH
abbrev WG:Prop:=Got P w K mg base "without" 2 ["net","ties"] .sh DZ
abbrev Rg:Prop:=Got P w K mg base "length_of" 2 ["net","thing"] .sh aB
abbrev JO:Prop:=Got P w K mg base "length_between" 3 ["net","a","b","thing"] .sh Yy
abbrev Rc:Prop:=Got P w K mg base "ties_over" 2 ["net","way"] .fr Mc
abbrev Pe:Prop:=Got P w K mg base "nearest_of" 1 ["waiting","found"] .sh Yx
abbrev Pf:Prop:=Got P w K mg base "least_ways" 2 ["net","start"] .fr Pz
abbrev Yw:Prop:=Got P w K mg base "way_of" 3 ["net","a","b"] .sh Z_
abbrev Pg:Prop:=Got P w K mg base "are_prices" 2 ["net","thing"] .sh Pt
abbrev Rf:Prop:=Got P w K mg base "price_gap" 1 ["net","prices","a","b"] .sh aC
abbrev WJ:Prop:=Got P w K mg base "is_fair" 3 ["net","thing"] .sh Yz
abbrev NH:Prop:=Got P w K mg base "prices_from" 3 ["net","place","most"] .sh Te
abbrev Rh:Prop:=Got P w K mg base "is_within" 1 ["length","times","number"] .sh Cy
abbrev MW:Prop:=Got P w K mg base "least_beyond" 1 ["times","number"] .sh JX
abbrev TQ:Prop:=Got P w K mg base "near_way" 4 ["net","times","tie"] .sh Th
abbrev Rk:Prop:=Got P w K mg base "broken_of" 7 ["net","times","tie","many"] .sh^OL 2
abbrev JN:Prop:=Got P w K mg base "steady_thinned" 8 ["net","times","many"] .sh Ps
abbrev WL:Prop:=Got P w K mg base "bush_of" 6 ["net","tie","many"] .sh^Ks 2
abbrev JR:Prop:=Got P w K mg base "breaking_entry" 8 ["ahead","times","tie","many"] .sh Ih
abbrev JP:Prop:=Got P w K mg base "breaking_paper" 9 ["net","times","many"] .sh Mf
abbrev Rb:Prop:=Got P w K mg base "way_fault" 4 ["net","times","tie","thing"] .sh Pq
abbrev MV:Prop:=Got P w K mg base "prices_fault" 4 ["net","times","tie","thing"] .sh JU
abbrev Ph:Prop:=Got P w K mg base "are_broken" 3 ["ahead","many","thing"] .sh JV
abbrev TL:Prop:=Got P w K mg base "shows_in" 5 ["ahead","times","tie","many","entry"] .sh Td
abbrev WK:Prop:=Got P w K mg base "is_bush" 7 ["net","times","tie","many","thing"] .sh^GY 2
abbrev JQ:Prop:=Got P w K mg base "breaking_fault" 8 ["thin","times","tie","many","entry"] .sh JW
abbrev KR:Prop:=Got P w K mg base "lets_breaking" 9 ["net","times","many","thin","paper"] .sh Px
abbrev Rl:Prop:=Got P w K mg base "_law_next" 1 ["_law_feed_here","_law_many"] .sh B5
abbrev Pm:Prop:=Got P w K mg base "_law_names" 2 ["_law_feed_here","_law_many"] .sh GG
abbrev NM:Prop:=Got P w K mg base "_law_length" 2 ["_law_feed_here","_law_way_here"] .sh Py
abbrev TX:Prop:=Got P w K mg base "_law_net" 3 ["_law_feed_here","_law_most","_law_ties"] .sh Tg
abbrev Pl:Prop:=Got P w K mg base "_law_order" 1 ["_law_ties"] .fr EV
abbrev MX:Prop:=Got P w K mg base "_law_lengths" 1 ["_law_ties","_law_place"] .fr Ex
abbrev Pk:Prop:=Got P w K mg base "_law_times" 2 ["_law_feed_here"] .sh Md
abbrev NJ:Prop:=Got P w K mg base "_law_within" 1 ["_law_length_here","_law_times_here","_law_number"] .sh Cy
abbrev Pj:Prop:=Got P w K mg base "_law_whole" 1 ["_law_thing"] .sh FJ
abbrev MY:Prop:=Got P w K mg base "_law_is_thin" 2 ["_law_net_here","_law_thing"] .sh OK
abbrev TZ:Prop:=Got P w K mg base "_law_led" 1 ["_law_places","_law_ties","_law_thing","_law_a","_law_b"] .sh To
abbrev MZ:Prop:=Got P w K mg base "_law_is_fair" 2 ["_law_places","_law_ties","_law_thing"] .sh Mh
abbrev Ta:Prop:=Got P w K mg base "_law_gap" 1 ["_law_places","_law_prices_here","_law_a","_law_b"] .sh Pw
abbrev TV:Prop:=Got P w K mg base "_law_way" 2 ["_law_ties","_law_a","_law_b"] .sh Pu
abbrev NN:Prop:=Got P w K mg base "_law_breaks" 1 ["_law_ties","_law_many"] .fr P2
abbrev KS:Prop:=Got P w K mg base "_law_breaking" 2 ["_law_ties","_law_times_here","_law_tie","_law_many"] .sh Ey
abbrev NK:Prop:=Got P w K mg base "_law_steady" 3 ["_law_net_here","_law_times_here","_law_many"] .sh Mg
abbrev JS:Prop:=Got P w K mg base "_law_step_ties" 1 ["_law_ties","_law_way_here"] .fr Ic
abbrev Ma:Prop:=Got P w K mg base "_law_is_bush" 5 ["_law_net_here","_law_times_here","_law_many","_law_ties","_law_tie","_law_thing"] .sh^Ig 2
abbrev Pn:Prop:=Got P w K mg base "_law_is_in" 3 ["_law_net_here","_law_times_here","_law_many","_law_ties","_law_tie","_law_broken","_law_prices_here"] .sh Tj
abbrev Tb:Prop:=Got P w K mg base "_law_due" 6 ["_law_net_here","_law_times_here","_law_many","_law_thin","_law_paper"] .sh Tp
abbrev TY:Prop:=Got P w K mg base "_law_let" 10 ["_law_net_here","_law_times_here","_law_many","_law_thin","_law_paper"] .sh Tl
abbrev NL:Prop:=Got P w K mg base "_law_prices" 2 ["_law_net_here","_law_ties","_law_a","_law_number"] .sh Ti
abbrev Rm:Prop:=Got P w K mg base "_law_bush" 5 ["_law_ties","_law_tie","_law_many"] .sh^Ie 2
abbrev JT:Prop:=Got P w K mg base "_law_own_paper" 6 ["_law_net_here","_law_times_here","_law_many","_law_thin","_law_which"] .sh Tf
abbrev Po:Prop:=Got P w K mg base "_law_dense" 3 ["_law_feed_here"] .sh P0
abbrev Mb:Prop:=Got P w K mg base "_law_crossed" 3 ["_law_feed_here"] .sh Mi
abbrev Pp:Prop:=Got P w K mg base "_law_broad" 2 ["_law_feed_here"] .sh P1
end
def iJ{d:jt}{b:v_ Str}{n:Nat}(c:∀f:Nat->Ev,bindArgs d #[(jL n).map f,[]]=pure^b.zip^(jL n).map f)(a:v_ Ev)(h:a.length=n):bindArgs d #[a,[]]=pure^b.zip a:=by
 have e:a=(jL n).map λi=>a.getD i .none:=by
  apply o8 <;>simp_all
 rw[e];exact c _
local macro_rules|`(tactic|walk_at "L")=>`(tactic|(intro _ _ _ h; repeat (first|(obtain⟨e,_⟩:=h; subst e; rfl)|(obtain⟨_,h⟩:=h))))
local macro_rules|`(tactic|walk_at "B")=>`(tactic|(intro _ _ _ _ _ _; exact iJ λ_=>rfl))
def Ht(K:Frag)(x:Str)(st:jH):Prop:=∃(f:Ch) (b:Ev) (c d:w_ Ch) (e:Array^w_ Ev) (kV g h a i:Ev),nsIn K mainGlobals x=P3^P3^.ref f/\K.lookup f=P3 #[b,c,.func^fnOf x x (EH st) (CP st) (AR st) .none kV g h d a i,e]/\codeIn K a x=t_/\keepIn K^.ref f=t_
def Hn(K:Frag)(x:Str):Prop:=nsIn K mainGlobals x=P3 s_
def Ht.mk{K:Frag}{x:Str}{st:jH}{f:Ch}{d:Ev}{e g:w_ Ch}{h:Array^w_ Ev}{kV i j b m:Ev}(a:nsIn K mainGlobals x=P3^P3^.ref f)(l:K.lookup f=P3 #[d,e,.func^fnOf x x (EH st) (CP st) (AR st) .none kV i j g b m,h])(c:codeIn K b x=t_)(k:keepIn K^.ref f=t_):Ht K x st:=#[f,d,e,g,h,kV,i,j,b,m,a,l,c,k]
def Hn.mk{K:Frag}{x:Str}(a:nsIn K mainGlobals x=P3 s_):Hn K x:=a
structure C0 (K:Frag) (mg:Str->Option Ev) (h:i8):Prop where
 X:K.In h
 G:h.Ns mainGlobals mg
 h_is_whole:Ht K "is_whole" LK
 h_is_tuple_of:Ht K "is_tuple_of" Gm
 h_is_rising:Ht K "is_rising" Ji
 h_rank_of:Ht K "rank_of" Nc
 h_order_of:Ht K "order_of" LH
 h_steps_of:Ht K "steps_of" G6
 h_only:Ht K "only" Ww
 h_is_tie_of:Ht K "is_tie_of" Jh
 h_is_thin:Ht K "is_thin" Nd
 h_ahead_of:Ht K "ahead_of" LL
 h_without:Ht K "without" Nb
 h_length_of:Ht K "length_of" Jf
 h_length_between:Ht K "length_between" Eb
 h_ties_over:Ht K "ties_over" Jd
 h_nearest_of:Ht K "nearest_of" HM
 h_least_ways:Ht K "least_ways" HN
 h_way_of:Ht K "way_of" QS
 h_are_prices:Ht K "are_prices" HP
 h_price_gap:Ht K "price_gap" Je
 h_is_fair:Ht K "is_fair" Nf
 h_prices_from:Ht K "prices_from" Gk
 h_is_within:Ht K "is_within" Jg
 h_least_beyond:Ht K "least_beyond" Fd
 h_near_way:Ht K "near_way" LI
 h_broken_of:Ht K "broken_of" Jj
 h_steady_thinned:Ht K "steady_thinned" Ea
 h_bush_of:Ht K "bush_of" Nh
 h_breaking_entry:Ht K "breaking_entry" Ef
 h_breaking_paper:Ht K "breaking_paper" Ec
 h_way_fault:Ht K "way_fault" Jc
 h_prices_fault:Ht K "prices_fault" Fc
 h_are_broken:Ht K "are_broken" HQ
 h_shows_in:Ht K "shows_in" LG
 h_is_bush:Ht K "is_bush" Ng
 h_breaking_fault:Ht K "breaking_fault" Ee
 h_lets_breaking:Ht K "lets_breaking" FK
 h__law_feed:Ht K "_law_feed" Fj
 h__law_next:Ht K "_law_next" D9
 h__law_names:Ht K "_law_names" HV
 h__law_length:Ht K "_law_length" Gr
 h__law_net:Ht K "_law_net" LN
 h__law_order:Ht K "_law_order" HU
 h__law_lengths:Ht K "_law_lengths" Fe
 h__law_times:Ht K "_law_times" HS
 h__law_within:Ht K "_law_within" Gn
 h__law_whole:Ht K "_law_whole" HR
 h__law_is_thin:Ht K "_law_is_thin" Fg
 h__law_led:Ht K "_law_led" LP
 h__law_is_fair:Ht K "_law_is_fair" Fh
 h__law_gap:Ht K "_law_gap" LQ
 h__law_way:Ht K "_law_way" LM
 h__law_breaks:Ht K "_law_breaks" Gs
 h__law_breaking:Ht K "_law_breaking" FL
 h__law_steady:Ht K "_law_steady" Gp
 h__law_step_ties:Ht K "_law_step_ties" Eg
 h__law_is_bush:Ht K "_law_is_bush" Fi
 h__law_is_in:Ht K "_law_is_in" HW
 h__law_due:Ht K "_law_due" LR
 h__law_let:Ht K "_law_let" LO
 h__law_prices:Ht K "_law_prices" Gq
 h__law_bush:Ht K "_law_bush" Jk
 h__law_own_paper:Ht K "_law_own_paper" Eh
 h__law_dense:Ht K "_law_dense" HY
 h__law_crossed:Ht K "_law_crossed" Fk
 h__law_broad:Ht K "_law_broad" HZ
 h_law:Ht K "law" LJ
 z0:Hn K "abs"
 z1:Hn K "all"
 z2:Hn K "bool"
 z3:Hn K "enumerate"
 z4:Hn K "int"
 z5:Hn K "isinstance"
 z6:Hn K "len"
 z7:Hn K "list"
 z8:Hn K "max"
 z9:Hn K "min"
 z10:Hn K "range"
 z11:Hn K "reversed"
 z12:Hn K "set"
 z13:Hn K "sorted"
 z14:Hn K "str"
 z15:Hn K "tuple"
 z16:Hn K "zip"
def Ctx(P:jK)(w:jQ)(K:Frag)(b:Str->w_ Ev)(a h:i8):Prop:=C0 K b h
section
variable {P:Program}{w:World}{K:Frag}{mg:Str->w_ Value}{h base:Heap}{x:Str}{st:Stmt}
def Ht.fn(X:K.In h)(G:h.Ns mainGlobals mg)(H:Ht K x st):∃f fd,mg x=P3^.ref f/\Fun K x x st f fd:=by
 let#[f,b,d,e,g,i,j,m,n,o,a,l,c,k]:=H;exact#[f,_,mg_of X G a,X_ (st:=st) l c k]
def C0.T(A:C0 K mg h):Txt K mg:=#[mg_none_of A.X A.G A.z0,mg_none_of A.X A.G A.z1,mg_none_of A.X A.G A.z2,mg_none_of A.X A.G A.z3,mg_none_of A.X A.G A.z4,mg_none_of A.X A.G A.z5,mg_none_of A.X A.G A.z6,mg_none_of A.X A.G A.z7,mg_none_of A.X A.G A.z8,mg_none_of A.X A.G A.z9,mg_none_of A.X A.G A.z10,mg_none_of A.X A.G A.z11,mg_none_of A.X A.G A.z12,mg_none_of A.X A.G A.z13,mg_none_of A.X A.G A.z14,mg_none_of A.X A.G A.z15,mg_none_of A.X A.G A.z16]
def Ctx.got{k:Nat}{a:v_ Str}{e:Kd}{W:W2}(A:Ctx P w K mg base h)(H:Ht K x st)
  (ok:∀{f:Ch}{fd:jt},Txt K mg->Fun K x x st f fd->mg x=P3^.ref f->Binds K fd a []->D6 P w K mg base J6 k f fd a^ZF K e W a.length)
  (j:∀g n P,W g n P->g.length=a.length:=by walk_at "L") (i:∀(kV b l:Ev) (o:w_ Ch) (c p:Ev) (d:v_ Ev),d.length=a.length->bindArgs (fnOf x x (EH st) (CP st) (AR st) .none kV b l o c p) #[d,[]]=pure^a.zip d:=by walk_at "B"):Got P w K mg base x k a e W:=by
 let#[f,fd,m,F]:=H.fn A.X A.G;exact#[f,fd,ok A.T F m^F.binds i,m,F.kp,F.binds i,j]
end
section
variable {P:Program}{w:World}{K:Frag}{mg:Str->w_ Value}{base:Heap}
variable {f:Addr}{fd:FuncData}
variable {h:Heap}(A:Ctx P w K mg base h)
include A
omit A in
def QP:Ae ["thing"] ["thing"]^AR LK:=by walk_at "s"
def Jo:TR P w K mg base:=A.got A.h_is_whole (λT F m b=>C1 F QP (λa=>(AJ^AZ^DP (Bu UX (dv 0) rfl T.Gaa rfl T.Gal (by decide +kernel))^Dr^S4 (Bu Q6 (dv 0) rfl T.Gaa rfl T.Gap (by decide +kernel)))) Jl) (λ_ _ _ h=>Nj h)
omit A in
def LC:Ae ["count","thing"] ["count","thing"]^AR Gm:=by walk_at "s"
def CM:NI P w K mg base:=A.got A.h_is_tuple_of λT F m b=>C1 F LC (λa=>(AJ^AZ^DP (Bu kit_tuple (dv 1) rfl T.Gaa rfl T.Gab (by decide +kernel))^Dr^C_ EB IZ (Ag A0 B4 rfl T.Gac PySem.boot_len (AN (dv 1) AV)) (dv 0)^Ak _)) LY
omit A in
def Ob:Ae ["things"] ["things"]^AR Ji:=by walk_at "s"
def Hq:Rj P w K mg base:=A.got A.h_is_rising λT F m b=>C1 F Ob (λa=>(AJ^AZ (Ag (Ct rfl) Ib rfl T.Gaf kC (AN (Jy [("ahead":Str),("behind":Str)] [s_,s_] (Ur rfl T.Gah (AN (dv 0)^AN (ME SD MT (dv 0) (FE AF) FF) AV)) (B0 rfl (Aj (AU (i:=0) (show jC [("ahead":Str),("behind":Str)] by decide +kernel) rfl (TM rfl))^Aj (AU (i:=1) (show jC [("ahead":Str),("behind":Str)] by decide +kernel) rfl (TM rfl)) BX)) BV (C_ (Fo a) J4 (dv 0) (dv 1)^Ak _)^by kernel_rfl) AV)))) Ol
omit A in
def SG:Ae ["tie"] ["tie"]^AR Nc:=by walk_at "s"
def Li:WH P w K mg base:=A.got A.h_rank_of λT F m b=>C1 F SG (λa=>(AJ^AZ^Ao^AB (Aa AO Am (dv 0) AF)^AB (Aa AO Am (dv 0) AF)^AB (Aa AO Am (dv 0) AF) AM)) SN
omit A in
def QO:Ae ["ties"] ["ties"]^AR LH:=by walk_at "s"
def Fs:TN P w K mg base:=A.got A.h_order_of λT F m b=>have a:=Li A; C1 F QO (λc=>(AJ^AZ (YV a (c.mono^by cbv) rfl T.Gad rfl (dv 0)))) QX
omit A in
def pw:Ae ["net","steps","place","a","b","length"] ["net"]^AR G6:=#[rfl,rfl,rfl,by decide +kernel,rfl,by decide +kernel,by decide +kernel]
omit A in
def iY{f:Ch}{fd:jt}(F:Fun K "steps_of" "steps_of" G6 f fd):D6 P w K mg base J6 1 f fd ["net"]^ZF K .sh Me 1:=by
 refine F.ok (k:=0) pw (λvs H Q E h=>h.1) λcdv A outer s H vs Q E hr h=>?_;let#[hl,F0,U,V',M,n,ss,Pd,ra,#[N,rfl,ok,lp,lt,p],q]:=h;let#[dom,fU,uV,vM,fd0,pa]:=ra;cases pa with
 |cons r1 pa=>
 cases pa;let#[v,e1,h1]:=r1.1;cases e1;let#[an,vs,rfl,hn,v1,r,rfl,hp,v2,r2,rfl,ht,e2]:=h1;cases(show r2=[]from e2);let#[ap,us,rfl,hpn,hps]:=hp;let#[at_,ws,rfl,htn,hts]:=ht;have nd:=pw.nd;have hu:=IB hr;have szl:=PySem.sizeLine_eq;have lus:us.length=N.ps.length:=by rw[hps.length,FM]
 have lws:ws.length=N.ts.length:=by rw[hts.length,FM]
 refine#[_,BY (E6 (i:=1) nd rfl (TM rfl) Qj)
  (BY (Oq i7 rfl (XX^FN ix_tup (pv 0) BL λ_ _=>rfl) (GP (i:=2) nd rfl (TM rfl)) (D_ (Hd hu (pv 1) (pv 2) Qj rfl)))
  (BY (Oq i7 rfl (XX^FN ix_tup (pv 0) BL λ_ _=>rfl) (XZ rfl (Hf (GP (i:=3) nd rfl (TM rfl))^Hf (GP (i:=4) nd rfl (TM rfl))^Hf (GP (i:=5) nd rfl (TM rfl)) UK))
   (BY (Hd hu (Ke hu (pv 1) (pv 3) λ_ _=>rfl) (pv 4) (pv 5) rfl)^D_ (Hd hu (Ke hu (pv 1) (pv 4) λ_ _=>rfl) (pv 3) (pv 5) rfl)))
  (D_^G7^bu^pv 1))),?_]
 refine λd hd=>?_;have old0:∀b o,H b=P3 o->BQ H d (.dK []) b=P3 o:=λb o e=>by rw[Ah^BB e hd]; exact e
 have SqN:∀H':Hp,(∀b o,H b=P3 o->H' b=P3 o)->SqT K H' an [.ref ap,.ref at_]:=λH' o=>SqT.of^o _ _ hn;have SqP:∀H':Hp,(∀b o,H b=P3 o->H' b=P3 o)->SqT K H' ap us:=λH' o=>SqT.of^o _ _ hpn;have SqW:∀H':Hp,(∀b o,H b=P3 o->H' b=P3 o)->SqT K H' at_ ws:=λH' o=>SqT.of^o _ _ htn;refine#[_,rfl,an,_,0,_,rfl,rfl,SqN _ old0,rfl,ap,rfl,#[_,SqP _ old0],?_];refine Ug (xs:=us) (λi Z H'=>∃(as:v_ (Str×Ch)) (x2 x3 x4 x5:w_ V),Z=[P3^.ref an,P3^.ref d,x2,x3,x4,x5]/\as.map (·.1)=N.ps.take i/\Stp H d as (λ_=>[]) H') ?_ (λi Z H' hi #[as,x2,x3,x4,x5,e,hm,st]=>SqP _ st.old) ?_ ?_
 .exact#[[],_,_,_,_,rfl,rfl,old0,hd,An,(λx hx=>by cases hx),jT,jT]
 .rintro i x Z H' hx ⟨as,x2,x3,x4,x5,rfl,hm,st⟩
  have hi:i<N.ps.length:=by rw[←lus]; exact(Uf.mp hx).1
  let#[x',hx',hAt]:=hps.get (i:=i) (d:=.str N.ps[i]) (by rw[ir,No hi]; rfl);rw[hx]at hx';cases hx';let#[rfl,_]:=hAt;intro q hq;have las:as.length<=i:=by have:=congrArg l7 hm; rw[FM,mM]at this; omega
  have nq:d≠q:=λe=>by rw[←e,st.top]at hq; cases hq
  have las2:(as.map λx=>((.inr x.1:Key),V.ref x.2)).length=as.length:=FM ..;refine#[_,rfl,_,rfl,d,_,rfl,DPut.k (k:=.inr N.ps[i]) (by rw[Ah nq]; exact st.top)^by lk,?_];refine#[as++[(N.ps[i],q)],_,_,_,_,rfl,?_,st.more hq ?_ rfl]
  .rw[jP,hm,List.take_succ,No hi]; rfl
  .rw[hm]; exact Ss (Od ok.rise) hi
 .rintro Z H' ⟨as,x2,x3,x4,x5,rfl,hm,st⟩
  rw[lus,o6]at hm;refine#[_,rfl,an,_,1,_,rfl,rfl,SqN _ st.old,rfl,at_,rfl,#[_,SqW _ st.old],?_];refine Ug (xs:=ws) (λi Z H'=>∃(x2 x3 x4 x5:w_ V),Z=[P3^.ref an,P3^.ref d,x2,x3,x4,x5]/\Stp H d as (λp=>(ED (N.ts.take i) p).map kv) H') #[_,_,_,_,rfl,st] (λi Z H' hi #[x2,x3,x4,x5,e,st]=>SqW _ st.old) ?_ ?_
  .rintro i x Z H' hx ⟨x2,x3,x4,x5,rfl,st⟩
   have hi:i<N.ts.length:=by rw[←lws]; exact(Uf.mp hx).1
   let#[x',hx',hAt]:=hts.get (i:=i) (d:=AS N.ts[i]) (by rw[ir,No hi]; rfl);rw[hx]at hx';cases hx';have hmem:N.ts[i]∈N.ts:=jv hi;have hsnoc:N.ts.take (i+1)=N.ts.take i++[N.ts[i]]:=by rw[List.take_succ,No hi]; rfl
   have hpre:(N.ts.take (i+1)).Pairwise Bm:=ok.trise.sublist^oV _ _;have hlt2:∀s∈N.ts.take (i+1),cs s.a<cs s.b:=λs hs=>(ok.tin s^List.mem_of_mem_take hs).2.2.1;rw[hsnoc]at hpre hlt2;have new:=YJ hpre hlt2;have ltk:(N.ts.take i).length<=1000:=by rw[mM]; omega
   generalize N.ts[i]=t at hAt hmem hsnoc new;generalize N.ts.take i=ts at hsnoc new st ltk;let#[m1,m2,m3,_]:=ok.tin t hmem;have hab:t.a≠t.b:=λe=>by rw[e]at m3; exact k8 _ m3
   let#[ta,tb,tl]:=t;let#[tt,us3,rfl,htt,hit]:=hAt;let#[va,r3,rfl,#[rfl,_],vb,r4,rfl,#[rfl,_],vl,r5,rfl,rfl,e5]:=hit;cases(show r5=[]from e5);rw[←hm]at m1 m2;let#[#[xa,pa],ha,ea]:=Sc.mp m1;let#[#[xb,pb],hb,eb]:=Sc.mp m2;have ea':ta=xa:=ea.symm;have eb':tb=xb:=eb.symm;subst ea' eb';clear ea eb;replace hab:ta≠tb:=hab;replace new:tb∉(ED ts ta).map (·.1)/\ta∉(ED ts tb).map (·.1):=new;have ga:=DGet.k (k:=.inr ta) st.top;rw[KU st.nms ha]at ga;have l1:=UQ ts ta;refine#[tt,_,rfl,SqT.of^st.old _ _ htt,rfl,_,_,rfl,_,_,rfl,_,_,rfl,rfl,?_];refine#[_,rfl,_,rfl,_,rfl,d,_,rfl,ga,_,rfl,pa,_,rfl,DPut.k (k:=.inr tb) (st.inn _ ha).2.2 (by show((ED ts ta).map kv).length<sizeLine; rw[FM]; omega),?_];have st1:=st.put (tb2:=λp=>(ED ts p++if ta=p then [(tb,tl)]else []).map kv) ha (kvs:=putK ((ED ts ta).map kv) (.inr tb)^.int tl) (by rw[UE new.1,if_pos rfl]) (λq hq=>by rw[if_neg^jy hq,jE]);have gb:=DGet.k (k:=.inr tb) st1.top;rw[KU st1.nms hb]at gb;have l2:=UQ ts tb;have ib:=(st1.inn _ hb).2.2;simp only[if_neg hab,jE]at ib;refine#[_,rfl,_,rfl,_,rfl,d,_,rfl,gb,_,rfl,pb,_,rfl,DPut.k (k:=.inr ta) ib (by rw[FM]; omega),?_];refine#[_,_,_,_,rfl,st1.put hb ?_ λq hq=>?_]
   .show(ED (N.ts.take (i+1)) tb).map kv=_
    rw[hsnoc,Qx,UE new.2];show((ED ts tb++((if ta=tb then [(tb,tl)]else [])++if tb=tb then [(ta,tl)]else [])).map kv)=_;rw[if_neg hab,if_pos rfl]; rfl
   .show(ED (N.ts.take (i+1)) q).map kv=_
    rw[hsnoc,Qx];show((ED ts q++((if ta=q then [(tb,tl)]else [])++if tb=q then [(ta,tl)]else [])).map kv)=_;rw[if_neg^jy hq,jE]
  .rintro Z H' ⟨x2,x3,x4,x5,rfl,st⟩
   rw[lws,o6]at st
   have old:∀(f:Ch->Obj) b o,H b=P3 o->HB H' (as.map (·.2)) f b=P3 o:=λf b o e=>by
    rw[En λhm=>by let#[x,hx,e2]:=Sc.mp hm; have:=(st.inn x hx).1; rw[e2,e]at this; cases this];exact st.old b o e
   refine#[_,rfl,(as.map fun(x:Str×Ch)=>x.2),λb hb=>?_,λf=>q (.ref d) (HB H' (as.map fun(x:Str×Ch)=>x.2) f) (E4 N) n (λb o e=>#[o,old f b o e,λ_=>rfl,λ_ _=>rfl]) (λg hg=>?_) (show At K M (HB H' (as.map fun(x:Str×Ch)=>x.2) f) (E4 N)^.ref d from st.at_ dom hm f) p]
   .let#[x,hx,rfl]:=Sc.mp hb
    exact#[_,(st.inn x hx).2.2]
   .let#[a,r,cells,hf,hcf,hc,rest]:=fd0 g hg
    exact#[a,r,cells,old f _ _ hf,hcf,#[hc.1,old f _ _ hc.2],rest]
def Fq:TK P w K mg base:=A.got A.h_steps_of λ_ F _ _=>iY F
omit A in
def ZI:Ae ["net","ties"] ["net","ties"]^AR Ww:=by walk_at "s"
def Ox:dA P w K mg base:=A.got A.h_only λT F m b=>C1 F ZI (λa=>(AJ^AZ^Ao^AB (Aa AO Am (dv 0) AF)^AB (BD Ax Bk rfl T.Gab kP (AN (Ag CB DY rfl T.Gad ku (AN (D5 1) AV)) AV)) AM)) VH
omit A in
def Oa:Ae ["net","thing"] ["net","thing"]^AR Jh:=by walk_at "s"
def Ho:Ri P w K mg base:=A.got A.h_is_tie_of λT F m b=>have d:=Jo A; C1 F Oa (λa=>(AJ^AZ^DP (C_ (Lh a) FW (dv 1) (Aa AO Am (dv 0) AF)^by with_unfolding_all rfl)^Dr^cg a d^AA (AI^Aa AO Am (dv 1) AF) AL)) Oj
omit A in
def SH:Ae ["net","thing"] ["net","thing"]^AR Nd:=by walk_at "s"
def Sm:WI P w K mg base:=A.got A.h_is_thin λT F m b=>have c:=Hq A; have d:=Ho A; have e:=CM A; C1 F SH (λa=>(AG (Aw (DTW.dt^Bg (BC^A2^cg a e^AA (AI AF)^AA (AI^dv 1) AL)^Bt^BC^A2 (Bu kit_tuple (Aa AO Am (dv 1) AF) rfl T.Gaa rfl T.Gab (by decide +kernel))) (AJ^AZ Bs) Al)
 (AJ^AZ^DP (C_ (bz a) fh (Aa AO Am (dv 1) AF) (Aa AO Am (dv 0) AF)^Ak _)^DP (Ag (Ct rfl) Ib rfl T.Gaf kC (AN (Jy [("net":Str),("tie":Str)] [P3 0,s_] (BI^Aa AO Am (dv 1) AF) (AU (i:=1) (show jC [("net":Str),("tie":Str)] by decide +kernel) rfl (TM rfl)) BV (cg a d^AA (AI^dv 0)^AA (AI^dv 1) AL)^by kernel_rfl) AV))^Dr^cg a c^AA (AI^Aa AO Am (dv 1) AF) AL))) SV
omit A in
def QQ:Ae ["net","tie"] ["net","tie"]^AR LL:=by walk_at "s"
def Jp:TU P w K mg base:=A.got A.h_ahead_of λT F m b=>have d:=Ox A; have c:=Li A; C1 F QQ (λa=>(AJ^AZ^cg a d^AA (AI^dv 0)^AA (EI^Jy [("tie":Str),("other":Str)] [P3 1,s_] (BI^Aa AO Am (dv 0) AF) (AU (i:=1) (show jC [("tie":Str),("other":Str)] by decide +kernel) rfl (TM rfl)) (DC^Ai (Fo a) J4 (cg a c^AA (AI^dv 1) AL) (cg a c^AA (AI^dv 0) AL)^Ak _) (dv 1)^by kernel_rfl) AL)) Sa
omit A in
def SF:Ae ["net","ties"] ["net","ties"]^AR Nb:=by walk_at "s"
def Di:WG P w K mg base:=A.got A.h_without λT F m b=>have d:=Ox A; C1 F SF (λc=>(AJ^AZ^cg c d^AA (AI^dv 0)^AA (EI^Jy [("ties":Str),("tie":Str)] [P3 1,s_] (BI^Aa AO Am (dv 0) AF) (AU (i:=1) (show jC [("ties":Str),("tie":Str)] by decide +kernel) rfl (TM rfl)) (DC^Ai (C5 c) FW (dv 1) (dv 0)^by with_unfolding_all rfl) (dv 1)^by kernel_rfl) AL)) Oe
omit A in
def p_:Ae ["net","thing","steps","length","here","there"] ["net","thing"]^AR Jf:=by walk_at "s"
def Hl:Rg P w K mg base:=A.got A.h_length_of λT F m b=>have c:=Fq A; C1 F p_ (λa=>(AG (Aw (DTW.dt^Bg (BC^A2 (Bu kit_tuple (dv 1) rfl T.Gaa rfl T.Gab (by decide +kernel)))^Bt^Ai EB IZ (Ag A0 B4 rfl T.Gac PySem.boot_len (AN (dv 1) AV)) AF^Ak _) (AJ^AZ A3) Al)
 (AG (Aw (BC^A2 (Ag (Ct rfl) Ib rfl T.Gaf kC (AN (Jy [("place":Str)] [s_] (BI^dv 1) (AU (i:=0) (show jC [("place":Str)] by decide +kernel) rfl (TM rfl)) BV (Bu O6 (dv 0) rfl T.Gaa rfl T.Gao (by decide +kernel))^by kernel_rfl) AV))) (AJ^AZ A3) Al)
 (AG (Ar (i:=2) p_.nd rfl (TM rfl) (cg a c^AA (AI^dv 0) AL))
 (AG (Aw (Ai (Dd a) GD (Aa AO Am (dv 1) AF) (dv 2)^by with_unfolding_all rfl) (AJ^AZ A3) Al)
 (AG (Ar (i:=3) p_.nd rfl (TM rfl) AF)
 (AG (Bb i7 rfl (PL rfl T.Gah (AB (dv 1)^AB (ME SD MT (dv 1) (FE AF) FF) AM)) (B0 rfl (Aj (AU (i:=4) p_.nd rfl (TM rfl))^Aj (AU (i:=5) p_.nd rfl (TM rfl)) BX)) (AG (Aw (Ai (Dd a) GD (dv 5) (CA a (dv 2)^dv 4)^by with_unfolding_all rfl) (AJ^AZ A3) Al)
 (AJ (Z0 (i:=3) p_.nd rfl (TM rfl) (CA a (CA a (dv 2)^dv 4)^dv 5)))))
 (AJ^AZ^dv 3)))))))) Og
omit A in
def qB:Ae ["net","a","b","thing","length"] ["net","a","b","thing"]^AR Eb:=by walk_at "s"
def Hm:JO P w K mg base:=A.got A.h_length_between λT F m b=>have a:=Hl A; C1 F qB (λc=>(AG (Ar (i:=4) qB.nd rfl (TM rfl) (cg c a^AA (AI^dv 0)^AA (AI^dv 3) AL))
 (AG (Aw (DTW.dt^Bg (Ai EN G3 (dv 4) A3^Ak _)^Bg (Ai EA IY (Aa AO Am (dv 3) AF) (dv 1)^Ak _)^Bt^Ai EA IY (Aa AO Am (dv 3)^YW AF) (dv 2)^Ak _) (AJ^AZ A3) Al)
 (AJ^AZ^dv 4)))) Ga
omit A in
def qD:Ae ["net","way","steps"] ["net","way"]^AR Jd:=by walk_at "s"
def E8:Rc P w K mg base:=A.got A.h_ties_over λT F m b=>have c:=Fq A; C1 F qD (λa=>(AG (Ar (i:=2) qD.nd rfl (kG rfl) (cg a c^AA (AI^dv 0) AL))
 (AJ^AZ^Jy [("steps":Str),("here":Str),("there":Str)] [P3 2,s_,s_] (Ur rfl T.Gah (AN (dv 1)^AN (ME SD MT (dv 1) (FE AF) FF) AV)) (B0 rfl (Aj (AU (i:=1) (show jC [("steps":Str),("here":Str),("there":Str)] by decide +kernel) rfl (TM rfl))^Aj (AU (i:=2) (show jC [("steps":Str),("here":Str),("there":Str)] by decide +kernel) rfl (TM rfl)) BX)) BV (Ao^AB (Ag (JJ rfl) TF rfl T.Gag pD (AN (dv 1)^AN (dv 2) AV))^AB (Ag (JK rfl) TJ rfl T.Gam boot_max (AN (dv 1)^AN (dv 2) AV))^AB (CA a (CA a (dv 0)^dv 1)^dv 2) AM)^by kernel_rfl))) LU
omit A in
def Mn:Ae ["waiting","found"] ["waiting","found"]^AR HM:=by walk_at "s"
def M5:Pe P w K mg base:=A.got A.h_nearest_of λT F m b=>C1 F Mn (λa=>(AJ^AZ^Aa AO Am (Ag (V8 a) c8 rfl T.Gag pD (AN (Jy [("found":Str),("place":Str)] [P3 1,s_] (BI^D5 0) (AU (i:=1) (show jC [("found":Str),("place":Str)] by decide +kernel) rfl (TM rfl)) BV (Ao^AB (Aa AO Am (CA a (D5 0)^dv 1) AF)^AB (dv 1) AM)^by kernel_rfl) AV)) AF)) Mu
omit A in
def qE:Ae ["net","start","steps","found","waiting","place","other","step","length"] ["net","start"]^AR HN:=by walk_at "s"
def Gu:Pf P w K mg base:=A.got A.h_least_ways λT F m b=>have e:=M5 A; have g:=Fq A; C1 F qE (λc=>(AG (Ar (i:=2) qE.nd rfl (TM rfl) (cg c g^AA (AI^dv 0) AL))
 (AG (Bn (i:=3) qE.nd rfl (TM rfl) (RL (dv 1)^Ao^AB AF^AB A3 AM))
 (AG (Bn (i:=4) qE.nd rfl (TM rfl) (A6^AB (dv 1) AM))
 (AG (IF i7 (ce^D5 4) (AG (Ar (i:=5) qE.nd rfl (TM rfl) (cg c e^AA (EI^D5 4)^AA (EI^D5 3) AL))
 (AG (DK 4 PySem.F.plainAttrs_list PySem.F.slot_list_remove PySem.F.type_list_remove (Ve c) fb (pv 4)^AB (dv 5) AM)
 (AJ (Bb i7 rfl (YT^CA c (dv 2)^dv 5) (B0 rfl (Aj (AU (i:=6) qE.nd rfl (TM rfl))^Aj (AU (i:=7) qE.nd rfl (TM rfl)) BX)) (AG (Ar (i:=8) qE.nd rfl (TM rfl) (A7 Bp CJ (Aa AO Am (CA c (D5 3)^dv 5) AF)^dv 7))
 (AJ (Aw (Ai (Dd c) GD (dv 6) (D5 3)^by with_unfolding_all rfl) (AG (DK 4 PySem.F.plainAttrs_list PySem.F.slot_list_append PySem.F.type_list_append Bc Ew (pv 4)^AB (dv 6) AM)
 (AJ^PJ (i:=3) c (pv 3) (dv 6)^Ao^AB (dv 8)^AB (dv 5) AM))^AJ^Aw (Ai (Fo c) J4 (dv 8) (Aa AO Am (CA c (D5 3)^dv 6) AF)^Ak _) (AJ^PJ (i:=3) c (pv 3) (dv 6)^Ao^AB (dv 8)^AB (dv 5) AM) Al))))))))
 (AJ^Kl 3^pv 3)))))) Mw
omit A in
def qG:Ae ["net","a","b","found","way","place"] ["net","a","b"]^AR QS:=by walk_at "s"
def Nl:Yw P w K mg base:=A.got A.h_way_of λT F m b=>have c:=Gu A; C1 F qG (λa=>(AG (Ar (i:=3) qG.nd rfl (TM rfl) (cg a c^AA (AI^dv 0)^AA (AI^dv 1) AL))
 (AG (Aw (Ai (Dd a) GD (dv 2) (dv 3)^by with_unfolding_all rfl) (AJ^AZ A3) Al)
 (AG (Bn (i:=4) qG.nd rfl (TM rfl) (A6 AM))
 (AG (Ar (i:=5) qG.nd rfl (TM rfl) (dv 2))
 (AG (IF i7 (Ai DV FI (dv 5) A3^Ak _) (AG (DK 4 PySem.F.plainAttrs_list PySem.F.slot_list_append PySem.F.type_list_append Bc Ew (pv 4)^AB (dv 5) AM)
 (AJ (Ar (i:=5) qG.nd rfl (TM rfl) (Aa AO Am (CA a (dv 3)^dv 5) AF)))))
 (AJ^AZ (V1 rfl (D5 4) rfl T.Gab rfl T.Gan)))))))) VG
omit A in
def Mo:Ae ["net","thing"] ["net","thing"]^AR HP:=by walk_at "s"
def M6:Pg P w K mg base:=A.got A.h_are_prices λT F m b=>have c:=CM A; have d:=Jo A; C1 F Mo (λa=>(AJ^AZ^DP (cg a c^AA (AI (Ag A0 B4 rfl T.Gac PySem.boot_len (AN (Aa AO Am (dv 0) AF) AV)))^AA (AI^dv 1) AL)^Dr (Ag (Ct rfl) Ib rfl T.Gaf kC (AN (Jy [("price":Str)] [s_] (BI^dv 1) (AU (i:=0) (show jC [("price":Str)] by decide +kernel) rfl (TM rfl)) BV (DP (cg a d^AA (AI^dv 0) AL)^Dr^C_ Xg aq (dv 0) AF^Ak _)^by kernel_rfl) AV)))) La
omit A in
def OY:Ae ["net","prices","a","b"] ["net","prices","a","b"]^AR Je:=by walk_at "s"
def Hk:Rf P w K mg base:=A.got A.h_price_gap λT F m b=>C1 F OY (λa=>(AJ^AZ (Ag MN Yv rfl T.Gak boot_abs (AN (A7 B9 Ce (Aa AO Am (dv 1)^JI a (Aa AO Am (dv 0) AF)^AN (dv 2) AV)^Aa AO Am (dv 1)^JI a (Aa AO Am (dv 0) AF)^AN (dv 3) AV) AV)))) Mt
omit A in
def SI:Ae ["net","thing"] ["net","thing"]^AR Nf:=by walk_at "s"
def Sn:WJ P w K mg base:=A.got A.h_is_fair λT F m b=>have c:=M6 A; have d:=Hk A; C1 F SI (λa=>(AG (Aw (BC^A2^cg a c^AA (AI^dv 0)^AA (AI^dv 1) AL) (AJ^AZ Bs) Al)
 (AJ^AZ (Ag (Ct rfl) Ib rfl T.Gaf kC (AN (Jy [("net":Str),("thing":Str),("a":Str),("b":Str),("length":Str)] [P3 0,P3 1,s_,s_,s_] (BI^Aa AO Am (dv 0) AF) (B0 rfl (Aj (AU (i:=2) (show jC [("net":Str),("thing":Str),("a":Str),("b":Str),("length":Str)] by decide +kernel) rfl (TM rfl))^Aj (AU (i:=3) (show jC [("net":Str),("thing":Str),("a":Str),("b":Str),("length":Str)] by decide +kernel) rfl (TM rfl))^Aj (AU (i:=4) (show jC [("net":Str),("thing":Str),("a":Str),("b":Str),("length":Str)] by decide +kernel) rfl (TM rfl)) BX)) BV (C_ Sj Yr (cg a d^AA (AI^dv 0)^AA (AI^dv 1)^AA (AI^dv 2)^AA (AI^dv 3) AL) (dv 4)^Ak _)^by kernel_rfl) AV))))) QZ
omit A in
def qK:Ae ["net","place","most","found"] ["net","place","most"]^AR Gk:=by walk_at "s"
def Lj:NH P w K mg base:=A.got A.h_prices_from λT F m b=>have d:=Gu A; C1 F qK (λc=>(AG (Ar (i:=3) qK.nd rfl (kG rfl) (cg c d^AA (AI^dv 0)^AA (AI^dv 1) AL))
 (AJ^AZ (BD Ax Bk rfl T.Gab kP (AN (Jy [("most":Str),("found":Str),("other":Str)] [P3 2,P3 3,s_] (BI^Aa AO Am (dv 0) AF) (AU (i:=2) (show jC [("most":Str),("found":Str),("other":Str)] by decide +kernel) rfl (TM rfl)) BV (F2 (Ai (Sk c) Yu (dv 2) (dv 1)^by with_unfolding_all rfl) (Ag (OB rfl) Yq rfl T.Gag pD (AN (dv 0)^AN (Aa AO Am (CA c (dv 1)^dv 2) AF) AV))^dv 0)^by kernel_rfl) AV))))) KA
omit A in
def OZ:Ae ["length","times","number"] ["length","times","number"]^AR Jg:=by walk_at "s"
def E9:Rh P w K mg base:=A.got A.h_is_within λT F m b=>C1 F OZ (λa=>(AJ^AZ^C_ Sj Yr (A7 DB ET (dv 0)^Aa AO Am (dv 1) AF) (A7 DB ET (dv 2)^Aa AO Am (dv 1) AF)^Ak _)) Oi
omit A in
def J_:Ae ["times","number"] ["times","number"]^AR Fd:=by walk_at "s"
def KH:MW P w K mg base:=A.got A.h_least_beyond λT F m b=>C1 F J_ (λa=>(AJ^AZ^A7 Bp CJ (A7 Hi EU (A7 DB ET (dv 1)^Aa AO Am (dv 0) AF)^Aa AO Am (dv 0) AF) AF)) Qd
omit A in
def qL:Ae ["net","times","tie","way"] ["net","times","tie"]^AR LI:=by walk_at "s"
def Qo:TQ P w K mg base:=A.got A.h_near_way λT F m b=>have c:=E9 A; have d:=Hl A; have e:=Nl A; C1 F qL (λa=>(AG (Ar (i:=3) qL.nd rfl (TM rfl) (cg a e^AA (AI^dv 0)^AA (AI^Aa AO Am (dv 2) AF)^AA (AI^Aa AO Am (dv 2) AF) AL))
 (AG (Aw (DTW.dt^Bg (Ai EN G3 (dv 3) A3^Ak _)^Bt^BC^A2^cg a c^AA (AI^cg a d^AA (AI^dv 0)^AA (AI^dv 3) AL)^AA (AI^dv 1)^AA (AI^Aa AO Am (dv 2) AF) AL) (AJ^AZ A3) Al)
 (AJ^AZ^dv 3)))) Mv
omit A in
def qO:Ae ["net","times","tie","many","way","step","broken"] ["net","times","tie","many"]^AR Jj:=by walk_at "s"
def Hr:Rk P w K mg base:=A.got A.h_broken_of λT F m b=>have c:=Qo A; have d:=E8 A; have g:=Di A; Nz 3 F qO m b (λk j a=>(AG (Ar (i:=4) qO.nd rfl (TM rfl) (BJ c (a.mono^by lk) rfl (AA (AI^dv 0)^AA (AI^dv 1)^AA (AI^dv 2) AL)))
 (AG (Aw (Ai EN G3 (dv 4) A3^Ak _) (AJ^AZ^DE.sh^A6 AM) Al)
 (AG (Aw (Ai EB IZ (dv 3) AF^Ak _) (AJ^AZ A3) Al)
 (AG (Bb i7 rfl (CT (BJ d (a.mono^by lk) rfl (AA (AI^dv 0)^AA (AI^dv 4) AL))) (AU (i:=5) qO.nd rfl (TM rfl)) (AG (Ar (i:=6) qO.nd rfl (TM rfl) (BJ j (a.mono^Rs _) rfl (AA (AI (BJ g (a.mono^by lk) rfl (AA (AI^dv 0)^AA (AI^A6^AB (dv 5) AM) AL)))^AA (AI^dv 1)^AA (AI^dv 2)^AA (AI^A7 B9 Ce (dv 3) AF) AL)))
 (AJ^Aw (Ai DV FI (dv 6) A3^Ak _) (AJ^AZ^A7 Bp CJ (A6^AB (dv 5) AM)^dv 6) Al)))
 (AJ^AZ A3)))))) Qa (λ_ _ _ _ h=>by let#[_,_,_,_,_,e,_]:=h; rw[e]; rfl) (by cbv) 2
omit A in
def qT:Ae ["net","times","many","kept","tie"] ["net","times","many"]^AR Ea:=by walk_at "s"
def Hj:JN P w K mg base:=A.got A.h_steady_thinned λT F m b=>have d:=Hr A; have c:=Ox A; have e:=Fs A; C1 F qT (λa=>(AG (Bn (i:=3) qT.nd rfl (TM rfl) (A6 AM))
 (AG (Bb i7 rfl (CT^cg a e^AA (AI^Aa AO Am (dv 0) AF) AL) (AU (i:=4) qT.nd rfl (TM rfl)) (AJ^Aw (Ai DV FI (cg a d^AA (AI^cg a c^AA (AI^dv 0)^AA (EI^D5 3) AL)^AA (AI^dv 1)^AA (AI^dv 4)^AA (AI^dv 2) AL) A3^Ak _) (AJ^DK 3 PySem.F.plainAttrs_list PySem.F.slot_list_append PySem.F.type_list_append Bc Ew (pv 3)^AB (dv 4) AM) Al))
 (AJ^AZ^cg a c^AA (AI^dv 0)^AA (EI^D5 3) AL)))) QV
omit A in
def qV:Ae ["net","tie","many","way","bushes"] ["net","tie","many"]^AR Nh:=by walk_at "s"
def Sr:WL P w K mg base:=A.got A.h_bush_of λT F m b=>have c:=E8 A; have d:=Nl A; have g:=Di A; Nz 2 F qV m b (λk j a=>(AG (Ar (i:=3) qV.nd rfl (TM rfl) (BJ d (a.mono^by lk) rfl (AA (AI^dv 0)^AA (AI^Aa AO Am (dv 1) AF)^AA (AI^Aa AO Am (dv 1) AF) AL)))
 (AG (Aw (Ai EB IZ (dv 2) AF^Ak _) (AJ^AZ^Ao^AB (dv 3)^AB (Ao AM) AM) Al)
 (AG (Kk (i:=4) qV.nd rfl (TM rfl) rfl [("tie":Str),("net":Str),("many":Str),("step":Str)] [P3 1,P3 0,P3 2,s_] (BI (BJ c (a.mono^by lk) rfl (AA (AI^dv 0)^AA (AI^dv 3) AL))) (λ_ _ _ _ _=>(AU (i:=3) (show jC [("tie":Str),("net":Str),("many":Str),("step":Str)] by decide +kernel) rfl (TM rfl))) (λ_ _ _ _ _=>BV) (λ_ _ _ _ _=>(BJ j (a.mono^Rs _) rfl (AA (AI (BJ g (a.mono^by lk) rfl (AA (AI^dv 1)^AA (AI^A6^AB (dv 3) AM) AL)))^AA (AI^dv 0)^AA (AI^A7 B9 Ce (dv 2) AF) AL))) (by kernel_rfl))
 (AJ^AZ^Ao^AB (dv 3)^AB (BD Ax Bk rfl T.Gab kP (AN (dv 4) AV)) AM))))) VM (λ_ _ _ _ h=>by let#[_,_,_,_,_,e,_]:=h; rw[e]; rfl) (by cbv) 2
omit A in
def qX:Ae ["ahead","times","tie","many","broken","prices"] ["ahead","times","tie","many"]^AR Ef:=by walk_at "s"
def Hv:JR P w K mg base:=A.got A.h_breaking_entry λT F m b=>have c:=Hr A; have d:=Sr A; have e:=KH A; have g:=Lj A; have j:=Di A; C1 F qX (λa=>(AG (Ar (i:=4) qX.nd rfl (TM rfl) (cg a c^AA (AI^dv 0)^AA (AI^dv 1)^AA (AI^dv 2)^AA (AI^dv 3) AL))
 (AG (Aw (Ai EN G3 (dv 4) A3^Ak _) (AJ^AZ^Ao^AB Ay^AB (cg a d^AA (AI^dv 0)^AA (AI^dv 2)^AA (AI^dv 3) AL) AM) Al)
 (AG (Ar (i:=5) qX.nd rfl (TM rfl) (cg a g^AA (AI^cg a j^AA (AI^dv 0)^AA (AI^dv 4) AL)^AA (AI^Aa AO Am (dv 2) AF)^AA (AI^cg a e^AA (AI^dv 1)^AA (AI^Aa AO Am (dv 2) AF) AL) AL))
 (AJ^AZ^Ao^AB Ay^AB (BD Ax Bk rfl T.Gab kP (AN (Ag CB DY rfl T.Gad ku (AN (dv 4) AV)) AV))^AB (dv 5) AM))))) SW
omit A in
def qa:Ae ["net","times","many","thin"] ["net","times","many"]^AR Ec:=by walk_at "s"
def Hs:JP P w K mg base:=A.got A.h_breaking_paper λT F m b=>have c:=Jp A; have d:=Hv A; have e:=Fs A; have g:=Hj A; C1 F qa (λa=>(AG (Ar (i:=3) qa.nd rfl (kG rfl) (cg a g^AA (AI^dv 0)^AA (AI^dv 1)^AA (AI^dv 2) AL))
 (AJ^AZ (BD Ax Bk rfl T.Gab kP (AN (Jy [("times":Str),("many":Str),("thin":Str),("tie":Str)] [P3 1,P3 2,P3 3,s_] (BI^cg a e^AA (AI^Aa AO Am (dv 0) AF) AL) (AU (i:=3) (show jC [("times":Str),("many":Str),("thin":Str),("tie":Str)] by decide +kernel) rfl (TM rfl)) BV (cg a d^AA (AI^cg a c^AA (AI^dv 2)^AA (AI^dv 3) AL)^AA (AI^dv 0)^AA (AI^dv 3)^AA (AI^dv 1) AL)^by kernel_rfl) AV))))) SO
omit A in
def qf:Ae ["net","times","tie","thing","length"] ["net","times","tie","thing"]^AR Jc:=by walk_at "s"
def Ow:Rb P w K mg base:=A.got A.h_way_fault λT F m b=>have c:=E9 A; have d:=Hm A; C1 F qf (λa=>(AG (Ar (i:=4) qf.nd rfl (TM rfl) (cg a d^AA (AI^dv 0)^AA (AI^Aa AO Am (dv 2) AF)^AA (AI^Aa AO Am (dv 2) AF)^AA (AI^dv 3) AL))
 (AG (Aw (Ai EN G3 (dv 4) A3^Ak _) (AJ^AZ Ay) Al)
 (AJ^AZ^F2 (A2^cg a c^AA (AI^dv 4)^AA (AI^dv 1)^AA (AI^Aa AO Am (dv 2) AF) AL) A3 Ay)))) LS
omit A in
def J9:Ae ["net","times","tie","thing"] ["net","times","tie","thing"]^AR Fc:=by walk_at "s"
def KG:MV P w K mg base:=A.got A.h_prices_fault λT F m b=>have c:=Sn A; have d:=E9 A; have e:=Hk A; C1 F J9 (λa=>(AG (Aw (BC^A2^cg a c^AA (AI^dv 0)^AA (AI^dv 3) AL) (AJ^AZ Ay) Al)
 (AJ^AZ^F2 (A2^cg a d^AA (AI^cg a e^AA (AI^dv 0)^AA (AI^dv 3)^AA (AI^Aa AO Am (dv 2) AF)^AA (AI^Aa AO Am (dv 2) AF) AL)^AA (AI^dv 1)^AA (AI^Aa AO Am (dv 2) AF) AL) Ay A3))) QW
omit A in
def Mq:Ae ["ahead","many","thing"] ["ahead","many","thing"]^AR HQ:=by walk_at "s"
def M7:Ph P w K mg base:=A.got A.h_are_broken λT F m b=>have c:=Hq A; have d:=Ho A; C1 F Mq (λa=>(AG (Aw (DTW.dt^Bg (BC^A2 (Bu kit_tuple (dv 2) rfl T.Gaa rfl T.Gab (by decide +kernel)))^Bt^Ai Fp J5 (Ag A0 B4 rfl T.Gac PySem.boot_len (AN (dv 2) AV)) (dv 1)^Ak _) (AJ^AZ Bs) Al)
 (AJ^AZ^DP (Ag (Ct rfl) Ib rfl T.Gaf kC (AN (Jy [("ahead":Str),("tie":Str)] [P3 0,s_] (BI^dv 2) (AU (i:=1) (show jC [("ahead":Str),("tie":Str)] by decide +kernel) rfl (TM rfl)) BV (cg a d^AA (AI^dv 0)^AA (AI^dv 1) AL)^by kernel_rfl) AV))^Dr^cg a c^AA (AI^dv 2) AL))) LZ
omit A in
def QN:Ae ["ahead","times","tie","many","entry"] ["ahead","times","tie","many","entry"]^AR LG:=by walk_at "s"
def Qn:TL P w K mg base:=A.got A.h_shows_in λT F m b=>have c:=M7 A; have d:=KG A; have e:=Di A; C1 F QN (λa=>(AJ^AZ^DP (cg a c^AA (AI^dv 0)^AA (AI^dv 3)^AA (AI^Aa AO Am (dv 4) AF) AL)^Dr^C_ EN G3 (cg a d^AA (AI^cg a e^AA (AI^dv 0)^AA (AI^Aa AO Am (dv 4) AF) AL)^AA (AI^dv 1)^AA (AI^dv 2)^AA (AI^Aa AO Am (dv 4) AF) AL) A3^Ak _)) Wz
omit A in
def qk:Ae ["net","times","tie","many","thing","steps","step","bush"] ["net","times","tie","many","thing"]^AR Ng:=by walk_at "s"
def Sq:WK P w K mg base:=A.got A.h_is_bush λT F m b=>have c:=CM A; have d:=E8 A; have g:=Ow A; have j:=Di A; Nz 3 F qk m b (λl k a=>(AG (Aw (DTW.dt^Bg (BC^A2 (BJ c (a.mono^by lk) rfl (AA (AI AF)^AA (AI^dv 4) AL)))^Bt^Ai DV FI (BJ g (a.mono^by lk) rfl (AA (AI^dv 0)^AA (AI^dv 1)^AA (AI^dv 2)^AA (AI^Aa AO Am (dv 4) AF) AL)) A3^Ak _) (AJ^AZ Bs) Al)
 (AG (Ar (i:=5) qk.nd rfl (TM rfl) (F2 (Ai Fp J5 (dv 3) AF^Ak _) (DE.sh (BJ d (a.mono^by lk) rfl (AA (AI^dv 0)^AA (AI^Aa AO Am (dv 4) AF) AL)))^DE.sh^A6 AM))
 (AG (Aw (BC^A2 (BJ c (a.mono^by lk) rfl (AA (AI (Ag A0 B4 rfl T.Gac PySem.boot_len (AN (dv 5) AV)))^AA (AI^Aa AO Am (dv 4) AF) AL))) (AJ^AZ Bs) Al)
 (AG (Bb i7 rfl (PL rfl T.Gah (AB (dv 5)^AB (Aa AO Am (dv 4) AF) AM)) (B0 rfl (Aj (AU (i:=6) qk.nd rfl (TM rfl))^Aj (AU (i:=7) qk.nd rfl (TM rfl)) BX)) (AJ^Aw (BC^A2 (BJ k (a.mono^Rs _) rfl (AA (AI (BJ j (a.mono^by lk) rfl (AA (AI^dv 0)^AA (AI^A6^AB (dv 6) AM) AL)))^AA (AI^dv 1)^AA (AI^dv 2)^AA (AI^A7 B9 Ce (dv 3) AF)^AA (AI^dv 7) AL))) (AJ^AZ Bs) Al))
 (AJ^AZ Bs)))))) QY (λ_ _ _ _ h=>by let#[_,_,_,_,_,_,e,_]:=h; rw[e]; rfl) (by cbv) 2
omit A in
def qo:Ae ["thin","times","tie","many","entry","ahead"] ["thin","times","tie","many","entry"]^AR Ee:=by walk_at "s"
def Hu:JQ P w K mg base:=A.got A.h_breaking_fault λT F m b=>have g:=Jp A; have j:=Sq A; have e:=CM A; have k:=Qn A; C1 F qo (λc=>(AG (Ar (i:=5) qo.nd rfl (TM rfl) (cg c g^AA (AI^dv 0)^AA (AI^dv 2) AL))
 (AG (Aw (Ai (Lh c) FW (dv 2) (Aa AO Am (dv 0) AF)^by with_unfolding_all rfl) (AG (Aw (DTW.dt^Bg (BC^A2^cg c e^AA (AI AF)^AA (AI^dv 4) AL)^Bt^Ai EA IY (Aa AO Am (dv 4) AF) Ay^Ak _) (AJ^AZ Ay) Al)
 (AJ^AZ^F2 (A2^cg c k^AA (AI^dv 5)^AA (AI^dv 1)^AA (AI^dv 2)^AA (AI^dv 3)^AA (AI^dv 4) AL) A3 Ay)) Al)
 (AG (Aw (DTW.dt^Bg (BC^A2^cg c e^AA (AI AF)^AA (AI^dv 4) AL)^Bt^Ai EA IY (Aa AO Am (dv 4) AF) Ay^Ak _) (AJ^AZ Ay) Al)
 (AJ^AZ^F2 (A2^cg c j^AA (AI^dv 5)^AA (AI^dv 1)^AA (AI^dv 2)^AA (AI^dv 3)^AA (AI^Aa AO Am (dv 4) AF) AL) A3 Ay))))) Qc
omit A in
def qr:Ae ["net","times","many","thin","paper","number","tie","fault"] ["net","times","many","thin","paper"]^AR FK:=by walk_at "s"
def I_:KR P w K mg base:=A.got A.h_lets_breaking λT F m b=>have c:=Hu A; have d:=Sm A; have e:=CM A; have g:=Fs A; C1 F qr (λa=>(AG (Aw (DTW.dt^Bg (BC^A2^cg a d^AA (AI^dv 0)^AA (AI^dv 3) AL)^Bt^BC^A2^cg a e^AA (AI (Ag A0 B4 rfl T.Gac PySem.boot_len (AN (Aa AO Am (dv 0) AF) AV)))^AA (AI^dv 4) AL) (AJ RI) Al)
 (AG (Bb i7 rfl (Z1 rfl T.Gaj (cg a g^AA (AI^Aa AO Am (dv 0) AF) AL)) (B0 rfl (Aj (AU (i:=5) qr.nd rfl (TM rfl))^Aj (AU (i:=6) qr.nd rfl (TM rfl)) BX)) (AG (Ar (i:=7) qr.nd rfl (TM rfl) (cg a c^AA (AI^dv 3)^AA (AI^dv 1)^AA (AI^dv 6)^AA (AI^dv 2)^AA (AI^Aa AO Am (dv 4)^dv 5) AL))
 (AJ^Aw (Ai DV FI (dv 7) A3^Ak _) (AJ RI) Al)))
 (AJ^AZ Bs)))) VL
def Bv:Rl P w K mg base:=A.got A.h__law_next λT F _ _=>ZY F T.Gac
omit A in
def qv:Ae ["_law_feed_here","_law_many","_law_some","_law_first"] ["_law_feed_here","_law_many"]^AR HV:=by walk_at "s"
def ER:Pm P w K mg base:=A.got A.h__law_names λT F m b=>have a:=Bv A; C1 F qv (λd=>(AG (Ar (i:=2) qv.nd rfl (kG rfl) (A6^AB Ay^AB Ay^AB Ay^AB Ay^AB Ay^AB Ay^AB Ay^AB Ay^AB Ay^AB Ay^AB Ay^AB Ay AM))
 (AG (Ar (i:=2) qv.nd rfl (kG rfl) (A7 Bp CJ (dv 2)^A6^AB Ay^AB Ay^AB Ay^AB Ay^AB Ay^AB Ay^AB Ay^AB Ay^AB Ay^AB Ay^AB Ay^AB Ay AM))
 (AG (Ar (i:=3) qv.nd rfl (kG rfl) (cg d a^AA (Bh 0)^AA (AI AF) AL))
 (AJ^AZ (BD Ax Bk rfl T.Gab kP (AN (Ag MM U2 rfl T.Gad ku (AN (Jy [("_law_some":Str),("_law_first":Str),("_law_k":Str)] [P3 2,P3 3,s_] (DI.c (Ci rfl T.Gae (AN (dv 1) AV))) (AU (i:=2) (show jC [("_law_some":Str),("_law_first":Str),("_law_k":Str)] by decide +kernel) rfl (TM rfl)) BV (Aa AO Am (dv 0)^A7 Fn EU (A7 Bp CJ (dv 1)^dv 2) AF)^by kernel_rfl) AV)) AV))))))) LX
omit A in
def LF:Ae ["_law_feed_here","_law_way_here"] ["_law_feed_here","_law_way_here"]^AR Gr:=by walk_at "s"
def Lm:NM P w K mg base:=A.got A.h__law_length λT F m b=>have c:=Bv A; C1 F LF (λa=>(AG (Aw (Ai (Fo a) J4 (dv 1) AF^Ak _) (AJ^AZ^A7 Bp CJ AF^cg a c^AA (Bh 0)^AA (AI^Aa AO Am (A6^AB AF^AB AF^AB AF AM)^dv 1) AL) Al)
 (AG (Aw (Ai EB IZ (dv 1) AF^Ak _) (AJ^AZ^A7 Bp CJ AF^cg a c^AA (Bh 0)^AA (AI AF) AL) Al)
 (AJ^AZ^A7 B9 Ce (A7 G8 EU AF AF)^cg a c^AA (Bh 0)^AA (AI AF) AL)))) KD
omit A in
def qz:Ae ["_law_feed_here","_law_most","_law_ties","_law_places","_law_free","_law_a","_law_way_here","_law_many","_law_found","_law_k","_law_b"] ["_law_feed_here","_law_most","_law_ties"]^AR LN:=by walk_at "s"
def Qq:TX P w K mg base:=A.got A.h__law_net λT F m b=>have q_:=Lm A; have d:=ER A; have c:=Bv A; C1 F qz (λa=>(AG (Ar (i:=3) qz.nd rfl (TM rfl) (cg a d^AA (Bh 0)^AA (AI^A7 Bp CJ AF^cg a c^AA (Bh 0)^AA (AI^A7 B9 Ce (dv 1) AF) AL) AL))
 (AG (Bn (i:=4) qz.nd rfl (TM rfl) (A6 AM))
 (AG (Bb i7 rfl (CT^dv 3) (AU (i:=5) qz.nd rfl (kG rfl)) (AJ^DK 4 PySem.F.plainAttrs_list PySem.F.slot_list_extend PySem.F.type_list_extend JA Yt (pv 4)^AB (Jy [("_law_a":Str),("_law_b":Str)] [P3 5,s_] (BI^dv 3) (AU (i:=1) (show jC [("_law_a":Str),("_law_b":Str)] by decide +kernel) rfl (TM rfl)) (DC^Ai (Fo a) J4 (dv 0) (dv 1)^Ak _) (Ao^AB (dv 0)^AB (dv 1) AM)^by kernel_rfl) AM))
 (AG (Ar (i:=6) qz.nd rfl (TM rfl) (cg a c^AA (Bh 0)^AA (AI AF) AL))
 (AG (Ar (i:=7) qz.nd rfl (TM rfl) (A7 B9 Ce (dv 2)^cg a c^AA (Bh 0)^AA (AI^A7 Bp CJ (A7 Hi EU (dv 2) AF) AF) AL))
 (AG (Aw (Ai EB IZ (cg a c^AA (Bh 0)^AA (AI AF) AL) AF^Ak _) (AJ (Ar (i:=7) qz.nd rfl (TM rfl) (cg a c^AA (Bh 0)^AA (AI AF) AL))) Al)
 (AG (Bn (i:=8) qz.nd rfl (TM rfl) (A6 AM))
 (AG (Bb i7 rfl (Ci rfl T.Gae (AN (Ag (OB rfl) Yq rfl T.Gag pD (AN (dv 7)^AN (Ag A0 B4 rfl T.Gac PySem.boot_len (AN (D5 4) AV)) AV)) AV)) (AU (i:=9) qz.nd rfl (TM rfl)) (AG (Zy (i:=4) (pv 4) (cg a c^AA (Bh 0)^AA (AI (Ag A0 B4 rfl T.Gac PySem.boot_len (AN (D5 4) AV))) AL) (B0 rfl (Aj (AU (i:=5) qz.nd rfl (kG rfl))^Aj (AU (i:=10) qz.nd rfl (TM rfl)) BX)))
 (AJ^DK 8 PySem.F.plainAttrs_list PySem.F.slot_list_append PySem.F.type_list_append Bc Ew (pv 8)^AB (Ao^AB (dv 5)^AB (dv 10)^AB (cg a q_^AA (Bh 0)^AA (AI^dv 6) AL) AM) AM)))
 (AJ^AZ^Ao^AB (dv 3)^AB (BD Ax Bk rfl T.Gab kP (AN (Ag CB DY rfl T.Gad ku (AN (D5 8) AV)) AV)) AM)))))))))) Oh
omit A in
def rB:Ae ["_law_ties","_law_some"] ["_law_ties"]^AR HU:=by walk_at "s"
def EQ:Pl P w K mg base:=A.got A.h__law_order λT F m b=>C1 F rB (λa=>(AG (Ar (i:=1) rB.nd rfl (TM rfl) (Ag CB DY rfl T.Gad ku (AN (Jy [("_law_tie":Str)] [s_] (BI^dv 0) (AU (i:=0) (show jC [("_law_tie":Str)] by decide +kernel) rfl (TM rfl)) BV (Ao^AB (Aa AO Am (dv 0) AF)^AB (Aa AO Am (dv 0) AF)^AB (Aa AO Am (dv 0) AF) AM)^by kernel_rfl) AV)))
 (AJ^AZ^Jy [("_law_length_here":Str),("_law_a":Str),("_law_b":Str)] [s_,s_,s_] (BI^dv 1) (B0 rfl (Aj (AU (i:=0) (show jC [("_law_length_here":Str),("_law_a":Str),("_law_b":Str)] by decide +kernel) rfl (TM rfl))^Aj (AU (i:=1) (show jC [("_law_length_here":Str),("_law_a":Str),("_law_b":Str)] by decide +kernel) rfl (TM rfl))^Aj (AU (i:=2) (show jC [("_law_length_here":Str),("_law_a":Str),("_law_b":Str)] by decide +kernel) rfl (TM rfl)) BX)) BV (Ao^AB (dv 1)^AB (dv 2)^AB (dv 0) AM)^by kernel_rfl))) LW
omit A in
def rC:Ae ["_law_ties","_law_place","_law_known","_law_grew","_law_a","_law_b","_law_length_here","_law_one","_law_other"] ["_law_ties","_law_place"]^AR Fe:=by walk_at "s"
def DN:MX P w K mg base:=A.got A.h__law_lengths λT F m b=>C1 F rC (λc=>(AG (Bn (i:=2) rC.nd rfl (TM rfl) (RL (dv 1) AF))
 (AG (Ar (i:=3) rC.nd rfl (TM rfl) Bs)
 (AG (IF i7 (A2^dv 3) (AG (Ar (i:=3) rC.nd rfl (TM rfl) Bs)
 (AJ (Uq i7 rfl (pv 0) (B0 rfl (Aj (AU (i:=4) rC.nd rfl (TM rfl))^Aj (AU (i:=5) rC.nd rfl (TM rfl))^Aj (AU (i:=6) rC.nd rfl (TM rfl)) BX)) (AJ (Bb i7 rfl (CT^A6^AB (Ao^AB (dv 4)^AB (dv 5) AM)^AB (Ao^AB (dv 5)^AB (dv 4) AM) AM) (B0 rfl (Aj (AU (i:=7) rC.nd rfl (TM rfl))^Aj (AU (i:=8) rC.nd rfl (TM rfl)) BX)) (AJ (Aw (DTW.dt^MB (Ai (Sk c) Yu (dv 7) (D5 2)^by with_unfolding_all rfl)^Kj^Ai (Fo c) J4 (A7 Bp CJ (CA c (D5 2)^dv 7)^dv 6) (Uv c (D5 2) (dv 8)^A7 G8 EU AF AF)^Ak _) (AG (PJ (i:=2) c (pv 2) (dv 8)^A7 Bp CJ (CA c (D5 2)^dv 7)^dv 6)
 (AJ (Ar (i:=3) rC.nd rfl (TM rfl) Bs))) Al))))))))
 (AJ^Kl 2^pv 2))))) Iw
omit A in
def rD:Ae ["_law_feed_here","_law_some"] ["_law_feed_here"]^AR HS:=by walk_at "s"
def M8:Pk P w K mg base:=A.got A.h__law_times λT F m b=>have a:=Bv A; C1 F rD (λc=>(AG (Ar (i:=1) rD.nd rfl (TM rfl) (A6^AB (Ao^AB AF^AB AF AM)^AB (Ao^AB AF^AB AF AM)^AB (Ao^AB AF^AB AF AM)^AB (Ao^AB AF^AB AF AM)^AB (Ao^AB AF^AB AF AM)^AB (Ao^AB AF^AB AF AM)^AB (Ao^AB (A7 G8 EU AF AF)^AB AF AM)^AB (Ao^AB AF^AB AF AM)^AB (Ao^AB AF^AB AF AM) AM))
 (AJ^AZ^Aa AO Am (dv 1)^cg c a^AA (Bh 0)^AA (AI AF) AL))) LV
omit A in
def LD:Ae ["_law_length_here","_law_times_here","_law_number"] ["_law_length_here","_law_times_here","_law_number"]^AR Gn:=by walk_at "s"
def Dk:NJ P w K mg base:=A.got A.h__law_within λT F m b=>C1 F LD (λa=>(AJ^AZ^C_ Sj Yr (A7 DB ET (dv 0)^Aa AO Am (dv 1) AF) (A7 DB ET (dv 2)^Aa AO Am (dv 1) AF)^Ak _)) KC
omit A in
def Mr:Ae ["_law_thing"] ["_law_thing"]^AR HR:=by walk_at "s"
def EO:Pj P w K mg base:=A.got A.h__law_whole (λT F m b=>C1 F Mr (λa=>(AJ^AZ^DP (Bu UX (dv 0) rfl T.Gaa rfl T.Gal (by decide +kernel))^Dr^S4 (Bu Q6 (dv 0) rfl T.Gaa rfl T.Gap (by decide +kernel)))) Jl) (λ_ _ _ h=>Nj h)
omit A in
def rE:Ae ["_law_net_here","_law_thing","_law_tie"] ["_law_net_here","_law_thing"]^AR Fg:=by walk_at "s"
def KI:MY P w K mg base:=A.got A.h__law_is_thin λT F m b=>have d:=EO A; C1 F rE (λa=>(AG (Aw (DTW.dt^Bg (BC^A2 (Bu kit_tuple (dv 1) rfl T.Gaa rfl T.Gab (by decide +kernel)))^Bg (Ai (G9 a) MU (Ag A0 B4 rfl T.Gac PySem.boot_len (AN (dv 1) AV)) AF^Ak _)^Bg (Ai (G9 a) MU (Aa AO Am (dv 1) AF) (Aa AO Am (dv 0) AF)^Ak _)^Bt^BC^A2 (Bu kit_tuple (Aa AO Am (dv 1) AF) rfl T.Gaa rfl T.Gab (by decide +kernel))) (AJ^AZ Bs) Al)
 (AG (Bb i7 rfl (CT^Aa AO Am (dv 1) AF) (AU (i:=2) rE.nd rfl (TM rfl)) (AJ^Aw (DTW.dt^Bg (BC^A2 (Bu kit_tuple (dv 2) rfl T.Gaa rfl T.Gab (by decide +kernel)))^Bg (Ai (G9 a) MU (Ag A0 B4 rfl T.Gac PySem.boot_len (AN (dv 2) AV)) AF^Ak _)^Bg (BC^A2^cg a d^AA (AI^Aa AO Am (dv 2) AF) AL)^Bt^Ai (C5 a) FW (dv 2) (Aa AO Am (dv 0) AF)^by with_unfolding_all rfl) (AJ^AZ Bs) Al))
 (AJ^AZ (Ag (Ct rfl) Ib rfl T.Gaf kC (AN (Jy [("_law_thing":Str),("_law_k":Str)] [P3 1,s_] (DI.c (Ci rfl T.Gae (AN (A7 B9 Ce (Ag A0 B4 rfl T.Gac PySem.boot_len (AN (Aa AO Am (dv 1) AF) AV)) AF) AV))) (AU (i:=1) (show jC [("_law_thing":Str),("_law_k":Str)] by decide +kernel) rfl (TM rfl)) BV (C_ (Fo a) J4 (Aa AO Am (Aa AO Am (dv 0) AF)^dv 1) (Aa AO Am (Aa AO Am (dv 0) AF)^A7 Bp CJ (dv 1) AF)^Ak _)^by kernel_rfl) AV)))))) Iy
omit A in
def rG:Ae ["_law_places","_law_ties","_law_thing","_law_a","_law_b","_law_lengths_here","_law_one","_law_other","_law_length_here","_law_along"] ["_law_places","_law_ties","_law_thing","_law_a","_law_b"]^AR LP:=by walk_at "s"
def Qs:TZ P w K mg base:=A.got A.h__law_led λT F m b=>C1 F rG (λc=>(AG (Aw (DTW.dt^Bg (BC^A2 (Bu kit_tuple (dv 2) rfl T.Gaa rfl T.Gab (by decide +kernel)))^Bt^Ai EB IZ (Ag A0 B4 rfl T.Gac PySem.boot_len (AN (dv 2) AV)) AF^Ak _) (AJ^AZ A3) Al)
 (AG (Aw (DTW.dt^Bg (BC^A2 (Ag (Ct rfl) Ib rfl T.Gaf kC (AN (Jy [("_law_places":Str),("_law_one":Str)] [P3 0,s_] (BI^dv 2) (AU (i:=1) (show jC [("_law_places":Str),("_law_one":Str)] by decide +kernel) rfl (TM rfl)) BV (DP (Bu O6 (dv 1) rfl T.Gaa rfl T.Gao (by decide +kernel))^Dr^C_ (Lh c) FW (dv 1) (dv 0)^by with_unfolding_all rfl)^by kernel_rfl) AV)))^Bg (Ai EA IY (Aa AO Am (dv 2) AF) (dv 3)^Ak _)^Bt^Ai EA IY (Aa AO Am (dv 2)^YW AF) (dv 4)^Ak _) (AJ^AZ A3) Al)
 (AG (Bn (i:=5) rG.nd rfl (TM rfl) YY)
 (AG (Bb i7 rfl (CT^dv 1) (B0 rfl (Aj (AU (i:=6) rG.nd rfl (TM rfl))^Aj (AU (i:=7) rG.nd rfl (TM rfl))^Aj (AU (i:=8) rG.nd rfl (TM rfl)) BX)) (AG (Uo (i:=5) c (pv 5) (Ao^AB (dv 6)^AB (dv 7) AM)^dv 8)
 (AJ^Uo (i:=5) c (pv 5) (Ao^AB (dv 7)^AB (dv 6) AM)^dv 8)))
 (AG (Ar (i:=9) rG.nd rfl (TM rfl) AF)
 (AG (Bb i7 rfl (PL rfl T.Gah (AB (dv 2)^AB (ME SD MT (dv 2) (FE AF) FF) AM)) (B0 rfl (Aj (AU (i:=6) rG.nd rfl (TM rfl))^Aj (AU (i:=7) rG.nd rfl (TM rfl)) BX)) (AG (Aw (Ai (Dd c) Yo (Ao^AB (dv 6)^AB (dv 7) AM) (D5 5)^by with_unfolding_all rfl) (AJ^AZ A3) Al)
 (AJ (Ar (i:=9) rG.nd rfl (TM rfl) (A7 Bp CJ (dv 9)^Z3 c (D5 5)^Ao^AB (dv 6)^AB (dv 7) AM)))))
 (AJ^AZ^dv 9)))))))) W5
omit A in
def rH:Ae ["_law_places","_law_ties","_law_thing","_law_a","_law_b","_law_length_here"] ["_law_places","_law_ties","_law_thing"]^AR Fh:=by walk_at "s"
def KJ:MZ P w K mg base:=A.got A.h__law_is_fair λT F m b=>have c:=EO A; C1 F rH (λa=>(AG (Aw (DTW.dt^Bg (BC^A2 (Bu kit_tuple (dv 2) rfl T.Gaa rfl T.Gab (by decide +kernel)))^Bt^Ai EA IY (Ag A0 B4 rfl T.Gac PySem.boot_len (AN (dv 2) AV)) (Ag A0 B4 rfl T.Gac PySem.boot_len (AN (dv 0) AV))^Ak _) (AJ^AZ Bs) Al)
 (AG (Aw (BC^A2 (Ag (Ct rfl) Ib rfl T.Gaf kC (AN (Jy [("_law_one":Str)] [s_] (BI^dv 2) (AU (i:=0) (show jC [("_law_one":Str)] by decide +kernel) rfl (TM rfl)) BV (DP (cg a c^AA (AI^dv 0) AL)^Dr^C_ Xg aq (dv 0) AF^Ak _)^by kernel_rfl) AV))) (AJ^AZ Bs) Al)
 (AG (Bb i7 rfl (CT^dv 1) (B0 rfl (Aj (AU (i:=3) rH.nd rfl (TM rfl))^Aj (AU (i:=4) rH.nd rfl (TM rfl))^Aj (AU (i:=5) rH.nd rfl (TM rfl)) BX)) (AJ^Aw (Ai Fp J5 (Ag MN Yv rfl T.Gak boot_abs (AN (A7 B9 Ce (Aa AO Am (dv 2)^JI a (dv 0)^AN (dv 3) AV)^Aa AO Am (dv 2)^JI a (dv 0)^AN (dv 4) AV) AV)) (dv 5)^Ak _) (AJ^AZ Bs) Al))
 (AJ^AZ Bs))))) SR
omit A in
def QR:Ae ["_law_places","_law_prices_here","_law_a","_law_b"] ["_law_places","_law_prices_here","_law_a","_law_b"]^AR LQ:=by walk_at "s"
def Qt:Ta P w K mg base:=A.got A.h__law_gap λT F m b=>C1 F QR (λa=>(AJ^AZ (Ag MN Yv rfl T.Gak boot_abs (AN (A7 B9 Ce (Aa AO Am (dv 1)^JI a (dv 0)^AN (dv 2) AV)^Aa AO Am (dv 1)^JI a (dv 0)^AN (dv 3) AV) AV)))) VJ
omit A in
def rJ:Ae ["_law_ties","_law_a","_law_b","_law_known","_law_way_here","_law_one","_law_other","_law_length_here","_law_near"] ["_law_ties","_law_a","_law_b"]^AR LM:=by walk_at "s"
def Qp:TV P w K mg base:=A.got A.h__law_way λT F m b=>have d:=DN A; C1 F rJ (λc=>(AG (Ar (i:=3) rJ.nd rfl (TM rfl) (cg c d^AA (EI^D5 0)^AA (AI^dv 1) AL))
 (AG (Aw (Ai (Dd c) GD (dv 2) (dv 3)^by with_unfolding_all rfl) (AJ^AZ A3) Al)
 (AG (Bn (i:=4) rJ.nd rfl (TM rfl) (A6^AB (dv 2) AM))
 (AG (IF i7 (Ai EA IY (Aa AO Am (D5 4) AF) (dv 1)^Ak _) (AJ (Uq i7 rfl (pv 0) (B0 rfl (Aj (AU (i:=5) rJ.nd rfl (TM rfl))^Aj (AU (i:=6) rJ.nd rfl (TM rfl))^Aj (AU (i:=7) rJ.nd rfl (TM rfl)) BX)) (AG (Ar (i:=8) rJ.nd rfl (TM rfl) (F2 (Ai EB IZ (dv 5) (Aa AO Am (D5 4) AF)^Ak _) (dv 6)^F2 (Ai EB IZ (dv 6) (Aa AO Am (D5 4) AF)^Ak _) (dv 5) A3))
 (AJ (Aw (DTW.dt^MB (Ai DV FI (dv 8) A3^Ak _)^MB (Ai (Sk c) Yu (dv 8) (dv 3)^by with_unfolding_all rfl)^Kj^Ai EB IZ (A7 Bp CJ (CA c (dv 3)^dv 8)^dv 7) (CA c (dv 3)^Aa AO Am (D5 4) AF)^Ak _) (AG (DK 4 PySem.F.plainAttrs_list PySem.F.slot_list_insert PySem.F.type_list_insert Vf fg (pv 4)^AB AF^AB (dv 8) AM)
 (AJ YO)) Al))))))
 (AJ^AZ (BD Ax Bk rfl T.Gab kP (AN (D5 4) AV)))))))) VI
omit A in
def rL:Ae ["_law_ties","_law_many","_law_found","_law_k"] ["_law_ties","_law_many"]^AR Gs:=by walk_at "s"
def Ln:NN P w K mg base:=A.got A.h__law_breaks λT F m b=>C1 F rL (λa=>(AG (Bn (i:=2) rL.nd rfl (TM rfl) (A6^AB (A6 AM) AM))
 (AG (Aw (Ai Fp J5 (dv 1) AF^Ak _) (AJ (Bn (i:=2) rL.nd rfl (TM rfl) (A7 UO OJ (D5 2)^Jy [("_law_tie":Str)] [s_] (BI^D5 0) (AU (i:=0) (show jC [("_law_tie":Str)] by decide +kernel) rfl (TM rfl)) BV (A6^AB (dv 0) AM)^by kernel_rfl))) Al)
 (AG (Aw (Ai Fp J5 (dv 1) AF^Ak _) (AJ (Bb i7 rfl (Ci rfl T.Gae (AN (Ag A0 B4 rfl T.Gac PySem.boot_len (AN (D5 0) AV)) AV)) (AU (i:=3) rL.nd rfl (kG rfl)) (AJ^DK 2 PySem.F.plainAttrs_list PySem.F.slot_list_extend PySem.F.type_list_extend JA Yt (pv 2)^AB (Jy [("_law_ties":Str),("_law_k":Str),("_law_j":Str)] [P3 0,P3 3,s_] (DI.c (Ci rfl T.Gae (AN (dv 3) AV))) (AU (i:=2) (show jC [("_law_ties":Str),("_law_k":Str),("_law_j":Str)] by decide +kernel) rfl (TM rfl)) BV (A6^AB (Aa AO Am (D5 0)^dv 1)^AB (Aa AO Am (D5 0)^dv 2) AM)^by kernel_rfl) AM))) Al)
 (AJ^Kl 2^pv 2))))) Qb
omit A in
def rM:Ae ["_law_ties","_law_times_here","_law_tie","_law_many","_law_gone","_law_length_here"] ["_law_ties","_law_times_here","_law_tie","_law_many"]^AR FL:=by walk_at "s"
def Ej:KS P w K mg base:=A.got A.h__law_breaking λT F m b=>have d:=Ln A; have e:=DN A; have g:=Dk A; C1 F rM (λc=>(AG (Bb i7 rfl (CT^cg c d^AA (EI^D5 0)^AA (AI^dv 3) AL) (AU (i:=4) rM.nd rfl (kG rfl)) (AG (Ar (i:=5) rM.nd rfl (TM rfl) (Z5 c (cg c e^AA (EI^Jy [("_law_gone":Str),("_law_one":Str)] [P3 4,s_] (BI^D5 0) (AU (i:=1) (show jC [("_law_gone":Str),("_law_one":Str)] by decide +kernel) rfl (TM rfl)) (DC^Ai (C5 c) FW (dv 1) (dv 0)^by with_unfolding_all rfl) (dv 1)^by kernel_rfl)^AA (AI^Aa AO Am (dv 2) AF) AL)^Aa AO Am (dv 2) AF))
 (AJ^Aw (DTW.dt^Bg (Ai EN G3 (dv 5) A3^Ak _)^Bt^BC^A2^cg c g^AA (AI^dv 5)^AA (AI^dv 1)^AA (AI^Aa AO Am (dv 2) AF) AL) (AJ^AZ^dv 4) Al)))
 (AJ^AZ A3))) Mx
omit A in
def rP:Ae ["_law_net_here","_law_times_here","_law_many","_law_kept","_law_tie"] ["_law_net_here","_law_times_here","_law_many"]^AR Gp:=by walk_at "s"
def Lk:NK P w K mg base:=A.got A.h__law_steady λT F m b=>have c:=Ej A; have d:=EQ A; C1 F rP (λa=>(AG (Bn (i:=3) rP.nd rfl (TM rfl) (A6 AM))
 (AG (Bb i7 rfl (CT^cg a d^AA (AI^Aa AO Am (dv 0) AF) AL) (AU (i:=4) rP.nd rfl (TM rfl)) (AJ^Aw (Ai DV FI (cg a c^AA (EI^D5 3)^AA (AI^dv 1)^AA (AI^dv 4)^AA (AI^dv 2) AL) A3^Ak _) (AJ^DK 3 PySem.F.plainAttrs_list PySem.F.slot_list_append PySem.F.type_list_append Bc Ew (pv 3)^AB (dv 4) AM) Al))
 (AJ^AZ^Ao^AB (Aa AO Am (dv 0) AF)^AB (BD Ax Bk rfl T.Gab kP (AN (Ag CB DY rfl T.Gad ku (AN (D5 3) AV)) AV)) AM)))) Of
omit A in
def rS:Ae ["_law_ties","_law_way_here","_law_some","_law_one","_law_other"] ["_law_ties","_law_way_here"]^AR Eg:=by walk_at "s"
def EC:JS P w K mg base:=A.got A.h__law_step_ties λT F m b=>C1 F rS (λa=>(AG (Bn (i:=2) rS.nd rfl (TM rfl) (A6 AM))
 (AG (Bb i7 rfl (PL rfl T.Gah (AB (dv 1)^AB (ME SD MT (dv 1) (FE AF) FF) AM)) (B0 rfl (Aj (AU (i:=3) rS.nd rfl (kG rfl))^Aj (AU (i:=4) rS.nd rfl (kG rfl)) BX)) (AJ^DK 2 PySem.F.plainAttrs_list PySem.F.slot_list_extend PySem.F.type_list_extend JA Yt (pv 2)^AB (Jy [("_law_one":Str),("_law_other":Str),("_law_tie":Str)] [P3 3,P3 4,s_] (BI^dv 0) (AU (i:=2) (show jC [("_law_one":Str),("_law_other":Str),("_law_tie":Str)] by decide +kernel) rfl (TM rfl)) (DC^DTW.dt^MB (Ai EB IZ (Aa AO Am (dv 2) AF) (Ag (JJ rfl) TF rfl T.Gag pD (AN (dv 0)^AN (dv 1) AV))^Ak _)^Kj^Ai EB IZ (Aa AO Am (dv 2) AF) (Ag (JK rfl) TJ rfl T.Gam boot_max (AN (dv 0)^AN (dv 1) AV))^Ak _) (dv 2)^by kernel_rfl) AM))
 (AJ^Kl 2^pv 2)))) SM
omit A in
def rT:Ae ["_law_net_here","_law_times_here","_law_many","_law_ties","_law_tie","_law_thing","_law_length_here","_law_steps","_law_k"] ["_law_net_here","_law_times_here","_law_many","_law_ties","_law_tie","_law_thing"]^AR Fi:=by walk_at "s"
def KL:Ma P w K mg base:=A.got A.h__law_is_bush λT F m b=>have c:=Qs A; have d:=EC A; have g:=Dk A; Nz 1 F rT m b (λk j a=>(AG (Aw (DTW.dt^Bg (BC^A2 (Bu kit_tuple (dv 5) rfl T.Gaa rfl T.Gab (by decide +kernel)))^Bg (Ai EA IY (Ag A0 B4 rfl T.Gac PySem.boot_len (AN (dv 5) AV)) AF^Ak _)^Bt^BC^A2 (Bu kit_tuple (Aa AO Am (dv 5) AF) rfl T.Gaa rfl T.Gab (by decide +kernel))) (AJ^AZ Bs) Al)
 (AG (Ar (i:=6) rT.nd rfl (TM rfl) (BJ c (a.mono^by lk) rfl (AA (AI^Aa AO Am (dv 0) AF)^AA (AI^dv 3)^AA (AI^Aa AO Am (dv 5) AF)^AA (AI^Aa AO Am (dv 4) AF)^AA (AI^Aa AO Am (dv 4) AF) AL)))
 (AG (Aw (DTW.dt^Bg (Ai EN G3 (dv 6) A3^Ak _)^Bt^BC^A2 (BJ g (a.mono^by lk) rfl (AA (AI^dv 6)^AA (AI^dv 1)^AA (AI^Aa AO Am (dv 4) AF) AL))) (AJ^AZ Bs) Al)
 (AG (Ar (i:=7) rT.nd rfl (kG rfl) (F2 (Ai Fp J5 (dv 2) AF^Ak _) (DE.sh (BJ d (a.mono^by lk) rfl (AA (AI^dv 3)^AA (AI^Aa AO Am (dv 5) AF) AL)))^DE.sh^A6 AM))
 (AG (Aw (Ai EA IY (Ag A0 B4 rfl T.Gac PySem.boot_len (AN (Aa AO Am (dv 5) AF) AV)) (Ag A0 B4 rfl T.Gac PySem.boot_len (AN (dv 7) AV))^Ak _) (AJ^AZ Bs) Al)
 (AG (Bb i7 rfl (Ci rfl T.Gae (AN (Ag A0 B4 rfl T.Gac PySem.boot_len (AN (dv 7) AV)) AV)) (AU (i:=8) rT.nd rfl (kG rfl)) (AJ^Aw (BC^A2 (BJ j (a.mono^Rs _) rfl (AA (AI^dv 0)^AA (AI^dv 1)^AA (AI^A7 B9 Ce (dv 2) AF)^AA (AI (PN rfl [("_law_steps":Str),("_law_k":Str),("_law_one":Str)] [P3 7,P3 8,s_] (BI^dv 3) (λ_ _ _ _ _=>(AU (i:=2) (show jC [("_law_steps":Str),("_law_k":Str),("_law_one":Str)] by decide +kernel) rfl (TM rfl))) (λ_ _ _ _ _=>(DC^Ai (G9 a) MU (dv 2) (Aa AO Am (dv 0)^dv 1)^Ak _)) (λ_ _ _ _ _=>(dv 2)) (by kernel_rfl)))^AA (AI^dv 4)^AA (AI^Aa AO Am (Aa AO Am (dv 5) AF)^dv 8) AL))) (AJ^AZ Bs) Al))
 (AJ^AZ Bs)))))))) SS (λ_ _ _ _ h=>by let#[_,_,_,_,_,_,_,_,e,_]:=h; rw[e]; rfl) (by cbv) 2
omit A in
def rY:Ae ["_law_net_here","_law_times_here","_law_many","_law_ties","_law_tie","_law_broken","_law_prices_here","_law_one"] ["_law_net_here","_law_times_here","_law_many","_law_ties","_law_tie","_law_broken","_law_prices_here"]^AR HW:=by walk_at "s"
def M9:Pn P w K mg base:=A.got A.h__law_is_in λT F m b=>have d:=Qt A; have e:=KJ A; have g:=EO A; have j:=Dk A; C1 F rY (λc=>(AG (Aw (DTW.dt^Bg (BC^A2 (Bu kit_tuple (dv 5) rfl T.Gaa rfl T.Gab (by decide +kernel)))^Bt^Ai Fp J5 (Ag A0 B4 rfl T.Gac PySem.boot_len (AN (dv 5) AV)) (dv 2)^Ak _) (AJ^AZ Bs) Al)
 (AG (Bb i7 rfl (CT^dv 5) (AU (i:=7) rY.nd rfl (TM rfl)) (AJ^Aw (DTW.dt^Bg (BC^A2 (Bu kit_tuple (dv 7) rfl T.Gaa rfl T.Gab (by decide +kernel)))^Bg (Ai EA IY (Ag A0 B4 rfl T.Gac PySem.boot_len (AN (dv 7) AV)) AF^Ak _)^Bg (BC^A2^cg c g^AA (AI^Aa AO Am (dv 7) AF) AL)^Bt^Ai (C5 c) FW (dv 7) (dv 3)^by with_unfolding_all rfl) (AJ^AZ Bs) Al))
 (AG (Aw (DTW.dt^Bg (Ai (G9 c) MU (BD DX Pa rfl T.Gai boot_list (AN (dv 5) AV)) (Ag CB DY rfl T.Gad ku (AN (dv 5) AV))^Ak _)^Bt^Ai (G9 c) MU (S5 rfl c (dv 5) rfl T.Gac rfl T.Gaq) (Ag A0 B4 rfl T.Gac PySem.boot_len (AN (dv 5) AV))^Ak _) (AJ^AZ Bs) Al)
 (AG (Aw (BC^A2^cg c e^AA (AI^Aa AO Am (dv 0) AF)^AA (AI^Jy [("_law_broken":Str),("_law_one":Str)] [P3 5,s_] (BI^dv 3) (AU (i:=1) (show jC [("_law_broken":Str),("_law_one":Str)] by decide +kernel) rfl (TM rfl)) (DC^Ai (C5 c) FW (dv 1) (dv 0)^by with_unfolding_all rfl) (dv 1)^by kernel_rfl)^AA (AI^dv 6) AL) (AJ^AZ Bs) Al)
 (AJ^AZ^S4^cg c j^AA (AI^cg c d^AA (AI^Aa AO Am (dv 0) AF)^AA (AI^dv 6)^AA (AI^Aa AO Am (dv 4) AF)^AA (AI^Aa AO Am (dv 4) AF) AL)^AA (AI^dv 1)^AA (AI^Aa AO Am (dv 4) AF) AL)))))) W3
omit A in
def rf:Ae ["_law_net_here","_law_times_here","_law_many","_law_thin","_law_paper","_law_order_here","_law_k","_law_tie","_law_thing","_law_ahead","_law_word","_law_size","_law_good"] ["_law_net_here","_law_times_here","_law_many","_law_thin","_law_paper"]^AR LR:=by walk_at "s"
def Qu:Tb P w K mg base:=A.got A.h__law_due λT F m b=>have d:=KL A; have e:=M9 A; have g:=KI A; have j:=EQ A; C1 F rf (λc=>(AG (Aw (DTW.dt^Bg (BC^A2^cg c g^AA (AI^dv 0)^AA (AI^dv 3) AL)^Bg (BC^A2 (Bu kit_tuple (dv 4) rfl T.Gaa rfl T.Gab (by decide +kernel)))^Bt^Ai EA IY (Ag A0 B4 rfl T.Gac PySem.boot_len (AN (dv 4) AV)) (Ag A0 B4 rfl T.Gac PySem.boot_len (AN (Aa AO Am (dv 0) AF) AV))^Ak _) (AJ^AZ^Ao^AB Ay^AB AF AM) Al)
 (AG (Ar (i:=5) rf.nd rfl (TM rfl) (cg c j^AA (AI^Aa AO Am (dv 0) AF) AL))
 (AG (Bb i7 rfl (Ci rfl T.Gae (AN (Ag A0 B4 rfl T.Gac PySem.boot_len (AN (dv 5) AV)) AV)) (AU (i:=6) rf.nd rfl (TM rfl)) (AG (Ar (i:=7) rf.nd rfl (TM rfl) (Aa AO Am (dv 5)^dv 6))
 (AG (Ar (i:=8) rf.nd rfl (TM rfl) (Aa AO Am (dv 4)^dv 6))
 (AG (Kk (i:=9) rf.nd rfl (TM rfl) rfl [("_law_thin":Str),("_law_one":Str)] [P3 3,s_] (BI^ME SD MT (dv 5) FF^FE^dv 6) (λ_ _ _ _ _=>(AU (i:=1) (show jC [("_law_thin":Str),("_law_one":Str)] by decide +kernel) rfl (TM rfl))) (λ_ _ _ _ _=>(DC^Ai (Lh c) FW (dv 1) (Aa AO Am (dv 0) AF)^by with_unfolding_all rfl)) (λ_ _ _ _ _=>(dv 1)) (by kernel_rfl))
 (AG (YQ (Aa AO Am (A6^AB (Ao^AB Ay^AB AF AM)^AB (Ao^AB Ay^AB AF AM) AM) (BD V9 c9 rfl T.Gal boot_int (AN (C_ (Lh c) FW (dv 7) (Aa AO Am (dv 3) AF)^by with_unfolding_all rfl) AV))) (B0 rfl (Aj (AU (i:=10) rf.nd rfl (TM rfl))^Aj (AU (i:=11) rf.nd rfl (TM rfl)) BX)))
 (AG (Aw (DTW.dt^Bg (BC^A2 (Bu kit_tuple (dv 8) rfl T.Gaa rfl T.Gab (by decide +kernel)))^Bg (Ai EA IY (Ag A0 B4 rfl T.Gac PySem.boot_len (AN (dv 8) AV)) (dv 11)^Ak _)^Bg (BC^A2 (Bu O6 (Aa AO Am (dv 8) AF) rfl T.Gaa rfl T.Gao (by decide +kernel)))^Bt^Ai EA IY (Aa AO Am (dv 8) AF) (dv 10)^Ak _) (AJ^AZ^Ao^AB Ay^AB (dv 6) AM) Al)
 (AG (Aw (Ai EB IZ (dv 10) Ay^Ak _) (AJ (Ar (i:=12) rf.nd rfl (TM rfl) (cg c e^AA (AI^dv 0)^AA (AI^dv 1)^AA (AI^dv 2)^AA (AI^dv 9)^AA (AI^dv 7)^AA (AI^Aa AO Am (dv 8) AF)^AA (AI^Aa AO Am (dv 8) AF) AL)))^AJ (Ar (i:=12) rf.nd rfl (TM rfl) (cg c d^AA (AI^dv 0)^AA (AI^dv 1)^AA (AI^dv 2)^AA (AI^dv 9)^AA (AI^dv 7)^AA (AI^Aa AO Am (dv 8) AF) AL)))
 (AJ^Aw (BC^A2^dv 12) (AJ^AZ^Ao^AB (dv 10)^AB (dv 6) AM) Al))))))))
 (AJ^AZ A3))))) W6
omit A in
def rj:Ae ["_law_net_here","_law_times_here","_law_many","_law_thin","_law_paper","_law_found"] ["_law_net_here","_law_times_here","_law_many","_law_thin","_law_paper"]^AR LO:=by walk_at "s"
def Qr:TY P w K mg base:=A.got A.h__law_let λT F m b=>have a:=I_ A; C1 F rj (λc=>(AG (Ar (i:=5) rj.nd rfl (TM rfl) Ay)
 (AG (Zw (λ_ _ h=>h)^AJ (Ar (i:=5) rj.nd rfl (TM rfl) (F2 (Ai bx fe (cg c a^AA (AI^dv 0)^AA (AI^dv 1)^AA (AI^dv 2)^AA (AI^dv 3)^AA (AI^dv 4) AL) Bs^Ak _) A3 Ay)))
 (AJ^AZ^dv 5)))) W4
omit A in
def rm:Ae ["_law_net_here","_law_ties","_law_a","_law_number","_law_known"] ["_law_net_here","_law_ties","_law_a","_law_number"]^AR Gq:=by walk_at "s"
def Ll:NL P w K mg base:=A.got A.h__law_prices λT F m b=>have c:=DN A; C1 F rm (λa=>(AG (Ar (i:=4) rm.nd rfl (kG rfl) (cg a c^AA (EI^D5 1)^AA (AI^dv 2) AL))
 (AJ^AZ (BD Ax Bk rfl T.Gab kP (AN (Jy [("_law_number":Str),("_law_known":Str),("_law_one":Str)] [P3 3,P3 4,s_] (BI^Aa AO Am (dv 0) AF) (AU (i:=2) (show jC [("_law_number":Str),("_law_known":Str),("_law_one":Str)] by decide +kernel) rfl (TM rfl)) BV (Uv a (dv 1) (dv 2)^dv 0)^by kernel_rfl) AV))))) W1
omit A in
def rn:Ae ["_law_ties","_law_tie","_law_many","_law_way_here","_law_bushes","_law_step"] ["_law_ties","_law_tie","_law_many"]^AR Jk:=by walk_at "s"
def Oz:Rm P w K mg base:=A.got A.h__law_bush λT F m b=>have c:=EC A; have d:=Qp A; Nz 1 F rn m b (λj g a=>(AG (Ar (i:=3) rn.nd rfl (TM rfl) (BJ d (a.mono^by lk) rfl (AA (EI^dv 0)^AA (AI^Aa AO Am (dv 1) AF)^AA (AI^Aa AO Am (dv 1) AF) AL)))
 (AG (Aw (Ai EN G3 (dv 3) A3^Ak _) (AJ^AZ A3) Al)
 (AG (Aw (Ai EB IZ (dv 2) AF^Ak _) (AJ^AZ^Ao^AB (dv 3)^AB (Ao AM) AM) Al)
 (AG (Bn (i:=4) rn.nd rfl (TM rfl) (A6 AM))
 (AG (Bb i7 rfl (CT (BJ c (a.mono^by lk) rfl (AA (AI^dv 0)^AA (AI^dv 3) AL))) (AU (i:=5) rn.nd rfl (kG rfl)) (AJ^DK 4 PySem.F.plainAttrs_list PySem.F.slot_list_append PySem.F.type_list_append Bc Ew (pv 4)^AB (BJ g (a.mono^Rs _) rfl (AA (AI (PN rfl [("_law_step":Str),("_law_one":Str)] [P3 5,s_] (BI^dv 0) (λ_ _ _ _ _=>(AU (i:=1) (show jC [("_law_step":Str),("_law_one":Str)] by decide +kernel) rfl (TM rfl))) (λ_ _ _ _ _=>(DC^Ai (G9 a) MU (dv 1) (dv 0)^Ak _)) (λ_ _ _ _ _=>(dv 1)) (by kernel_rfl)))^AA (AI^dv 1)^AA (AI^A7 B9 Ce (dv 2) AF) AL)) AM))
 (AJ^AZ^Ao^AB (dv 3)^AB (BD Ax Bk rfl T.Gab kP (AN (D5 4) AV)) AM))))))) SQ (λ_ _ _ _ h=>by let#[_,_,_,_,_,_,e,_]:=h; rw[e]; rfl) (by cbv) 2
omit A in
def r8:Ae ["_law_net_here","_law_times_here","_law_many","_law_thin","_law_which","_law_rows","_law_ahead","_law_order_here","_law_tie","_law_ties","_law_gone","_law_left"] ["_law_net_here","_law_times_here","_law_many","_law_thin","_law_which"]^AR Eh:=by walk_at "s"
def Hw:JT P w K mg base:=A.got A.h__law_own_paper λT F m b=>have k:=Ej A; have l:=Oz A; have n:=EQ A; have o:=Ll A; C1 F r8 (λd=>(AG (Bn (i:=5) r8.nd rfl (TM rfl) (A6 AM))
 (AG (Bn (i:=6) r8.nd rfl (TM rfl) (A6 AM))
 (AG (Ar (i:=7) r8.nd rfl (TM rfl) (cg d n^AA (AI^Aa AO Am (dv 0) AF) AL))
 (AG (Bb i7 rfl (CT^dv 7) (AU (i:=8) r8.nd rfl (TM rfl)) (AG (Aw (Ai (C5 d) FW (dv 8) (Aa AO Am (dv 3) AF)^by with_unfolding_all rfl) (cf 6 9 5 r8.nd rfl (TM rfl) (Aa AO Am (A6^AB (dv 6)^AB (BD DX Pa rfl T.Gai boot_list (AN (Aa AO Am (dv 3) AF) AV))^AB (ME SD MT (dv 7) FF^FE^fV PySem.F.plainAttrs_list PySem.F.slot_list_index PySem.F.type_list_index (b_ d) fc (dv 7)^AN (dv 8) AV) AM)^dv 4) (pv 5) (AB (Ao^AB Ay^AB (cg d l^AA (AI^dv 9)^AA (AI^dv 8)^AA (AI^dv 2) AL) AM) AM)
 (AJ Zz)) Al)
 (AG (Ar (i:=10) r8.nd rfl (kG rfl) (cg d k^AA (EI^D5 6)^AA (AI^dv 1)^AA (AI^dv 8)^AA (AI^dv 2) AL))
 (AG (Ar (i:=10) r8.nd rfl (kG rfl) (F2 (Ai EN G3 (dv 10) A3^Ak _) (DE.sh^A6 AM)^dv 10))
 (AG (Kk (i:=11) r8.nd rfl (TM rfl) rfl [("_law_gone":Str),("_law_one":Str)] [P3 10,s_] (BI^D5 6) (λ_ _ _ _ _=>(AU (i:=1) (show jC [("_law_gone":Str),("_law_one":Str)] by decide +kernel) rfl (TM rfl))) (λ_ _ _ _ _=>(DC^Ai (C5 d) FW (dv 1) (dv 0)^by with_unfolding_all rfl)) (λ_ _ _ _ _=>(dv 1)) (by kernel_rfl))
 (AG (DK 5 PySem.F.plainAttrs_list PySem.F.slot_list_append PySem.F.type_list_append Bc Ew (pv 5)^AB (Ao^AB Ay^AB (BD Ax Bk rfl T.Gab kP (AN (Ag CB DY rfl T.Gad ku (AN (dv 10) AV)) AV))^AB (cg d o^AA (AI^dv 0)^AA (EI^dv 11)^AA (AI^Aa AO Am (dv 8) AF)^AA (AI^A7 G8 EU AF AF) AL) AM) AM)
 (AJ^DK 6 PySem.F.plainAttrs_list PySem.F.slot_list_append PySem.F.type_list_append Bc Ew (pv 6)^AB (dv 8) AM)))))))
 (AJ^AZ (BD Ax Bk rfl T.Gab kP (AN (D5 5) AV)))))))) W0
omit A in
def r_:Ae ["_law_feed_here","_law_places","_law_way_here","_law_rare","_law_ties","_law_a","_law_b","_law_length_here"] ["_law_feed_here"]^AR HY:=by walk_at "s"
def M_:Po P w K mg base:=A.got A.h__law_dense λT F m b=>have d:=ER A; have c:=Bv A; C1 F r_ (λa=>(AG (Ar (i:=1) r_.nd rfl (TM rfl) (cg a d^AA (Bh 0)^AA (AI^A7 B9 Ce AF^A7 DB ET (cg a c^AA (Bh 0)^AA (AI AF) AL)^cg a c^AA (Bh 0)^AA (AI AF) AL) AL))
 (AG (Ar (i:=2) r_.nd rfl (TM rfl) (cg a c^AA (Bh 0)^AA (AI AF) AL))
 (AG (Ar (i:=3) r_.nd rfl (TM rfl) (Aa AO Am (A6^AB AF^AB AF^AB AF^AB AF AM)^cg a c^AA (Bh 0)^AA (AI AF) AL))
 (AG (Bn (i:=4) r_.nd rfl (TM rfl) (A6 AM))
 (AG (Bb i7 rfl (CT^dv 1) (AU (i:=5) r_.nd rfl (TM rfl)) (AJ (Bb i7 rfl (CT^dv 1) (AU (i:=6) r_.nd rfl (TM rfl)) (AJ (Aw (DTW.dt^MB (Ai (Fo a) J4 (dv 5) (dv 6)^Ak _)^Kj^Ai Fp J5 (cg a c^AA (Bh 0)^AA (AI^dv 3) AL) AF^Ak _) (AG (Ar (i:=7) r_.nd rfl (TM rfl) (Aa AO Am (A6^AB AF^AB (A7 Bp CJ AF^cg a c^AA (Bh 0)^AA (AI AF) AL)^AB (A7 B9 Ce (A7 G8 EU AF AF)^cg a c^AA (Bh 0)^AA (AI AF) AL)^AB (A7 Bp CJ AF^cg a c^AA (Bh 0)^AA (AI AF) AL) AM)^dv 2))
 (AJ^DK 4 PySem.F.plainAttrs_list PySem.F.slot_list_append PySem.F.type_list_append Bc Ew (pv 4)^AB (Ao^AB (dv 5)^AB (dv 6)^AB (dv 7) AM) AM)) Al)))))
 (AJ^AZ^Ao^AB (dv 1)^AB (BD Ax Bk rfl T.Gab kP (AN (Ag CB DY rfl T.Gad ku (AN (D5 4) AV)) AV)) AM))))))) SX
omit A in
def sA:Ae ["_law_feed_here","_law_names_here","_law_s","_law_a","_law_b","_law_c","_law_d","_law_t","_law_many","_law_some"] ["_law_feed_here"]^AR Fk:=by walk_at "s"
def KO:Mb P w K mg base:=A.got A.h__law_crossed λT F m b=>have d:=ER A; have c:=Bv A; C1 F sA (λa=>(AG (Bn (i:=1) sA.nd rfl (kG rfl) (BD DX Pa rfl T.Gai boot_list (AN (cg a d^AA (Bh 0)^AA (AI AF) AL) AV)))
 (AG (Zx (i:=1) (f:=0) rfl [("_law_names_here":Str),("_law_feed_here":Str),("_law_k":Str)] (Ci rfl T.Gae (AN AF AV)) (λ_ _ _ _ _=>GP (i:=2) (show jC [("_law_names_here":Str),("_law_feed_here":Str),("_law_k":Str)] by decide +kernel) rfl (TM rfl)) (λ_ _ _ _ _=>pv 0) (λ_ _ _ _ _=>(cg a c^AA (Bh 1)^AA (AI (Ag A0 B4 rfl T.Gac PySem.boot_len (AN (D5 0) AV))) AL)) (Z2 rfl (Aj (AU (i:=2) sA.nd rfl (TM rfl))^Aj (AU (i:=3) sA.nd rfl (TM rfl))^Aj (AU (i:=4) sA.nd rfl (TM rfl))^Aj (AU (i:=5) sA.nd rfl (TM rfl))^Aj (AU (i:=6) sA.nd rfl (TM rfl))^Aj (AU (i:=7) sA.nd rfl (TM rfl)) BX)) (by kernel_rfl) (λ_ _ _ _ _ h t e=>Qk PySem.F.plainAttrs_list PySem.F.slot_list_pop PySem.F.type_list_pop Qy h^B8 e C4))
 (AG (Ar (i:=8) sA.nd rfl (TM rfl) (A7 Bp CJ AF^cg a c^AA (Bh 0)^AA (AI AF) AL))
 (AG (Ar (i:=9) sA.nd rfl (TM rfl) (A6^AB (Ao^AB (dv 2)^AB (dv 3)^AB (dv 8) AM)^AB (Ao^AB (dv 3)^AB (dv 4)^AB (dv 8) AM)^AB (Ao^AB (dv 4)^AB (dv 5)^AB (dv 8) AM)^AB (Ao^AB (dv 5)^AB (dv 6)^AB (dv 8) AM)^AB (Ao^AB (dv 6)^AB (dv 7)^AB (dv 8) AM)^AB (Ao^AB (dv 2)^AB (dv 4)^AB (A7 DB ET AF^dv 8) AM)^AB (Ao^AB (dv 5)^AB (dv 7)^AB (A7 DB ET AF^dv 8) AM) AM))
 (AG (Ar (i:=9) sA.nd rfl (TM rfl) (A7 Bp CJ (dv 9)^A6^AB (Ao^AB (dv 3)^AB (dv 6)^AB (A7 B9 Ce (A7 DB ET AF^dv 8) AF) AM)^AB (Ao^AB (dv 2)^AB (dv 7)^AB (A7 DB ET AF^dv 8) AM) AM))
 (AJ^AZ^Ao^AB (BD Ax Bk rfl T.Gab kP (AN (Ag MM U2 rfl T.Gad ku (AN (A6^AB (dv 2)^AB (dv 3)^AB (dv 4)^AB (dv 5)^AB (dv 6)^AB (dv 7) AM) AV)) AV))^AB (BD Ax Bk rfl T.Gab kP (AN (Ag CB DY rfl T.Gad ku (AN (Jy [("_law_x":Str),("_law_y":Str),("_law_own":Str)] [s_,s_,s_] (BI^dv 9) (B0 rfl (Aj (AU (i:=0) (show jC [("_law_x":Str),("_law_y":Str),("_law_own":Str)] by decide +kernel) rfl (TM rfl))^Aj (AU (i:=1) (show jC [("_law_x":Str),("_law_y":Str),("_law_own":Str)] by decide +kernel) rfl (TM rfl))^Aj (AU (i:=2) (show jC [("_law_x":Str),("_law_y":Str),("_law_own":Str)] by decide +kernel) rfl (TM rfl)) BX)) BV (Ao^AB (Ag (JJ rfl) TF rfl T.Gag pD (AN (dv 0)^AN (dv 1) AV))^AB (Ag (JK rfl) TJ rfl T.Gam boot_max (AN (dv 0)^AN (dv 1) AV))^AB (dv 2) AM)^by kernel_rfl) AV)) AV)) AM))))))) Om
omit A in
def Ms:Ae ["_law_feed_here"] ["_law_feed_here"]^AR HZ:=by walk_at "s"
def NA:Pp P w K mg base:=A.got A.h__law_broad λT F m b=>have a:=Bv A; C1 F Ms (λc=>(AJ^AZ^Aa AO Am (A6^AB (Ao^AB AF^AB AF AM)^AB (Ao^AB AF^AB AF AM)^AB (Ao^AB AF^AB AF AM)^AB (Ao^AB (A7 G8 EU AF AF)^AB AF AM)^AB (Ao^AB AF^AB AF AM)^AB (Ao^AB AF^AB AF AM)^AB (Ao^AB AF^AB AF AM)^AB (Ao^AB AF^AB AF AM)^AB (Ao^AB AF^AB AF AM) AM)^cg c a^AA (Bh 0)^AA (AI AF) AL)) SY
end
section
variable {P:Program}{w:World}{K:Frag}{mg:Str->w_ Value}{base:Heap}
def Oc:Ae ["_law_script"] ["_law_script"]^AR Fj:=by constructor <;>first|rfl|decide +kernel
def Oy{f:Ch}{fd:jt}(T:Txt K mg)(F:Fun K "_law_feed" "_law_feed" Fj f fd):D6 P w K mg base J6 1 f fd ["_law_script"]^OV K:=by
 refine F.ok Oc (λi H Q E h=>?_) λj A d s H i Q E n h=>?_
 .let#[a,k,rfl,_]:=h
  rfl
 .let#[a,k,rfl,#[l,m],q]:=h
  exists _,D_^G7^Sg^B8 (Nk DX rfl T.Gai boot_list (B8 (Qh sl_list (pv 0) UI^UH BL) C4))^B8 BL^B8 BL C4;refine#[_,rfl,63,rfl,a,_,rfl,m,λp o=>#[p,_,rfl,.inl^SqL.of An,λc r=>#[by show 3<=sizeLine; decide,λg e=>?_]]];rw[fW l]at e ⊢;have b:c≠g:=λz=>by rw[←z,An]at e; cases e
  exact q c g _ b (by rw[Ah b,An]) An
def sB:Ae ["_law_script","_law_feed_here","_law_some","_law_thins","_law_k","_law_net_here","_law_times_here","_law_many","_law_paper"] ["_law_script"]^AR LJ:=by walk_at "s"
def b7{h:i8}{f d:Ch}{fd c:jt}(A:Ctx P w K mg base h)(k:D6 P w K mg base J6 1 d c ["_law_script"]^OV K)(l:mg "_law_feed"=P3^.ref d)(m:keepIn K^.ref d=t_)(n:Binds K c ["_law_script"] [])(F:Fun K "law" "law" LJ f fd):D6 P w K mg base J6 11 f fd ["_law_script"]^QM K:=by
 have g:=NA A;have o:=KO A;have j:=M_ A;have p:=Qu A;have q:=Qr A;have r:=Qq A;have t:=Bv A;have u:=Hw A;have v:=Lk A;have x:=M8 A;have y:=Hs A;have T:=A.T
 exact fI (n0:=3000) F sB rfl (by cbv) (λe A b s H E a=>E6 (i:=1) sB.nd rfl (TM rfl) (UM k (a.mono^by cbv) rfl l m n .nil aX (B8 (pv 0) C4)))
  (λe A b s H E a=>(AG (Bn (i:=2) sB.nd rfl (TM rfl) (A6^AB (Ao^AB (cg a r^AA (Bh 1)^AA (AI AF)^AA (AI AF) AL)^AB (cg a x^AA (Bh 1) AL)^AB (cg a t^AA (Bh 1)^AA (AI AF) AL) AM) AM))
 (AG (DK 2 PySem.F.plainAttrs_list PySem.F.slot_list_append PySem.F.type_list_append Bc Ew (pv 2)^AB (Ao^AB (cg a j^AA (Bh 1) AL)^AB (cg a g^AA (Bh 1) AL)^AB AF AM) AM)
 (AG (DK 2 PySem.F.plainAttrs_list PySem.F.slot_list_append PySem.F.type_list_append Bc Ew (pv 2)^AB (Ao^AB (cg a j^AA (Bh 1) AL)^AB (cg a g^AA (Bh 1) AL)^AB AF AM) AM)
 (AG (DK 2 PySem.F.plainAttrs_list PySem.F.slot_list_append PySem.F.type_list_append Bc Ew (pv 2)^AB (Ao^AB (cg a o^AA (Bh 1) AL)^AB (Ao^AB AF^AB AF AM)^AB AF AM) AM)
 (AG (Kk (i:=3) sB.nd rfl (TM rfl) rfl [("_law_net_here":Str),("_law_times_here":Str),("_law_many":Str)] [s_,s_,s_] (BI^D5 2) (λ_ _ _ _ _=>(B0 rfl (Aj (AU (i:=0) (show jC [("_law_net_here":Str),("_law_times_here":Str),("_law_many":Str)] by decide +kernel) rfl (TM rfl))^Aj (AU (i:=1) (show jC [("_law_net_here":Str),("_law_times_here":Str),("_law_many":Str)] by decide +kernel) rfl (TM rfl))^Aj (AU (i:=2) (show jC [("_law_net_here":Str),("_law_times_here":Str),("_law_many":Str)] by decide +kernel) rfl (TM rfl)) BX))) (λ_ _ _ _ _=>BV) (λ_ _ _ _ _=>(cg a v^AA (AI^dv 0)^AA (AI^dv 1)^AA (AI^dv 2) AL)) (by kernel_rfl))
 (AG (Bb i7 rfl (CT^A6^AB AF^AB AF^AB AF^AB AF^AB AF AM) (AU (i:=4) sB.nd rfl (TM rfl)) (AG (YQ (Aa AO Am (D5 2)^dv 4) (B0 rfl (Aj (AU (i:=5) sB.nd rfl (TM rfl))^Aj (AU (i:=6) sB.nd rfl (TM rfl))^Aj (AU (i:=7) sB.nd rfl (TM rfl)) BX)))
 (AJ (Bb i7 rfl (CT^A6^AB (cg a y^AA (AI^dv 5)^AA (AI^dv 6)^AA (AI^dv 7) AL)^AB (cg a u^AA (AI^dv 5)^AA (AI^dv 6)^AA (AI^dv 7)^AA (AI^Aa AO Am (dv 3)^dv 4)^AA (AI AF) AL) AM) (AU (i:=8) sB.nd rfl (TM rfl)) (AG (Aw (Ai DV FI (cg a p^AA (AI^dv 5)^AA (AI^dv 6)^AA (AI^dv 7)^AA (AI^Aa AO Am (dv 3)^dv 4)^AA (AI^dv 8) AL) A3^Ak _) (AJ^AZ Bs) Al)
 (AJ^Aw (Ai DV FI (cg a q^AA (AI^dv 5)^AA (AI^dv 6)^AA (AI^dv 7)^AA (AI^Aa AO Am (dv 3)^dv 4)^AA (AI^dv 8) AL) A3^Ak _) (AJ^AZ Bs) Al))))))
 (AJ^AZ Bs)))))))) SU
end
local macro_rules|`(tactic|walk_at "B")=>`(tactic|(intro _ _ _ _ _ _; exact iJ λ_=>rfl))
def all_mk{l:PySem.W.OpenLaw}{w:jQ}{K:Frag}{h:i8}{d:Str->w_ Ev}{i:Ch}(e:d "law"=P3^.ref i)(A:C0 K d h):∃fd:jt,(∀(s:On) (v:Ev),n_ s fd #[[v],[]] [("_law_script",v)])/\∀b:i8,K.In b->b.Ns mainGlobals d->D6 l.prog w K d b J6 11 i fd ["_law_script"]^QM K:=by
 let#[y,j,m,g]:=A.h__law_feed.fn A.X A.G;have n:=g.binds (ps:=["_law_script"]) (by walk_at "B");let#[f,z,B,o,C,p,q,r,t,u,a,x,c,k]:=A.h_law;cases e.symm.trans^mg_of A.X A.G a;exact#[fnOf "law" "law" (EH LJ) (CP LJ) (AR LJ) .none p q r o t u,λs v=>.of_eq rfl,λb _ _=>b7 A (Oy A.T g) m g.kp n^X_ (st:=LJ) x c k]
def walk{l:PySem.W.OpenLaw}{q:jK}{c:v_ Str}{m:(Str->w_ Ev)->i8->Prop}{i:jQ->i8->Prop}{d:DefRec}{K:Params->Frag}(o:l.most=P3 63)(g:d.params.defaults=[])
  (p:∀(w:jQ) (h:i8),i w h->(K w.params).In h)
  (F:∀(w:jQ) (e:Str->w_ Ev) (j:Ch) (h:i8),(K w.params).In h->h.Ns mainGlobals e->e d.name=P3^.ref j->
   ∃fd:jt,(∀(s:On) (u:Ev),n_ s fd #[[u],[]] [("_law_script",u)])/\∀b:i8,(K w.params).In b->b.Ns mainGlobals e->D6 l.prog w (K w.params) e b J6 11 j fd ["_law_script"]^QM^K w.params):
  PySem.W.WalkO q c m i l.row.toRowW d [] (λf r=>PySem.call f r):=
 L2.Tt (n:=63) (k:=11) (x:="_law_script") (CX:=λ_=>J6) (sp:=λw=>QM^K w.params) o (by cbv) g #[rfl,by cbv,by cbv,rfl] p F (λ_ _ a t v _ y=>#[a,t,rfl,#[v,y],λ_=>rfl]) λ_ _ _ _ _ z=>z
end K41
end _p
namespace PySem.W.Fast
theorem tw13176047903043359386:True:=⟨⟩
theorem tw1957759930722190752:True:=⟨⟩
theorem tw13025474435035557410:True:=⟨⟩
theorem tw15651369610553892023:True:=⟨⟩
theorem tw16447663389571816292:True:=⟨⟩
theorem tw9950839963837838830:True:=⟨⟩
theorem tw984283795371320037:True:=⟨⟩
theorem tw3391003835950742026:True:=⟨⟩
theorem tw15965447799193410506:True:=⟨⟩
theorem tw1901305365543619590:True:=⟨⟩
theorem tw9945329811524033663:True:=⟨⟩
theorem tw3893824465542962650:True:=⟨⟩
theorem tw17062660967491416155:True:=⟨⟩
theorem tw11221591642397072495:True:=⟨⟩
theorem tw1148320778447631070:True:=⟨⟩
theorem tw15783007005182980260:True:=⟨⟩
theorem tw6873852635954260507:True:=⟨⟩
theorem tw14913238820644484977:True:=⟨⟩
theorem tw17679818207983789773:True:=⟨⟩
theorem tw6700197119639596111:True:=⟨⟩
theorem tw18143934448770015613:True:=⟨⟩
theorem tw14984339764242742811:True:=⟨⟩
theorem tw14842954236892078675:True:=⟨⟩
theorem tw1795286010565472453:True:=⟨⟩
theorem tw1364147129053042396:True:=⟨⟩
theorem tw6116469077755720876:True:=⟨⟩
theorem tw6565732652923297930:True:=⟨⟩
theorem tw15335355377875761881:True:=⟨⟩
theorem tw14167539652622097083:True:=⟨⟩
theorem tw16954427722359966256:True:=⟨⟩
theorem tw16425049736496241585:True:=⟨⟩
theorem tw1803610434447428786:True:=⟨⟩
theorem tw18047589029555913445:True:=⟨⟩
theorem tw17521136616374835507:True:=⟨⟩
theorem tw11580047662756373577:True:=⟨⟩
theorem tw7006241799115777854:True:=⟨⟩
theorem tw18416603492559060354:True:=⟨⟩
theorem tw13487971225638308793:True:=⟨⟩
theorem tw4965657915724288189:True:=⟨⟩
theorem tw3556179883894465467:True:=⟨⟩
theorem tw14927002275393316540:True:=⟨⟩
theorem tw2677198996428145241:True:=⟨⟩
theorem tw15287622676368032081:True:=⟨⟩
theorem tw3728692553982526407:True:=⟨⟩
theorem tw17225343387388085363:True:=⟨⟩
theorem tw9208004178001699030:True:=⟨⟩
theorem tw16127007262943721472:True:=⟨⟩
theorem tw8926667449330000119:True:=⟨⟩
theorem tw5803148375432919226:True:=⟨⟩
theorem tw8616070663622113750:True:=⟨⟩
theorem tw17053076532506778109:True:=⟨⟩
theorem tw12046848531003108006:True:=⟨⟩
theorem tw6483048614876563974:True:=⟨⟩
theorem tw11922712951508796327:True:=⟨⟩
theorem tw10948083851826153563:True:=⟨⟩
theorem tw9319878924600082581:True:=⟨⟩
theorem tw10607593639977706916:True:=⟨⟩
theorem tw16923416332973879512:True:=⟨⟩
theorem tw15059588527376264178:True:=⟨⟩
theorem tw12083168460323780942:True:=⟨⟩
theorem tw6957693381598464930:True:=⟨⟩
theorem tw11736612787163032145:True:=⟨⟩
theorem tw11856060140720945349:True:=⟨⟩
theorem tw11985062827193855912:True:=⟨⟩
theorem tw13250848110090479239:True:=⟨⟩
theorem tw9354665747367887692:True:=⟨⟩
theorem tw7258322551327799208:True:=⟨⟩
theorem tw17443413887385678697:True:=⟨⟩
theorem tw16661725586986035146:True:=⟨⟩
theorem tw10049560269060483990:True:=⟨⟩
theorem tw2018180489971089200:True:=⟨⟩
theorem tw5107227396720624941:True:=⟨⟩
theorem tw18367103352645603336:True:=⟨⟩
theorem tw3959954839215046162:True:=⟨⟩
theorem tw12815719670146889671:True:=⟨⟩
theorem tw11617990757822498449:True:=⟨⟩
theorem tw16593417386220510917:True:=⟨⟩
theorem tw12216368417243799524:True:=⟨⟩
theorem tw16892721743555298551:True:=⟨⟩
theorem tw11193248853229134555:True:=⟨⟩
theorem tw4937442829539502158:True:=⟨⟩
theorem tw2478301560043195289:True:=⟨⟩
theorem tw12809179568660863728:True:=⟨⟩
theorem tw12873689308591216910:True:=⟨⟩
theorem tw16926175041002386431:True:=⟨⟩
theorem tw18291876760968011317:True:=⟨⟩
theorem tw462383998202762649:True:=⟨⟩
theorem tw14791954392981169960:True:=⟨⟩
theorem tw11271901882286812806:True:=⟨⟩
theorem tw4845265397315124409:True:=⟨⟩
theorem tw3741939361575742687:True:=⟨⟩
theorem tw4347773261172055891:True:=⟨⟩
theorem tw12421983756551829836:True:=⟨⟩
theorem tw10845852266454711319:True:=⟨⟩
theorem tw3684093702553240554:True:=⟨⟩
theorem tw18440249230696170574:True:=⟨⟩
theorem tw7131191908723075080:True:=⟨⟩
theorem tw13147725591617821213:True:=⟨⟩
theorem tw4297807191333483058:True:=⟨⟩
theorem tw15625959942566652388:True:=⟨⟩
theorem tw6439564971225115113:True:=⟨⟩
theorem tw4397055640976410157:True:=⟨⟩
theorem tw6123061283344476483:True:=⟨⟩
theorem tw270697461524213379:True:=⟨⟩
theorem tw17082322434162286438:True:=⟨⟩
theorem tw5802223480297698002:True:=⟨⟩
theorem tw7248377515358289287:True:=⟨⟩
theorem tw12449316268515997507:True:=⟨⟩
theorem tw7794581364971643608:True:=⟨⟩
theorem tw13171047355132638186:True:=⟨⟩
theorem tw2116079352535067162:True:=⟨⟩
theorem tw838710889505608516:True:=⟨⟩
theorem tw7693997017812169649:True:=⟨⟩
theorem tw14787650897097033645:True:=⟨⟩
theorem tw14163838839776463823:True:=⟨⟩
theorem tw14570234101743831088:True:=⟨⟩
theorem tw2555984823110261259:True:=⟨⟩
theorem tw12654254285205843532:True:=⟨⟩
theorem tw17570413616422652337:True:=⟨⟩
theorem tw18426254041130031278:True:=⟨⟩
theorem tw7075443626356835355:True:=⟨⟩
theorem tw16377469391136397493:True:=⟨⟩
theorem tw14688679156731064000:True:=⟨⟩
theorem tw12975063557176955875:True:=⟨⟩
theorem tw9989070276348560657:True:=⟨⟩
theorem tw14064554593762259037:True:=⟨⟩
theorem tw3241693495303069806:True:=⟨⟩
theorem tw10459913322605806769:True:=⟨⟩
theorem tw7107654222334848818:True:=⟨⟩
theorem tw7445819072507795427:True:=⟨⟩
theorem tw1798436741917056919:True:=⟨⟩
theorem tw3711179178065607341:True:=⟨⟩
theorem tw17572618204820338502:True:=⟨⟩
theorem tw12969801295430479620:True:=⟨⟩
theorem tw12183182141583480969:True:=⟨⟩
theorem tw8176623241907229222:True:=⟨⟩
theorem tw1733274778659859856:True:=⟨⟩
theorem tw1436758902777276824:True:=⟨⟩
theorem tw13428636911935127137:True:=⟨⟩
theorem tw12870973238704302162:True:=⟨⟩
theorem tw15509098335293722305:True:=⟨⟩
theorem tw3509950902907375099:True:=⟨⟩
theorem tw17618968366265518082:True:=⟨⟩
theorem tw4826628723711358518:True:=⟨⟩
theorem tw14960372492688600040:True:=⟨⟩
theorem tw1500159980011319449:True:=⟨⟩
theorem tw9694723090955902346:True:=⟨⟩
theorem tw12052442825437977688:True:=⟨⟩
theorem tw14505769855179891638:True:=⟨⟩
theorem tw16923959301021582371:True:=⟨⟩
theorem tw5465332099567638058:True:=⟨⟩
theorem tw3863165429488440894:True:=⟨⟩
theorem tw1671663826867456107:True:=⟨⟩
theorem tw9235628628009497037:True:=⟨⟩
theorem tw1743969178110843543:True:=⟨⟩
theorem tw11495804955061208876:True:=⟨⟩
theorem tw297532902587628511:True:=⟨⟩
theorem tw12334539541335668248:True:=⟨⟩
theorem tw6249361652483888232:True:=⟨⟩
theorem tw4749334535154958752:True:=⟨⟩
theorem tw13513646815379155806:True:=⟨⟩
theorem tw11088873557172993581:True:=⟨⟩
theorem tw11198127906946215983:True:=⟨⟩
theorem tw897650800456265479:True:=⟨⟩
theorem tw4035528937353570686:True:=⟨⟩
theorem tw10984233263628277922:True:=⟨⟩
theorem tw7559858338937213068:True:=⟨⟩
theorem tw5672970502702593139:True:=⟨⟩
theorem tw12023053243187387770:True:=⟨⟩
theorem tw7648925452278054512:True:=⟨⟩
theorem tw1768504078310237109:True:=⟨⟩
theorem tw11691947193817672601:True:=⟨⟩
theorem tw16935240205222795983:True:=⟨⟩
theorem tw8989274147588182785:True:=⟨⟩
theorem tw2479411872428648511:True:=⟨⟩
theorem tw5566370818537356430:True:=⟨⟩
theorem tw15135022659940288638:True:=⟨⟩
theorem tw9389685840323000124:True:=⟨⟩
theorem tw1597768421544758973:True:=⟨⟩
theorem tw8848703272602606275:True:=⟨⟩
theorem tw15089128159900453924:True:=⟨⟩
theorem tw15197569949969611029:True:=⟨⟩
theorem tw12744283510724479819:True:=⟨⟩
theorem tw17958715181848626522:True:=⟨⟩
theorem tw6512873142630353409:True:=⟨⟩
theorem tw4464286272935811730:True:=⟨⟩
theorem tw12236016877663251473:True:=⟨⟩
theorem tw16034384698889792825:True:=⟨⟩
theorem tw10487809582081107899:True:=⟨⟩
theorem tw18216502089745334966:True:=⟨⟩
theorem tw17525829020719218841:True:=⟨⟩
theorem tw11299477957989006851:True:=⟨⟩
theorem tw4270749164042442514:True:=⟨⟩
theorem tw13518482484647781604:True:=⟨⟩
theorem tw11882307483417443993:True:=⟨⟩
theorem tw12999387008300469859:True:=⟨⟩
theorem tw18057077413083468690:True:=⟨⟩
theorem tw1132795209641665382:True:=⟨⟩
theorem tw7123321783253001680:True:=⟨⟩
theorem tw9730843115678548152:True:=⟨⟩
theorem tw16060308754600369913:True:=⟨⟩
theorem tw7004999126928839369:True:=⟨⟩
theorem tw12118245129706025888:True:=⟨⟩
theorem tw15707560389602827216:True:=⟨⟩
theorem tw3809060837779744932:True:=⟨⟩
theorem tw14611485428444840497:True:=⟨⟩
theorem tw8155970173531296704:True:=⟨⟩
theorem tw14742355326448361074:True:=⟨⟩
theorem tw4579301294726499737:True:=⟨⟩
theorem tw6790624030255063914:True:=⟨⟩
theorem tw6313128818838804550:True:=⟨⟩
theorem tw3166844971040489355:True:=⟨⟩
theorem tw6698051300600734518:True:=⟨⟩
theorem tw12965343356486709029:True:=⟨⟩
theorem tw3946580991458466785:True:=⟨⟩
theorem tw6676474999314072227:True:=⟨⟩
theorem tw17517129324518543135:True:=⟨⟩
theorem tw2056633237655870729:True:=⟨⟩
theorem tw6735211651866392650:True:=⟨⟩
theorem tw17906929109996005381:True:=⟨⟩
theorem tw10949365385920577124:True:=⟨⟩
theorem tw13801201808384361016:True:=⟨⟩
theorem tw9834837145703890183:True:=⟨⟩
theorem tw15558229846243318140:True:=⟨⟩
theorem tw4585542112452933161:True:=⟨⟩
theorem tw7524344504742395676:True:=⟨⟩
theorem tw2958170137189243843:True:=⟨⟩
theorem tw15624463372262941941:True:=⟨⟩
theorem tw9276033718699463333:True:=⟨⟩
theorem tw10616770308072052258:True:=⟨⟩
theorem tw11975142319843601464:True:=⟨⟩
theorem tw8780207206420705975:True:=⟨⟩
theorem tw10260788851043289428:True:=⟨⟩
theorem tw1927702797868460223:True:=⟨⟩
theorem tw13869921301821444615:True:=⟨⟩
theorem tw10050010026008112031:True:=⟨⟩
theorem tw10872691812867476647:True:=⟨⟩
theorem tw13736459002895762783:True:=⟨⟩
theorem tw10252203545454890901:True:=⟨⟩
theorem tw17523846980012817262:True:=⟨⟩
theorem tw12096244330780149758:True:=⟨⟩
theorem tw1483614928585671675:True:=⟨⟩
theorem tw6714191500006217342:True:=⟨⟩
theorem tw9375914287307012996:True:=⟨⟩
theorem tw14196512990082480492:True:=⟨⟩
theorem tw11173657192363549064:True:=⟨⟩
theorem tw16725379117924643483:True:=⟨⟩
theorem tw516363598837972503:True:=⟨⟩
theorem tw16064592638632962352:True:=⟨⟩
theorem tw11319642585624787186:True:=⟨⟩
theorem tw12484721921496395414:True:=⟨⟩
theorem tw9806508028081489941:True:=⟨⟩
theorem tw7487910707534232894:True:=⟨⟩
theorem tw14919966758097781332:True:=⟨⟩
theorem tw1398889107072841201:True:=⟨⟩
end PySem.W.Fast
open _p
open PySem.W
set_option maxRecDepth 100000 in
set_option maxHeartbeats 0 in
theorem PySem.Challenge.cw_thinnet_k41_breaking_papers_holds : PySem.Challenge.rw_thinnet_k41_breaking_papers.Holds := by
 w_on; o_law; k_head; (case hw=>w_witness2)
 k_fill
 refine K41.walk (l:=PySem.Challenge.rw_thinnet_k41_breaking_papers) rfl rfl (λw h Y=>PySem.W.kIn_of Y) ?F
 case F =>
  intro w mg fa h KX G hmg
  refine K41.all_mk (h:=h) hmg ?_
  apply K41.C0.mk KX G
  all_goals first
   | (refine' K41.Ht.mk ?a ?l ?c ?k; (case a=>k_is); (case l=>k_is); (case c=>k_is); (case k=>k_is))
   | (refine' K41.Hn.mk ?a; (case a=>k_is))
#print axioms PySem.Challenge.cw_thinnet_k41_breaking_papers_holds

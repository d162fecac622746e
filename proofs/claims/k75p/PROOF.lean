import PyProof.Rows.All
import Wide.All
import OpenK.AllK
import Wide.FinOn
import Lean
import PyProof.EqAt
import PyProof.EqKinds
import PyProof.TupleCall
import PyProof.StationsW
import PyProof.PassesOwn
import PyProof.RulesAs
import PyProof.ExcClass3
import PyProof.Rows.CatchOwn
import OpenK.KMake
import OpenK.KWalk
import PyProof.InstStoreFacts
import PyProof.ExcBaseAll.ValueError
import PyProof.RangeIter
import OpenK.KRaise
import PyProof.NsDelKeeps
import KE.KIsAll
import PyProof.P3In
import PyProof.NeData
import PyProof.ExcArgs
import PyProof.CompUse
import KE.KSortTup
import KE.KEqDict
import KE.KDictSum
import PyProof.ReprLen
import PyProof.SumAny
import PyProof.Rows.SeqCalls
import KE.KRevIter
import PyProof.TupleOfGen
import PyProof.CollectIter
import PyProof.ConsumeS
import PyProof.WalkInts
import PyProof.Draws
import PyProof.EnumMake
import KE.KIntText
import PyProof.Rows.FStr
import PyProof.StrBlockH
import PyProof.MeetsStr2
import PyProof.StrLawsTight
import PyProof.Rows.StrItems
import PyProof.Rows.StrSplitAre
import PyProof.StrLawsOcc
import PyProof.Rows.ReprOcc
import PyProof.StrLawsOccR
import PyProof.ListMulRoad
import PySem.Challenge.RW_thinnet_k75_laid_down_and_taken_up
open PySem.W (Frag nsIn keepIn fnOf codeIn mg_of mg_none_of)
set_option Elab.async false
set_option compiler.extract_closed false
set_option linter.all false
set_option maxRecDepth 100000
open Array renaming length_toList->kT,getElem?_eq_getElem->mO,getElem?_toList->oH,getElem?_eq_some_iff->oV,getElem?_eq_none->rP
open Array.Perm renaming refl->rH
open Bool renaming false_ne_true->jt,and_eq_true->jv,false_eq_true->kG,eq_iff_iff->kR,eq_false_iff->lC,not_eq_true'->mU,or_eq_true->oh,false_and->oz,not_true->pK,beq_eq_decide_eq->pV,not_eq_false->qe,and_false->rY,true_and->rg
open Classical renaming propDecidable->mZ,em->oF
open False renaming elim->kd
open ForInStep renaming yield->ni
open Int renaming toNat_natCast->m_,mul_le_mul_of_nonneg_left->p8,le_refl->qI,emod_lt_of_pos->qM,emod_nonneg->rG
open List renaming length_map->Ev,mem_cons_self->No,getElem?_eq_getElem->Op,mem_singleton->Re,mem_cons_of_mem->Rs,mem_map->TM,mem_cons->UF,getElem?_eq_some_iff->XV,length_append->eq,length_cons->f8,getElem?_map->ji,mem_append->jj,replicate->jk,mem_append_right->jm,size_toArray->jn,not_mem_nil->jw,map_cons->jy,append_nil->j5,nodup_cons->j6,nil_append->j7,map_append->j8,getD_eq_getElem?_getD->j9,length_nil->j_,toArray->kC,range->kH,mem_filter->kI,length_singleton->kN,mem_append_left->kW,map_map->ke,nodup_nil->ki,append_assoc->kj,pairwise_cons->k7,length_filter_le->k9,cons_ne_nil->k_,all_eq_true->lE,getElem_mem->lJ,nodup_append->lM,zip_cons_cons->lP,mem_range->lR,map_congr_left->lV,drop_eq_getElem_cons->lX,getLast?_eq_some_iff->lg,lookup->lj,pairwise_append->lw,length_zip->l_,zipWith->mF,mem_flatMap->mJ,flatMap_cons->mV,filter_congr->mW,lookup_cons->mi,length_set->my,getElem?_append_right->mz,perm_append_singleton->m8,getElem?_append_left->nB,getLast?_eq_none_iff->nE,lt_irrefl->nJ,any_eq_true->nO,pairwise_singleton->nS,lt_trans->nX,length_replicate->oC,mem_iff_getElem?->oI,getElem?_eq_none->oJ,contains_iff_mem->oM,mem_of_getElem?->oN,drop_length->oR,mem_iff_getElem->oU,map_id->oX,of_mem_zip->oY,getElem?_zip_eq_some->og,filter_map->oi,getElem?_replicate->o5,length_eq_zero_iff->o6,getElem?_cons_succ->o8,filter_cons_of_neg->o9,reverse_cons->o_,length_range->pB,pairwise_map->pD,length->pE,length_take->pL,singleton_append->pU,getElem?_set_ne->pZ,forIn_cons->pf,replicate_succ->p9,length_reverse->p_,filter_eq_self->qA,mem_filterMap->qJ,zip_nil_right->qK,all_cons->qT,perm_ext_iff_of_nodup->qW,take_sublist->qX,getElem?_set->qZ,zip_nil_left->qc,ext_getElem?->qd,pairwise_iff_getElem->qg,getElem?_eq_none_iff->qh,mem_of_find?_eq_some->qi,take_length->qv,ext_getElem->qz,getElem_map->q_,isEmpty_iff->rC,filter_cons_of_pos->rD,filter_nil->rJ,getElem?_set_self->rL,forIn_nil->rR,getElem?_zipWith->rS,Nodup->rf,all_map->rp,map_nil->rq
open List.Pairwise renaming nil->r_
open List.Perm renaming trans->rK,swap->rX
open List.cons renaming inj->pJ
open Nat renaming le_refl->Sc,ne_of_lt->jo,zero_le->jp,le_trans->jr,lt_of_lt_of_le->jz,le_succ->kL,lt_irrefl->ko,lt_succ_of_lt->lL,toDigits_of_lt_base->l7,ne_of_gt->mQ,toDigits->mT,lt_succ_self->me,succ_le_succ->nL,lt_of_le_of_lt->nh,not_lt->nj,toDigits_append_toDigits->oK,mod_lt->oy,le_succ_of_le->pC,le_of_lt->pY,le_of_eq->pc,add_le_add->qF,isDigit_of_mem_toDigits->qQ,min_le_right->qr,le_add_right->qw
open Ne renaming symm->kM
open Option renaming map_eq_some_iff->kO,isSome_map->qY
open Option.some renaming inj->ZB
open Or renaming inl->kF,inr->k6
open PyProof.Rows renaming slot_tuple_getitem->lB,callWith_type1->lO,listUpdate_at->m7,boot_repr->nG,get?_update_seq->n6,boot_sorted->n_,AllBare->oB,boot_all->pW,listItems_at->pq,seqEpoch_at->qH,len_partsBetween->rB,lt_int->rM
open PyProof.Rows.KeyOrd renaming kle_refl->lY,kle_of_klt->pA,kle_trans->pN,kle_antisymm->rl
open PySem renaming Addr->Ch,wpAny_bind->Cn,Value->Db,Shared->Go,wpAny_pure->On,Heap->jq,Program->ju,Expr->jx,World->j4,Around->kA,sizeLine_eq->kJ,wpAny_mono->kP,wpAny_holding->kQ,FuncData->kX,Stmt->kn,wpAny_loadPart_at->ku,wpAny_Call_Name_kw->kz,wpAny_loadPart'->k8,wpAny_callSpecial?_slot->lA,wpAny_field->lD,wpAny_isSubtype_exc->lF,wpAny_truthy_bool->lG,wpAny_newObj_type->lH,wpAny_pyIter_tuple->lI,wpAny_call_entry->lQ,wpAny_seqItems->lS,wpAny_pyIter_list->lU,codeAny_builtin->lZ,IsPair->li,Builtin->lm,wpAny_dictEntries->l8,plainId_quiet->mI,tupleKind_room_in1->mN,Scope->mP,codeAny_mono->mR,wpAny_typeNameOfWhole_keyiter->mX,NameKind->mh,wpAny_call->mj,wpAny_letGo->mn,wpAny_setField_rec->mr,wpAny_passesOwn->mx,typeIs_str->nC,Keyword->nH,wpAny_setField->nI,wpAny_typeNameOf_keyiter->nP,plainObj_wpAny_Assign_Attribute->nQ,wpAny_getItem_str_slice->nR,wpAny_attempt->nU,wpAny_execs_nil->nZ,DictEntry->ng,wpAny_updateSeq->n8,IsZip->oA,call_meetsIn->oE,call_meets->oP,codeAny_call_builtin->oQ,ExceptHandler->oW,wpAny_typeOf->oj,PyData->on,PlainAttrs->oq,wpAny_rule->ou,richCompare_meets_room->pF,wpAny_standAt->pG,wpAny_onRaise->pI,wpAny_isInstance->pM,PassesOwn->pP,wpAny_notOrdered_dict->pR,IsPart->pd,post_val_or_str->pi,wpAny_updateSeq_pair->pj,wpAny_dictEpoch->px,wpAny_loadPart->qB,wpAny_tryCatch->qD,wpAny_of_eq->qG,wpAny_newList->qV,BindsTo->qk,wpAny_execs_cons->ql,wpAny_lookBehind->qm,pastItsLine_dict->qo,noFill_tuple_add->qp,wpAny_madeBy_exc->qq,wpAny_specialOf->rE,codeAny_of_tree->rF
open PySem.Around renaming under_plainId->mS
open PySem.AutoSeq1 renaming sub_tuple_tuple->qt
open PySem.Builtin.Builtins renaming bindParams->qN
open PySem.Builtin.Dict renaming showsAll->pS,dictSlotArgs->qj,samePairs->rQ,takeOut->re
open PySem.Builtin.Dict_items renaming ownsTuple->qE
open PySem.Builtin.List renaming listExtendWith->mw,listTooLong->nN,listLengthHint->qO,listSameRef->rA
open PySem.Builtin.ObjectAttr renaming storeInDict->ph
open PySem.Builtin.Slice renaming slicePlaces->oZ,sliceAdjust->qf
open PySem.Builtin.SmallTypes renaming nextOf->lK,ownedTupleIsFree->lr,ownedTupleHandOut->oo
open PySem.Builtin.Str renaming occurrences->mY
open PySem.Builtin.Tuple renaming tupleExact->om,tupleCompareSizes->pX,tupleItemsOf->qS,tupleIsExact->qU
open PySem.Calls renaming callWith_builtin->mE,spliced_cons->mM,spliced_nil->m9,evalArgs_plain->oO,Name_function_global->qR
open PySem.Code renaming quiet_builtin->nk
open PySem.EntryCells renaming newEntry->rh
open PySem.Expr renaming Call->qP
open PySem.F renaming slot_dict_keyiterator_next->lz,slot_tuple_iterator_next->m6,slot_zip_next->pk,args_dict_keyiterator_next_1->p6,entry_dict_keyiterator_next->p7,args_tuple_iterator_next_1->qC,entry_tuple_iterator_next->qL,called_tuple->rV
open PySem.Heap renaming get?_push_of_some->FM,get?_push_size->TW,lt_size->Tk,get?_update_other->jl,get?_update_self->kY,size_push->kh,SameBut->mC,IsTuple->qu,ExtBut->rN,IsList->rO
open PySem.Heap.Ns1 renaming of_empty->r9
open PySem.Heap.SameBut renaming update->ma
open PySem.Heap.UpToSlots renaming refl->rj
open PySem.NameKind renaming free->kr,cell->pH
open PySem.Obj renaming mapSeq->km,mapFields->mH,data_mapFields->mq,isFreed_of_fields->pQ
open PySem.PassesOwn renaming never->kg
open PySem.PyData renaming depthAll->l9,canLayAll0->nA,hasDict->oG,eqv->oS,hasDictAll->qa,leavesShortAll->rT
open PySem.SeqAt.EqAt renaming int_str->rm,str_int->rn
open PySem.Shared renaming heap->n9
open PySem.Str renaming ofString->kU,join->mL,empty->mo
open PySem.StrLaws renaming occ_length_le->rW,join_split->r8
open PySem.Value renaming ref->Uf,none->kE,type->kZ,str->nF,builtin->nW,bool->nY,notImplemented->rZ
open Sum renaming inr->mB,inl->pO
open Sum.inr renaming inj->mG
open True renaming intro->lW
open PySem PySem.Spec PyProof.Rows
local macro_rules | `(tactic| walk_at "s")=>`(tactic| (constructor <;> first | rfl | decide +kernel))
namespace _p
set_option tactic.hygienic false

local macro_rules|`(tactic|let#[$x,*]:=$e)=>open Lean Parser Tactic in do
 let q k a:=mkNode ``rcasesPatLo #[mkNode ``rcasesPatMed #[mkNullNode #[mkNode k a]],mkNullNode]
 let p:Syntax:=(← `(term|⟨$x,*⟩)).raw.rewriteBottomUp fun s=>if s.isIdent then q ``rcasesPat.one #[s] else if s.getKind= ``Term.hole then q ``rcasesPat.ignore s.getArgs else if s.getKind= ``Term.anonymousCtor||s.getKind= `«term#[_,]» then q ``rcasesPat.tuple s.getArgs else s
 let m:TSyntax ``rcasesPatMed:=⟨p[0]⟩
 `(tactic|obtain $m:rcasesPatMed:=$e)
local macro_rules|`(tactic|exists $x,*)=>`(tactic|refine⟨$x,*, ?_⟩)
local macro_rules|`(tactic|lk)=>`(tactic|first|lia|omega)
local macro_rules|`(tactic|cbv)=>`(tactic|decide)
local macro_rules|`($f^$x)=>if f.raw.getTrailingSize>0 then Lean.Macro.throwUnsupported else match f with|`($g $a*)=>`($g $a* $x)|_=>`($f $x)
local macro_rules|`(#[%$t $y,*])=>if t.getTrailingSize>0||y.getElems.size=0 then Lean.Macro.throwUnsupported else `(⟨$y,*⟩)
open Option renaming some->P3,none->s_
open Bool renaming true->t_,false->u_
abbrev v_(a:Type u):=List a
abbrev w_(a:Type u):=Option a
namespace L2
abbrev Key:=Sum Int Str
def LY:Key->Db->Bool
 |.inl k,v=>Value.isInt k v
 |.inr x,v=>Value.isStrOf x v
def iM(w:j4):Key->Int
 |.inl k=>hashInt k
 |.inr x=>hashStr w x
theorem BD:∀{k:Key}{v:Db},LY k v=t_->(∃i t,k=pO i/\v=Value.int i t)\/(∃x t,k=mB x/\v=nF x t)
 |.inl i,v,h=>by
  let#[t,e]:=Value.isInt_shape h;exact .inl #[i,t,rfl,e]
 |.inr x,v,h=>by
  let#[t,e]:=Value.isStrOf_shape h;exact .inr #[x,t,rfl,e]
def S0(i:Int)(t:Tok):LY (.inl i)^.int i t=t_:=by simp[LY,Value.isInt]
def Sz(x:Str)(t:Tok):LY (.inr x)^.str x t=t_:=by simp[LY,Value.isStrOf]
theorem bg(a b:Int):decide ((pO a:Key)=pO b)=(a==b):=by
 grind
theorem bc(a b:Str):decide ((mB a:Key)=mB b)=decide (a=b):=by
 grind
def be(a:Int)(b:Str):decide ((pO a:Key)=mB b)=u_:=decide_eq_false λq=>nomatch q
def bd(a:Str)(b:Int):decide ((mB a:Key)=pO b)=u_:=decide_eq_false λq=>nomatch q
def Av(c:ju)(w:j4):PySem.KeyKind c w Key where
 is:=LY
 hash:=iM w
 inj:=λv a b l g=>by
  rcases BD l with⟨i,t,rfl,rfl⟩|⟨x,t,rfl,rfl⟩
  .rcases BD g with⟨j,u,rfl,e⟩|⟨y,u,rfl,e⟩
   .injection e with d _;rw[d]
   .exact nomatch e
  .rcases BD g with⟨j,u,rfl,e⟩|⟨y,u,rfl,e⟩
   .exact nomatch e
   .injection e with d _;rw[d]
 byValue:=λk v h=>by
  rcases BD h with⟨i,t,rfl,rfl⟩|⟨x,t,rfl,rfl⟩ <;>rfl
 pyHash:=λf h=>by
  rcases BD f with⟨i,t,rfl,rfl⟩|⟨x,t,rfl,rfl⟩
  .exact wpAny_pyHash_int h
  .exact wpAny_pyHash_str h
 eqBool:=λm f h=>by
  rcases BD m with⟨i,t,rfl,rfl⟩|⟨x,t,rfl,rfl⟩
  .rcases BD f with⟨j,u,rfl,rfl⟩|⟨y,u,rfl,rfl⟩
   .rw[bg]at h;exact wpAny_eqBool_int h
   .rw[be]at h;exact rm i t y u _ _ _ _ h
  .rcases BD f with⟨j,u,rfl,rfl⟩|⟨y,u,rfl,rfl⟩
   .rw[bd]at h;exact rn x t j u _ _ _ _ h
   .rw[bc]at h;exact wpAny_eqBool_str h
 «strs»:=λk x t v h=>by
  rcases BD h with⟨i,u,rfl,e⟩|⟨y,u,rfl,e⟩
  .exact nomatch e
  .injection e with d _
   subst d
   cases v <;>rfl
def Nw(a:ju)(w:j4)(i:Int)(t:Tok):(Av a w).is (.inl i)^.int i t=t_:=S0 i t
def Nv(a:ju)(w:j4)(x:Str)(t:Tok):(Av a w).is (.inr x)^.str x t=t_:=Sz x t
inductive V where
 |non|bl (b:Bool)|int (i:Int)|str (x:Str)|byt (b:Array UInt8)|flt (b:UInt64)|ref (a:Ch)|ty (n:String)
 deriving DecidableEq
def RelV:V->Db->Prop
 |.non,u=>u=kE
 |.bl b,u=>u=nY b
 |.int i,u=>∃t,u=Value.int i t
 |.str x,u=>∃t,u=nF x t
 |.byt b,u=>∃t,u=Value.bytes b t
 |.flt b,u=>∃t,u=Value.float b t
 |.ref a,u=>u=Uf a
 |.ty n,u=>u=kZ n
abbrev zv:v_ V->v_ Db->Prop:=Paired RelV
def zv.length(r:zv a b):a.length=b.length:=Paired.length r
theorem zv.get:∀{a:v_ V}{b:v_ Db}{i:Nat}{x:V},zv a b->a[i]?=P3 x->∃u,b[i]?=P3 u/\RelV x u
 |_,_,_,_,.nil,e=>by simp at e
 |_,_,0,_,.cons r _,e=>by simp_all
 |_,_,i+1,x,.cons _ t,e=>by
  let#[u,c,d]:=zv.get t^by simpa using e
  simp_all
theorem zv.set(r:RelV x u):∀{a:v_ V}{b:v_ Db} (i:Nat),zv a b->zv (a.set i x)^b.set i u
 |_,_,_,.nil=>.nil
 |_,_,0,.cons _ t=>.cons r t
 |_,_,i+1,.cons q t=>.cons q^zv.set r i t
theorem zv.append:∀{a b:v_ V}{c d:v_ Db},zv a c->zv b d->zv (a++b) (c++d)
 |_,_,_,_,.nil,s=>s
 |_,_,_,_,.cons r t,s=>.cons r^zv.append t s
theorem zv.take:∀{a:v_ V}{b:v_ Db} (n:Nat),zv a b->zv (a.take n)^b.take n
 |_,_,0,_=>.nil
 |_,_,_+1,.nil=>.nil
 |_,_,n+1,.cons r t=>.cons r^zv.take n t
theorem zv.drop:∀{a:v_ V}{b:v_ Db} (n:Nat),zv a b->zv (a.drop n)^b.drop n
 |_,_,0,r=>r
 |_,_,_+1,.nil=>.nil
 |_,_,n+1,.cons _ t=>zv.drop n t
def vH:w_ V->w_ Db->Prop
 |some v,P3 u=>RelV v u
 |none,s_=>True
 |_,_=>False
def KV:v_ (a×V)->v_ (a×Db)->Prop:=Paired fun(p:a×V) (q:a×Db)=>p.1=q.1/\RelV p.2 q.2
def kV:Key->V
 |.inl i=>.int i
 |.inr x=>.str x
inductive HO where
 |lst (xs:List V)
 |tup (xs:List V)
 |dK (kvs:List (Key×V))|dT (kvs:List (List Key×V))
 |set (S:Int->Bool) (n:Nat)
 |ins (C dx:Ch) (fs:List (Str×V))
 |own (x:Ch)
 |xd (fs:List (Str×V))
 |met (f x:Ch)
 |rng (lo hi:Int)
 |frz (o:Obj) (u:HO)
 |tbl (ps:Array Db)
 |ext (φ:jq->Prop)
 |vol (u:HO)
abbrev Hp:=Ch->w_ HO
def AX(H:Hp)(a:Ch)(o:HO):Hp:=λb=>if b=a then P3 o else H b
theorem AI:AX H a o a=P3 o:=by unfold AX;grind
def AG(h:b≠a):AX H a o b=H b:=by unfold AX;rw[if_neg h]
theorem ZV{H:Hp}(h:H a=P3 o)(c:H b=P3 u)(d:o≠u):a≠b:=by
 grind
theorem Aa{H:Hp}(h:H a=P3 o)(c:H b=s_):a≠b:=by
 grind
def vw(h:jq)(a:Ch)(b:Array Db):Prop:=∃o,h.get? a=P3 o/\o.cls=.type "tuple"/\∃n,o.data=.seq b n/\o.dict=s_/\o.slots=#[]
def vw.tup{h:jq}{a:Ch}{b:Array Db}(x:vw h a b):IsTup h a b:=let #[o,c,d,n,e,_]:=x;#[o,c,d,n,e]
def vw.new(h:jq)(a:Array Db):vw (h.push {cls:=.type "tuple",data:=.seq a}) h.objs.size a:=#[_,TW _ rfl,rfl,_,rfl,rfl,rfl]
section
variable (P:Program)(w:World)
def zh(H:Hp)(h:jq)(a:Ch):HO->Prop
 |.lst d=>d.length<=sizeLine/\∃(b:v_ Db) (n:Nat),zv d b/\h.get? a=P3 {cls:=.type "list",data:=.seq b.toArray n}
 |.tup d=>d.length<=sizeLine/\∃b:v_ Db,zv d b/\vw h a b.toArray
 |.dK c=>c.length<=sizeLine/\(a==sysModules)=u_/\∃k,KV c k/\h.DictOf (Av P w) a k
 | .dT c=>c.length<=sizeLine/\(a==sysModules)=u_/\∃d:v_ (v_ Key×Ch×Db),
   Paired (fun(p:v_ Key×V) (q:v_ Key×Ch×Db)=>p.1=q.1/\H q.2.1=P3^.tup^p.1.map kV/\RelV p.2 q.2.2) c d /\
   ∃o l y,h.get? a=P3 o/\o.ExactDict/\o.data=.dict l y/\l.toList=d.map^entryOfKey^tupleKind^Av P w/\(d.map (·.1)).Nodup
 |.set S n=>h.SetOf (intKind P w) a S n
 | .ins C i g=>H i=P3^.own a/\g.length<=1000/\i≠a/\h.get? a=P3^PySem.W.instObj C i /\
   ∃e,h.Ns1 i e/\(∀f,vH (g.lookup f)^e f)/\PySem.Within e (g.map (·.1))
 |.own _=>∃o,h.get? a=P3 o
 |.xd g=>∃e,h.Ns1 a e/\∀f,vH (g.lookup f)^e f
 |.rng z A=>∃t u v,h.get? a=P3 {cls:=.type "range",data:=.fields #[ .int z t,.int A u,.int 1 v]}
 |.frz o u=>h.get? a=P3 o/\zh H h a u
 |.tbl B=>h.get? a=P3 {cls:=.none,data:=.fields B}
 |.met f x=>h.get? a=P3^PySem.W.methodObj (.ref f)^.ref x
 |.vol u=>zh H h a u
 |.ext j=>j h/\(∃o,h.get? a=P3 o)/\∀m r:jq,j m->(∀o,m.get? a=P3 o->r.get? a=P3 o)->j r
def HOk(H:Hp)(h:jq):Prop:=∀a o,H a=P3 o->zh P w H h a o
end
section

def zh.lt(x:zh P w H h a o):a<h.objs.size:=by
 induction o with
 |lst d=>let#[_,_,_,_,e]:=x;exact Tk e
 |tup d=>let#[_,_,_,p]:=x;exact p.tup.lt
 |dK b=>let#[_,_,_,_,o,_,_,e,_]:=x;exact Tk e
 |dT b=>let#[_,_,_,_,o,_,_,e,_]:=x;exact Tk e
 |set S n=>let#[o,_,_,_,e,_]:=x;exact Tk e
 |ins C i g=>let#[_,_,_,e,_]:=x;exact Tk e
 |own y=>let#[_,e]:=x;exact Tk e
 |xd g=>let#[_,#[_,_,_,e,_],_]:=x;exact Tk e
 |rng j k=>let#[_,_,_,e]:=x;exact Tk e
 |vol u c=>exact c x
 |frz ob u c=>let#[e,_]:=x;exact Tk e
 |tbl l=>exact Tk (show h.get? a=P3 _ from x)
 |met f y=>exact Tk (show h.get? a=P3 _ from x)
 |ext m=>let#[_,#[_,e],_]:=x;exact Tk e
theorem Paired.mapP:∀{c:v_ e}{d:v_ g},Paired F c d->(∀a b,F a b->G a b)->Paired G c d
 |_,_,.nil,_=>.nil
 |_,_,.cons r t,f=>.cons (f _ _ r)^Paired.mapP t f
def Paired.imp'(f:∀a b,F a b->G a b)(r:Paired F c d):Paired G c d:=Paired.mapP r f
def zh.J6(x:zh P w H h a o)(k:∀b u,(b=a\/H b=P3^.own a)->h.get? b=P3 u->h'.get? b=P3 u)
  (F:∀b,H b=P3^.own a->H' b=P3^.own a) (G:∀b l,H b=P3^.tup l->H' b=P3^.tup l):zh P w H' h' a o:=by
 induction o with
 |lst l=>let#[z,j,n,r,e]:=x;exact#[z,j,n,r,k _ _ (.inl rfl) e]
 |tup l=>let#[z,j,r,ob,e,c]:=x;exact#[z,j,r,ob,k _ _ (.inl rfl) e,c]
 |dK m=>let#[z,y,I,r,ob,g,i,e,c]:=x;exact#[z,y,I,r,ob,g,i,k _ _ (.inl rfl) e,c]
 |dT m=>
  let#[z,y,l,r,ob,g,i,e,c]:=x;exact#[z,y,l,Paired.mapP r λp q z=>#[z.1,G _ _ z.2.1,z.2.2],ob,g,i,k _ _ (.inl rfl) e,c]
 |set S n=>let#[ob,g,i,t,e,c]:=x;exact#[ob,g,i,t,k _ _ (.inl rfl) e,c]
 |ins C M J=>
  let#[d,z,K,e,s,#[A,g,i,L,c],r]:=x;exact#[F _ d,z,K,k _ _ (.inl rfl) e,s,#[A,g,i,k _ _ (.inr d) L,c],r]
 |own y=>let#[ob,e]:=x;exact#[ob,k _ _ (.inl rfl) e]
 |xd J=>let#[s,#[A,g,i,e,c],r]:=x;exact#[s,#[A,g,i,k _ _ (.inl rfl) e,c],r]
 |rng N O=>let#[t,u,v,e]:=x;exact#[t,u,v,k _ _ (.inl rfl) e]
 |vol u B=>exact B x
 |frz ob u B=>let#[e,q]:=x;exact#[k _ _ (.inl rfl) e,B q]
 |tbl D=>
  have e:h.get? a=P3 {cls:=.none,data:=.fields D}:=x;show h'.get? a=P3 {cls:=.none,data:=.fields D};exact k a _ (.inl rfl) e
 |met f y=>
  have e:h.get? a=P3^PySem.W.methodObj (.ref f)^.ref y:=x;show h'.get? a=P3^PySem.W.methodObj (.ref f)^.ref y;exact k a _ (.inl rfl) e
 |ext Q=>let#[p,#[o,e],E]:=x;exact#[E _ _ p λo q=>k _ _ (.inl rfl) q,#[o,k _ _ (.inl rfl) e],E]
def HOk.lt(x:HOk P w H h)(e:H a=P3 o):a<h.objs.size:=(x a o e).lt
def HOk.fresh(x:HOk P w H h)(e:h.objs.size<=a):H a=s_:=by
 cases q:H a with
 |none=>rfl
 |some u=>exact absurd (jz (x.lt q) e)^ko _
def HOk.kept(x:HOk P w H h)(k:∀b u,h.get? b=P3 u->h'.get? b=P3 u):HOk P w H h':=λa o e=>
 (x a o e).J6 (λb u _ q=>k b u q) (λ_ q=>q) λ_ _ q=>q
theorem HOk.laid(x:HOk P w H h)(k:∀b u,h.get? b=P3 u->h'.get? b=P3 u)(g:h.objs.size<=a)(new:zh P w (AX H a o) h' a o):HOk P w (AX H a o) h':=λb u e=>by
 have d:=x.fresh g
 by_cases f:b=a
 .subst f;rw[AI]at e;grind
 .rw[AG f]at e
  exact(x b u e).J6 (λc v _ q=>k c v q) (λc q=>by rw[AG^Aa q d];exact q) λc i q=>by rw[AG^Aa q d];exact q
end
def Rd(H:Hp)(a:Ch)(u:HO):Prop:=H a=P3 u\/∃o,H a=P3^.frz o u
def Rd.ok(r:Rd H a u)(x:HOk P w H h):zh P w H h a u:=by
 rcases r with r|⟨o,r⟩
 .exact x a u r
 .let#[_,q]:=x a _ r
  exact q
def gS:w_ HO->Prop
 |some (.lst _)=>True
 |some (.dK _)=>True
 |some (.dT _)=>True
 |some (.set _ _)=>True
 |some (.vol _)=>True
 |some (.ext _)=>True
 |_=>False
section

theorem HOk.write(ok:HOk P w H h)(f:gS^H x)(o:e=x\/H e=P3^.own x)(k:∀b u,b≠e->h.get? b=P3 u->h'.get? b=P3 u)(i:∃u,h'.get? e=P3 u)
  (new:zh P w (AX H x o') h' x o'):HOk P w (AX H x o') h':=λb u q=>by
 have a:∀c y,H c=P3^.own y->c≠x:=λc y r z=>by subst z;rw[r]at f;exact f
 have d:∀c g,H c=P3^.tup g->c≠x:=λc g r z=>by subst z;rw[r]at f;exact f
 by_cases l:b=x
 .subst l;rw[AI]at q;cases q;exact new
 .rw[AG l]at q
  by_cases j:b=e
  .have m:H b=P3^.own x:=by
    grind
   rw[q]at m;cases m
   let#[v,n]:=i;exact#[v,by rw[j];exact n]
  .refine(ok b u q).J6 (λc v p r=>k c v ?_ r) (λc r=>by rw[AG^a c b r];exact r) λc g r=>by rw[AG^d c g r];exact r
   grind
end
structure Un (fs ex:List Ch) (H H':Hp) (h h':jq):Prop where
 keep:∀b o,h.get? b=P3 o->H b=s_->b∉fs->b∉ex->h'.get? b=P3 o
 slot:∀b o,h.get? b=P3 o->H b=s_->b∈fs->b∉ex->∃sl,h'.get? b=P3 {o with slots:=sl}
 free:∀b o,h.get? b=P3 o->H b=s_->b∉ex->H' b=s_
 there:∀b o,h.get? b=P3 o->b∉ex->∃o',h'.get? b=P3 o'
 vy:∀b xs,H b=P3^.tup xs->H' b=P3 (.tup xs)
 vE:∀b o u,H b=P3^.frz o u->H' b=P3 (.frz o u)
 vI:∀b ps,H b=P3^.tbl ps->∃more,H' b=P3^.tbl (ps++more)
section

def Un.any(u:Un fs ex H H1 h h1)(q:h.get? b=P3 ob)(n:H b=s_)(c:b∉ex):∃e,h1.get? b=P3 {ob with slots:=e}:=by
 by_cases d:b∈fs
 .exact u.slot b ob q n d c
 .exact#[_,u.keep b ob q n d c]
theorem Un.trans(a:Un fs ex H H1 h h1)(b:Un fs ex H1 H2 h1 h2):Un fs ex H H2 h h2 where
 keep:=λc ob q n f d=>b.keep c ob (a.keep c ob q n f d) (a.free c ob q n d) f d
 slot:=λc ob q n f d=>by
  let#[m,e]:=a.slot c ob q n f d;let#[k,j]:=b.slot c _ e (a.free c ob q n d) f d;exact#[_,j]
 free:=λc ob q n d=>by
  let#[i,e]:=a.there c ob q d;exact b.free c i e (a.free c ob q n d) d
 there:=λc ob q d=>by
  let#[i,e]:=a.there c ob q d;exact b.there c i e d
 vy:=λc g q=>b.vy c g (a.vy c g q)
 vE:=λc ob g q=>b.vE c ob g (a.vE c ob g q)
 vI:=λc l q=>by
  let#[p,e]:=a.vI c l q;let#[r,j]:=b.vI c _ e
  grind
def Un.kept(k:∀b u,h.get? b=P3 u->h'.get? b=P3 u):Un fs ex H H h h':=
 #[λb ob q _ _ _=>k b ob q,λb ob q _ _ _=>#[_,k b ob q],λ_ _ _ n _=>n,λb ob q _=>#[ob,k b ob q],λ_ _ q=>q,λ_ _ _ q=>q,λ_ c q=>#[#[],by rw[q];simp]]
def Un.refl:Un fs ex H H h h:=Un.kept λ_ _ q=>q
def Un.laid(k:∀b u,h.get? b=P3 u->h'.get? b=P3 u)(d:h.objs.size<=a)(c:H a=s_):Un fs ex H (AX H a o) h h' where
 keep:=λb u q _ _ _=>k b u q
 slot:=λb u q _ _ _=>#[_,k b u q]
 free:=λb u q n _=>by rw[AG^jo^jz (Tk q) d];exact n
 there:=λb u q _=>#[u,k b u q]
 vy:=λb e q=>by rw[AG^Aa q c];exact q
 vE:=λb u e q=>by rw[AG^Aa q c];exact q
 vI:=λb f q=>#[#[],by rw[AG^Aa q c,q];simp]
theorem Un.write(f:gS^H x)(m:e=x\/H e=P3^.own x)(k:∀b u,b≠e->h.get? b=P3 u->h'.get? b=P3 u)(i:∃u,h'.get? e=P3 u):Un fs ex H (AX H x o) h h':=by
 have j:∀b,H b=s_->b≠x:=λb n z=>by subst z;rw[n]at f;exact f
 have g:∀b,H b=s_->b≠e:=λb n z=>by
  grind
 have c:∀b u,H b=P3 u->¬gS^P3 u->b≠x:=λb u q p z=>by grind
 refine#[λb u q n _ _=>k b u (g b n) q,λb u q n _ _=>#[u.slots,k b u (g b n) q],λb u q n _=>by rw[AG^j b n];exact n,λb u q _=>?_,
  λb l q=>by rw[AG^c b _ q λz=>z];exact q,λb u l q=>by rw[AG^c b _ q λz=>z];exact q,λb r q=>#[#[],by rw[AG^c b _ q λz=>z,q];simp]]
 by_cases d:b=e
 .simp_all
 .exact#[u,k b u d q]
end
def jR(h:jq)(H:Hp):v_ Ch:=(kH h.objs.size).filter λa=>(H a).isSome
def Mg(h:jq)(H:Hp):jq:=PySem.W.hideAll h^jR h H
def S7(h:jq)(H:Hp):(Mg h H).objs.size=h.objs.size:=PySem.W.hideAll_size _ _
theorem V0(e:h.get? b=P3 o)(n:H b=s_):(Mg h H).get? b=P3 o:=
 PySem.W.hideAll_get _ e λa=>by
  have q:=(kI.mp a).2
  grind
theorem Xq(e:(Mg h H).get? b=P3 o):h.get? b=P3 o/\H b=s_:=by
 have a:=PySem.W.of_hideAll _ e;exists a;cases q:H b with
 |none=>rfl
 |some x=>
  have z:(Mg h H).get? b=s_:=PySem.W.hideAll_none _^kI.mpr #[lR.mpr^Tk a,by simp[q]]
  grind
structure Mod (K:Frag) (mg:Str->Option Db) (base:jq):Prop where
 kin:K.In base
 glob:base.Ns mainGlobals mg
 blt:∃mb,base.Ns builtinsNs mb/\∀x:Str,x ≠ "__name__"->mb x=bootBuiltins x
 nolimit:base.NoLimit
/-- the context:a def's body (or a comprehension's block) running. base:fixed through the whole law;s₀,H₀:the entry;outer:the frames whose slots others may change (a def's callers);stack:all frames that run;
   ex:iterators that were made ahead of the entry and are walked here^a comprehension's;fn:the names whose cells were made at the entry (a def:all;a comprehension's block:its own);calm:not within an except suite;pn:zF that every state bears;xe:what is wanted of an exception that leaves the code -/
structure Cx where
 prog:ju
 w:j4
 K:Frag
 mg:Str->Option Db
 base:jq
 A:kA
 N:List Str
 s₀:Go
 H₀:Hp
 env:Env
 outer:List Env
 stack:List Env
 ex:List Ch
 fn:Str->Bool
 calm:Bool
 pn:List (Ch×Obj)
 xe:Db->Go->Prop
def Lb(l:v_ Env):v_ Ch:=l.filterMap (·.frame)
abbrev Cx.fs(X:Cx):v_ Ch:=Lb X.outer
abbrev Cx.sE(X:Cx)(e:Expr)(es:v_ Expr):Prop:=starEach (e::es) X.env=(u_,eval e X.env)::starEach es X.env
abbrev Cx.lO(X:Cx)(x:Str):Prop:=X.fn x=t_\/X.env.scope.names.lookup x=P3 .local
abbrev dbN(x:Str):Prop:=(x==("__debug__":Str))=u_
def Ov(a:mP)(x:Str):Prop:=a.names.lookup x=P3 .local\/a.names.lookup x=P3 .cell\/a.names.lookup x=P3 .free
def Loc(a:mP)(x:Str):Prop:=a.names.lookup x=P3 .local\/a.names.lookup x=P3 .cell
def Look(a:Env)(h:jq)(m:Str->w_ Db)(x:Str)(u:Db):Prop:=
 (a.kindOf x=P3 .local/\m x=P3 u)\/((a.kindOf x=P3 .cell\/a.kindOf x=P3 .free)/\∃c,a.cells.lookup x=P3 c/\h.IsCell c^P3 u)
structure Cx.Ok (X:Cx):Prop where
 mod:Mod X.K X.mg X.base
 kind:X.env.scope.kind=.function
 glob:X.env.globals=mainGlobals
 blt:X.env.builtins=builtinsNs
 above:X.s₀.heap.objs.size<=X.env.locals
 inj:∀x y c,X.env.cells.lookup x=P3 c->X.env.cells.lookup y=P3 c->x=y
 has:∀x,(X.env.kindOf x=P3 .cell\/X.env.kindOf x=P3 .free)->∃c,X.env.cells.lookup x=P3 c
 cab:∀x c,X.fn x=t_->X.env.cells.lookup x=P3 c->X.s₀.heap.objs.size<=c
 hd:X.calm=t_->X.A.handled=s_
 frames:X.A.frames=P3 X.stack
 stk:X.stack=X.outer\/(X.stack=X.env::X.outer/\X.env.frame=P3 X.env.locals)
 exf:∀b∈X.ex,b≠X.env.locals/\∀x c,X.env.cells.lookup x=P3 c->c≠b
 bs:∀b o,X.base.get? b=P3 o->X.s₀.heap.get? b=P3 o/\X.H₀ b=s_
 bsz:X.base.objs.size<=X.s₀.heap.objs.size
 noex:∀b o,X.base.get? b=P3 o->b∉X.ex
 exfs:∀b∈X.ex,b∉X.fs
 YP:X.s₀.heap.FunFrames X.base X.outer
 frf:∀b∈X.fs,X.H₀ b=s_
structure Inv (X:Cx) (zF:List (Ch×Obj)) (σ:List^Option V) (H:Hp) (s:Go):Prop where
 ok:X.Ok
 os:s.os=X.s₀.os
 bare:oB s.gens
 base:Un X.fs X.ex X.H₀ H X.s₀.heap s.heap
 loc:∃m,s.heap.Ns X.env.locals m/\∀(i:Nat) (x:Str) (v:V),X.N[i]?=P3 x->σ[i]?=P3^P3 v->Ov X.env.scope x->∃u,RelV v u/\Look X.env s.heap m x u
 cell:∀x c,X.env.cells.lookup x=P3 c->∃v,s.heap.IsCell c v
 free:H X.env.locals=s_
 vG:∀x c,X.env.cells.lookup x=P3 c->H c=s_
 pin:∀p∈X.pn++zF,s.heap.get? p.1=P3 p.2/\H p.1=s_/\p.1≠X.env.locals/\p.1∉X.fs/\∀v,p.2.data≠.cell v
 hok:HOk X.prog X.w H s.heap
 len:σ.length=X.N.length
section
variable {X:Cx}
theorem Cx.Ok.nofr(ok:X.Ok)(e:X.base.get? b=P3 o):b∉X.fs:=λa=>by
 have:=(ok.YP.mem a).1
 grind
def Inv.bs(I:Inv X zF σ H s):∀b o,X.base.get? b=P3 o->s.heap.get? b=P3 o/\H b=s_:=λb o e=>
 #[I.base.keep b o (I.ok.bs b o e).1 (I.ok.bs b o e).2 (I.ok.nofr e)^I.ok.noex b o e,I.base.free b o (I.ok.bs b o e).1 (I.ok.bs b o e).2 (I.ok.noex b o e)]
def Inv.bk(I:Inv X zF σ H s):∀b o,X.base.get? b=P3 o->s.heap.get? b=P3 o:=λb o e=>(I.bs b o e).1
def Inv.mod(I:Inv X zF σ H s):Mod X.K X.mg X.base:=I.ok.mod
def Inv.kIn(I:Inv X zF σ H s):X.K.In s.heap:=I.ok.mod.kin.keeps I.bk
def Inv.lt(I:Inv X zF σ H s):X.env.locals<s.heap.objs.size:=let #[_,a,_]:=I.loc;a.lt
def Inv.sz(I:Inv X zF σ H s):X.s₀.heap.objs.size<=s.heap.objs.size:=jr I.ok.above^pY I.lt
def Inv.nofs(I:Inv X zF σ H s)(h:s.heap.objs.size<=a):a∉X.fs:=λb=>by
 let#[_,o,c,_]:=I.ok.YP.mem b;exact absurd (jz (Tk c)^jr I.sz h)^ko _
theorem Inv.cne(I:Inv X zF σ H s):∀x c,X.env.cells.lookup x=P3 c->c≠X.env.locals:=λx c e z=>by
 let#[v,o,d,f]:=I.cell x c e;let#[m,#[g,h,i,a,b,_],_]:=I.loc
 grind
def Inv.YP(I:Inv X zF σ H s):s.heap.FunFrames X.base X.outer:=by
 have all:∀(l:v_ _),(∀b∈Lb l,b∈X.fs)->X.s₀.heap.FunFrames X.base l->s.heap.FunFrames X.base l:=by
  intro l
  induction l with
  |nil=>intro _ _;trivial
  |cons g r h=>
   intro d i;let#[j,#[L,o,f,k,m,n],p]:=i;have a:=d L (by unfold Lb;simp_all);let#[q,e]:=I.base.slot L o m (I.ok.frf L a) a λz=>I.ok.exfs L z a;exact#[j,#[L,_,f,k,e,n],h (λb c=>d b^by unfold Lb;rw[List.filterMap_cons,f];exact Rs _ c) p]
 exact all _ (λ_ c=>c) I.ok.YP
def Inv.stack(I:Inv X zF σ H s):s.heap.FunFrames X.base X.stack:=by
 rcases I.ok.stk with e|⟨e,a⟩
 .rw[e];exact I.YP
 .rw[e]
  let#[m,b,_]:=I.loc;exact .cons (by rw[I.ok.kind];decide) a b (Heap.get?_none_of_le^jr I.ok.bsz I.ok.above) I.YP
theorem Inv.yV(I:Inv X zF σ H s):∀b∈Lb X.stack,b∈X.env.locals::X.fs:=λb a=>by
 rcases I.ok.stk with e|⟨e,c⟩
 .grind
 .rw[e]at a
  unfold Lb at a;rw[List.filterMap_cons,c]at a;exact a
def Inv.yK(I:Inv X zF σ H s):∀b∈Lb X.stack,H b=s_:=λb a=>by
 rcases UF.mp^I.yV b a with e|a
 .rw[e];exact I.free
 .let#[_,o,c,_]:=I.ok.YP.mem a
  exact I.base.free b o c (I.ok.frf b a) λz=>I.ok.exfs b z a
def Inv.step{ch:v_ Ch}(I:Inv X zF σ H s)
  (f:∀b∈ch,(b∈X.ex\/X.s₀.heap.objs.size<=b)/\b≠X.env.locals/\(∀x c,X.env.cells.lookup x=P3 c->c≠b)/\∀p∈X.pn++zF,p.1≠b)
  (keep:∀b o,b≠X.env.locals->b∉X.fs->b∉ch->s.heap.get? b=P3 o->H b=s_->h'.get? b=P3 o)
  (y:∀b o,b≠X.env.locals->b∈X.fs->b∉ch->s.heap.get? b=P3 o->H b=s_->∃N,h'.get? b=P3 {o with slots:=N}) (free:∀b o,b∉ch->s.heap.get? b=P3 o->H b=s_->H' b=s_)
  (B:∀b o,b∉ch->s.heap.get? b=P3 o->∃E,h'.get? b=P3 E)
  (vy:∀b A,H b=P3^.tup A->H' b=P3^.tup A) (F:∀b o u,H b=P3^.frz o u->H' b=P3^.frz o u) (G:∀b M,H b=P3^.tbl M->∃J,H' b=P3^.tbl (M++J))
  (U:∀m,s.heap.Ns X.env.locals m->h'.Ns X.env.locals m) (hok:HOk X.prog X.w H' h') (V:oB g'):
  Inv X zF σ H' {s with heap:=h',gens:=g',drawn:=d',toks:=t'}:=by
 have K:∀b o,X.s₀.heap.get? b=P3 o->b≠X.env.locals:=λb o e=>jo^jz (Tk e) I.ok.above
 have j:∀b o,X.s₀.heap.get? b=P3 o->b∉X.ex->b∉ch:=λb o e a C=>by
  rcases(f b C).1 with z|z
  .exact a z
  .exact absurd (jz (Tk e) z)^ko _
 have g:∀x c,X.env.cells.lookup x=P3 c->∀v,s.heap.IsCell c v->h'.IsCell c v:=λx c e v #[o,D,O]=>by
  have h:c∉ch:=λz=>(f c z).2.2.1 x c e rfl
  by_cases Q:c∈X.fs
  .let#[N,q]:=y c o (I.cne x c e) Q h D^I.vG x c e
   exact#[_,q,O]
  .exact#[o,keep c o (I.cne x c e) Q h D^I.vG x c e,O]
 refine#[I.ok,I.os,V,#[λb o e n C a=>?_,λb o e n C a=>?_,λb o e n a=>?_,λb o e a=>?_,λb A e=>vy b A^I.base.vy b A e,λb o A e=>F b o A^I.base.vE b o A e,λb M e=>?_],?_,λx c e=>?_,?_,λx c e=>?_,λp R=>?_,hok,I.len]
 .exact keep b o (K b o e) C (j b o e a) (I.base.keep b o e n C a)^I.base.free b o e n a
 .let#[N,t]:=I.base.slot b o e n C a
  let#[P,L]:=y b _ (K b o e) C (j b o e a) t^I.base.free b o e n a;exact#[P,L]
 .let#[E,t]:=I.base.there b o e a
  exact free b E (j b o e a) t^I.base.free b o e n a
 .let#[E,t]:=I.base.there b o e a
  exact B b E (j b o e a) t
 .let#[W,t]:=I.base.vI b M e
  let#[Y,L]:=G b _ t;exact#[W++Y,by rw[L,Array.append_assoc]]
 .let#[m,Z,hl]:=I.loc
  refine#[m,U m Z,λi x v t L e3=>?_];let#[u,r,l]:=hl i x v t L e3;exists u,r
  rcases l with l|⟨k,c,e,z⟩
  .exact .inl l
  .exact .inr #[k,c,e,g x c e _ z]
 .let#[v,z]:=I.cell x c e
  exact#[v,g x c e v z]
 .let#[m,#[o,_,_,D,_],_]:=I.loc
  exact free _ o (λz=>(f _ z).2.1 rfl) D I.free
 .let#[v,o,D,O]:=I.cell x c e
  exact free c o (λz=>(f c z).2.2.1 x c e rfl) D^I.vG x c e
 .let#[e,n,S,T,d]:=I.pin p R
  have h:p.1∉ch:=λz=>(f p.1 z).2.2.2 p R rfl;exact#[keep p.1 p.2 S T h e n,free p.1 p.2 h e n,S,T,d]
def Inv.un(I:Inv X zF σ H s)(u:Un X.fs [] H H' s.heap h')(hok:HOk X.prog X.w H' h'):Inv X zF σ H' {s with heap:=h',toks:=t'}:=by
 let#[m,#[o,k,l,d,r],_]:=id I.loc;let#[p,f]:=u.any d I.free^by simp
 exact I.step (ch:=[]) (λ_ z=>nomatch z) (λb o _ c _ e n=>u.keep b o e n c^by simp) (λb o _ c _ e n=>u.slot b o e n c^by simp) (λb o _ e n=>u.free b o e n^by simp) (λb o _ e=>u.there b o e^by simp) u.vy u.vE u.vI (λq g=>by
  let#[t,h,i,a,j]:=g;rw[d]at a;cases a
  exact#[_,_,_,f,j]) hok I.bare
def Inv.call(I:Inv X zF σ H s)(u:Un (Lb X.stack) i H H' s.heap h')(hok:HOk X.prog X.w H' h')(q:oB h)
  (d:∀b∈i,(b∈X.ex\/X.s₀.heap.objs.size<=b)/\b≠X.env.locals/\(∀x c,X.env.cells.lookup x=P3 c->c≠b)/\∀p∈X.pn++zF,p.1≠b):
  Inv X zF σ H' {s with heap:=h',gens:=h,drawn:=l,toks:=k}:=by
 let#[m,#[o,C,D,j,r],_]:=id I.loc;let#[E,g]:=u.any j I.free λz=>(d _ z).2.1 rfl
 exact I.step d (λb o g t a e n=>u.keep b o e n (λz=>(UF.mp^I.yV b z).elim g t) a) (λb o _ _ a e n=>u.any e n a) (λb o a e n=>u.free b o e n a) (λb o a e=>u.there b o e a) u.vy u.vE u.vI (λF v=>by
  let#[G,y,A,f,B]:=v;rw[j]at f;cases f
  exact#[_,_,_,g,B]) hok q
theorem Inv.turned(I:Inv X zF σ H s)(k:∀b o,b≠it->s.heap.get? b=P3 o->h'.get? b=P3 o)(y:H it=s_)(d:it≠X.env.locals)
  (h1:it∈X.ex\/X.s₀.heap.objs.size<=it) (f:∀x c,X.env.cells.lookup x=P3 c->c≠it) (g:∀p∈X.pn++zF,p.1≠it):Inv X zF σ H {s with heap:=h',toks:=t'}:=by
 have h:∀b u,H b=P3 u->b≠it:=λb u e z=>by grind
 refine I.step (g':=s.gens) (d':=s.drawn) (ch:=[it]) (λb i=>?_) (λb o _ _ a e _=>k b o (λz=>a^by simp[z]) e) (λb o _ _ a e _=>#[o.slots,k b o (λz=>a^by simp[z]) e]) (λ_ _ _ _ n=>n)
  (λb o a e=>#[o,k b o (λz=>a^by simp[z]) e]) (λ_ _ e=>e) (λ_ _ _ e=>e) (λb A e=>#[#[],by rw[e];simp]) (λm j=>?_) (λb u e=>?_) I.bare
 .have e:b=it:=by simpa using i
  subst e;exact#[h1,d,f,g]
 .let#[o,l,t,w,r]:=j
  exact#[o,l,t,k _ o (kM d) w,r]
 .refine(I.hok b u e).J6 (λc v a q=>k c v ?_ q) (λ_ q=>q) λ_ _ q=>q
  grind
def Inv.tok(I:Inv X zF σ H s)(t:Nat):Inv X zF σ H {s with toks:=t}:=I.un Un.refl I.hok
def Inv.kept(I:Inv X zF σ H s)(k:∀b u,s.heap.get? b=P3 u->h'.get? b=P3 u):Inv X zF σ H {s with heap:=h',toks:=t'}:=I.un (Un.kept k)^I.hok.kept k
def Inv.laid(I:Inv X zF σ H s)(k:∀b u,s.heap.get? b=P3 u->h'.get? b=P3 u)(c:s.heap.objs.size<=a)(d:zh X.prog X.w (AX H a o) h' a o):
  Inv X zF σ (AX H a o) {s with heap:=h',toks:=t'}:=I.un (Un.laid k c^I.hok.fresh c)^I.hok.laid k c d
def Inv.write(I:Inv X zF σ H s)(d:gS^H x)(f:e=x\/H e=P3^.own x)(k:∀b u,b≠e->s.heap.get? b=P3 u->h'.get? b=P3 u)(a:∃u,h'.get? e=P3 u)
  (c:zh X.prog X.w (AX H x o) h' x o):Inv X zF σ (AX H x o) {s with heap:=h',toks:=g}:=I.un (Un.write d f k a)^I.hok.write d f k a c
def Inv.pins_of(I:Inv X zF σ H s)(h:∀p∈a,s.heap.get? p.1=P3 p.2/\H p.1=s_/\p.1≠X.env.locals/\p.1∉X.fs/\∀v,p.2.data≠.cell v):Inv X a σ H s:=
 #[I.ok,I.os,I.bare,I.base,I.loc,I.cell,I.free,I.vG,λp b=>(jj.mp b).elim (λz=>I.pin p^kW _ z)^h p,I.hok,I.len]
def JU{N:v_ Str}(c:N.Nodup){i j:Nat}(a:N[i]?=P3 x)(b:N[j]?=P3 x):i=j:=by
 let#[f,d]:=XV.mp a;let#[g,e]:=XV.mp b;exact(List.getElem_inj c).mp^d.trans e.symm
def LF(I:Inv X zF σ H s)(hN:X.N.Nodup)(hi:X.N[i]?=P3 x)(B:Loc X.env.scope x)(r:RelV v u)
  (h:∀s',Inv X zF (σ.set i^P3 v) H s'->(∃a,mC a s.heap s'.heap/\(a=X.env.locals\/X.env.cells.lookup x=P3 a))->Q () s') (hf:X.lO x:=by first|exact .inl rfl|exact .inr rfl|assumption):wpAny M A (storeName X.env x u) Q E s:=by
 let#[m,hn,hl]:=id I.loc;have P:(X.env.scope.kind==.class||(X.env.scope.kind==.module&&X.env.locals !=X.env.globals))=u_:=by rw[I.ok.kind];rfl
 have F:i<σ.length:=by rw[I.len];exact(XV.mp hi).1
 have J:=I.cne
 have g:∀{a:Ch}{h':jq},(∃o,s.heap.get? a=P3 o/\H a=s_)->mC a s.heap h'->HOk X.prog X.w H h':=λ{a h'} ha f b ob e=>by
  let#[_,_,C]:=ha;refine(I.hok b ob e).J6 (λc W t q=>(f.2 c ?_).trans q) (λ_ q=>q) λ_ _ q=>q;rintro rfl
  rcases t with rfl|t
  .rw[C]at e;cases e
  .rw[C]at t;cases t
 rcases B with G|G
 .refine wpAny_storeName_local G hn (λh' a0 f=>?_) P
  let#[oL,_,_,a1,_]:=id hn;refine h _ #[I.ok,I.os,I.bare,#[λb o e n K B=>?_,λb o e n K B=>?_,I.base.free,λb o e B=>?_,I.base.vy,I.base.vE,I.base.vI],#[_,a0,λj y v' l D e3=>?_],λy c e=>?_,I.free,I.vG,λp hp=>?_,g #[oL,a1,I.free] f,by simpa using I.len] #[_,f,.inl rfl]
  .exact(f.2 b^jo^jz (Tk e) I.ok.above).trans^I.base.keep b o e n K B
  .let#[sl,l]:=I.base.slot b o e n K B
   exact#[sl,(f.2 b^jo^jz (Tk e) I.ok.above).trans l]
  .let#[o',l]:=I.base.there b o e B
   exact#[o',(f.2 b^jo^jz (Tk e) I.ok.above).trans l]
  .by_cases L:j=i
   .subst L
    rw[hi]at l;cases l
    rw[rL F]at D;cases D;exact#[u,r,.inl #[G,by simp]]
   .rw[pZ^kM L]at D
    let#[u',r',q]:=hl j y v' l D e3;exists u',r'
    rcases q with⟨k,e⟩|⟨k,c,e,z⟩
    .refine .inl #[k,?_]
     have:y≠x:=λe=>L^JU hN l (e▸hi)
     simp[this,e]
    .exact .inr #[k,c,e,z.sameBut f^J y c e]
  .let#[W,z]:=I.cell y c e
   exact#[W,z.sameBut f^J y c e]
  .let#[e,n,Y,nf,d]:=I.pin p hp
   exact#[(f.2 p.1 Y).trans e,n,Y,nf,d]
 .have O:X.fn x=t_:=by
   rcases hf with z|z
   .exact z
   .rw[z]at G;cases G
  let#[c,t]:=I.ok.has x^.inl G;let#[W,z]:=I.cell x c t;refine wpAny_storeName_cell I.ok.kind G t z λh' R f=>?_;let#[oc,S,T]:=id z;refine h {s with heap:=h'} #[I.ok,I.os,I.bare,#[λb o e n K B=>?_,λb o e n K B=>?_,I.base.free,λb o e B=>?_,I.base.vy,I.base.vE,I.base.vI],#[m,hn.sameBut f^kM^J x c t,λj y v' l D e3=>?_],λy Z e=>?_,I.free,I.vG,λp hp=>?_,g #[oc,S,I.vG x c t] f,by simpa using I.len] #[c,f,.inr t]
  .exact(f.2 b^jo^jz (Tk e)^I.ok.cab x c O t).trans^I.base.keep b o e n K B
  .let#[sl,l]:=I.base.slot b o e n K B
   exact#[sl,(f.2 b^jo^jz (Tk e)^I.ok.cab x c O t).trans l]
  .let#[o',l]:=I.base.there b o e B
   exact#[o',(f.2 b^jo^jz (Tk e)^I.ok.cab x c O t).trans l]
  .by_cases L:j=i
   .subst L
    rw[hi]at l;cases l
    rw[rL F]at D;cases D;exact#[u,r,.inr #[.inl G,c,t,R]]
   .rw[pZ^kM L]at D
    let#[u',r',q]:=hl j y v' l D e3;exists u',r'
    rcases q with q|⟨k,Z,e,z'⟩
    .exact .inl q
    .refine .inr #[k,Z,e,z'.sameBut f ?_]
     rintro rfl;exact L^JU hN l (I.ok.inj _ _ _ e t▸hi)
  .by_cases U:Z=c
   .subst U;exact#[_,R]
   .let#[w2,z2]:=I.cell y Z e
    exact#[w2,z2.sameBut f U]
  .let#[e,n,Y,nf,d]:=I.pin p hp
   refine#[(f.2 p.1 ?_).trans e,n,Y,nf,d];intro q;rw[q,S]at e;have q':oc=p.2:=ZB e;exact d W^by rw[←q'];exact T
def Fz(I:Inv X zF σ H s)(b:X.N.Nodup)(hi:X.N[i]?=P3 x)(c:Loc X.env.scope x)(r:RelV v u)
  (h:∀a,Inv X zF (σ.set i^P3 v) H a->Q () a) (d:X.lO x:=by first|exact .inl rfl|exact .inr rfl|assumption):wpAny M A (storeName X.env x u) Q E s:=
 LF I b hi c r (λa e _=>h a e) d
def Inv.call'(I:Inv X zF σ H s)(f:a.os=s.os)(u:Un (Lb X.stack) e H H' s.heap a.heap)(hok:HOk X.prog X.w H' a.heap)(g:oB a.gens)
  (d:∀b∈e,(b∈X.ex\/X.s₀.heap.objs.size<=b)/\b≠X.env.locals/\(∀x c,X.env.cells.lookup x=P3 c->c≠b)/\∀p∈X.pn++zF,p.1≠b):Inv X zF σ H' a:=by
 let#[h',h,i,j,k]:=a;subst f;exact I.call u hok g d
end
abbrev XK:=Db->w_ Ch->Hp->Prop
abbrev St:=v_^w_ V
abbrev VK:=V->Hp->Prop
abbrev TE:=St->Hp->VK->Prop
abbrev TT:=St->Hp->(Bool->Hp->Prop)->Prop
abbrev TA:=St->Hp->(v_ V->Hp->Prop)->Prop
structure Ends where
 nx:St->Hp->Prop
 rt:VK
 bk:St->Hp->Prop:=λ_ _=>False
 ct:St->Hp->Prop:=λ_ _=>False
abbrev TS:=Ends->St->Hp->Prop
def EP(X:Cx)(b:v_ (Ch×Obj))(c:St)(Q:VK)(u:Db)(d:Go):Prop:=∃v a,Inv X b c a d/\RelV v u/\Q v a
def TP(X:Cx)(c:v_ (Ch×Obj))(d:St)(Q:Bool->Hp->Prop)(b:Bool)(e:Go):Prop:=∃a,Inv X c d a e/\Q b a
def AP(X:Cx)(c:v_ (Ch×Obj))(d:St)(Q:v_ V->Hp->Prop)(e:v_ Db)(f:Go):Prop:=∃a b,Inv X c d b f/\zv a e/\Q a b
def SP(X:Cx)(c:v_ (Ch×Obj))(D:Ends)(f:Flow)(d:Go):Prop:=
 match f with
 |.next=>∃b a,Inv X c b a d/\D.nx b a
 |.brk=>∃b a,Inv X c b a d/\D.bk b a
 |.cont=>∃b a,Inv X c b a d/\D.ct b a
 |.ret u=>∃v b a,Inv X c b a d/\RelV v u/\D.rt v a
def PE(X:Cx)(e:jx)(t:TE):Prop:=
 ∀(b:v_ (Ch×Obj)) (s:Go) (a:St) (H:Hp) (Q:VK),Inv X b a H s->t a H Q->wpAny (model X.prog X.w) X.A (eval e X.env) (EP X b a Q) X.xe s
def PT(X:Cx)(e:jx)(t:TT):Prop:=
 ∀(b:v_ (Ch×Obj)) (s:Go) (a:St) (H:Hp) (Q:Bool->Hp->Prop),Inv X b a H s->t a H Q->wpAny (model X.prog X.w) X.A (isTrue e X.env^eval e X.env) (TP X b a Q) X.xe s
def PW(X:Cx)(e:jx)(t:TT):Prop:=
 ∀(a:Sem Db) (c:v_ (Ch×Obj)) (s:Go) (b:St) (H:Hp) (Q:Bool->Hp->Prop),Inv X c b H s->t b H Q->wpAny (model X.prog X.w) X.A (isTrue e X.env a) (TP X c b Q) X.xe s
def PW.pt(h:PW X e t):PT X e t:=h _
def PA(X:Cx)(c:v_ jx)(t:TA):Prop:=
 ∀(pos:Pos) (b:v_ (Ch×Obj)) (s:Go) (a:St) (H:Hp) (Q:v_ V->Hp->Prop),Inv X b a H s->t a H Q->wpAny (model X.prog X.w) X.A (spliced^backTo pos^starEach c X.env) (AP X b a Q) X.xe s
def PS(X:Cx)(c:kn)(t:TS):Prop:=
 ∀(a:v_ (Ch×Obj)) (s:Go) (b:St) (H:Hp) (D:Ends),Inv X a b H s->t D b H->wpAny (model X.prog X.w) X.A (exec c X.env) (SP X a D) X.xe s
def PSs(X:Cx)(c:v_ kn)(t:TS):Prop:=
 ∀(a:v_ (Ch×Obj)) (s:Go) (b:St) (H:Hp) (D:Ends),Inv X a b H s->t D b H->wpAny (model X.prog X.w) X.A (execs c X.env) (SP X a D) X.xe s
def Ao(h:wpAny M A t Q E s)(d:∀a s,Q a s->c a s):wpAny M A t c E s:=kP h d λ_ _ x=>x
section

def Bs(i:Nat):TE:=λa H Q=>∃v,a[i]?=P3^P3 v/\Q v H
def tC(v:V):TE:=λ_ H Q=>Q v H
def DB(j:X.N[i]?=P3 x)(k:Ov X.env.scope x)(hd:dbN x:=by decide)(f:(x==("__classdict__":Str))=u_:=by decide):PE X (.Name x pos)^Bs i:=by
 intro t s n H Q I h;let#[v,e,h]:=h;let#[m,o,p]:=I.loc;let#[u,r,l]:=p i x v j e k;have b:EP X _ n Q u s:=#[v,H,I,r,h]
 rcases l with⟨d,q⟩|⟨d,c,g,a⟩
 .exact wpAny_Name (wpAny_loadName_local I.ok.kind d o q b) hd
 .rcases d with d|d
  .exact wpAny_Name (wpAny_loadName_cell I.ok.kind d g a b) hd
  .exact wpAny_Name (wpAny_loadName_free I.ok.kind d g a b f) hd
def An{i j pos}:PE X (.Constant (.int i) j pos)^tC^.int i:=λ_ _ _ H _ I h=>wpAny_Constant_int #[.int i,H,I.tok _,#[_,rfl],h]
def fB{b j pos}:PE X (.Constant (.bool b) j pos)^tC^.bl b:=λ_ _ _ H _ I h=>Constant_bool #[.bl b,H,I,rfl,h]
def VE{j pos}:PE X (.Constant .none j pos)^tC .non:=λ_ _ _ H _ I h=>Constant_none #[.non,H,I,rfl,h]
def Pg{x j pos}:PE X (.Constant (.str x) j pos)^tC^.str x:=λ_ _ _ H _ I h=>Calls.Constant_str #[.str x,H,I.tok _,#[_,rfl],h]
def Gl(X:Cx)(x:Str):Prop:=X.env.kindOf x=P3 .globalImplicit
def C2(I:Inv X a b H s)(c:Gl X x)(d:X.mg x=P3 u)(h:Q u s)
  (hd:dbN x:=by decide):wpAny (model X.prog X.w) X.A (eval (.Name x pos) X.env) Q E s:=
 qR I.ok.kind c (Calls.loadGlobal_global (by rw[I.ok.glob];exact I.mod.glob.keeps I.bk) d h) hd
def EI(I:Inv X a b H s)(c:Gl X x)(d:X.mg x=s_)(e:bootBuiltins x=P3 u)(h:Q u s)
  (f:x ≠ "__name__":=by decide) (hd:dbN x:=by decide):wpAny (model X.prog X.w) X.A (eval (.Name x pos) X.env) Q E s:=by
 let#[j,g,i]:=I.mod.blt;exact qR I.ok.kind c (Calls.loadGlobal_builtin (by rw[I.ok.glob];exact I.mod.glob.keeps I.bk) d (by rw[I.ok.blt];exact g.keeps I.bk) ((i x f).trans e) h) hd
def MH(a:Gl X x)(b:X.mg x=P3 u)(r:RelV v u)(hd:dbN x:=by decide):PE X (.Name x pos)^tC v:=
 λ_ _ _ H _ I h=>C2 I a b #[v,H,I,r,h] hd
def Q0(a:Gl X x)(b:X.mg x=s_)(c:bootBuiltins x=P3 u)(r:RelV v u)(d:x ≠ "__name__":=by decide)(hd:dbN x:=by decide):PE X (.Name x pos)^tC v:=
 λ_ _ _ H _ I h=>EI I a b c #[v,H,I,r,h] d hd

def tB(t:TE):TT:=λd H Q=>t d H λx H1=>∃c,x=.bl c/\Q c H1
def ax(h:PE X e t)(f:∀c,isTrue e X.env c=(do let v ←c;standAt e.pos;holding [v]^truthy v):=by intro _;rfl):PT X e^tB t:=by
 intro m s g H Q I i;refine isTrue_plain (Ao (h _ s g H _ I i) λv n zz=>?_)^f _;let#[x,H1,j,k,l]:=zz;let#[d,rfl,q]:=l;cases k;exact lG #[H1,j,q]

def eB(t u:TT):TT:=λd H Q=>t d H λc H1=>if c=t_ then u d H1 Q else Q u_ H1
def jV(t u:TT):TT:=λd H Q=>t d H λc H1=>if c=t_ then Q t_ H1 else u d H1 Q
def h_(t:TT):TT:=λd H Q=>t d H λc H1=>Q (!c) H1
def Qo(d:PT X a tA):PW X (.BoolOp .And [a] pos) tA:=by
 intro g i s f H Q I h;refine isTrue_and^Ao (d _ s f H Q I h) λc j e=>?_;cases c with
 |true=>exact isTrue_and_nil e
 |false=>exact e
def aw(d:PT X a tA):PW X (.BoolOp .Or [a] pos) tA:=by
 intro g i s f H Q I h;refine isTrue_or^Ao (d _ s f H Q I h) λc j e=>?_;cases c with
 |false=>exact isTrue_or_nil e
 |true=>exact e
def Ux(e:PT X a tA)(f:PW X (.BoolOp .And (b::rest) pos) tB'):PW X (.BoolOp .And (a::b::rest) pos)^eB tA tB':=by
 intro g l s d H Q I h;refine isTrue_and^Ao (e _ s d H _ I h) λc i #[H1,j,k]=>?_;cases c with
 |true=>exact f g _ i d H1 Q j k
 |false=>assumption
def eh(e:PT X a tA)(f:PW X (.BoolOp .Or (b::rest) pos) tB'):PW X (.BoolOp .Or (a::b::rest) pos)^jV tA tB':=by
 intro g l s d H Q I h;refine isTrue_or^Ao (e _ s d H _ I h) λc i #[H1,j,k]=>?_;cases c with
 |true=>assumption
 |false=>exact f g _ i d H1 Q j k
def ay(c:PT X a tA):PT X (.UnaryOp .Not a pos)^h_ tA:=λe s d H Q I h=>isTrue_not^c _ s d H _ I h
def eA(ta tb:TE):TE:=λd H Q=>ta d H λx H1=>∃c,x=.bl c/\if c=t_ then tb d H1 Q else Q (.bl u_) H1
def h9(ta tb:TE):TE:=λd H Q=>ta d H λx H1=>∃c,x=.bl c/\if c=t_ then Q (.bl t_) H1 else tb d H1 Q
def di(ta:TE):TE:=λd H Q=>ta d H λx H1=>∃c,x=.bl c/\Q (.bl (!c)) H1
def bL(g:PE X a ta)(i:PE X (.BoolOp .And (b::rest) pos) tb):PE X (.BoolOp .And (a::b::rest) pos)^eA ta tb:=by
 intro l s e H Q I h;refine BoolOp_and^Ao (g _ s e H _ I h) λv j zz=>?_;let#[x,H1,f,k,d]:=zz;let#[c,rfl,d]:=d;cases k;refine lG ?_;cases c with
 |true=>exact i _ j e H1 Q f d
 |false=>exact#[.bl _,H1,f,rfl,d]
def fA(g:PE X a ta)(i:PE X (.BoolOp .Or (b::rest) pos) tb):PE X (.BoolOp .Or (a::b::rest) pos)^h9 ta tb:=by
 intro l s e H Q I h;refine BoolOp_or^Ao (g _ s e H _ I h) λv j zz=>?_;let#[x,H1,f,k,d]:=zz;let#[c,rfl,d]:=d;cases k;refine lG ?_;cases c with
 |false=>exact i _ j e H1 Q f d
 |true=>exact#[.bl _,H1,f,rfl,d]
def bE(e:PE X a ta):PE X (.UnaryOp .Not a pos)^di ta:=by
 intro j s f H Q I h;refine UnaryOp_^Ao (e _ s f H _ I h) λv k zz=>?_;let#[x,H1,g,i,d]:=zz;let#[c,rfl,d]:=d;cases i;exact not_of^lG #[.bl _,H1,g,rfl,d]
def jW(t:TT)(ta tb:TE):TE:=λd H Q=>t d H λc H1=>if c=t_ then ta d H1 Q else tb d H1 Q
def Nk(j:PT X c tA)(k:PE X a ta)(l:PE X b tb):PE X (.IfExp c a b pos)^jW tA ta tb:=by
 intro m s e H Q I h;refine wpAny_IfExp^Ao (j _ s e H _ I h) λd f zz=>?_;let#[H1,g,i]:=zz;cases d with
 |true=>exact k _ f e H1 Q g i
 |false=>exact l _ f e H1 Q g i
end
def SqL(K:Frag)(H:Hp)(a:Ch)(c:v_ V):Prop:=
 Rd H a (.lst c) \/
  ∃(o:Obj) (b:Array Db) (n:Nat),K.lookup a=P3 o/\o.cls=.type "list"/\o.dict=s_/\o.data=.seq b n/\b.size<=sizeLine/\zv c b.toList
def SqT(K:Frag)(H:Hp)(a:Ch)(c:v_ V):Prop:=
 Rd H a (.tup c) \/
  ∃(o:Obj) (b:Array Db) (n:Nat),K.lookup a=P3 o/\o.cls=.type "tuple"/\o.data=.seq b n/\b.size<=sizeLine/\zv c b.toList
def im:Db->w_ V
 |.none=>P3 .non
 |.bool b=>P3^.bl b
 |.int i _=>P3^.int i
 |.str x _=>P3^.str x
 |.bytes b _=>P3^.byt b
 |.float b _=>P3^.flt b
 |.ref a=>P3^.ref a
 |.type n=>P3^.ty n
 |_=>s_
def RelV.abs(r:RelV x u):im u=P3 x:=by
 cases x with
 |non=>cases r;rfl
 |bl _=>cases r;rfl
 |int _=>let#[t,rfl]:=r;rfl
 |str _=>let#[t,rfl]:=r;rfl
 |byt _=>let#[t,rfl]:=r;rfl
 |flt _=>let#[t,rfl]:=r;rfl
 |ref _=>cases r;rfl
 |ty _=>cases r;rfl
def RelV.inj(r:RelV x u)(q:RelV y u):x=y:=ZB^r.abs.symm.trans q.abs
theorem zv.inj:∀{a b:v_ V}{c:v_ Db},zv a c->zv b c->a=b
 |_,_,_,.nil,.nil=>rfl
 |_,_,_,.cons r t,.cons d e=>by rw[r.inj d,zv.inj t e]
section

def SqL.of{K:Frag}(h:H a=P3^.lst xs):SqL K H a xs:=.inl^.inl h
def SqT.of{K:Frag}(h:H a=P3^.tup xs):SqT K H a xs:=.inl^.inl h
theorem Inv.list(I:Inv X zF σ H s)(h:SqL X.K H a xs):∃b:v_ Db,zv xs b/\PlainL s.heap a b.toArray/\xs.length<=sizeLine:=by
 rcases h with h|⟨o,b,n,c,d,f,g,i,r⟩
 .let#[z,b,n,r,e]:=h.ok I.hok
  exact#[_,r,#[_,n,e,rfl,rfl,rfl],z]
 .exists _,r,#[o,n,I.kIn a o c,d,f,by lk]
  have e:=r.length
  grind
def Inv.tuple(I:Inv X zF σ H s)(h:SqT X.K H a xs):∃b:v_ Db,zv xs b/\IsTup s.heap a b.toArray/\xs.length<=sizeLine:=by
 rcases h with h|⟨o,b,n,c,d,f,g,r⟩
 .let#[z,b,r,p]:=h.ok I.hok
  exact#[_,r,p.tup,z]
 .exists _,r,#[o,I.kIn a o c,d,n,by lk]
  have e:=r.length
  grind
theorem Inv.list_inj(I:Inv X zF σ H s)(h:SqL X.K H a xs)(f:SqL X.K H a ys):xs=ys:=by
 let#[c,r,#[o,n,e,_,_,d],_]:=I.list h;let#[b,g,#[i,j,k,_,_,l],_]:=I.list f
 have:c=b:=by grind
 subst this;exact r.inj g
theorem Inv.tuple_inj(I:Inv X zF σ H s)(h:SqT X.K H a xs)(f:SqT X.K H a ys):xs=ys:=by
 let#[c,r,#[o,e,_,n,d],_]:=I.tuple h;let#[b,g,#[i,j,_,k,l],_]:=I.tuple f
 have:c=b:=by grind
 subst this;exact r.inj g
end
abbrev Cx.yW(X:Cx)(E:Db->Go->Prop):Cx:={X with xe:=E}
abbrev Cx.nox(X:Cx):Cx:=X.yW λ_ _=>False
def Cx.Ok.yW{X:Cx}(ok:X.Ok)(E:Db->Go->Prop):(X.yW E).Ok:=
 #[ok.mod,ok.kind,ok.glob,ok.blt,ok.above,ok.inj,ok.has,ok.cab,ok.hd,ok.frames,ok.stk,ok.exf,ok.bs,ok.bsz,ok.noex,ok.exfs,ok.YP,ok.frf]
def Cx.Ok.vA{X:Cx}(ok:(X.yW E).Ok):X.Ok:=
 #[ok.mod,ok.kind,ok.glob,ok.blt,ok.above,ok.inj,ok.has,ok.cab,ok.hd,ok.frames,ok.stk,ok.exf,ok.bs,ok.bsz,ok.noex,ok.exfs,ok.YP,ok.frf]
section

def Inv.yW(I:Inv X zF σ H s)(E:Db->Go->Prop):Inv (X.yW E) zF σ H s:=#[I.ok.yW E,I.os,I.bare,I.base,I.loc,I.cell,I.free,I.vG,I.pin,I.hok,I.len]
def Inv.vA(I:Inv (X.yW E) zF σ H s):Inv X zF σ H s:=#[I.ok.vA,I.os,I.bare,I.base,I.loc,I.cell,I.free,I.vG,I.pin,I.hok,I.len]
def SP.vA(h:SP (X.yW E) zF D f c):SP X zF D f c:=by
 cases f with
 |next=>let#[b,a,I,q]:=h;exact#[_,a,I.vA,q]
 |brk=>let#[b,a,I,q]:=h;exact#[_,a,I.vA,q]
 |cont=>let#[b,a,I,q]:=h;exact#[_,a,I.vA,q]
 |ret u=>let#[v,b,a,I,r,q]:=h;exact#[v,_,a,I.vA,r,q]
def PSs.nox(h:PSs X.nox a t):PSs X a t:=λzF s σ H D I b=>
 kP (h _ s σ H D (I.yW _) b) (λ_ _ q=>q.vA) λ_ _ z=>kd z
end
section
variable {st:Stmt}
def Y7:TS:=λD a H=>D.nx a H
def R9(t u:TS):TS:=λD a H=>t {D with nx:=u D} a H
def MG:PSs X [] Y7:=λ_ _ a H _ I h=>nZ #[a,H,I,h]
def Az(h1:PS X st t)(a:PSs X rest u):PSs X (st::rest)^R9 t u:=by
 intro g s b H D I h;refine ql^Ao (h1 _ s b H _ I h) λf c q=>?_;cases f with
 |next=>
  let#[i,d,e,q]:=q;exact a _ c _ d D e q
 |ret v=>exact q
 |brk=>exact q
 |cont=>exact q
def CY(h1:PS X st t):PSs X [st] t:=by
 intro b s a H D I h;refine ql^Ao (h1 _ s a H D I h) λf c q=>?_;cases f with
 |next=>exact nZ q
 |ret v=>exact q
 |brk=>exact q
 |cont=>exact q
def Inv.quiet(I:Inv X a b H s):interactive X.env=u_:=by simp[interactive,I.ok.kind]
def d7(te:TE):TS:=λD a H=>te a H λ_ H1=>D.nx a H1
def IF(b:PE X e te)(c:swapsWith e s_ pos.line X.env=pure u_:=by rfl):PS X (.Expr e pos)^d7 te:=λg s a H D I h=>wpAny_Expr_any (Ao (b _ s a H _ I h) λv i #[x,H1,d,j,f]=>#[a,H1,d,f]) I.quiet c
def XD(te:TE):TS:=λD a H=>te a H D.rt
def Fd(b:PE X e te):PS X (.Return (P3 e) pos)^XD te:=λg s a H D I h=>wpAny_Return_some^Ao (b _ s a H _ I h) λv i #[x,H1,c,d,f]=>#[x,a,H1,c,d,f]
def dq(c:TT)(t u:TS):TS:=λD a H=>c a H λb H1=>if b=t_ then t D a H1 else u D a H1
def Qs(k:PT X c f)(l:PSs X a t)(m:PSs X b u):PS X (.If c a b pos)^dq f t u:=by
 intro n s e H D I h;refine wpAny_If^Ao (k _ s e H _ I h) λd g zz=>?_;let#[H1,i,j]:=zz;cases d with
 |true=>exact l _ g e H1 D i j
 |false=>exact m _ g e H1 D i j
end
abbrev TG:=V->St->Hp->(St->Hp->Prop)->Prop
abbrev ci:=v_ V->St->Hp->(St->Hp->Prop)->Prop
def PG(X:Cx)(a:jx)(t:TG):Prop:=
 ∀(b:v_ (Ch×Obj)) (s:Go) (c:St) (H:Hp) (v:V) (u:Db) (Q:St->Hp->Prop),Inv X b c H s->RelV v u->t v c H Q->
  wpAny (model X.prog X.w) X.A (assign a X.env u) (λ_ f=>∃d e,Inv X b d e f/\Q d e) X.xe s
def gQ(X:Cx)(g:v_ jx)(t:ci):Prop:=
 ∀(a:v_ (Ch×Obj)) (s:Go) (b:St) (H:Hp) (c:v_ V) (d:v_ Db) (Q:St->Hp->Prop),Inv X a b H s->zv c d->t c b H Q->
  wpAny (model X.prog X.w) X.A (assignInOrder ((assignEach g X.env).map (·.2)) d) (λ_ h=>∃e f,Inv X a e f h/\Q e f) X.xe s
abbrev cf:=V->V->V->Hp->(Hp->Prop)->Prop
def gO(X:Cx)(t:cf):Prop:=
 ∀(a:v_ (Ch×Obj)) (s:Go) (b:St) (H:Hp) (o i v:V) (c d u:Db) (Q:Hp->Prop),Inv X a b H s->RelV o c->RelV i d->RelV v u->t o i v H Q->
  wpAny (model X.prog X.w) X.A (setItem c d u) (λ_ f=>∃e,Inv X a b e f/\Q e) X.xe s
abbrev gn:=V->V->Hp->VK->Prop
def jK(X:Cx)(c:Operator)(t:gn):Prop:=
 ∀(a:v_ (Ch×Obj)) (s:Go) (b:St) (H:Hp) (x y:V) (v u:Db) (Q:VK),Inv X a b H s->RelV x v->RelV y u->t x y H Q->
  wpAny (model X.prog X.w) X.A (inplaceOp c v u) (EP X a b Q) X.xe s
section

def Hj(i:Nat):TG:=λv a H Q=>Q (a.set i^P3 v) H
def F6(a:X.N.Nodup)(hi:X.N[i]?=P3 x)(b:Loc X.env.scope x)(c:X.lO x:=by first|exact .inl rfl|exact .inr rfl|assumption):PG X (.Name x pos)^Hj i:=λe s f H v u Q I r h=>wpAny_assign_Name^Fz I a hi b r (λg d=>#[_,H,d,h]) c
def iT:ci:=λa b H Q=>a=[]/\Q b H
def fW(t:TG)(u:ci):ci:=λa b H Q=>∃v r,a=v::r/\t v b H λc d=>u r c d Q
def Qw:gQ X [] iT:=by
 intro b s a H c d Q I r h;let#[e,h]:=h;exact assignInOrder_nil #[a,H,I,h]
def F5(h1:PG X e t)(b:gQ X a u)
  (c:(assignEach (e::a) X.env).map (·.2)=assign e X.env::(assignEach a X.env).map (·.2):=by rfl):gQ X (e::a)^fW t u:=by
 intro l s d H m n Q I r h;let#[v,o,f,h]:=h;subst f;cases r with
 |cons r g=>
  rw[c];refine assignInOrder_cons^Ao (h1 _ s d H _ _ _ I r h) λ_ i zz=>?_;let#[_,H1,j,k]:=zz;exact b _ i _ H1 _ _ Q j g k
def iS(K:Frag)(n:Nat)(t:ci):TG:=λv c H Q=>∃a b,v=.ref a/\SqT K H a b/\b.length=n/\t b c H Q
theorem VA(g:X.calm=t_)(h:gQ X c t)
  (i:(assignEach c X.env).length=n:=by rfl) (d:(assignEach c X.env).findIdx? (·.1)=s_:=by rfl):PG X (.Tuple c k pos)^iS X.K n t:=by
 intro A s j H v u Q I r f;let#[a,l,m,p,q,f]:=f;subst m;cases r;let#[w,x,y,B]:=I.tuple p;exact assign_Tuple_tuple (I.ok.hd g) y (by simp[i,←q,x.length]) d λC z=>h _ _ j H l _ Q (I.kept λb o e=>z b o (jo^Tk e) e) (by lk) f
def fV(to b:TE)(t:cf):TG:=λv a H Q=>to a H λo H1=>b a H1 λi H2=>t o i v H2 λc=>Q a c
def Pf(e:PE X o to)(hi:PE X i d)(f:gO X t)
  (B:∀v,assign (.Subscript o i pos) X.env v=(do
   let a ←holding [v]^eval o X.env
   let b ←holding [v,a] (eval i X.env)
   standAt pos
   holding [v,a,b] (setItem a b v)
   release [v,a,b] []):=by intro _;rfl):PG X (.Subscript o i pos)^fV to d t:=λC s c H v u Q I r h=>Cn^kQ^Ao (e _ s c H _ I h) λa g #[x,H1,j,k,l]=>Cn^kQ^Ao (hi _ g c H1 _ j l) λb m #[y,H2,n,p,q]=>Cn^pG^Cn^kQ^Ao (f _ m c H2 x y v a b u _ n k p r q) λ_ D #[w,z,A]=>wpAny_release #[c,w,z,A]
def NU(b:TE)(g:TG):TS:=λD a H=>b a H λx H1=>g x a H1 D.nx
def Pa(d:PE X e b)(f:PG X a g)(i:swapsWithSole [a] e pos.line X.env=pure u_:=by rfl)(j:swappedStores [a] e X.env=pure s_:=by rfl)
  (h1:(assignEach [a] X.env).map (·.2)=[assign a X.env]:=by rfl):PS X (.Assign [a] e pos)^NU b g:=by
 intro o s c H D I h;refine wpAny_Assign_stores (Ao (d _ s c H _ I h) λv k #[x,H1,l,m,n]=>?_) i j;rw[h1];exact Ao (f _ k c H1 x v _ l m n) λ_ p q=>q
def EA(c:X.N.Nodup)(hi:X.N[i]?=P3 x)(d:Loc X.env.scope x)(f:PE X e b)(g:swapsWith e (P3^.Name x a) pos.line X.env=pure u_:=by rfl)(j:X.lO x:=by first|exact .inl rfl|exact .inr rfl|assumption):
  PS X (.Assign [.Name x a] e pos) (NU b^Hj i):=λp s k H D I h=>wpAny_Assign_Name (Ao (f _ s k H _ I h) λv q #[y,H1,l,m,n]=>Fz l c hi d m (λr o=>#[_,H1,o,n]) j) g
def iI(i:Nat)(b:TE)(c:gn):TS:=λD a H=>∃x,a[i]?=P3^P3 x/\b a H λy H1=>c x y H1 λz H2=>D.nx (a.set i^P3 z) H2
def bA(C:X.N.Nodup)(hi:X.N[i]?=P3 x)(n:Loc X.env.scope x)(E:PE X e q)(F:jK X j t)(G:X.lO x:=by first|exact .inl rfl|exact .inr rfl|assumption):
  PS X (.AugAssign (.Name x d) j e pos) (iI i q t):=by
 intro o s B H D I h;let#[v,J,h]:=h;let#[m,K,L]:=I.loc;have p:Ov X.env.scope x:=by rcases n with k|k;exact .inl k;exact .inr^.inl k
 let#[u,r,l]:=L i x v hi J p;refine wpAny_AugAssign_Name ?_
 have go:wpAny (model X.prog X.w) X.A (eval e X.env) (λw f=>wpAny (model X.prog X.w) X.A (inplaceOp j u w) (λr g=>wpAny (model X.prog X.w) X.A (storeName X.env x r) (λ_=>SP X o D .next) X.xe g) X.xe f) X.xe s:=by
  refine Ao (E o s B H _ I h) λw M zz=>?_;let#[y,H1,O,P,Q]:=zz;refine Ao (F o M B H1 v y u w _ O r P Q) λz Y zz=>?_;let#[Z,H2,R,S,T]:=zz;exact Fz R C hi n S (λs3 U=>#[_,H2,U,T]) G
 rcases l with⟨a,V⟩|⟨a,c,W,b⟩
 .exact wpAny_loadName_local I.ok.kind a K V go
 .rcases a with a|a
  .exact wpAny_loadName_cell I.ok.kind a W b go
  .rcases n with k|k
   .have:X.env.scope.names.lookup x=P3 .free:=a
    rw[k]at this;cases this
   .have:X.env.scope.names.lookup x=P3 .free:=a
    rw[k]at this;cases this
def jc(f:Int->Int->Int):gn:=λx y H Q=>∃i j,x=.int i/\y=.int j/\Q (.int^f i j) H
def bo:jK X .Add (jc λi j=>i+j):=by
 intro e s f H x y v u Q I a b h;let#[i,j,c,d,q]:=h;subst c;subst d
 let#[t,rfl]:=a;let#[g,rfl]:=b;exact iadd_int #[.int _,H,I.tok _,#[_,rfl],q]
end
section

def aO(c:TT)(g:TS):TS:=λD a H=>∃W:Nat->St->Hp->Prop,(∃m,W m a H)/\∀m a H,W m a H->
 c a H λb H1=>if b=t_ then ∃N:St->Hp->Prop,(∀d e,N d e->∃f,f<m/\W f d e)/\g {D with nx:=N,ct:=N,bk:=D.nx} a H1 else D.nx a H1
def U5(x:pP (model X.prog X.w) X.A X.env X.xe)(E:PT X c t)(F:PSs X a u):PS X (.While c a [] pos)^aO t u:=by
 intro l s G H D I h;let#[W,#[J,K],d]:=h;refine wpAny_While^codeAny_whileLoop (λn L=>∃y z,Inv X l y z L/\W n y z) ?_ J #[G,H,I,K];rintro n M ⟨i,H1,O,P⟩;refine mx x^Ao (E l M i H1 _ O^d n i H1 P) λb Q zz=>?_;let#[H2,B,j]:=zz;cases b with
 | true=>
  let#[N,C,j]:=j;rw[if_pos rfl];refine mx x^Ao (F l Q i H2 _ B j) λf R k=>?_;cases f with
  |next=>
   let#[e,g,m,o]:=k;let#[p,q,r]:=C e g o;exact#[p,q,e,g,m,r]
  |cont=>
   let#[e,g,m,o]:=k;let#[p,q,r]:=C e g o;exact#[p,q,e,g,m,r]
  |brk=>exact k
  |ret v=>exact k
 |false=>
  rw[if_neg jt];exact nZ #[i,H2,B,j]
end
structure It where
 go:Nat->Hp->Prop
 yld:Nat->Hp->V->Hp->Prop
 stop:Nat->Hp->Prop
def Gg(X:Cx)(a:v_ (Ch×Obj))(H:Hp)(b:Ch):Prop:=
 H b=s_/\b≠X.env.locals/\b∉X.fs/\(b∈X.ex\/X.s₀.heap.objs.size<=b)/\(∀x c,X.env.cells.lookup x=P3 c->c≠b)/\∀p∈X.pn++a,p.1≠b
def Inv.fpOk(I:Inv X d g H s)(a:s.heap.objs.size<=b)(h:f b=s_):Gg X d f b:=by
 refine#[h,mQ^jz I.lt a,I.nofs a,.inr^jr I.sz a,λx c e z=>?_,λp i z=>?_]
 .let#[v,q]:=I.cell x c e
  exact absurd (jz q.lt^by rw[z];exact a)^ko _
 .exact absurd (jz (Tk (I.pin p i).1)^by rw[z];exact a)^ko _
structure Turn (P:ju) (w:j4) (K:Frag) (tg:jx) (J:It) (fp:List Ch) (it:Ch) (tn:Nat->jq->Prop):Prop where
 mem:it∈fp
 obj:∀i h,tn i h->∀b∈fp,∃o,h.get? b=P3 o/\∀v,o.data≠.cell v
 keep:∀i h h',tn i h->(∀b∈fp,∀o,h.get? b=P3 o->h'.get? b=P3 o)->tn i h'
 item:∀(X:Cx),X.prog=P->X.w=w->X.K=K->X.calm=t_->∀(i:Nat) (zF:List (Ch×Obj)) (s:Go) (σ:St) (H:Hp) (E:Db->Go->Prop),Inv X zF σ H s->(∀b∈fp,Gg X zF H b)->tn i s.heap->J.go i H->
  wpAny (model P w) X.A (pyNext^.ref it) (λr s1=>∃u,r=P3 u /\
   wpAny (model P w) X.A (letOwnedTupleGo tg (.ref it) u) (λ_ s2=>∃x H',Inv X zF σ H' s2/\RelV x u/\J.yld i H x H'/\tn (i+1) s2.heap/\∀b∈fp,H' b=s_) E s1) E s
 done:∀(X:Cx),X.prog=P->X.w=w->X.K=K->X.calm=t_->∀(i:Nat) (zF:List (Ch×Obj)) (s:Go) (σ:St) (H:Hp) (E:Db->Go->Prop),Inv X zF σ H s->(∀b∈fp,Gg X zF H b)->tn i s.heap->J.stop i H->
  wpAny (model P w) X.A (pyNext^.ref it) (λr s1=>r=s_/\Inv X zF σ H s1) E s
 self:∀(A:kA) (i:Nat) (s:Go) (Q:Db->Go->Prop) (E:Db->Go->Prop),tn i s.heap->Q (.ref it) s->wpAny (model P w) A (pyIter^.ref it) Q E s
abbrev TI:=St->Hp->(It->Hp->Prop)->Prop
def jL(X:Cx)(d:v_ (Ch×Obj))(i:St)(j:jx)(R:It->Hp->Prop)(a:Db)(e:Go):Prop:=
 ∃(f:Ch) (g:v_ Ch) (h:Nat->jq->Prop) (J:It) (c:Hp),a=.ref f/\Inv X d i c e/\Turn X.prog X.w X.K j J g f h/\h 0 e.heap/\(∀b∈g,Gg X d c b)/\R J c
def PI(X:Cx)(d a:jx)(e:TI):Prop:=
 ∀(c:v_ (Ch×Obj)) (s:Go) (b:St) (H:Hp) (R:It->Hp->Prop),Inv X c b H s->e b H R->
  wpAny (model X.prog X.w) X.A (eval a X.env) (λv f=>wpAny (model X.prog X.w) X.A (pyIter v) (jL X c b d R) X.xe f) X.xe s
theorem RI  (e:s.heap.get? c=P3 o) (f:o.cls=.type n) (hd:o.data=.fields d)
    (g:["enumerate","zip","dict_itemiterator","dict_reverseitemiterator","odict_iterator","itertools.zip_longest","itertools.pairwise"].contains n=u_) (a:Q () s):wpAny M A (letOwnedTupleGo b (.ref c) u) Q E s:=by
  unfold letOwnedTupleGo
  cases b <;>first
    |exact On a
    |(cases u <;>first
        |exact On a
        | (refine Cn^wpAny_load e ?_
           rw[f,hd];show wpAny M A (if(["enumerate","zip","dict_itemiterator","dict_reverseitemiterator","odict_iterator","itertools.zip_longest","itertools.pairwise"].contains n && d[0]?==P3^rawInt _)=t_ then _ else _) Q E s;rw[if_neg^by grind];exact On a))
def i5(K:Frag)(a:Ch):It:=
 #[λi H=>∃b x,SqL K H a b/\b[i]?=P3 x,λi H x c=>c=H/\∀b,SqL K H a b->b[i]?=P3 x,λi H=>∃b,SqL K H a b/\b.length<=i]
def cu(K:Frag)(a:Ch):It:=
 #[λi H=>∃b x,SqT K H a b/\b[i]?=P3 x,λi H x c=>c=H/\∀b,SqT K H a b->b[i]?=P3 x,λi H=>∃b,SqT K H a b/\b.length<=i]
def gs(lo:Int)(n:Nat):It:=#[λi _=>i<n,λi H x a=>a=H/\x=.int (lo+i),λi _=>n<=i]
theorem R6{K:Frag}(a g:Ch):Turn P w K R (i5 K a) [g] g (λi h=>h.IsListIter g a i) where
 mem:=by simp
 obj:=λi h f b j=>by
  have e:b=g:=by simpa using j
  subst e;let#[o,e,c,d]:=f;exact#[o,e,λv z=>by rw[d]at z;cases z]
 keep:=λi h m f k=>f.at λo e=>k g (by simp) o e
 item:=by
  intro X r t y N i O s Q H E I n f A;subst r t y;let#[S,x,q,B]:=A;let#[C,D,p,T]:=I.list q;let#[u,U,V]:=D.get B;let#[F,G,W,J,L,M]:=n g (by simp);refine wpAny_pyNext_list_item f p.isList (x:=u) (by simpa using U) λm l Y=>?_;have Z:Inv X O Q H {s with heap:=m}:=I.turned (t':=s.toks) (λb o j e=>(Y.2 b j).trans e) F G J L M;let#[o,e,c,d]:=id l;exact#[u,rfl,RI (s:={s with heap:=m}) e c d (by cbv) #[x,H,Z,V,#[rfl,λys hy=>by rw[I.list_inj hy q];exact B],l,λb j=>(n b j).1]]
 done:=by
  intro X r t y N i O s Q H E I n f A;subst r t y;let#[S,q,B]:=A;let#[C,D,p,T]:=I.list q;let#[F,G,W,J,L,M]:=n g (by simp);have hl:=D.length;exact wpAny_pyNext_list_end (I.ok.hd N) f p.isList (by simp;lk) λm eb=>#[rfl,I.turned (t':=s.toks) (λb o j e=>eb b o j e) F G J L M]
 self:=λ_ _ _ _ _ f h=>wpAny_pyIter_listiter f h
def Ih{K:Frag}(a g:Ch):Turn P w K R (cu K a) [g] g (λi h=>h.IsTupleIter g a i) where
 mem:=by simp
 obj:=λi h f b j=>by
  have e:b=g:=by simpa using j
  subst e;let#[o,e,c,d]:=f;exact#[o,e,λv z=>by rw[d]at z;cases z]
 keep:=λi h n f k=>f.at λo e=>k g (by simp) o e
 item:=by
  intro X t y A N i O s Q H E I q f B;subst t y A;let#[S,x,r,C]:=B;let#[l,D,p,T]:=I.tuple r;let#[u,U,V]:=D.get C;let#[F,G,W,J,L,M]:=q g (by simp);refine wpAny_pyNext_tuple_item f (show s.heap.IsTuple a l.toArray from p) (x:=u) (by simpa using U) λn m Y=>?_;have Z:Inv X O Q H {s with heap:=n}:=I.turned (t':=s.toks) (λb o j e=>(Y.2 b j).trans e) F G J L M;let#[o,e,c,d]:=id m;exact#[u,rfl,RI (s:={s with heap:=n}) e c d (by cbv) #[x,H,Z,V,#[rfl,λys hy=>by rw[I.tuple_inj hy r];exact C],m,λb j=>(q b j).1]]
 done:=by
  intro X t y A N i O s Q H E I q f B;subst t y A;let#[S,r,C]:=B;let#[l,D,p,T]:=I.tuple r;let#[F,G,W,J,L,M]:=q g (by simp);have hl:=D.length;exact wpAny_pyNext_tuple_end (I.ok.hd N) f (show s.heap.IsTuple a l.toArray from p) (by simp;lk) λn eb=>#[rfl,I.turned (t':=s.toks) (λb o j e=>eb b o j e) F G J L M]
 self:=λ_ _ _ _ _ f h=>wpAny_pyIter_tupleiter f h
theorem O5{K:Frag}(c:Ch)(g:Int)(n:Nat):Turn P w K G (gs g n) [c] c (λi h=>IsRangeIter h c (g+(i:Nat)*1) ((n:Int) - (i:Nat)) 1) where
 mem:=by simp
 obj:=λi h a b d=>by
  simp_all
 keep:=λi h j a k=>k c (by simp) _ a
 item:=by
  intro X m p q r i C s D H E I l a u;subst m p q;let#[x,y,J,z,A,B]:=l c (by simp);have W:=Walks.range (prog:=X.prog) (w:=X.w) (I.ok.hd r) c g 1 n;refine W.item i s _ _ u a λv j F L f M=>?_;let#[t,rfl]:=L;have N:Inv X C D H {s with heap:=j,toks:=F}:=I.turned (λb o d e=>M b o (by simpa using d) e) x y z A B;refine#[_,rfl,RI (s:={s with heap:=j,toks:=F}) (n:="range_iterator") f rfl rfl (by cbv) #[.int (g+i),H,N,#[t,?_],#[rfl,rfl],f,λb d=>(l b d).1]];rw[Int.mul_one]
 done:=by
  intro X m p q r i C s D H E I l a u;subst m p q;let#[x,y,J,z,A,B]:=l c (by simp);exact wpAny_pyNext_range_end (I.ok.hd r) a (by have:n<=i:=u;lk) λj O=>#[rfl,I.turned (t':=s.toks) (λb o d e=>O b o d e) x y z A B]
 self:=λ_ _ _ _ _ a h=>wpAny_pyIter_rangeiter a h
section

def iQ(K:Frag)(b:TE):TI:=λc H R=>b c H λx H1=>∃a,x=.ref a/\(∃d,SqT K H1 a d)/\R (cu K a) H1
theorem U9(f:PE X l d):PI X tg l^iQ X.K d:=by
 intro r s g H R I h;refine Ao (f _ s g H _ I h) λv i zz=>?_;let#[x,H1,c,j,k]:=zz;let#[a,e,#[t,m],q]:=k;subst e;cases j;let#[n,u,p,w]:=c.tuple m;refine lI (p) ?_;refine#[_,_,_,_,H1,rfl,c.kept λb o e=>FM _ e,Ih a _,#[_,TW _ rfl,rfl,rfl],λb y=>?_,q];have e:b=i.heap.objs.size:=by grind
 subst e;exact c.fpOk (Sc _)^c.hok.fresh^Sc _
theorem Uj(I:Inv X d f H s)(h1:-(2 ^ 62)<=a)(i:a<2 ^ 62)(j:-(2 ^ 62)<=c)(k:c<2 ^ 62)
  (q:R (gs a (c - a).toNat) H):wpAny (model X.prog X.w) X.A (pyIter^.ref s.heap.objs.size) (jL X d f tg R) E {s with heap:=s.heap.push {cls:=.type "range",data:=.fields #[ .int a t,.int c u,.int 1 v]},toks:=g}:=by
 refine wpAny_pyIter_range (IsRange.new ..) (small_one h1 i j k) ?_;have h:Inv X d f H {s with heap:=s.heap.push {cls:=.type "range",data:=.fields #[ .int a t,.int c u,.int 1 v]},toks:=g}:=I.kept λb o e=>FM _ e
 refine#[(s.heap.push {cls:=.type "range",data:=.fields #[ .int a t,.int c u,.int 1 v]}).objs.size,[(s.heap.push {cls:=.type "range",data:=.fields #[ .int a t,.int c u,.int 1 v]}).objs.size],_,_,H,rfl,
  h.kept (t':=g) λb o e=>FM _ e,O5 _ a (c - a).toNat,?_,λb l=>?_,q]
 .have m:a+((0:Nat):Int)*1=a:=by simp
  have n:(((c - a).toNat:Nat):Int) - ((0:Nat):Int)=Builtin.Range.rangeSize a c 1:=by rw[rangeSize_one];grind
  show IsRangeIter _ _ (a+((0:Nat):Int)*1) ((((c - a).toNat:Nat):Int) - ((0:Nat):Int)) 1;rw[m,n];exact TW _ rfl
 .have e:b=(s.heap.push {cls:=.type "range",data:=.fields #[ .int a t,.int c u,.int 1 v]}).objs.size:=by simpa using l
  subst e;exact h.fpOk (Sc _)^h.hok.fresh^Sc _
def fS(a:TA):TI:=λb H R=>a b H λc H1=>∃j:Int,c=[.int j]/\-(2 ^ 62)<=j/\j<2 ^ 62/\R (gs 0 j.toNat) H1
theorem SN(d:Gl X "range")(f:X.mg "range"=s_)(g:PA X [a] c)(i:starEach [a] X.env=[(u_,eval a X.env)]:=by rfl):PI X tg (.Call (.Name "range" p) [a] [] pos)^fS c:=by
 intro u s k H R I h;refine Call_^EI I d f boot_range (lO (Ao (g _ _ s k H _ I h) λv w zz=>?_) i rfl);let#[x,H1,l,m,b]:=zz;let#[j,e,b,n,q]:=b;subst e;cases m with
 |cons r o=>
  cases o;let#[t,rfl]:=r;exact call_range_1^Uj l (by lk) (by lk) b n^by simpa using q
def iD(e:TI)(g:TG)(f:TS):TS:=λD a H=>e a H λJ H1=>∃W:Nat->Nat->St->Hp->Prop,(∃m,W 0 m a H1)/\∀i m a H,W i m a H->
 (J.stop i H/\D.nx a H)\/(J.go i H/\∃N:St->Hp->Prop,(∀c b,N c b->∃d,d<m/\W (i+1) d c b)/\∀x b,J.yld i H x b->g x a b λh H2=>f {D with nx:=N,ct:=N,bk:=D.nx} h H2)
def JG(a:v_ Ch)(h:jq):v_ (Ch×Obj):=a.filterMap λb=>(h.get? b).map λo=>(b,o)
def EG(c:b∈a)(e:h.get? b=P3 o):(b,o)∈JG a h:=qJ.mpr #[b,c,by rw[e];rfl]
theorem Sa(c:p∈JG a h):p.1∈a/\h.get? p.1=P3 p.2:=by
 let#[b,f,e]:=qJ.mp c;cases q:h.get? b with
 |none=>grind
 |some o=>
  rw[q]at e;have d:=ZB e;subst d
  simp_all
theorem Inv.pinned(I:Inv X a f H s)(h:∀b∈c,Gg X a H b)(i:∀b∈c,∃o,s.heap.get? b=P3 o/\∀v,o.data≠.cell v):Inv X (a++JG c s.heap) f H s:=
 I.pins_of λp j=>(jj.mp j).elim (λz=>I.pin p^jm _ z) λz=>by
  let#[g,e]:=Sa z;let#[k,l,m,_]:=h _ g;let#[o,n,d]:=i _ g
  grind
def Inv.yq(I:Inv X (a++pl) b H s):Inv X a b H s:=I.pins_of λp c=>I.pin p^jm _^kW _ c
def JD(C:pP (model X.prog X.w) X.A X.env X.xe)(hc:X.calm=t_)(hi:PI X tg a wi)(hg:PG X tg g)(c:PSs X t tb)
  (hs:∀x,foldedSetIterable a X.env x=pure x:=by intro _;rfl):PS X (.For tg a t [] pos)^iD wi g tb:=by
 intro z s σ H D I h;refine wpAny_For (Ao (hi z s σ H _ I h) λv s1 h1=>Ao h1 λa0 s2 h2=>?_) hs;let#[it,E,tn,J,H2,e,I2,T,R,f2,W,#[m0,w0],F]:=h2;subst e;have j:∀{q:Hp},(∀b∈E,q b=s_)->∀b∈E,Gg X z q b:=λhn b c=>#[hn b c,(f2 b c).2];refine codeAny_forLoop_any (λn s'=>∃i G q,Inv X z G q s'/\tn i s'.heap/\(∀b∈E,q b=s_)/\W i n G q) ?_ m0 #[0,σ,H2,I2,R,λb c=>(f2 b c).1,w0];rintro n s3 ⟨i,K,Q,I3,L,M,w3⟩
 rcases F i n K Q w3 with⟨O,qn⟩|⟨go,N,hN,step⟩
 .refine mx C^Ao (T.done X rfl rfl rfl hc i z s3 K Q X.xe I3 (j M) L O) λr s4 zz=>?_;let#[S,I4]:=zz
  subst S;exact nZ #[K,Q,I4,qn]
 .refine mx C^Ao (T.item X rfl rfl rfl hc i z s3 K Q X.xe I3 (j M) L go) λr s4 zz=>?_;let#[u,S,h4]:=zz
  subst S;refine mx C^Ao h4 λ_ s5 zz=>?_;let#[x,H5,I5,r5,y5,B,U]:=zz;have V:=I5.pinned (j U)^T.obj _ _ B;refine mx C^Ao (hg _ s5 K H5 x u _ V r5^step x H5 y5) λ_ s6 zz=>?_;let#[Y,H6,I6,q6]:=zz;refine mx C^Ao (c _ s6 Y H6 _ I6 q6) λf Z y=>?_
  have again:∀{k:St}{l:Hp},Inv X (z++JG E s5.heap) k l Z->N k l->∃m,m<n/\∃i G q,Inv X z G q Z/\tn i Z.heap/\(∀b∈E,q b=s_)/\W i m G q:=λ{k l} p P=>by
   let#[m',hm,w7]:=hN k l P;refine#[m',hm,i+1,k,l,p.yq,T.keep _ _ _ B λb c o e=>(p.pin (b,o)^jm _^jm _^EG c e).1,λb c=>?_,w7];let#[o,e,d]:=T.obj _ _ B b c;exact(p.pin (b,o)^jm _^jm _^EG c e).2.1
  cases f with
  |next=>let#[k,l,p,P]:=y;exact again p P
  |cont=>let#[k,l,p,P]:=y;exact again p P
  |brk=>let#[k,l,p,y]:=y;exact#[k,l,p.yq,y]
  |ret v=>let#[x7,k,l,p,r7,y]:=y;exact#[x7,k,l,p.yq,r7,y]
end
theorem RK{K:Frag}{g:TG}{k:TS}{D:Ends}(c:Nat->St->Hp->Prop)(n:c 0 b H)(o:∀i b H,i<=xs.length->c i b H->SqT K H a xs)
  (r:∀i x b H,xs[i]?=P3 x->c i b H->g x b H λf H2=>k {D with nx:=c (i+1),ct:=c (i+1),bk:=D.nx} f H2) (s:∀b H,c xs.length b H->D.nx b H):
  ∃W:Nat->Nat->St->Hp->Prop,(∃m,W 0 m b H)/\∀i m b H,W i m b H->
   ((cu K a).stop i H/\D.nx b H)\/((cu K a).go i H/\∃N:St->Hp->Prop,(∀h d,N h d->∃l,l<m/\W (i+1) l h d)/\∀x d,(cu K a).yld i H x d->g x b d λf H2=>k {D with nx:=N,ct:=N,bk:=D.nx} f H2):=by
 exists λi m b H=>m=xs.length - i/\i<=xs.length/\c i b H,#[xs.length,by simp,jp _,n];rintro i m b H ⟨rfl,t,p⟩;have q:=o i b H t p
 by_cases j:i<xs.length
 .refine .inr #[#[xs,xs[i],q,by simp],_,λh d u=>#[_,by lk,rfl,j,u],λx d y=>?_]
  let#[e,y]:=y;subst e;exact r i x b _ (y xs q) p
 .have e:i=xs.length:=by lk
  subst e;exact .inl #[#[xs,q,Sc _],s b H p]
abbrev R2:=V->V->Hp->VK->Prop
def OpR(X:Cx)(f:Db->Db->Sem Db)(r:R2):Prop:=
 ∀(a:v_ (Ch×Obj)) (s:Go) (b:St) (H:Hp) (x y:V) (v u:Db) (Q:VK),Inv X a b H s->RelV x v->RelV y u->r x y H Q->
  wpAny (model X.prog X.w) X.A (f v u) (EP X a b Q) X.xe s
def iq(X:Cx)(f:Db->Sem Db)(r:V->Hp->VK->Prop):Prop:=
 ∀(a:v_ (Ch×Obj)) (s:Go) (b:St) (H:Hp) (x:V) (v:Db) (Q:VK),Inv X a b H s->RelV x v->r x H Q->
  wpAny (model X.prog X.w) X.A (f v) (EP X a b Q) X.xe s
def zS(X:Cx)(f:Db)(r:v_ V->Hp->VK->Prop):Prop:=
 ∀(a:v_ (Ch×Obj)) (s:Go) (b:St) (H:Hp) (c:v_ V) (d:v_ Db) (Q:VK),Inv X a b H s->zv c d->r c H Q->
  wpAny (model X.prog X.w) X.A (call f d) (EP X a b Q) X.xe s
def ir(X:Cx)(r:V->Hp->(Bool->Hp->Prop)->Prop):Prop:=
 ∀(a:v_ (Ch×Obj)) (s:Go) (b:St) (H:Hp) (x:V) (v:Db) (Q:Bool->Hp->Prop),Inv X a b H s->RelV x v->r x H Q->
  wpAny (model X.prog X.w) X.A (truthy v) (TP X a b Q) X.xe s
def Dh(r:R2)(b c:TE):TE:=λa H Q=>b a H λx H1=>c a H1 λy H2=>r x y H2 Q
def jT(r:V->Hp->VK->Prop)(a:TE):TE:=λb H Q=>a b H λx H1=>r x H1 Q
def rI(C:Int->Int->Prop)(g:Int->Int->V):R2:=λx y H Q=>∃i j,x=.int i/\y=.int j/\C i j/\Q (g i j) H
def Hw(g:Int->Int->V):R2:=λx y H Q=>∃i j,x=.int i/\y=.int j/\Q (g i j) H
def rU(g:Int->V):V->Hp->VK->Prop:=λx H Q=>∃i,x=.int i/\Q (g i) H
section

def cO(j:PE X a ta)(k:PE X b tb){R:V->V->Hp->Prop}(I:Inv X i c H s)
  (h:ta c H λx H1=>tb c H1 λy H2=>R x y H2) {f:Db->Db->Sem Db}
  (l:∀v u g x y H2,Inv X i c H2 g->RelV x v->RelV y u->R x y H2->wpAny (model X.prog X.w) X.A (f v u) Q X.xe g):
  wpAny (model X.prog X.w) X.A (eval a X.env) (λv d=>wpAny (model X.prog X.w) X.A (eval b X.env) (λu e=>wpAny (model X.prog X.w) X.A (f v u) Q X.xe e) X.xe d) X.xe s:=Ao (j _ s c H _ I h) λv m #[x,H1,n,o,p]=>Ao (k _ m c H1 _ n p) λu g #[y,H2,q,r,t]=>l v u g x y H2 q o r t
def Bo(d:OpR X (binaryOp c) r)(e:PE X a ta)(f:PE X b tb):PE X (.BinOp a c b pos)^Dh r ta tb:=λm s g H Q I h=>wpAny_BinOp^cO e f I h λv u i x y H2 j k l q=>d _ i g H2 x y v u Q j k l q
def e_(e:iq X (unaryOp c) r)(f:PE X a ta):PE X (.UnaryOp c a pos)^jT r ta:=λl s d H Q I h=>UnaryOp_^Ao (f _ s d H _ I h) λv g #[x,H1,i,j,k]=>e _ g d H1 x v Q i j k
def gi{g:Int->Int->Int}
  (c:∀(i j:Int) (t u:Tok) (s:Go) (Q:Db->Go->Prop) (E:Db->Go->Prop),C i j->Q (.int (g i j) s.toks) {s with toks:=s.toks+1}->wpAny (model X.prog X.w) X.A (f (.int i t)^.int j u) Q E s):
  OpR X f (rI C λi j=>.int^g i j):=by
 intro m s n H x y v u Q I d e h;let#[i,j,rfl,rfl,k,q]:=h;let#[t,rfl]:=d;let#[l,rfl]:=e;exact c i j t l s _ _ k #[.int _,H,I.tok _,#[_,rfl],q]
def fF{g:Int->Int->Int}
  (c:∀(i j:Int) (t u:Tok) (s:Go) (Q:Db->Go->Prop) (E:Db->Go->Prop),Q (.int (g i j) s.toks) {s with toks:=s.toks+1}->wpAny (model X.prog X.w) X.A (f (.int i t)^.int j u) Q E s):
  OpR X f (Hw λi j=>.int^g i j):=by
 intro l s m H x y v u Q I d e h;let#[i,j,rfl,rfl,q]:=h;let#[t,rfl]:=d;let#[k,rfl]:=e;exact c i j t k s _ _ #[.int _,H,I.tok _,#[_,rfl],q]
def Xo{g:Int->Int->Bool}
  (c:∀(i j:Int) (t u:Tok) (s:Go) (Q:Db->Go->Prop) (E:Db->Go->Prop),Q (.bool^g i j) s->wpAny (model X.prog X.w) X.A (f (.int i t)^.int j u) Q E s):
  OpR X f (Hw λi j=>.bl^g i j):=by
 intro l s m H x y v u Q I d e h;let#[i,j,rfl,rfl,q]:=h;let#[t,rfl]:=d;let#[k,rfl]:=e;exact c i j t k s _ _ #[.bl _,H,I,rfl,q]
def Yy(i j:Int):Prop:=0<j/\j<1073741824
def Wv(i j:Int):Prop:=0<=j/\j<=1000000/\i.natAbs<2 ^ 64
def vL(i j:Int):Prop:=(-(2 ^ 64)<i/\i<2 ^ 64)\/(-(2 ^ 64)<j/\j<2 ^ 64)
def vL.ok(h:vL i j):IntMulOk i j:=by
 rcases h with⟨c,d⟩|⟨c,d⟩
 .exact .of_left^intBits_le_64 c d
 .exact .of_right^intBits_le_64 c d
def yz:OpR X (binaryOp .Add) (Hw λi j=>.int (i+j)):=fF λ_ _ _ _ _ _ _ q=>add_int q
def op_sub:OpR X (binaryOp .Sub) (Hw λi j=>.int (i - j)):=fF λ_ _ _ _ _ _ _ q=>sub_int q
def XP:OpR X (binaryOp .Mult) (rI vL λi j=>.int (i*j)):=gi λ_ _ _ _ _ _ _ c q=>mul_int q c.ok
theorem MM:OpR X (binaryOp .FloorDiv) (rI Yy λi j=>.int (i / j)):=gi λi j _ _ _ _ _ c q=>by
 have d:=c.1;have e:=c.2;exact floordiv_int (by lk) (by grind)^.inl^PyProof.noPylong_small^by lk
theorem EB:OpR X (binaryOp .Mod) (rI (λ_ j=>0<j) λi j=>.int (i % j)):=gi λi j _ _ _ _ _ c q=>mod_int' (by lk)^by rw[Int.fmod_eq_emod_of_nonneg i^by lk];exact q
def MJ:OpR X (binaryOp .Pow) (rI Wv λi j=>.int (i ^ j.toNat)):=gi λ_ _ _ _ _ _ _ c q=>pow_int_small c.1 c.2.1 c.2.2 q
def jQ{g:Int->Int}
  (c:∀(i:Int) (t:Tok) (s:Go) (Q:Db->Go->Prop) (E:Db->Go->Prop),Q (.int (g i) s.toks) {s with toks:=s.toks+1}->wpAny (model X.prog X.w) X.A (f^.int i t) Q E s):
  iq X f (rU λi=>.int^g i):=by
 intro e s j H x v Q I d h;let#[i,rfl,q]:=h;let#[t,rfl]:=d;exact c i t s _ _ #[.int _,H,I.tok _,#[_,rfl],q]
def aG:iq X (unaryOp .USub) (rU λi=>.int (-i)):=jQ λ_ _ _ _ _ q=>neg_int q
end
def eF:V->V->Bool
 |.non,.non=>t_|.non,.int _=>t_|.int _,.non=>t_|.non,.bl _=>t_|.bl _,.non=>t_|.non,.str _=>t_|.str _,.non=>t_
 |.int _,.int _=>t_|.bl _,.bl _=>t_|.str _,.str _=>t_|.byt _,.byt _=>t_
 |.int _,.str _=>t_|.str _,.int _=>t_|.bl _,.str _=>t_|.str _,.bl _=>t_
 |_,_=>u_
def jE:R2:=λx y H Q=>eF x y=t_/\Q (.bl (decide (x=y))) H
def jB:R2:=λx y H Q=>eF x y=t_/\Q (.bl (!decide (x=y))) H
def IV:decide (V.int i=V.int j)=(i==j):=by
 rw[kR];simp
def Mq:decide (V.bl i=V.bl j)=(i==j):=by
 rw[kR];simp
def IU:decide (V.str i=V.str j)=(i==j):=by
 rw[kR];simp
def RT:decide (V.byt i=V.byt j)=(i.toList==j.toList):=by
 rw[kR]
 simp_all
section

def Al{c:v_ (Ch×Obj)}(I:Inv X c d H s)(q:Q (.bl k) H)(e:k=f):EP X c d Q (.bool f) s:=by
 subst e;exact#[.bl k,H,I,rfl,q]
def Bb:OpR X (compareOp .Eq) jE:=by
 intro g s k H x y v u Q I f c h;let#[e,q]:=h;cases x with
 |non=>
  cases f;cases y with
  |non=>cases c;exact PySem.EqNone.eq_none_none^Al I q^by simp
  |bl j=>cases c;exact PySem.EqNone.eq_none_bool^Al I q^by simp
  |int j=>let#[d,rfl]:=c;exact PySem.EqNone.eq_none_int^Al I q^by simp
  |str j=>let#[d,rfl]:=c;exact PySem.EqNone.eq_none_str^Al I q^by simp
  |_=>exact absurd (show u_=t_ from e) jt
 |bl i=>
  cases f;cases y with
  |non=>cases c;exact PySem.EqNone.eq_bool_none^Al I q^by simp
  |bl j=>cases c;exact eq_bool^Al I q Mq
  |str j=>let#[d,rfl]:=c;exact PySem.EqMixed.eq_bool_str^Al I q^by simp
  |_=>exact absurd (show u_=t_ from e) jt
 |int i=>
  let#[t,rfl]:=f;cases y with
  |non=>cases c;exact PySem.EqNone.eq_int_none^Al I q^by simp
  |int j=>let#[d,rfl]:=c;exact eq_int^Al I q IV
  |str j=>let#[d,rfl]:=c;exact PySem.EqMixed.eq_int_str^Al I q^by simp
  |_=>exact absurd (show u_=t_ from e) jt
 |str i=>
  let#[t,rfl]:=f;cases y with
  |non=>cases c;exact PySem.EqNone.eq_str_none^Al I q^by simp
  |bl j=>cases c;exact PySem.EqMixed.eq_str_bool^Al I q^by simp
  |int j=>let#[d,rfl]:=c;exact PySem.EqMixed.eq_str_int^Al I q^by simp
  |str j=>let#[d,rfl]:=c;exact eq_str^Al I q IU
  |_=>exact absurd (show u_=t_ from e) jt
 |byt i=>
  let#[t,rfl]:=f;cases y with
  |byt j=>let#[d,rfl]:=c;exact PySem.W.eq_bytes^Al I q RT
  |_=>exact absurd (show u_=t_ from e) jt
 |_=>cases y <;>exact absurd (show u_=t_ from e) jt
def Q6:OpR X (compareOp .NotEq) jB:=by
 intro g s k H x y v u Q I f c h;let#[e,q]:=h;cases x with
 |non=>
  cases f;cases y with
  |non=>cases c;exact PySem.EqNone.ne_none_none^Al I q^by simp
  |bl j=>cases c;exact PySem.EqNone.ne_none_bool^Al I q^by simp
  |int j=>let#[d,rfl]:=c;exact PySem.EqNone.ne_none_int^Al I q^by simp
  |str j=>let#[d,rfl]:=c;exact PySem.EqNone.ne_none_str^Al I q^by simp
  |_=>exact absurd (show u_=t_ from e) jt
 |bl i=>
  cases f;cases y with
  |non=>cases c;exact PySem.EqNone.ne_bool_none^Al I q^by simp
  |bl j=>cases c;exact ne_bool^Al I q^congrArg not Mq
  |str j=>let#[d,rfl]:=c;exact PySem.EqMixed.ne_bool_str^Al I q^by simp
  |_=>exact absurd (show u_=t_ from e) jt
 |int i=>
  let#[t,rfl]:=f;cases y with
  |non=>cases c;exact PySem.EqNone.ne_int_none^Al I q^by simp
  |int j=>let#[d,rfl]:=c;exact ne_int^Al I q^congrArg not IV
  |str j=>let#[d,rfl]:=c;exact PySem.EqMixed.ne_int_str^Al I q^by simp
  |_=>exact absurd (show u_=t_ from e) jt
 |str i=>
  let#[t,rfl]:=f;cases y with
  |non=>cases c;exact PySem.EqNone.ne_str_none^Al I q^by simp
  |bl j=>cases c;exact PySem.EqMixed.ne_str_bool^Al I q^by simp
  |int j=>let#[d,rfl]:=c;exact PySem.EqMixed.ne_str_int^Al I q^by simp
  |str j=>let#[d,rfl]:=c;exact ne_str^Al I q^congrArg not IU
  |_=>exact absurd (show u_=t_ from e) jt
 |byt i=>
  let#[t,rfl]:=f;cases y with
  |byt j=>let#[d,rfl]:=c;exact PySem.W.ne_bytes^Al I q^congrArg not RT
  |_=>exact absurd (show u_=t_ from e) jt
 |_=>cases y <;>exact absurd (show u_=t_ from e) jt
def op_lt:OpR X (compareOp .Lt) (Hw λi j=>.bl (decide (i<j))):=Xo λ_ _ _ _ _ _ _ q=>rM q
def op_le:OpR X (compareOp .LtE) (Hw λi j=>.bl (decide (i<=j))):=Xo λ_ _ _ _ _ _ _ q=>le_int q
def ZR:OpR X (compareOp .Gt) (Hw λi j=>.bl (decide (j<i))):=Xo λ_ _ _ _ _ _ _ q=>gt_int q
def fE:OpR X (compareOp .GtE) (Hw λi j=>.bl (decide (j<=i))):=Xo λ_ _ _ _ _ _ _ q=>ge_int q
def SV:OpR X (compareOp .Lt) (λx y H Q=>∃i j,x=.str i/\y=.str j/\Q (.bl (decide (i.cps.toList<j.cps.toList))) H):=by
 intro e s f H x y v u Q I c d h;let#[i,j,rfl,rfl,q]:=h;let#[t,rfl]:=c;let#[g,rfl]:=d;exact lt_str (Al I q rfl)
def SX:OpR X (compareOp .In) (λx y H Q=>∃i j,x=.str i/\y=.str j/\Q (.bl (!(mY j i 0 j.length 1).isEmpty)) H):=by
 intro e s f H x y v u Q I c d h;let#[i,j,rfl,rfl,q]:=h;let#[t,rfl]:=c;let#[g,rfl]:=d;exact in_str (Al I q rfl)
def MK:OpR X (compareOp .Is) (λx y H Q=>y=.non/\Q (.bl (decide (x=.non))) H):=by
 intro e s f H x y v u Q I c d h;let#[rfl,q]:=h;cases d;refine is_none_gen^Al I q ?_
 cases x <;>first
  |omega
  |(let#[t,rfl]:=c;rfl)
def Q5:OpR X (compareOp .IsNot) (λx y H Q=>y=.non/\Q (.bl (!decide (x=.non))) H):=by
 intro e s f H x y v u Q I c d h;let#[rfl,q]:=h;cases d;refine isnot_none_gen^Al I q ?_
 cases x <;>first
  |omega
  |(let#[t,rfl]:=c;rfl)
def OpR.or{r c:R2}(h:OpR X f r)(i:OpR X f c):OpR X f (λx y H Q=>r x y H Q\/c x y H Q):=by
 intro j s d H x y v u Q I e g q
 rcases q with q|q
 .exact h _ s d H x y v u Q I e g q
 .exact i _ s d H x y v u Q I e g q
theorem Cp(b:jx){c:CmpOp}(h:c≠.In:=by decide)(f:c≠.NotIn:=by decide):behindInMarks c b=u_:=by
 have d:(c==CmpOp.In)=u_:=by grind
 have e:(c==CmpOp.NotIn)=u_:=by grind
 cases b <;>simp[behindInMarks,d,e]
def Xk{c:CmpOp}(d:OpR X (compareOp c) r)(e:PE X a ta)(f:PE X b tb)(g:behindInMarks c b=u_):PE X (.Compare a [c] [b] pos)^Dh r ta tb:=λn s i H Q I h=>wpAny_Compare1 (cO e f I h λv u j x y H2 k l m q=>d _ j i H2 x y v u Q k l m q) g
def Qd(t:TE):TT:=λc H Q=>t c H λx d=>∃k,x=.bl k/\Q k d
def E5(g:OpR X (compareOp d) r)(i:PE X a ta)(j:PE X b tb)(l:behindInMarks d b=u_):PT X (.Compare a [d] [b] pos)^Qd^Dh r ta tb:=by
 intro F s f H Q I h
 refine wpAny_isTrue_Compare1 (Ao (i _ s f H _ I h) λv m #[x,H1,n,o,p]=>Ao (j _ m f H1 _ n p) λu q #[y,H2,t,w,A]=>
  Ao (g _ q f H2 x y v u _ t o w A) λc G #[z,B,C,D,k,e,E]=>?_) l
 subst e;cases D;exact lG #[B,C,E]
def PC(r e:R2)(ta tb tc:TE):TE:=λc H Q=>ta c H λx H1=>tb c H1 λy H2=>r x y H2 λz d=>∃k,z=.bl k /\
 (if k=t_ then tc c d λf g=>e y f g Q else Q (.bl u_) d)
def VJ(q:OpR X (compareOp i) r)(j:OpR X (compareOp f) l)(t:PE X a ta)(w:PE X b tb)(A:PE X c tc)
  (B:lastMarks [i,f] [b,c]=u_:=by with_unfolding_all rfl):PE X (.Compare a [i,f] [b,c] C)^PC r l ta tb tc:=by
 intro W s g H Q I h
 refine Compare_chain (Ao (t _ s g H _ I h) λv D #[x,H1,E,F,G]=>chain_link (Ao (w _ D g H1 _ E G) λu J #[y,H2,K,m,L]=>
  Ao (q _ J g H2 x y v u _ K F m L) λd M #[z,n,o,N,k,e,p]=>?_)) B
 subst e;cases N;refine lG ?_;cases k with
 |false=>exact ite_ff #[.bl _,n,o,rfl,p]
 |true=>exact ite_tt^chain_last^Ao (A _ M g n _ o p) λO P #[R,S,T,U,V]=>j _ P g S y R u O Q T m U V
def U2(q:OpR X (compareOp i) r)(j:OpR X (compareOp f) l)(t:PE X a ta)(w:PE X b tb)(A:PE X c tc)
  (B:lastMarks [i,f] [b,c]=u_:=by with_unfolding_all rfl):PT X (.Compare a [i,f] [b,c] C)^Qd^PC r l ta tb tc:=by
 intro zF s g H Q I h
 refine isTrue_chain (Ao (t _ s g H _ I h) λv D #[x,H1,E,F,G]=>test_link (Ao (w _ D g H1 _ E G) λu J #[y,H2,K,m,L]=>
  Ao (q _ J g H2 x y v u _ K F m L) λd M #[z,n,o,N,k,e,p]=>?_)) B
 subst e;cases N;refine lG ?_;cases k with
 |false=>
  let#[k',O,P]:=p;cases O;exact ite_ff #[n,o,P]
 |true=>
  refine ite_tt^test_last^Ao (A _ M g n _ o p) λR S zz=>?_;let#[T,U,V,W,Y]:=zz;refine Ao (j _ S g U y T u R _ V m W Y) λd' s5 zz=>?_;let#[z2,Z,I5,r5,k2,e2,q5]:=zz;subst e2;cases r5;exact lG #[Z,I5,q5]
def Ys(K:Frag)(x:V)(H:Hp)(k:Bool):Prop:=
 match x with
 |.non=>k=u_
 |.bl b=>k=b
 |.int i=>k=(i !=0)
 |.str y=>y.length<=sizeLine/\k=((y.length:Int) !=0)
 |.byt y=>y.size<=sizeLine/\k=((y.size:Int) !=0)
 |.ref p=>(∃c,SqL K H p c/\k=!c.isEmpty)\/(∃c,SqT K H p c/\k=!c.isEmpty)\/∃d,H p=P3^.dK d/\k=!d.isEmpty
 |_=>False
def P0{c:v_ (d×V)}(r:KV c e):(!e.isEmpty)=!c.isEmpty:=by
 cases r <;>rfl
def Jb{c:v_ Db}(r:zv d c):(!c.toArray.isEmpty)=!d.isEmpty:=by
 cases r <;>simp
def G2:(sizeLine:Nat)<2 ^ 63:=by cbv
theorem UG:ir X (λx H Q=>∃k,Ys X.K x H k/\Q k H):=by
 intro B s C H x v Q I j h;let#[k,e,q]:=h;have D:=G2;have E:sizeLine=16777216:=kJ;cases x with
 |non=>
  cases j;have c:k=u_:=e;subst c;exact truthy_none #[H,I,q]
 |bl b=>
  cases j;have c:k=b:=e;subst c;exact lG #[H,I,q]
 |int i=>
  let#[t,rfl]:=j;have c:k=(i !=0):=e;subst c;exact PySem.P.truthy_int #[H,I,q]
 |str y=>
  let#[t,rfl]:=j;obtain⟨z,c⟩:y.length<=sizeLine/\k=((y.length:Int) !=0):=e;subst c;exact PySem.P.truthy_str (by lk) #[H,I.tok _,q]
 |byt y=>
  let#[t,rfl]:=j;obtain⟨z,c⟩:y.size<=sizeLine/\k=((y.size:Int) !=0):=e;subst c;exact PySem.W.truthy_bytes (by lk) #[H,I.tok _,q]
 | ref p=>
  cases j;have c:(∃g,SqL X.K H p g/\k=!g.isEmpty)\/(∃g,SqT X.K H p g/\k=!g.isEmpty)\/∃d,H p=P3^.dK d/\k=!d.isEmpty:=e
  rcases c with⟨g,l,c⟩|⟨g,l,c⟩|⟨d,l,c⟩
  .subst c
   let#[o,r,pl,u]:=I.list l;have f:=r.length;exact wpAny_truthy_list pl.isList (by simp only[jn];lk) #[H,I.tok _,by rw[Jb r];exact q]
  .subst c
   let#[o,r,pl,u]:=I.tuple l;have f:=r.length;exact truthy_tuple pl (by simp only[jn];lk) #[H,I.tok _,by rw[Jb r];exact q]
  .subst c
   obtain⟨u,A,n,r,m⟩:d.length<=sizeLine/\(p==sysModules)=u_/\∃n,KV d n/\s.heap.DictOf (Av X.prog X.w) p n:=I.hok p _ l;have f:d.length=n.length:=Paired.length r;exact wpAny_truthy_dict A m (by lk) #[H,I.tok _,by rw[P0 r];exact q]
 |_=>exact(show False from e).elim
def U1(f:PE X a ta)(g:∀c,isTrue a X.env c=(do let v ←c;standAt a.pos;holding [v]^truthy v)):
  PT X a (λd H Q=>ta d H λx e=>∃k,Ys X.K x e k/\Q k e):=λn s d H Q I h=>isTrue_plain (Ao (f _ s d H _ I h) λv i #[x,H1,j,l,m]=>UG _ i d H1 x v Q j l m)^g _
def Pk:OpR X (binaryOp .Add) (λx y H Q=>∃i j,x=.str i/\y=.str j/\i.length+j.length<=sizeLine/\Q (.str (i++j)) H):=by
 intro g s k H x y v u Q I c d h;let#[i,j,rfl,rfl,e,q]:=h;let#[t,rfl]:=c;let#[f,rfl]:=d;exact add_str (λf l=>#[.str _,H,I.tok _,#[_,rfl],q]) e
theorem vals1{c:v_ Db}(r:zv [x] c):∃u,c=[u]/\RelV x u:=by
 cases r with
 |cons e d=>cases d;grind
def vals2{c:v_ Db}(r:zv [x,y] c):∃u d,c=[u,d]/\RelV x u/\RelV y d:=by
 cases r with
 |cons e f=>
  cases f with
  |cons g h=>cases h;exact#[_,_,rfl,e,g]
def Mw:zS X (.type "str") (λc H Q=>∃i,c=[.int i]/\i.natAbs.log2<1920/\Q (.str^toString i) H):=by
 intro e s f H c g Q I r h;let#[i,rfl,d,q]:=h;let#[u,rfl,t,rfl]:=vals1 r;exact PySem.P.str_of_int d #[.str _,H,I.tok _,#[_,rfl],q]
def cr(K:Frag)(x:V)(H:Hp)(n:Nat):Prop:=
 match x with
 |.str y=>y.length<=sizeLine/\n=y.length
 |.byt y=>y.size<=sizeLine/\n=y.size
 |.ref p=>(∃c,SqL K H p c/\n=c.length)\/∃c,SqT K H p c/\n=c.length
 |_=>False
def J_:zS X (.builtin "len") (λc H Q=>∃x n,c=[x]/\cr X.K x H n/\Q (.int n) H):=by
 intro o s v H c w Q I r h;let#[x,n,rfl,e,q]:=h;let#[u,rfl,g]:=vals1 r;have z:=G2;have A:sizeLine=16777216:=kJ;cases x with
 |str y=>
  let#[t,rfl]:=g;obtain⟨l,f⟩:y.length<=sizeLine/\n=y.length:=e;subst f;exact len_str (by lk) #[.int _,H,I.tok _,#[_,rfl],q]
 |byt y=>
  let#[t,rfl]:=g;obtain⟨l,f⟩:y.size<=sizeLine/\n=y.size:=e;subst f;exact PySem.W.len_bytes (by lk) #[.int _,H,I.tok _,#[_,rfl],q]
 | ref p=>
  cases g;have f:(∃c,SqL X.K H p c/\n=c.length)\/∃c,SqT X.K H p c/\n=c.length:=e
  rcases f with⟨c,i,f⟩|⟨c,i,f⟩
  .subst f
   let#[j,k,pl,m]:=I.list i;have d:=k.length;exact Calls.call_len_list pl.isList (by simp only[jn];lk) #[.int c.length,H,I.tok _,#[_,by simp only[jn];rw[d]],q]
  .subst f
   let#[j,k,pl,m]:=I.tuple i;have d:=k.length;exact len_tuple pl (by simp only[jn];lk) #[.int c.length,H,I.tok _,#[_,by simp only[jn];rw[d]],q]
 |_=>exact(show False from e).elim
end
structure ObjM (h:jq) (x dx C:Ch) (mA:Str->Option Db):Prop where
 obj:h.get? x=P3 (PySem.W.instObj C dx)
 ns:h.Ns1 dx mA
 ne:dx≠x
theorem LR{h:jq}(n:h.Ns1 d f):∃g,h.get? d=P3 g/\∀b,PySem.W.lookIn b g=P3^f b:=by
 let#[o,i,q,j,k,l,_,m]:=n;refine#[o,j,λb=>?_];have e:=m b;unfold nsFind findBy at e;unfold PySem.W.lookIn;rw[k]
 dsimp only
 split
 .simp_all
 .have a:i.toList.any (·.refKey)=u_:=by
   rw[List.any_eq_false];intro y p;let#[z,t,c]:=l y^Array.mem_toList_iff.mp p;simp[DictEntry.refKey,c]
  grind
def ObjM.look(I:ObjM h x c C d):∃b,PySem.W.InstAt h x (PySem.W.instObj C c) C^P3 b/\∀a,PySem.W.lookIn a b=P3^d a:=
 let #[b,e,f]:=LR I.ns
 #[b,#[I.obj,rfl,rfl,e],f]
section
variable {K:Frag}
def X9(X:K.In s.heap)(I:ObjM s.heap x dx C mA)(c:PySem.W.plainGet K C name=t_)(d:PySem.W.hasDictIn K C=t_)
  (e:PySem.W.findIn K (.ref C) name=P3 s_) (g:mA name=P3 v) (b:PySem.W.handedIn v=t_) (h:Q v {s with toks:=s.toks+1}):
  wpAny (model prog w) A (getAttr (.ref x) name a) Q E s:=by
 let#[j,J,i]:=I.look;exact PySem.W.get_value X J (PySem.W.plainGet_of c).1 (PySem.W.findObj_own d e rfl (by rw[i,g])) b h
theorem V2(X:K.In s.heap)(I:ObjM s.heap x dx C mA)(a:PySem.W.plainGet K C name=t_)
  (b:PySem.W.findIn K (.ref C) name=P3^P3^.ref f) (c:PySem.W.isFn K^.ref f=t_) (e:mA name=s_) (h:Q (.ref f,[.ref x]) s):
  wpAny (model prog w) A (getMethod (.ref x) name pl) Q E s:=by
 let#[d,J,g]:=I.look;exact PySem.W.method_fn X J (PySem.W.plainGet_of a).1 (PySem.W.plainGet_of a).2 b (beq_iff_eq.mp c) (by show(PySem.W.lookIn _ d).map _=P3 _;grind) h
theorem XQ(X:K.In s.heap)(I:ObjM s.heap x dx C mA)
  (m:PySem.W.findIn K (.ref C) "__setattr__"=P3^P3^.builtin "object.__setattr__") (n:PySem.W.plainOver K C=t_) (o:PySem.W.takerIn K C name=P3 s_) (p:PySem.W.hasDictIn K C=t_)
  (q:PySem.Within mA l) (t:l.length<=sizeLine)
  (h:∀e,ObjM e x dx C (λy=>if y=name then P3 v else mA y)->mC dx s.heap e->Q () {s with heap:=e,toks:=s.toks+2}):
  wpAny (model prog w) A (setAttr (.ref x) name v) Q E s:=by
 let#[F,J,G]:=I.look;refine PySem.W.set_plain X J m^PySem.W.osa_open (s:={s with toks:=s.toks+1}) (r:=s_) X J n o λb=>?_;let#[H,u,g]:=PySem.W.any_some p;have z:=I.obj;refine Cn^On^Cn^Cn^qB z^Cn^PySem.W.Looks.here (s:={s with toks:=s.toks+1}) (PySem.W.looks_clsIn X u) ?_;rw[g];refine On (a:=P3 dx)^Cn^On^Cn ?_;refine wpAny_nsSet1 (s:={s with toks:=s.toks+1}) I.ns λe c d=>?_;let#[L,B,D,i,j,k]:=c.count^PySem.Within.cons name v q;refine Cn^qm i (by rw[j];exact qo^jr k^by grind) ?_;exact On^h _ #[(d.2 _^kM I.ne).trans I.obj,c,I.ne] d
def Vh(X:K.In s.heap)(c:PySem.W.makesIn K C=t_)
  (hi:PySem.W.findIn K (.ref C) "__init__"=P3^P3^.ref f) (d:PySem.W.typeIn K^.ref f=P3^.type "function")
  (h:codeAny (model prog w) (A.under^.builtin "type.__call__" #[.ref C::a,b]) (.call (.ref f) #[.ref (s.heap.objs.size+1)::a,b]) (PySem.W.InitBack (s.heap.objs.size+1) R)
   {s with heap:=(s.heap.push PySem.W.emptyDict).push^PySem.W.instObj C s.heap.objs.size}):
  codeAny (model prog w) A (.call (.ref C) #[a,b]) R s:=PySem.W.make_core (PySem.W.makes_of X c) (PySem.W.looks_findIn X hi) (λself=>PySem.W.bind_fn X _ d) (.inl rfl) h
end
def Cz(f:Str)(v:V):v_ (Str×V)->v_ (Str×V)
 |[]=>[(f,v)]
 |(g,x)::r=>if g=f then(g,v)::r else(g,x)::Cz f v r
theorem Eh(f g:Str)(v:V):∀c:v_ (Str×V),(Cz f v c).lookup g=if g=f then P3 v else c.lookup g
 |[]=>by
  show lj g [(f,v)]=_
  by_cases h:g=f
  .simp_all
  simp_all
 | (k,x)::r=>by
  have d:=Eh f g v r;rw[show Cz f v ((k,x)::r)=(if k=f then(k,v)::r else(k,x)::Cz f v r)from rfl]
  by_cases a:k=f
  .rw[if_pos a]
   by_cases h:g=k
   .simp_all
   .have b:(g==k)=u_:=beq_eq_false_iff_ne.mpr h
    simp only[lj,b,if_neg λe:g=f=>h^e.trans a.symm]
  .rw[if_neg a]
   by_cases h:g=k
   .simp_all
   .have b:(g==k)=u_:=beq_eq_false_iff_ne.mpr h
    simp only[lj,b];exact d
theorem Dq(f:Str)(v:V):∀a:v_ (Str×V),f∈(Cz f v a).map (·.1)/\∀g,g∈a.map (·.1)->g∈(Cz f v a).map (·.1)
 |[]=>#[by simp[Cz],λg h=>by simp at h]
 |(k,x)::r=>by
  let#[b,c]:=Dq f v r;rw[show Cz f v _=(if k=f then(k,v)::r else(k,x)::Cz f v r)from rfl]
  grind
theorem El(f:Str)(v:V):∀a:v_ (Str×V),(Cz f v a).length<=a.length+1
 |[]=>by simp[Cz]
 |(k,x)::r=>by
  have b:=El f v r;rw[show Cz f v _=(if k=f then(k,v)::r else(k,x)::Cz f v r)from rfl]
  grind
def vH.some_of(r:vH (P3 v) o):∃u,o=P3 u/\RelV v u:=by
 cases o with
 |none=>exact(r).elim
 |some u=>exact#[u,rfl,r]
def vH.none_of(r:vH s_ o):o=s_:=by
 cases o with
 |none=>rfl
 |some u=>exact(r).elim
def La(r:RelV v u):PySem.W.handedIn u=t_:=by
 cases v with
 |non=>cases(r);rfl
 |bl b=>cases(r);rfl
 |int i=>let#[t,e]:=(r);cases e;rfl
 |str x=>let#[t,e]:=(r);cases e;rfl
 |byt b=>let#[t,e]:=(r);cases e;rfl
 |flt b=>let#[t,e]:=(r);cases e;rfl
 |ref a=>cases(r);rfl
 |ty n=>cases(r);rfl
section

def IL(hok:HOk P w H h)(e:H a=P3^.vol^.ins C dx fs):∃b,ObjM h a dx C b/\(∀f,vH (fs.lookup f)^b f)/\PySem.Within b (fs.map (·.1))/\fs.length<=1000/\H dx=P3^.own a:=by
 let#[d,z,c,ob,b,n,r,q]:=(hok a _ e);exact#[b,#[ob,n,c],r,q,z,d]
end
structure Cls (K:Frag) (C:Ch):Prop where
 pg:PySem.W.plainGet K C mo=t_
 hd:PySem.W.hasDictIn K C=t_
 po:PySem.W.plainOver K C=t_
 sa:PySem.W.findIn K (.ref C) "__setattr__"=P3^P3^.builtin "object.__setattr__"
def Cls.get{K:Frag}(c:Cls K C)(f:Str):PySem.W.plainGet K C f=t_:=c.pg
def vz(K:Frag)(C:Ch)(f:Str):Prop:=PySem.W.findIn K (.ref C) f=P3 s_
def vz.taker{K:Frag}(n:vz K C f):PySem.W.takerIn K C f=P3 s_:=by
 unfold PySem.W.takerIn;rw[n];rfl
structure jh (K:Frag) (C:Ch) (f:Str) (v:V) (u:Db):Prop where
 at_:PySem.W.findIn K (.ref C) f=P3 (P3 u)
 rel:RelV v u
 get:PySem.W.specialIn K u "__get__"=P3 s_
 cp:PySem.W.copiedNames.contains f=u_
structure Yu (K:Frag) (C:Ch) (m:Str) (f:Ch):Prop where
 at_:PySem.W.findIn K (.ref C) m=P3 (P3^.ref f)
 fn:PySem.W.isFn K^.ref f=t_
 kp:keepIn K^.ref f=t_
section

theorem P6(I:Inv X zF σ H s)(e:H a=P3^.vol^.ins C dx fs)(c:Cls X.K C)(n:vz X.K C f)(l:fs.lookup f=P3 v)
  (h:∀u d,Inv X zF σ H d->RelV v u->Q u d):wpAny (model X.prog X.w) A (getAttr (.ref a) f b) Q E s:=by
 let#[i,O,r,_,_,_]:=IL I.hok e;let#[u,j,g]:=vH.some_of (v:=v) (o:=i f) (by grind);exact X9 I.kIn O (c.get f) c.hd n j (La g)^h u _ (I.tok _) g
theorem Jf(I:Inv X zF σ H s)(e:H a=P3^.vol^.ins C dx fs)(c:Cls X.K C)(k:Yu X.K C m g)(l:fs.lookup m=s_)
  (h:Q (.ref g,[.ref a]) s):wpAny (model X.prog X.w) A (getMethod (.ref a) m pl) Q E s:=by
 let#[b,O,r,_,_,_]:=IL I.hok e;exact V2 I.kIn O (c.get m) k.at_ k.fn (vH.none_of^by grind) h
theorem PL(I:Inv X zF σ H s)(e:H a=P3^.vol^.ins C dx fs)(c:Cls X.K C)(n:vz X.K C f)(L:fs.length<1000)(m:RelV y u)
  (h:∀i,Inv X zF σ (AX H a^.vol^.ins C dx^Cz f y fs) i->Q () i):wpAny (model X.prog X.w) A (setAttr (.ref a) f u) Q E s:=by
 let#[j,O,r,k,_,l]:=IL I.hok e;have p:(fs.map (·.1)).length<=sizeLine:=by rw[Ev,kJ];lk
 refine XQ I.kIn O c.sa c.po n.taker c.hd k p λt d B=>h _ ?_;have D:∃o,t.get? dx=P3 o:=let #[o,_,_,F,_]:=d.ns;#[o,F]
 refine I.write (x:=a) (e:=dx) (by rw[e];exact lW) (.inr l) (λb q G z=>(B.2 b G).trans z) D ?_;refine#[by rw[AG O.ne];exact l,?_,O.ne,d.obj,_,d.ns,λg=>?_,λg J=>?_]
 .have:=El f y fs;lk
 .show vH ((Cz f y fs).lookup g) (if g=f then P3 u else j g)
  rw[Eh]
  by_cases q:g=f
  .rw[if_pos q,if_pos q];exact m
  .rw[if_neg q,if_neg q];exact r g
 .by_cases q:g=f
  .rw[q];exact(Dq f y fs).1
  .refine(Dq f y fs).2 g^k g λz=>J ?_
   show(if g=f then P3 u else j g)=s_;rw[if_neg q];exact z
def Inv.made(I:Inv X zF σ H s):Inv X zF σ (AX (AX H s.heap.objs.size^.own (s.heap.objs.size+1)) (s.heap.objs.size+1)^.vol^.ins C s.heap.objs.size [])
  {s with heap:=(s.heap.push PySem.W.emptyDict).push^PySem.W.instObj C s.heap.objs.size}:=by
 have c:(s.heap.push PySem.W.emptyDict).get? s.heap.objs.size=P3 PySem.W.emptyDict:=TW s.heap rfl
 have g:((s.heap.push PySem.W.emptyDict).push^PySem.W.instObj C s.heap.objs.size).get? (s.heap.objs.size+1)=P3^PySem.W.instObj C s.heap.objs.size:=by
  have:=TW (s.heap.push PySem.W.emptyDict) (o:=PySem.W.instObj C s.heap.objs.size) rfl
  rwa[kh]at this
 have h:(s.heap.push PySem.W.emptyDict).Ns s.heap.objs.size (λ_=>s_):=#[PySem.W.emptyDict,#[],_,c,rfl,(λe i=>absurd i^by simp),λ_=>rfl];have j:=I.laid (a:=s.heap.objs.size) (o:=.own (s.heap.objs.size+1)) (h':=s.heap.push PySem.W.emptyDict) (t':=s.toks) (λb u q=>FM _ q) (Sc _) #[_,c];refine j.laid (a:=s.heap.objs.size+1) (o:=.vol^.ins C s.heap.objs.size []) (t':=s.toks) (λb u q=>FM _ q) (pc^kh _ _) ?_;have d:s.heap.objs.size≠s.heap.objs.size+1:=jo^me _;refine#[by rw[AG d,AI],jp _,d,g,λ_=>s_,(r9 h).at λo q=>FM _ q,λ_=>lW,λy k=>absurd rfl k]
def Rg(g:attributeBase e f c^eval e c=eval e c)
  (h:wpAny (model b w) A (eval e c) (λo d=>wpAny (model b w) A (getAttr o f t_) Q E d) E s):wpAny (model b w) A (eval (.Attribute e f pos) c) Q E s:=
 Attribute_any_ h (by rw[arm_eval_Attribute,g])
end
def iF(K:Frag)(c:TE)(f:Str):TE:=λd H Q=>c d H λx H1=>∃a C e b v,x=.ref a/\H1 a=P3^.vol^.ins C e b/\Cls K C/\vz K C f/\b.lookup f=P3 v/\Q v H1
def iJ(K:Frag)(e g:TE)(f:Str):TS:=λD b H=>g b H λy H1=>e b H1 λx H2=>∃a C d c,x=.ref a/\H2 a=P3^.vol^.ins C d c/\Cls K C/\vz K C f/\c.length<1000 /\
 D.nx b (AX H2 a^.vol^.ins C d^Cz f y c)
section

def bH(b:PE X e ta)(d:attributeBase e f X.env^eval e X.env=eval e X.env):PE X (.Attribute e f pos)^iF X.K ta f:=by
 intro r s g H Q I h;refine Rg d^Ao (b _ s g H _ I h) λu t zz=>?_;let#[x,H1,i,j,a,C,w,y,v,ex,k,c,n,l,q]:=zz;subst ex;obtain rfl:u=Uf a:=j;exact P6 i k c n l λz A m p=>#[v,H1,m,p,q]
def a_(d:PE X o ta)(e:PE X value tv)(g:swapsWith value (P3^.Attribute o f pos') pos.line X.env=pure u_):PS X (.Assign [.Attribute o f pos'] value pos)^iJ X.K ta tv f:=by
 intro z s b H D I h;refine nQ (Ao (e _ s b H _ I h) λu i zz=>?_) g;let#[y,H1,j,k,q]:=zz;refine Ao (d _ i b H1 _ j q) λm A zz=>?_;let#[x,H2,p,r,a,C,B,E,ex,t,c,n,l,v]:=zz;subst ex;obtain rfl:m=Uf a:=r;exact PL p t c n l k λF w=>#[b,_,w,v]
end
section

inductive Ft (K:Frag) (H:Hp):V->Db->Prop where
 |non:Ft K H .non^.type "NoneType"
 |bl (x:Bool):Ft K H (.bl x)^.type "bool"
 |int (i:Int):Ft K H (.int i)^.type "int"
 |str (x:Str):Ft K H (.str x)^.type "str"
 |flt (x:UInt64):Ft K H (.flt x)^.type "float"
 |lst {a:Ch}{xs:List V} (e:H a=P3^.lst xs):Ft K H (.ref a)^.type "list"
 |frz {a:Ch}{o:Obj}{xs:List V} (e:H a=P3^.frz o^.lst xs):Ft K H (.ref a)^.type "list"
 |tup {a:Ch}{xs:List V} (e:H a=P3^.tup xs):Ft K H (.ref a)^.type "tuple"
 |dF {a:Ch}{o:Obj}{kvs:List (Key×V)} (e:H a=P3^.frz o^.dK kvs):Ft K H (.ref a)^.type "dict"
 |dK {a:Ch}{kvs:List (Key×V)} (e:H a=P3^.dK kvs):Ft K H (.ref a)^.type "dict"
 |dT {a:Ch}{kvs:List (List Key×V)} (e:H a=P3^.dT kvs):Ft K H (.ref a)^.type "dict"
 | ins {a C dx:Ch}{fs:List (Str×V)} (e:H a=P3^.vol^.ins C dx fs) (cl:Cls K C) (ha:PySem.W.findIn K (.ref C) "__class__"=P3^P3^.builtin "object.__class__")
   (hn:PySem.W.specialIn K (.builtin "object.__class__") "__get__"=P3^P3^.builtin "getset_descriptor.__get__") (htk:PySem.W.takesIn K^.builtin "object.__class__"=P3 t_)
   (hm:PySem.W.mroIn K C^.type "object"=P3 t_):Ft K H (.ref a)^.ref C
def S4(I:Inv X zF σ H s)(f:RelV x u)(ty:Ft X.K H x t)(e:PySem.W.kitOne X.K t c=P3 b)(h:∀D,Q (.bool b) {s with toks:=D}):
  wpAny (model X.prog X.w) A (call (.builtin "isinstance") [u,c]) Q E s:=by
 cases ty with
 |non=>cases(show u=kE from f);exact PySem.W.kia_one PySem.W.kitx_none I.kIn lW e (λz=>nomatch z) h
 |bl y=>cases(show u=nY y from f);exact PySem.W.kia_one PySem.W.kitx_bool I.kIn lW e (λz=>nomatch z) h
 |int i=>let#[t,q]:=(show ∃t,u=Value.int i t from f);cases q;exact PySem.W.kia_one PySem.W.kitx_int I.kIn lW e (λz=>nomatch z) h
 |str y=>let#[t,q]:=(show ∃t,u=nF y t from f);cases q;exact PySem.W.kia_one PySem.W.kitx_str I.kIn lW e (λz=>nomatch z) h
 |flt y=>let#[t,q]:=(show ∃t,u=Value.float y t from f);cases q;exact PySem.W.kia_one PySem.W.kitx_float I.kIn lW e (λz=>nomatch z) h
 |@lst a l d=>
  cases(show u=Uf a from f);let#[_,_,n,_,g]:=(show zh X.prog X.w H s.heap a^.lst l from I.hok a _ d);exact PySem.W.kia_one PySem.W.kitx_list I.kIn #[_,g,rfl] e (λz=>nomatch z) h
 |@frz a ob l d=>
  cases(show u=Uf a from f);let#[_,_,_,n,_,g]:=(show zh X.prog X.w H s.heap a^.frz ob^.lst l from I.hok a _ d);exact PySem.W.kia_one PySem.W.kitx_list I.kIn #[_,g,rfl] e (λz=>nomatch z) h
 |@tup a l d=>
  cases(show u=Uf a from f);let#[_,_,_,p]:=(show zh X.prog X.w H s.heap a^.tup l from I.hok a _ d);let#[o,g,k,_]:=p;exact PySem.W.kia_one PySem.W.kitx_tuple I.kIn #[o,g,k] e (λz=>nomatch z) h
 |@dF a ob j d=>
  cases(show u=Uf a from f);let#[_,_,_,F,_,p]:=(show zh X.prog X.w H s.heap a^.frz ob^.dK j from I.hok a _ d);let#[o,r,v,g,k,_]:=p;exact PySem.W.kia_one PySem.W.kitx_dict I.kIn #[o,g,k.1] e (λz=>nomatch z) h
 |@dK a j d=>
  cases(show u=Uf a from f);let#[_,_,F,_,p]:=(show zh X.prog X.w H s.heap a^.dK j from I.hok a _ d);let#[o,r,v,g,k,_]:=p;exact PySem.W.kia_one PySem.W.kitx_dict I.kIn #[o,g,k.1] e (λz=>nomatch z) h
 |@dT a j d=>
  cases(show u=Uf a from f);let#[_,_,l,_,o,r,v,g,k,_]:=(show zh X.prog X.w H s.heap a^.dT j from I.hok a _ d);exact PySem.W.kia_one PySem.W.kitx_dict I.kIn #[o,g,k.1] e (λz=>nomatch z) h
 |@ins a C N P d B G L m M=>
  cases(show u=Uf a from f);let#[R,O,_]:=IL I.hok d;let#[S,J,_]:=O.look;exact PySem.W.kia_one (PySem.W.kitx_own (B.get _) B.hd G L m M) I.kIn J e (λz=>nomatch z) h
end
structure zy (k:Nat) (A:kA):Prop where
 hd:A.handled=s_
 dp:A.depth+3*k+5<recursionLimit
 un:A.units+16*k+200<cLine
 gd:A.guards=P3 []
theorem zy.mono(r:zy k A)(h:j<=k):zy j A:=#[r.hd,by have:=r.dp;lk,by have:=r.un;lk,by first|exact r.gd|grind|grind]
theorem zy.deeper(r:zy (k+1) A)(a:Env):zy k^A.deeper a:=
 #[r.hd,by have:=r.dp;show A.depth+1+3*k+5<_;lk,by have:=r.un;show A.units+3+16*k+200<_;lk,by first|exact r.gd|omega|grind]
theorem zy.in1(r:zy (k+1) A):zy k A.in1:=
 #[r.hd,by have:=r.dp;grind,by have:=r.un;grind,by first|exact r.gd|omega|grind]
def Px{A:kA}:(A.under^.builtin "type.__call__" #[.ref C::a,b]).depth=A.depth+1:=by
 first|rfl|omega
def Pw{A:kA}:(A.under^.builtin "type.__call__" #[.ref C::a,b]).units=A.units+1:=by
 first|rfl|omega
theorem zy.make(r:zy (k+1) A)(C:Ch)(a:v_ Db)(b:v_ (Str×Db)):zy k^A.under^.builtin "type.__call__" #[.ref C::a,b]:=
 #[r.hd,by have:=r.dp;rw[Px];lk,by have:=r.un;rw[Pw];lk,by first|exact r.gd|omega|grind]
theorem zy.depth(r:zy k A):A.depth<recursionLimit:=by have:=r.dp;lk
theorem zy.units(r:zy k A):A.units+64<cLine:=by have:=r.un;lk
theorem zy.yh(r:zy k A):A.units<cLine:=by have:=r.un;lk
def R_:TA:=λ_ H Q=>Q [] H
def Qe(b:TE)(c:TA):TA:=λa H Q=>b a H λx H1=>c a H1 λd H2=>Q (x::d) H2
section

def B6:PA X [] R_:=λ_ _ _ _ H Q I h=>m9 #[[],H,I,.nil,h]
def Ax(b:PE X e te)(c:PA X es t)(d:X.sE e es:=by rfl):PA X (e::es)^Qe te t:=by
 intro f o s a H Q I h;rw[d];refine mM^Ao (b _ s a H _ I h) λu g zz=>?_;let#[x,H1,i,j,k]:=zz;refine Ao (c _ _ g a H1 _ i k) λp q zz=>?_;let#[r,H2,l,m,n]:=zz;exact #[_,H2,l,.cons j m,n]
def h7(t:TA):TE:=λb H Q=>t b H λa H1=>a.length<=sizeLine/\∀p,H1 p=s_->Q (.ref p)^AX H1 p^.tup a
def iA(t:TA):TE:=λb H Q=>t b H λa H1=>a.length<=sizeLine/\∀p,H1 p=s_->Q (.ref p)^AX H1 p^.lst a
def VC{x1}(h:PA X es t):PE X (.Tuple es x1 pos)^h7 t:=by
 intro d s f H Q I g;refine wpAny_Tuple_spliced^Ao (h pos d s f H _ I g) λi a zz=>?_;let#[j,H1,c,r,z,q]:=zz;refine #[by rw[←r.length];exact z,?_];have k:H1 a.heap.objs.size=s_:=c.hok.fresh^Sc _;refine#[.ref a.heap.objs.size,AX H1 a.heap.objs.size^.tup j,c.laid (t':=a.toks) (λb u e=>FM _ e) (Sc _) ?_,rfl,q _ k];exact#[z,i,r,vw.new _ _]
def Ph(h:PA X es t):PE X (.List es pos)^iA t:=by
 intro d s f H Q I g;refine wpAny_List_spliced^Ao (h pos d s f H _ I g) λi a zz=>?_;let#[j,H1,c,r,z,q]:=zz;refine #[by rw[←r.length];exact z,?_];have k:H1 a.heap.objs.size=s_:=c.hok.fresh^Sc _;refine#[.ref a.heap.objs.size,AX H1 a.heap.objs.size^.lst j,c.laid (t':=a.toks) (λb u e=>FM _ e) (Sc _) ?_,rfl,q _ k];exact#[z,i,0,r,TW _ rfl]
end
abbrev Sp:=v_ V->Hp->VK->XK->Prop
abbrev Ts:=v_ Env->Hp->Go->XK->Db->Go->Prop
structure yk (P:ju) (w:j4) (K:Frag) (mg:Str->Option Db) (base:jq) (A:kA) (outer:List Env) (s:Go) (H:Hp):Prop where
 frames:A.frames=P3 outer
 mod:Mod K mg base
 bs:∀b o,base.get? b=P3 o->s.heap.get? b=P3 o/\H b=s_
 bsz:base.objs.size<=s.heap.objs.size
 YP:s.heap.FunFrames base outer
 frf:∀b∈Lb outer,H b=s_
 hok:HOk P w H s.heap
 bare:oB s.gens
def CE(a:v_ Env)(P:ju)(w:j4)(H:Hp)(s:Go)(Q:VK)(u:Db)(b:Go):Prop:=
 ∃v c,b.os=s.os/\oB b.gens/\Un (Lb a) [] H c s.heap b.heap/\HOk P w c b.heap/\RelV v u/\Q v c
def CR(c:Ts)(a:v_ Env)(P:ju)(w:j4)(H:Hp)(s:Go)(Q:VK)(E:XK)(r:Result)(b:Go):Prop:=
 match r with
 |.ok (.ret u)=>CE a P w H s Q u b
 |.ok _=>False
 |.error e=>c a H s E e b
structure zL (P:ju) (w:j4) (K:Frag) (mg:Str->Option Db) (base:jq) (CX:Ts) (k:Nat) (f:Ch) (fd:kX) (ps:List Str) (sp:Sp):Prop where
 len:∀vs H Q E,sp vs H Q E->vs.length=ps.length
 run:∀(A:kA) (outer:List Env) (s:Go) (H:Hp) (args:Args) (us:List Db) (vs:List V) (Q:VK) (E:XK),zy k A->yk P w K mg base A outer s H->qk s fd args^ps.zip us->zv vs us->sp vs H Q E->
  codeAny (model P w) A (.call (.ref f) args) (CR CX outer P w H s Q E) s
def yk.make{K:Frag}(e:yk P w K c b A a s H)(C:Ch)(d:v_ Db)(f:v_ (Str×Db)):
  yk P w K c b (A.under^.builtin "type.__call__" #[.ref C::d,f]) a s H:=#[by first|exact e.frames|grind,e.mod,e.bs,e.bsz,e.YP,e.frf,e.hok,e.bare]
def yk.in1{K:Frag}(e:yk P w K c b A a s H):
  yk P w K c b A.in1 a s H:=#[e.frames,e.mod,e.bs,e.bsz,e.YP,e.frf,e.hok,e.bare]
section

def Inv.env0(I:Inv X zF σ H s):yk X.prog X.w X.K X.mg X.base X.A X.stack s H:=
 #[I.ok.frames,I.ok.mod,I.bs,jr I.ok.bsz I.sz,I.stack,I.yK,I.hok,I.bare]
def Inv.after(I:Inv X zF σ H s)(h:CE X.stack X.prog X.w H s Q u s'):EP X zF σ Q u s':=by
 let#[v,f,i,a,j,c,r,q]:=h;let#[k,g,d,t,e]:=s';obtain rfl:e=s.os:=i;exact#[v,f,I.call j c a λb z=>absurd z^by simp,r,q]
end
def Qf(sp:Sp)(a:v_ V)(E:XK)(t:TA):TE:=λb H Q=>t b H λc H1=>sp (c++a) H1 Q E
def Y8(C:Ch)(m:Str)(sp:Sp)(b:v_ V)(E:XK)(e:TE)(t:TA):TE:=λc H Q=>e c H λx H1=>∃a f d,x=.ref a/\H1 a=P3^.vol^.ins C f d/\d.lookup m=s_ /\
 t c H1 λg H2=>sp (x::(g++b)) H2 Q E
def dk(C:Ch)(sp:Sp)(b:v_ V)(E:XK)(t:TA):TE:=λc H Q=>t c H λd H1=>∀x a,H1 x=s_->H1 a=s_->a≠x->
 sp (.ref x::(d++b)) (AX (AX H1 a^.own x) x^.vol^.ins C a []) (λv H2=>v=.non/\Q (.ref x) H2) E
def Binds(K:Frag)(fd:kX)(b:v_ Str)(c:v_ Db):Prop:=
 ∀(s:Go) (a:v_ Db),K.In s.heap->(a++c).length=b.length->qk s fd #[a,[]]^b.zip (a++c)
def Binds.all{K:Frag}(h:∀a:v_ Db,a.length=b.length->bindArgs fd #[a,[]]=pure^b.zip a):Binds K fd b []:=λs a _ c=>by
 rw[j5]at c ⊢;exact .of_eq^h a c
def Cq(b:Ts)(X:Cx)(E:XK):Prop:=∀(c:v_ (Ch×Obj)) (d:St) (H:Hp) (s:Go) (e:Db) (a:Go),Inv X c d H s->b X.stack H s E e a->X.xe e a
section

def MC(F:zL X.prog X.w X.K X.mg X.base CX k f fd ps sp)(i:zy k X.A)(j:Binds X.K fd ps ds)(hd:zv dvs ds)(l:Cq CX X E)
  (I:Inv X c d H s) (r:zv vs a) (h:sp (vs++dvs) H Q E):wpAny (model X.prog X.w) X.A (call (.ref f) a) (EP X c d Q) X.xe s:=by
 have g:zv (vs++dvs) (a++ds):=r.append hd;have n:(a++ds).length=ps.length:=by rw[←g.length];exact F.len _ _ _ _ h
 refine mj^mR (F.run X.A X.stack s H #[a,[]] (a++ds) (vs++dvs) Q E i I.env0 (j s a I.kIn n) g h) λr q b=>?_;cases r with
 |error e=>exact l c d H s e q I b
 |ok t=>
  cases t with
  |ret u=>exact I.after b
  |next=>exact kd b
  |brk=>exact kd b
  |cont=>exact kd b
def II(F:zL X.prog X.w X.K X.mg X.base CX k f fd ps sp)(d:zy k X.A)(g:Gl X x)(i:X.mg x=P3^.ref f)(j:keepIn X.K^.ref f=t_)(l:Binds X.K fd ps ds)(hd:zv dvs ds)(n:Cq CX X E)
  (u:PA X (e::es) t) (a:dbN x:=by decide) (v:X.sE e es:=by rfl) (b:(backTo pos^starEach es X.env).any (·.1)=u_:=by rfl):
  PE X (.Call (.Name x p) (e::es) [] pos) (Qf sp dvs E t):=λz s y H Q I h=>kz^C2 I g i (PySem.W.callWith_K I.ok.mod.kin j (Ao (u _ _ s y H _ I h) λB D #[G,H1,c,r,q]=>#[c.kIn,MC F d l hd n c r q]) v b) a
def VL(F:zL X.prog X.w X.K X.mg X.base CX k f fd ps sp)(b:zy k X.A)(c:Gl X x)(d:X.mg x=P3^.ref f)(e:keepIn X.K^.ref f=t_)(g:Binds X.K fd ps ds)(hd:zv dvs ds)(i:Cq CX X E)
  (a:dbN x:=by decide):PE X (.Call (.Name x p) [] [] pos)^Qf sp dvs E R_:=λj s l H Q I h=>kz^C2 I c d (PySem.W.callWith_K0 I.kIn e^MC F b g hd i I .nil h) a
def Qy(v:PE X o ta)(c:Cls X.K C)(g:Yu X.K C m f)(F:zL X.prog X.w X.K X.mg X.base CX k f fd ps sp)(y:zy k X.A)(z:Binds X.K fd ps ds)(hd:zv dvs ds)(B:Cq CX X E)(D:PA X (e::es) t)
  (b:X.sE e es:=by rfl) (d:(backTo pos^starEach es X.env).any (·.1)=u_:=by rfl)
  (G:eval (.Call (.Attribute o m apos) (e::es) [] pos) X.env=(do
   let ov ←eval o X.env
   standAt apos.atName
   let (f,first) ←holding [ov] (getMethod ov m pl)
   callWith pos f first (backTo pos^starEach (e::es) X.env) (backToKw pos^keywordEach [] X.env)):=by rfl):
  PE X (.Call (.Attribute o m apos) (e::es) [] pos) (Y8 C m sp dvs E ta t):=by
 intro O s i H Q I h;refine PySem.W.methodCall_KW (Ao (v _ s i H _ I h) λu J zz=>?_) G;let#[x,H1,j,L,a,P,R,ex,M,l,q]:=zz;subst ex;obtain rfl:u=Uf a:=L;refine Jf j M c g l^PySem.W.callWith_K I.ok.mod.kin g.kp (Ao (D _ _ J i H1 _ j q) λS T zz=>?_) b d;let#[vs,H2,n,r,N]:=zz;exact #[n.kIn,MC (vs:=.ref a::vs) F y z hd B n (.cons rfl r) N]
def VF(e:PE X o ta)(c:Cls X.K C)(d:Yu X.K C m f)(F:zL X.prog X.w X.K X.mg X.base CX k f fd ps sp)(g:zy k X.A)(i:Binds X.K fd ps ds)(hd:zv dvs ds)(j:Cq CX X E)
  (n:eval (.Call (.Attribute o m apos) [] [] pos) X.env=(do
   let ov ←eval o X.env
   standAt apos.atName
   let (f,first) ←holding [ov] (getMethod ov m pl)
   callWith pos f first (backTo pos^starEach [] X.env) (backToKw pos^keywordEach [] X.env)):=by rfl):
  PE X (.Call (.Attribute o m apos) [] [] pos) (Y8 C m sp dvs E ta R_):=by
 intro y s r H Q I h;refine PySem.W.methodCall_KW (Ao (e _ s r H _ I h) λu z zz=>?_) n;let#[x,H1,b,t,a,B,D,ex,v,l,q]:=zz;subst ex;obtain rfl:u=Uf a:=t;exact Jf b v c d l^PySem.W.callWith_K0 b.kIn d.kp^MC (vs:=[.ref a]) F g i hd j b (.cons rfl .nil) q
structure Mk (K:Frag) (C f:Ch):Prop where
 makes:PySem.W.makesIn K C=t_
 init:PySem.W.findIn K (.ref C) "__init__"=P3 (P3^.ref f)
 fn:PySem.W.isFn K^.ref f=t_
 kp:keepIn K^.ref C=t_
def UW(M:Mk X.K C f)(F:zL X.prog X.w X.K X.mg X.base CX k f fd ps sp)(q:zy (k+1) X.A)(t:Binds X.K fd ps ds)(hd:zv dvs ds)
  (y:Cq CX X E) (I:Inv X g i H s) (r:zv j b)
  (h:∀x c,H x=s_->H c=s_->c≠x->sp (.ref x::(j++dvs)) (AX (AX H c^.own x) x^.vol^.ins C c []) (λv H2=>v=.non/\Q (.ref x) H2) E):
  wpAny (model X.prog X.w) X.A (call (.ref C) b) (EP X g i Q) X.xe s:=by
 have l:=h (s.heap.objs.size+1) s.heap.objs.size (I.hok.fresh^kL _) (I.hok.fresh^Sc _)^jo^me _;have d:=Inv.made (C:=C) I;have n:zv (V.ref (s.heap.objs.size+1)::(j++dvs)) (Uf (s.heap.objs.size+1)::(b++ds)):=.cons rfl (r.append hd)
 have z:(Uf (s.heap.objs.size+1)::b++ds).length=ps.length:=by
  have e:=n.length;rw[F.len _ _ _ _ l]at e;exact e.symm
 refine mj (Vh (f:=f) I.kIn M.makes M.init (beq_iff_eq.mp M.fn) (mR (F.run _ X.stack _ _ #[Uf (s.heap.objs.size+1)::b,[]] (Uf (s.heap.objs.size+1)::(b++ds)) _ _ E (q.make C b [])
  (d.env0.make C b []) (t _ (Uf (s.heap.objs.size+1)::b) d.kIn z) n l) λr B a=>?_))
 cases r with
 |error e=>exact y g i _ _ e B d a
 | ok D=>
  cases D with
  |ret u=>
   let#[v,G,J,L,N,O]:=d.after a;subst N;exact#[L,#[V.ref (s.heap.objs.size+1),G,J,rfl,O]]
  |next=>exact kd a
  |brk=>exact kd a
  |cont=>exact kd a
def Xh(M:Mk X.K C f)(F:zL X.prog X.w X.K X.mg X.base CX k f fd ps sp)(d:zy (k+1) X.A)(g:Gl X x)(i:X.mg x=P3^.ref C)(j:Binds X.K fd ps ds)(hd:zv dvs ds)(l:Cq CX X E)
  (n:PA X (e::es) t) (a:dbN x:=by decide) (u:X.sE e es:=by rfl) (b:(backTo pos^starEach es X.env).any (·.1)=u_:=by rfl):
  PE X (.Call (.Name x p) (e::es) [] pos) (dk C sp dvs E t):=λy s v H Q I h=>kz^C2 I g i (PySem.W.callWith_K I.ok.mod.kin M.kp (Ao (n _ _ s v H _ I h) λz B #[D,H1,c,r,q]=>#[c.kIn,UW M F d j hd l c r q]) u b) a
end
section

structure iz (K:Frag) (fd:kX) (ps ks:List Str) (g:List Db->List Db->List Db) (gV:List V->List V->List V):Prop where
 to:∀(s:Go) (us ws:List Db),K.In s.heap->(g us ws).length=ps.length->qk s fd #[us,ks.zip ws] (ps.zip^g us ws)
 rel:∀{vs:List V}{us:List Db}{zs:List V}{ws:List Db},zv vs us->zv zs ws->zv (gV vs zs)^g us ws
end
structure A8 (N P:List Str) (sc:mP):Prop where
 kind:sc.kind=.function
 co:sc.isCoroutine=u_
 gen:sc.isGenerator=u_
 nd:N.Nodup
 pre:N.take P.length=P
 par:∀x∈P,sc.names.lookup x=P3 .local\/sc.names.lookup x=P3 .cell
 nofree:∀y∈sc.names,y.2≠.free
theorem Lp:∀{binds:v_ (Str×Db)}{m:Str->w_ Db},(∀v,(x,v)∉binds)->bindL a binds m x=m x
 |[],_,_=>rfl
 |(n,v)::r,m,h=>by
  unfold bindL;rw[Lp λw b=>h w^Rs _ b]
  split
  .grind
  .rfl
theorem Lr:∀{binds:v_ (Str×Db)}{m:Str->w_ Db},(∀v,(x,v)∉binds)->bindC a binds m x=m x
 |[],_,_=>rfl
 |(n,v)::r,m,h=>by
  unfold bindC;rw[Lr λw b=>h w^Rs _ b]
  split
  .rfl
  grind
theorem Lq:∀{P:v_ Str}{b:v_ Db}{i:Nat}{m:Str->w_ Db},P.Nodup->P[i]?=P3 x->b[i]?=P3 v->a x=P3 .local->
  bindL a (P.zip b) m x=P3 v
 |[],_,_,_,_,h,_,_=>by simp at h
 |_::_,[],_,_,_,_,h,_=>by simp at h
 |p::P,w::b,0,m,c,d,e,f=>by
  simp at d e;subst d;subst e
  show bindL a ((p,w)::P.zip b) m p=_;unfold bindL;rw[Lp λv g=>(j6.mp c).1 (oY g).1,if_pos f];simp
 |p::P,w::b,i+1,m,c,d,e,f=>by
  unfold bindL;exact Lq (i:=i) (j6.mp c).2 (by simp_all) (by simp_all) f
theorem Ls:∀{P:v_ Str}{b:v_ Db}{i:Nat}{m:Str->w_ Db},P.Nodup->P[i]?=P3 x->b[i]?=P3 v->a x≠P3 .local->
  bindC a (P.zip b) m x=P3 v
 |[],_,_,_,_,h,_,_=>by simp at h
 |_::_,[],_,_,_,_,h,_=>by simp at h
 |p::P,w::b,0,m,c,d,e,f=>by
  simp at d e;subst d;subst e
  show bindC a ((p,w)::P.zip b) m p=_;unfold bindC;rw[Lr λv g=>(j6.mp c).1 (oY g).1,if_neg f];simp
 |p::P,w::b,i+1,m,c,d,e,f=>by
  unfold bindC;exact Ls (i:=i) (j6.mp c).2 (by simp_all) (by simp_all) f
def start(N:v_ Str)(a:v_ V):St:=a.map P3++jk (N.length - a.length) s_
def C5(i:Ts)(P:ju)(w:j4)(K:Frag)(mg:Str->w_ Db)(base:jq)(N:v_ Str)(c:Str)(a:mP)(f:Ch)(h:Db)(A:kA)(outer:v_ Env)(s:Go)(H:Hp)(E:XK):Cx where
 prog:=P
 w:=w
 K:=K
 mg:=mg
 base:=base
 A:=A.deeper (envOfC c a s.heap.objs.size f h)
 N:=N
 s₀:=s
 H₀:=H
 env:=envOfC c a s.heap.objs.size f h
 outer:=outer
 stack:=envOfC c a s.heap.objs.size f h::outer
 ex:=[]
 calm:=t_
 fn:=λ_=>t_
 pn:=[]
 xe:=λe k=>wpAny (model P w) (A.deeper^envOfC c a s.heap.objs.size f h) (leaving (envOfC c a s.heap.objs.size f h) e) (λ_ g=>i outer H s E e g) (λl g=>i outer H s E l g) k
def OZ{a:mP}(h:a.names.lookup x=P3 .cell):∃c,(cellsFrom n a.names []).lookup x=P3 c:=by
 have q:=PySem.W.cellsFrom_some a.names n []^.inl h;exact Option.isSome_iff_exists.mp q
theorem S6{K:Frag}
  (S:A8 N t d) (hd:A.handled=s_) (o:yk P w K M m A g s H) (Z:B.length=t.length) (r:zv B O)
  (x:InCallC s s.heap.objs.size (bindL (envOfC j d s.heap.objs.size f I).kindOf (t.zip O) λ_=>s_) (cellsFrom (s.heap.objs.size+1) d.names []) (bindC (envOfC j d s.heap.objs.size f I).kindOf (t.zip O) λ_=>s_) R):
  Inv (C5 Q P w K M m N j d f I A g s H E) [] (start N B) H R:=by
 have W:t.length<=N.length:=by have:=congrArg pE S.pre;rw[pL]at this;lk
 let#[J,tk,rfl,T]:=x.done;have C:∀b:Ch,b∉(C5 Q P w K M m N j d f I A g s H E).ex:=λb z=>absurd (show b∈([]:v_ Ch)from z)^by simp
 exists#[o.mod,S.kind,rfl,rfl,Sc _,λy z c J l=>?_,λy D=>?_,λy c _ h=>?_,λ_=>hd,Around.frames_deeper o.frames,.inr #[rfl,rfl],λb z=>absurd z^C b,o.bs,o.bsz,λb _ _=>C b,λb z=>absurd z^C b,o.YP,o.frf],
  rfl,o.bare,Un.kept T,#[_,x.toInCall.ns,λi y v J l h3=>?_],λy c h=>#[_,x.cell y c h],o.hok.fresh^Sc _,λy c h=>?_,λp F=>absurd (show p∈([]:v_ (Ch×Obj))from F)^by simp,o.hok.kept T
 .exact name_of_addr x.apart (PySem.mem_of_lookup J)^PySem.mem_of_lookup l
 .have D:d.names.lookup y=P3 .cell\/d.names.lookup y=P3 .free:=D
  rcases D with D|D
  .exact OZ D
  .exact absurd rfl (S.nofree _^PySem.mem_of_lookup D)
 .exact pY^x.above y c^PySem.mem_of_lookup h
 .have L:i<B.length:=by
   unfold start at l
   by_cases L:i<B.length
   .exact L
   .rw[mz^by simpa using L]at l
    rw[o5]at l
    split at l <;>cases l
  have X:B[i]?=P3 v:=by
   unfold start at l;rw[nB (by simpa using L),ji]at l;cases e:B[i]? with
   |none=>rw[e]at l;cases l
   |some a=>rw[e]at l;cases l;rfl
  let#[u,U,Y]:=r.get X
  have F:t[i]?=P3 y:=by
   rw[←S.pre,List.getElem?_take_of_lt^by lk];exact J
  have G:t.Nodup:=by rw[←S.pre];exact S.nd.sublist^qX _ _
  exists u,Y
  rcases S.par y^oN F with k|k
  .exact .inl #[k,Lq G F U k]
  .let#[c,e]:=OZ (n:=s.heap.objs.size+1) k
   refine .inr #[.inl k,c,e,?_];have q:=x.cell y c e;rw[Ls G F U^by show d.names.lookup y≠_;rw[k];decide]at q;exact q
 .exact o.hok.fresh^pY^x.above y c^PySem.mem_of_lookup h
 .unfold start
  show _=N.length;rw[eq,Ev,oC];lk
def ZY{K:Frag}{dV kV C pm g ct oc:Db}
   (lk:K.lookup f=P3 #[oc,od,.func^fnOf name d i j a dV kV C pm an g ct,T]) (U:codeIn K g d=t_) (S:A8 N O a)
  (len:∀l H Q E,sp l H Q E->l.length=O.length)
  (p:∀(A:kA) (c:v_ Env) (s:Go) (H:Hp) (l:v_ V) (Q:VK) (E:XK),zy k^A.deeper^envOfC d a s.heap.objs.size f g->sp l H Q E->
   ∃t,PSs (C5 L P w K M h N d a f g A c s H E) j t/\t {nx:=λ_ m=>Q .non m,rt:=Q} (start N l) H):
  zL P w K M h L (k+1) f (fnOf name d i j a dV kV C pm an g ct) O sp:=by
 refine#[len,λA c s H a0 us l Q E X D hb r F=>?_];have hl:=len _ _ _ _ F;have KX:K.In s.heap:=D.mod.kin.keeps λb o e=>(D.bs b o e).1;have Y:s.heap.NoLimit:=D.mod.nolimit.keeps λb o e=>(D.bs b o e).1
 have z:∀y∈O.zip us,a.names.lookup y.1=P3 .local\/(a.names.lookup y.1=P3 .cell/\((cellsFrom (s.heap.objs.size+1) a.names []).lookup y.1).isSome=t_):=fun#[n,v] hy=>by
  rcases S.par n (oY hy).1 with q|q
  .exact .inl q
  .exact .inr #[q,PySem.W.cellsFrom_some _ _ _^.inl q]
 refine codeAny_call_function X.depth (KX _ _ lk) rfl S.co S.gen rfl (PySem.W.codeRec_of KX U) (hb _ _ _ _ ?_);refine wpAny_newFunctionEnv_cells S.kind z λa1 he s1 x=>?_;subst he;refine#[Y.keeps x.toInCall.keep,codeAny_func ?_];let#[t,ht,hq]:=p A c s H l Q E (X.deeper _) F;have I:Inv (C5 L P w K M h N d a f g A c s H E) [] (start N l) H s1:=S6 S X.hd D hl r x;refine kP (ht [] s1 (start N l) H _ I hq) (λfl Z B=>?_) λe Z B=>B
 have G:∀{R:St}{m:Hp}{v:V}{u:Db},Inv (C5 L P w K M h N d a f g A c s H E) [] R m Z->RelV v u->Q v m->CE c P w H s Q u Z:=
  λ{R m v u} J rv q=>#[v,m,J.os,J.bare,J.base,J.hok,rv,q]
 cases fl with
 |ret u=>
  let#[v,R,m,J,rv,q]:=B;exact G J rv q
 |next=>
  let#[R,m,J,q]:=B;exact G (v:=V.non) (u:=kE) J rfl q
 |brk=>
  let#[_,_,_,q]:=B;exact kd q
 |cont=>
  let#[_,_,_,q]:=B;exact kd q
section
variable {id T:String}
def d_(r:v_ V->Hp->VK->Prop)(t:TA):TE:=λa H Q=>t a H λb H1=>r b H1 Q
def Cf(d:zS X (.builtin id) r)(f:Gl X x)(g:X.mg x=s_)(i:bootBuiltins x=P3^.builtin id)(j:PA X (e::es) t)(k:x ≠ "__name__":=by decide)(a:dbN x:=by decide)
  (l:X.sE e es:=by rfl) (b:(backTo pos^starEach es X.env).any (·.1)=u_:=by rfl):PE X (.Call (.Name x p) (e::es) [] pos)^d_ r t:=λw s c H Q I h=>kz^EI I f g i (PyProof.Rows.callWith_builtin1 (Ao (j _ _ s c H _ I h) λm n #[o,H1,q,u,v]=>d _ n c H1 o m Q q u v) l b) k a
def Gv(d:zS X (.type T) r)(f:Gl X x)(g:X.mg x=s_)(i:bootBuiltins x=P3^.type T)(j:PA X (e::es) t)(k:x ≠ "__name__":=by decide)(a:dbN x:=by decide)
  (l:X.sE e es:=by rfl) (b:(backTo pos^starEach es X.env).any (·.1)=u_:=by rfl):PE X (.Call (.Name x p) (e::es) [] pos)^d_ r t:=λw s c H Q I h=>kz^EI I f g i (lO (Ao (j _ _ s c H _ I h) λm n #[o,H1,q,u,v]=>d _ n c H1 o m Q q u v) l b) k a
end
end L2
namespace HT
section

theorem cat_tup(u:IsTup s.heap t d.toArray)(v:IsTup s.heap b c.toArray)(y:d≠[])
  (h1:c=[]->Q (.ref t) s) (z:c≠[]->Q (.ref s.heap.objs.size) {s with heap:=s.heap.push {cls:=.type "tuple",data:=.seq (d++c).toArray}})
  (x:d.length+c.length<=sizeLine):wpAny (model prog w) A (binaryOp .Add (.ref t)^.ref b) Q E s:=by
 let#[#[cls,k,data,l],i,m,n,o]:=id u;let#[#[p,e,j,f],a,g,q,h]:=id v;simp only at m o g h;subst m o g h
 by_cases r:c=[]
 .exact concat_meets #[_,i,rfl] #[_,a,rfl] qp seq_tuple_add PySem.F.slot_tuple_add PySem.F.entry_tuple_add (PySem.F.args_tuple_add_2 _ _)
   (tuple_addW1 t b d.toArray c.toArray n q k e l f (by simp_all)^by simp[r]) #[i,a,h1 r]
 .refine concat_meets #[_,i,rfl] #[_,a,rfl] qp seq_tuple_add PySem.F.slot_tuple_add PySem.F.entry_tuple_add (PySem.F.args_tuple_add_2 _ _)
   (tuple_addW2 t b d.toArray c.toArray n q k e l f (by grind) (by grind)^by lk) #[i,a,?_]
  simp_all
def sIx(n d:Nat):w_ Int->Nat
 |none=>d
 |some v=>if v<0 then(v+(n:Int)).toNat else min v.toNat n
def sIx_none(n d:Nat):sIx n d s_=d:=rfl
theorem sIx_nat(n d k:Nat):sIx n d^P3 (k:Int)=min k n:=by
 show(if k<0 then((k:Int)+n).toNat else min _ n)=min k n;rw[if_neg^by lk,m_]
theorem ag(n d:Nat)(hd:d<=n)(o:w_ Int):sIx n d o<=n:=by
 cases o with
 |none=>exact hd
 |some v=>
  show(if v<0 then(v+n).toNat else min _ n)<=n
  grind
theorem Ra(v:Int)(n d:Nat):(if v<0 then max (v+(n:Int)) 0 else min v (n:Int))=((sIx n d^P3 v:Nat):Int):=by
 show(if v<0 then max _ 0 else min v _)=(if v<0 then(v+n).toNat else min _ n)
 grind
def QK(lo hi:w_ Int)(n:Nat):qf lo hi 1 (n:Int)=(((sIx n 0 lo:Nat):Int),((sIx n n hi:Nat):Int)):=by
 refine Prod.ext ?_ ?_
 .cases lo with
  |none=>rfl
  |some v=>exact Ra v n 0
 .cases hi with
  |none=>rfl
  |some v=>exact Ra v n n
theorem Pb(i j:Nat):oZ (i:Int) (j:Int) 1=j - i:=by
 unfold oZ
 grind
def Iu(p:pd v o)(h:Q o s):wpAny (model prog w) A (Builtin.Slice.slicePartIndex v) Q E s:=by
 cases p with
 |none=>exact slicePart_none h
 |int i t=>exact slicePart_int h
def vK{Q:Int×Int×Nat->Go->Prop}(i:s.heap.IsSliceOf g e f .none)(pl:pd e a)(j:pd f d)
  (h:Q (((sIx n 0 a:Nat):Int),1,sIx n n d - sIx n 0 a) s):wpAny (model prog w) A (Builtin.Slice.sliceApplied (.ref g)^pure (n:Int)) Q E s:=by
 let#[l,b,k,c]:=id i;refine Cn^Cn (lD b c (x:=e) rfl (Cn (lD b c (x:=f) rfl (Cn (lD b c (x:=.none) rfl (On ?_))))));refine Cn^slicePart_none ?_;refine Cn^Iu pl^Cn^Iu j^Cn^On ?_;show wpAny _ _ (match qf a d 1 (n:Int)with|(a,d)=>pure (a,(1:Int),oZ a d 1)) _ _ s;rw[QK a d n];show wpAny _ _ (pure _) _ _ s;rw[Pb];exact On h
theorem U8(a:Array Db)(i k:Nat):((kH k).filterMap fun(m:Nat)=>a[((i:Int)+(m:Int)*1).toNat]?).toArray=((a.toList.drop i).take k).toArray:=by
 have e:(fun(m:Nat)=>a[((i:Int)+(m:Int)*1).toNat]?)=λm=>a[i+m]?:=by
  grind
 rw[e]
 have:=pick_run a i k
 rw[List.filterMap_map]at this;have b:((λx=>a[x]?)∘λx=>i+x)=λm=>a[i+m]?:=rfl
 grind
theorem getItem_tuple_cut(f:IsTup s.heap t a)(p:s.heap.IsSliceOf g n o .none)(pl:pd n c)(q:pd o d)
  (x:¬(sIx a.size 0 c=0/\sIx a.size a.size d=a.size))
  (h:Q (.ref s.heap.objs.size) {s with heap:=s.heap.push {cls:=.type "tuple",data:=.seq ((a.toList.drop^sIx a.size 0 c).take (sIx a.size a.size d - sIx a.size 0 c)).toArray}})
  (r:a.size<=sizeLine):wpAny (model prog w) A (getItem (.ref t)^.ref g) Q E s:=by
 have e:sizeOk^.seq ((a.toList.drop^sIx a.size 0 c).take (sIx a.size a.size d - sIx a.size 0 c)).toArray:=by
  show((a.toList.drop^sIx a.size 0 c).take (sIx a.size a.size d - sIx a.size 0 c)).toArray.size<=sizeLine;rw[jn,pL,List.length_drop,kT];lk
 have y:sIx a.size a.size d<=a.size:=ag _ _ (Sc _) d;let#[u,i,j,v]:=id p;have k:s.TypeIs (.ref g) "slice":=#[u,i,j];unfold getItem
 try with_reducible refine kQ ?_
 first|refine Cn^On ?_|skip
 refine Cn^wpAny_sequenceKey f.typeIs (by cbv) ?_
 refine Cn (lA (name:=kU "__getitem__") f.typeIs lB
  (lQ lB f.typeIs entry_tuple_getitem ?_^args_tuple_getitem _ _))
 show wpAny _ _ (qS^.ref t >>=_) _ _ s;refine Cn^tupleItemsOf_ f ?_;refine Cn^oj k ?_;rw[if_pos^by cbv];refine Cn^vK p pl q ?_
 have l:¬((((sIx a.size 0 c:Nat):Int)==0&&(1:Int)==1&&(sIx a.size a.size d - sIx a.size 0 c)==a.size)=t_):=by
  grind
 show wpAny _ _ (if(((sIx a.size 0 c:Nat):Int)==0&&(1:Int)==1&&(sIx a.size a.size d - sIx a.size 0 c)==a.size)=t_ then _ else _) _ _ s;rw[if_neg l,U8]
 first
  |exact Cn (m:=om _)^lH (On #[_,rfl,On h]) e
  |grind
  |grind
  |grind
end
end HT
namespace L2
abbrev TO:=St->Hp->(w_ Int->Hp->Prop)->Prop
def PO(X:Cx)(e:w_ jx)(t:TO):Prop:=
 ∀(b:v_ (Ch×Obj)) (s:Go) (a:St) (H:Hp) (Q:w_ Int->Hp->Prop),Inv X b a H s->t a H Q->
  wpAny (model X.prog X.w) X.A (evalPart e X.env) (λu d=>∃o c,Inv X b a c d/\pd u o/\Q o c) X.xe s
def XI:TO:=λ_ H Q=>Q s_ H
def dh(t:TE):TO:=λa H Q=>t a H λx H1=>∃i,x=.int i/\Q (P3 i) H1
section
variable {lo hi:w_ Expr}
def Qv:PO X s_ XI:=λa s b H Q I h=>On #[_,H,I,.none,h]
def Qu(h:PE X e te):PO X (P3 e)^dh te:=by
 intro g s a H Q I b;refine Ao (h _ s a H _ I b) λu j zz=>?_;let#[x,H1,c,d,f]:=zz;let#[i,rfl,q]:=f;let#[t,rfl]:=d;exact#[_,H1,c,.int i t,q]
def SlR(X:Cx)(r:V->w_ Int->w_ Int->Hp->VK->Prop):Prop:=
 ∀(a:v_ (Ch×Obj)) (s:Go) (b:St) (H:Hp) (x:V) (v c d:Db) (lo hi:w_ Int) (e:Ch) (Q:VK),Inv X a b H s->RelV x v->s.heap.IsSliceOf e c d .none->pd c lo->pd d hi->r x lo hi H Q->
  ∃T f,typeLookup (.type T) "__getitem__"=pure^P3^.builtin f/\s.TypeIs v T/\wpAny (model X.prog X.w) X.A (getItem v^.ref e) (EP X a b Q) X.xe s
def SlR.or(h:SlR X r)(l:SlR X c):SlR X (λx a b H Q=>r x a b H Q\/c x a b H Q):=by
 intro m s d H x v e f a b g Q I i j pl k q
 rcases q with q|q
 .exact h _ s d H x v e f a b g Q I i j pl k q
 .exact l _ s d H x v e f a b g Q I i j pl k q
def jU(r:V->w_ Int->w_ Int->Hp->VK->Prop)(te:TE)(tl th:TO):TE:=λa H Q=>te a H λx H1=>tl a H1 λl H2=>th a H2 λu b=>r x l u b Q
def Nj(j:SlR X r)(k:PE X e te)(m:PO X lo tl)(n:PO X hi th):PE X (.Subscript e (.Slice lo hi s_ p2) pos)^jU r te tl th:=by
 intro c s d H Q I h;refine Subscript_^Ao (k c s d H _ I h) λv o zz=>?_;let#[x,H1,p,t,y]:=zz;refine wpAny_Slice^Ao (m c o d H1 _ p y) λf z zz=>?_;let#[l,H2,B,pl,C]:=zz;refine Ao (n c z d H2 _ B C) λg a zz=>?_;let#[u,i,D,E,F]:=zz;rw[evalPart_none];refine On ?_;have G:Inv X c d i {a with heap:=a.heap.push {cls:=.type "slice",data:=.fields #[ f,g,.none]}}:=D.kept (t':=a.toks) λb ob q=>FM _ q;let#[T,M,J,K,L]:=j c {a with heap:=a.heap.push {cls:=.type "slice",data:=.fields #[ f,g,.none]}} d i x v f g l u a.heap.objs.size Q G t (Heap.IsSliceOf.new ..) pl E F;show wpAny (model X.prog X.w) X.A (subscriptTail e (.Slice lo hi s_ p2) v^.ref a.heap.objs.size) (EP X c d Q) X.xe {a with heap:=a.heap.push {cls:=.type "slice",data:=.fields #[ f,g,.none]}};exact tail_any (ops:=[.ref a.heap.objs.size,v]) K J L^by with_unfolding_all rfl
def OU(a:v_ V)(lo hi:w_ Int):v_ V:=(a.drop^HT.sIx a.length 0 lo).take (HT.sIx a.length a.length hi - HT.sIx a.length 0 lo)
theorem Ho(a:v_ V)(lo hi:w_ Int):(OU a lo hi).length<=a.length:=by
 unfold OU
 grind
def eJ(K:Frag):V->w_ Int->w_ Int->Hp->VK->Prop:=λx c d H Q=>∃a b,x=.ref a/\SqT K H a b /\
 ¬(HT.sIx b.length 0 c=0/\HT.sIx b.length b.length d=b.length)/\∀p,H p=s_->Q (.ref p)^AX H p^.tup^OU b c d
theorem sl_tup:SlR X^eJ X.K:=by
 intro o s p H x v t u g i w Q I j k pl l h;let#[a,e,rfl,m,y,q]:=h;cases j;let#[d,r,f,n]:=I.tuple m;have c:d.toArray.size=e.length:=by exact r.length.symm
 exists _,_,lB.lookup,f.typeIs;refine HT.getItem_tuple_cut f k pl l (by grind) ?_ (by simp_all);rw[c];refine#[.ref _,_,I.laid (λb ob q=>FM _ q) (Sc _) ?_,rfl,q _^I.hok.fresh^Sc _];exact#[jr (Ho e g i) n,_,(r.drop _).take _,vw.new _ _]
def Uv(K:Frag):R2:=λx y H Q=>∃a b d c,x=.ref a/\y=.ref b/\SqT K H a d/\SqT K H b c/\d≠[]/\d.length+c.length<=sizeLine /\
 (c=[]->Q (.ref a) H)/\(c≠[]->∀p,H p=s_->Q (.ref p)^AX H p^.tup (d++c))
def zv.yB(r:zv a b):b=[]↔a=[]:=by
 cases r with
 |nil=>simp
 |cons _ _=>simp
def op_catT:OpR X (binaryOp .Add)^Uv X.K:=by
 intro r s t H x y v u Q I f g h;let#[a,b,A,B,rfl,rfl,i,j,k,l,m,n]:=h;cases f;cases g;let#[o,d,p,_]:=I.tuple i;let#[e,c,p2,_]:=I.tuple j;refine HT.cat_tup p p2 (λz=>k^d.yB.mp z) (λz=>#[.ref a,H,I,rfl,m^c.yB.mp z]) (λz=>?_) (by rw[←d.length,←c.length];exact l);refine#[.ref _,_,I.laid (λb ob q=>FM _ q) (Sc _) ?_,rfl,n (λw=>z^c.yB.mpr w) _^I.hok.fresh^Sc _];exact#[by simp_all,_,d.append c,vw.new _ _]
end
def Wz(n:Nat)(i:Int):w_ Nat:=if 0<=i then(if i<n then P3 i.toNat else s_)else if -(n:Int)<=i then P3 (i+n).toNat else s_
def atI(b:v_ a)(i:Int):w_ a:=(Wz b.length i).bind λj=>b[j]?
theorem RG(h:Wz n i=P3 j):seqIndex? i n=P3 j/\j<n/\-(n:Int)<=i/\i<n:=by
 unfold Wz at h
 by_cases b:0<=i
 .rw[if_pos b]at h
  by_cases a:i<n
  .rw[if_pos a]at h
   have e:i.toNat=j:=ZB h;exact#[by rw[seqIndex_of b a,e],by lk,by lk,a]
  grind
 .rw[if_neg b]at h
  by_cases a:-(n:Int)<=i
  .rw[if_pos a]at h
   have e:(i+n).toNat=j:=ZB h;exact#[by rw[seqIndex_neg (by lk) a,e],by lk,a,by lk]
  grind
def Mx(h:atI a i=P3 v):∃j,seqIndex? i a.length=P3 j/\a[j]?=P3 v/\j<a.length/\-(a.length:Int)<=i/\i<a.length:=by
 unfold atI at h;cases e:Wz a.length i with
 |none=>simp_all
 |some j=>
  let#[c,d,f,g]:=RG e
  simp_all
theorem AE{j:Nat}(h:xs[j]?=P3 v):atI xs (j:Int)=P3 v:=by
 have b:=(XV.mp h).1
 have e:Wz xs.length j=P3 j:=by
  unfold Wz
  simp_all
 unfold atI;grind
theorem Oh(a:v_ b)(v:b):atI (a++[v]) (-1)=P3 v:=by
 have e:Wz (a++[v]).length (-1)=P3 a.length:=by
  unfold Wz
  grind
 unfold atI
 grind
def NA(b:jx):Prop:=∀o i,subscripted b u_ o i=operate [o,i]^getItem o i
def IxR(X:Cx)(r:R2):Prop:=
 ∀(value a:jx) (b:v_ (Ch×Obj)) (s:Go) (c:St) (H:Hp) (x y:V) (v u:Db) (Q:VK),Inv X b c H s->RelV x v->RelV y u->r x y H Q->
  subscripted a u_ v u=operate [v,u]^getItem v u->wpAny (model X.prog X.w) X.A (subscriptTail value a v u) (EP X b c Q) X.xe s
def W1(X:Cx)(e:String)(r:V->v_ V->Hp->VK->Prop):Prop:=
 ∀(a:v_ (Ch×Obj)) (s:Go) (b:St) (H:Hp) (x:V) (c:v_ V) (v:Db) (d:v_ Db) (Q:VK),Inv X a b H s->RelV x v->zv c d->r x c H Q->
  wpAny (model X.prog X.w) X.A (call (.builtin e) (v::d)) (EP X a b Q) X.xe s
section

def IxR.or(h:IxR X r)(j:IxR X d):IxR X (λx y H Q=>r x y H Q\/d x y H Q):=by
 intro value c k s e H x y v u Q I f g q i
 rcases q with q|q
 .exact h _ _ _ s e H x y v u Q I f g q i
 .exact j _ _ _ s e H x y v u Q I f g q i
def EQ(c:IxR X r)(d:PE X a ta)(e:PE X b tb)(f:NA b):PE X (.Subscript a b pos)^Dh r ta tb:=λm s g H Q I h=>Subscript_^cO d e I h λv u i x y H2 j k l q=>c a b _ i g H2 x y v u Q j k l q^f _ _
def aq(K:Frag):R2:=λx y H Q=>∃p c i v,x=.ref p/\y=.int i/\SqL K H p c/\atI c i=P3 v/\Q v H
def eS(K:Frag):R2:=λx y H Q=>∃p c i v,x=.ref p/\y=.int i/\SqT K H p c/\atI c i=P3 v/\Q v H
def eU:R2:=λx y H Q=>∃z i c,x=.str z/\y=.int i/\z.length<=sizeLine/\atI z.cps.toList i=P3 c/\Q (.str #[#[ c]]) H
theorem vU:IxR X^aq X.K:=by
 intro value d g s k H x y v u Q I A B h l;let#[p,M,i,z,rfl,rfl,C,D,q]:=h;cases A;let#[t,rfl]:=B;let#[e,r,pl,N]:=I.list C;let#[j,m,E,O,F,G]:=Mx D;let#[w,J,f]:=r.get E;have P:=r.length;have R:=G2;have c:EP X g k Q w s:=#[z,H,I,f,q]
 by_cases n:0<=i
 .have o:i.toNat=j:=by
   rw[seqIndex_of n G]at m
   grind
  exact item_listR pl.isList n (by lk) (by rw[o];simpa using J) c l
 .have o:(i+(e.toArray.size:Int)).toNat=j:=by
   rw[seqIndex_neg (by lk) F]at m
   grind
  exact subscriptTail_builtinR (x:=w) pl.isList.typeIs slot_list_getitem.lookup
   (wpAny_getItem_list_neg (Q:=λr L=>r=w/\EP X g k Q r L) pl.isList (by lk) (by grind) (by lk) (by grind) #[rfl,c]) l
theorem ix_tup:IxR X^eS X.K:=by
 intro value c o s A H x y v u Q I e f h g;let#[p,B,i,z,rfl,rfl,k,l,q]:=h;cases e;let#[t,rfl]:=f;let#[m,r,pl,C]:=I.tuple k;let#[j,D,n,E,F,G]:=Mx l;let#[w,J,d]:=r.get n;have L:=r.length;have M:=G2
 exact subscriptTail_builtinR pl.typeIs lB.lookup
  (getItem_tuple (j:=j) pl (by lk) (by lk) (by grind) (by grind) #[rfl,#[z,H,I,d,q]]) g
theorem bj:IxR X eU:=by
 intro value d l s m H x y v u Q I e f h g;let#[z,i,c,rfl,rfl,n,k,q]:=h;let#[t,rfl]:=e;let#[o,rfl]:=f;let#[j,p,r,w,A,B]:=Mx k;have C:z.cps.toList.length=z.length:=by simp[Str.length]
 have D:=G2
 exact tail_any (nC s z t) slot_str_getitem.lookup (getItem_str (by
  grind) (by grind) #[.str _,H,I.tok _,#[_,rfl],q]) g
def jC(K:Frag):R2:=λx y H Q=>aq K x y H Q\/eS K x y H Q\/eU x y H Q
def G7:IxR X^jC X.K:=vU.or^ix_tup.or bj
def Pu(c:v_ Db)(n j:Nat)(u:Db):km (·.setIfInBounds j u) {cls:=.type "list",data:=.seq c.toArray n}={cls:=.type "list",data:=.seq (c.set j u).toArray n}:=by
 simp[km]
def Inv.lst{f:v_ (Ch×Obj)}{g:St}{H:Hp}{s:Go}{p:Ch}{d:v_ V}(I:Inv X f g H s)(h:H p=P3^.lst d):
  ∃(c:v_ Db) (n:Nat),zv d c/\s.heap.get? p=P3 {cls:=.type "list",data:=.seq c.toArray n}/\d.length<=sizeLine:=by
 let#[z,c,n,r,e]:=I.hok p _ h;exact#[_,n,r,e,z]
def Inv.lstUpd{d c:v_ Db}(I:Inv X j k H s)(h:H p=P3^.lst m)
  (o:s.heap.get? p=P3 {cls:=.type "list",data:=.seq d.toArray n}) (l:f {cls:=.type "list",data:=.seq d.toArray n}={cls:=.type "list",data:=.seq c.toArray i}) (r:zv g c) (v:g.length<=sizeLine) (t:Nat):
  Inv X j k (AX H p^.lst g) {s with heap:=s.heap.update p f,toks:=t}:=by
 have e:(s.heap.update p f).get? p=P3 {cls:=.type "list",data:=.seq c.toArray i}:=by
  rw[kY f o (by rw[l] <;>rfl),l]
 exact I.write (by rw[h];trivial) (.inl rfl) (λb u w q=>(jl _ _^kM w).trans q) #[_,e] #[v,_,i,r,e]
def ZD:V->V->V->Hp->(Hp->Prop)->Prop:=λo i v H Q=>∃p c k j,o=.ref p/\i=.int k/\H p=P3^.lst c/\Wz c.length k=P3 j/\Q^AX H p^.lst^c.set j v
theorem set_list:gO X ZD:=by
 intro w s x H o i v F G u Q I y z A h;let#[p,B,k,j,rfl,rfl,f,C,q]:=h;cases y;let#[t,rfl]:=z;let#[c,n,r,d,J]:=I.lst f;let#[g,K,D,E]:=RG C;have L:=r.length;have M:=G2
 have l:Inv X w x (AX H p^.lst^B.set j v) {s with heap:=s.heap.update p (km (·.setIfInBounds j u))}:=
  I.lstUpd f d (Pu c n j u) (r.set A j) (by simp_all) s.toks
 by_cases m:0<=k
 .have e:k.toNat=j:=by
   rw[seqIndex_of m E]at g
   grind
  exact PySem.W.ki_setAt d m (by lk) (by grind)^by rw[e];exact#[_,l,q]
 .have e:(k+(c.toArray.size:Int)).toNat=j:=by
   rw[seqIndex_neg (by lk) D]at g
   grind
  exact PySem.W.ki_setBack d (by lk) (by grind) (by lk)^by rw[e];exact#[_,l,q]
theorem L_(lo hi:w_ Int)(n:Nat):(sliceBounds lo hi s_ n).1=((HT.sIx n 0 lo:Nat):Int)/\(sliceBounds lo hi s_ n).2.1=((HT.sIx n n hi:Nat):Int)/\(sliceBounds lo hi s_ n).2.2=1:=by
 refine#[?_,?_,rfl]
 .cases lo with
  |none=>simp[sliceBounds,HT.sIx]
  |some i=>
   simp only[sliceBounds,HT.sIx,Option.getD_none,show(1:Int) > 0 by cbv,if_true]
   by_cases h:i<0
   .grind
   .simp only[h,if_false] <;>lk
 .cases hi with
  |none=>simp[sliceBounds,HT.sIx]
  |some i=>
   simp only[sliceBounds,HT.sIx,Option.getD_none,show(1:Int) > 0 by cbv,if_true]
   by_cases h:i<0
   .grind
   .simp only[h,if_false] <;>lk
def Ke(c:v_ Db)(lo hi:w_ Int):slicePick c.toArray lo hi s_=((c.drop^HT.sIx c.length 0 lo).take (HT.sIx c.length c.length hi - HT.sIx c.length 0 lo)).toArray:=by
 let#[d,e,f]:=L_ lo hi _;unfold slicePick;rw[d,e,f];simp only[sliceRange_one,pick_run] <;>rfl
def eK(K:Frag):V->w_ Int->w_ Int->Hp->VK->Prop:=λx d e H Q=>∃a c,x=.ref a/\SqL K H a c/\∀p,H p=s_->Q (.ref p)^AX H p^.lst^OU c d e
theorem sl_list:SlR X^eK X.K:=by
 intro o s p H x v t u e f w Q I g i pl j h;let#[a,k,rfl,l,q]:=h;cases g;let#[m,r,d,n]:=I.list l;have c:=r.length;exists _,_,slot_list_getitem.lookup,d.isList.typeIs;refine wpAny_getItem_list_slice d.isList i pl j .none (by simp) ?_ (by grind);rw[Ke,←c];refine#[.ref _,_,I.laid (λb ob q=>FM _ q) (Sc _) ?_,rfl,q _^I.hok.fresh^Sc _];exact#[jr (Ho k e f) n,_,0,(r.drop _).take _,TW _ rfl]
def ZZ:V->Bool
 |.non=>t_
 |.bl _=>t_
 |.int _=>t_
 |.str _=>t_
 |_=>u_
def fo:V->V->Bool
 |.non,.non=>t_
 |.bl a,.bl b=>a==b
 |.bl a,.int b=>(if a then 1 else 0)==b
 |.int a,.bl b=>a==(if b then 1 else 0)
 |.int a,.int b=>a==b
 |.str a,.str b=>a==b
 |_,_=>u_
def Ml(e:RelV y u)(c:RelV x v)(g:ZZ y=t_)(f:ZZ x=t_):SeqAt.EqAt A s u v^fo y x:=by
 cases y with
 |non=>
  cases e;cases x with
  |non=>cases c;exact SeqAt.EqAt.same _
  |bl b=>cases c;exact SeqAt.EqAt.none_bool b
  |int b=>let#[t,rfl]:=c;exact SeqAt.EqAt.none_int b t
  |str b=>let#[t,rfl]:=c;exact SeqAt.EqAt.none_str b t
  |_=>exact absurd (show u_=t_ from f) jt
 |bl a=>
  cases e;cases x with
  |non=>cases c;exact SeqAt.EqAt.bool_none a
  |bl b=>cases c;exact SeqAt.EqAt.bool_bool a b
  |int b=>let#[t,rfl]:=c;exact SeqAt.EqAt.bool_int a b t
  |str b=>let#[t,rfl]:=c;exact SeqAt.EqAt.bool_str a b t
  |_=>exact absurd (show u_=t_ from f) jt
 |int a=>
  let#[d,rfl]:=e;cases x with
  |non=>cases c;exact SeqAt.EqAt.int_none a d
  |bl b=>cases c;exact SeqAt.EqAt.int_bool a d b
  |int b=>let#[t,rfl]:=c;exact SeqAt.EqAt.int_int a d b t
  |str b=>let#[t,rfl]:=c;exact rm a d b t
  |_=>exact absurd (show u_=t_ from f) jt
 |str a=>
  let#[d,rfl]:=e;cases x with
  |non=>cases c;exact SeqAt.EqAt.str_none a d
  |bl b=>cases c;exact SeqAt.EqAt.str_bool a d b
  |int b=>let#[t,rfl]:=c;exact rn a d b t
  |str b=>let#[t,rfl]:=c;exact SeqAt.EqAt.str_str a d b t
  |_=>exact absurd (show u_=t_ from f) jt
 |_=>exact absurd (show u_=t_ from g) jt
def GV:zS X (.type "list") (λA H Q=>∃p f,A=[.ref p]/\(SqL X.K H p f\/SqT X.K H p f)/\∀l,H l=s_->Q (.ref l)^AX H l^.lst f):=by
 intro C s D H A F Q I r h;let#[p,f,rfl,j,q]:=h;let#[u,rfl,E]:=vals1 r;cases E
 have k:∀(c:v_ Db),zv f c->f.length<=sizeLine->∀(d:jq) (i:Nat),(∀b B,s.heap.get? b=P3 B->d.get? b=P3 B)->
   d.get? s.heap.objs.size=P3 _->EP X C D Q (.ref s.heap.objs.size) {s with heap:=d}:=λc g m d i t e=>
  #[.ref s.heap.objs.size,_,I.laid (t':=s.toks) t (Sc _) (show zh X.prog X.w _ d _^.lst f from#[m,c,i,g,e]),rfl,q _^I.hok.fresh^Sc _]
 rcases j with j|j
 .let#[c,g,pl,m]:=I.list j
  have v:=g.length;let#[o,x,y,n,z]:=pl.isList;exact call_list_seq p (.inl rfl) x y z (λd i t e=>k c g m d i t e)^by grind
 .let#[c,g,pl,m]:=I.tuple j
  have v:=g.length;let#[o,x,y,n,z]:=pl;exact call_list_seq p (.inr rfl) x y z (λd i t e=>k c g m d i t e)^by grind
def Df:zS X (.type "tuple") (λi H Q=>∃p c,i=[.ref p]/\((SqL X.K H p c/\∀l,H l=s_->Q (.ref l)^AX H l^.tup c)\/(SqT X.K H p c/\Q (.ref p) H))):=by
 intro v s w H i x Q I r h;let#[p,c,rfl,h]:=h;let#[u,rfl,n]:=vals1 r;cases n
 rcases h with⟨d,q⟩|⟨d,q⟩
 .let#[f,g,pl,j]:=I.list d
  have k:=g.length;refine call_tuple_list pl.isList (λy t=>?_) (by grind);have m:=I.kept (t':=s.toks) t;exact#[.ref _,_,m.laid (t':=s.toks) (λb o e=>FM _ e) (Sc _) (show zh _ _ _ _ _^.tup c from#[j,_,g,vw.new _ _]),rfl,q _^m.hok.fresh^Sc _]
 .let#[f,g,pl,j]:=I.tuple d
  exact call_tuple_same pl #[.ref p,H,I,rfl,q]
def c6(K:Frag)(T:String)(x:V)(H:Hp):Prop:=match x with
 |.str _=>T="str"
 |.int _=>T="int"
 | .ref p=>(T="list"/\∃d,SqL K H p d)\/(T="tuple"/\∃o,K.lookup p=P3 o/\o.cls=.type "tuple"/\o.dict=s_) \/
   (T="dict"/\((∃c,H p=P3^.dK c)\/∃c,H p=P3^.dT c))\/(T="set"/\∃S n,H p=P3^.set S n)
 |_=>False
def O4(I:Inv X j k H s)(r:RelV x v)(ty:c6 X.K T x H):
  s.TypeIs v T/\∀a,v=.ref a->∃ob,s.heap.get? a=P3 ob/\ob.dict=s_:=by
 cases x with
 |str z=>
  let#[t,rfl]:=r;cases(show T="str" from ty);exact#[nC s z t,λ_ e=>nomatch e]
 |int i=>
  let#[t,rfl]:=r;cases(show T="int" from ty);exact#[typeIs_int s i t,λ_ e=>nomatch e]
 | ref p=>
  cases r
  rcases ty with⟨rfl,u,l⟩|⟨rfl,o,d,m,f⟩|⟨rfl,d⟩|⟨rfl,S,n,d⟩
  .let#[q,_,pl,_]:=I.list l
   refine#[pl.isList.typeIs,λa e=>?_];cases e;let#[o,n,e,c,f,_]:=pl;exact#[o,e,f]
  .refine#[#[o,I.kIn p o d,m],λa e=>?_]
   cases e;exact#[o,I.kIn _ o d,f]
  .have z:∃o,s.heap.get? p=P3 o/\o.ExactDict:=by
    rcases d with⟨g,d⟩|⟨g,d⟩
    .let#[_,_,_,_,o,_,_,e,ex,_]:=I.hok p _ d
     exact#[o,e,ex]
    .let#[_,_,_,_,o,_,_,e,ex,_]:=I.hok p _ d
     exact#[o,e,ex]
   let#[o,e,ex]:=z;refine#[#[o,e,ex.1],λa h=>?_];cases h;exact#[o,e,ex.2.1]
  .let#[o,_,_,_,e,ex,_]:=I.hok p _ d
   refine#[#[o,e,ex.1],λa h=>?_];cases h;exact#[o,e,ex.2.1]
 |_=>exact kd ty
def iH(K:Frag)(T:String)(r:V->v_ V->Hp->VK->Prop)(to:TE):TE:=λc H Q=>to c H λx H1=>c6 K T x H1/\r x [] H1 Q
def jX(K:Frag)(T:String)(r:V->v_ V->Hp->VK->Prop)(to:TE)(t:TA):TE:=λc H Q=>to c H λx H1=>c6 K T x H1/\t c H1 λd H2=>r x d H2 Q
variable {T id:String}
def bK(k:oq T)(e:Slot T name id)(f:typeOf^.builtin id=pure^.type "method_descriptor")(l:W1 X id r)(m:PE X o to)
  (c:attributeBase o name X.env^eval o X.env=eval o X.env:=by rfl) (d:(apos.endLine==cpos.line)=t_:=by rfl):PE X (.Call (.Attribute o name apos) [] [] cpos)^iH X.K T r to:=by
 intro u s g H Q I h;refine wpAny_Call_method0_late c d^Ao (m _ s g H _ I h) λv n zz=>?_;let#[x,H1,i,j,ty,p]:=zz;let#[q,t]:=O4 i j ty;exact#[T,id,k,e,f,q,t,mE rfl (PySem.evalArgs_none^l _ n g H1 x [] v [] Q i j .nil p)]
def ZQ(p:oq T)(f:Slot T name id)(j:typeOf^.builtin id=pure^.type "method_descriptor")(q:W1 X id r)(u:PE X o to)(w:PA X (e::es) t)
  (c:attributeBase o name X.env^eval o X.env=eval o X.env:=by rfl)
  (g:((backTo cpos^starEach (e::es) X.env).all (λx=>!x.1)&&(backToKw cpos^keywordEach [] X.env).all (λx=>x.1.isSome)
   && decide ((e::es).length+([]:v_ nH).length+(if([]:v_ nH).isEmpty then 0 else 1)<30))=t_:=by rfl)
  (d:(apos.endLine==cpos.line)=t_:=by rfl) (y:X.sE e es:=by rfl) (i:(backTo cpos^starEach es X.env).any (·.1)=u_:=by rfl):
  PE X (.Call (.Attribute o name apos) (e::es) [] cpos) (jX X.K T r to t):=by
 intro M s k H Q I h;refine wpAny_Call_method_late c g d rfl (Ao (u _ s k H _ I h) λv z zz=>?_);let#[x,H1,l,m,ty,A]:=zz;let#[B,C]:=O4 l m ty;exists T,id,p,f,j,B,C;have n:=w cpos _ z k H1 _ l A;rw[y]at n ⊢;refine mE (by simp_all)^oO ?_;refine Ao n λD E zz=>?_;let#[F,H2,G,J,L]:=zz;exact q _ E k H2 x F v D Q G m J L
end
def iw(X:Cx)(e:String)(r:V->v_ V->Hp->VK->Prop):Prop:=
 ∀(a:v_ (Ch×Obj)) (s:Go) (b:St) (H:Hp) (x:V) (c:v_ V) (v:Db) (d:v_ Db) (Q:VK),Inv X a b H s->RelV x v->zv c d->r x c H Q->
  wpAny (model X.prog X.w) X.A (call (.builtin e) (v::d)) (EP X a b Q) X.xe s
theorem zv.one:∀{x:V}{a:v_ Db},zv [x] a->∃u,a=[u]/\RelV x u
 |_,_,.cons r .nil=>#[_,rfl,r]
theorem zv.zero:∀{a:v_ Db},zv [] a->a=[]
 |_,.nil=>rfl
theorem zv.eraseIdx:∀{a:v_ V}{b:v_ Db} (i:Nat),zv a b->zv (a.eraseIdx i)^b.eraseIdx i
 |_,_,_,.nil=>.nil
 |_,_,0,.cons _ t=>t
 |_,_,i+1,.cons r t=>.cons r^zv.eraseIdx i t
def zv.reverse(h:zv a b):zv a.reverse b.reverse:=by
 induction h with
 |nil=>exact .nil
 |cons r t c=>rw[o_,o_];exact zv.append c^.cons r .nil
theorem zv.rep(h:zv a b):∀k:Nat,zv (jk k a).flatten (jk k b).flatten
 |0=>.nil
 |k+1=>zv.append h^zv.rep h k
theorem LW:∀(l:v_ a) (i:Nat),(l.eraseIdx i).length<=l.length
 |[],_=>Sc _
 |_::_,0=>kL _
 |_::r,i+1=>nL^LW r i
theorem foldl_rep(b:v_ Db):∀(k:Nat) (a:v_ Db),
  List.foldl (λc d=>c++d) a.toArray (jk k b.toArray)=(a++(jk k b).flatten).toArray
 |0,a=>by simp
 | k+1,a=>by
  have e:a.toArray++b.toArray=(a++b).toArray:=by simp
  have f:(a++b)++(jk k b).flatten=a++(jk (k+1) b).flatten:=by
   grind
  rw[←f,←foldl_rep _ k _,←e,p9,List.foldl_cons]
section

def Inv.lset{a its':v_ Db}(I:Inv X zF σ H s)(b:H l=P3^.lst xs)
  (e:s.heap.get? l=P3 {cls:=.type "list",data:=.seq a.toArray n}) (c:f a.toArray=its'.toArray) (d:zv ys its') (g:ys.length<=sizeLine):
  Inv X zF σ (AX H l^.lst ys) {s with heap:=s.heap.update l^km f,toks:=t'}:=by
 have q:=PySem.IsL.update e f;rw[c]at q;exact I.write (by rw[b];exact trivial) (.inl rfl) (λk u h i=>(jl _ _^kM h).trans i) #[_,q] #[g,_,_,d,q]
def Inv.lnew(I:Inv X zF σ H s)(b:zv ys a)(c:ys.length<=sizeLine):
  Inv X zF σ (AX H s.heap.objs.size^.lst ys) {s with heap:=s.heap.push {cls:=.type "list",data:=.seq a.toArray},toks:=t'}:=
 I.laid (λ_ _ q=>FM _ q) (Sc _) #[c,_,0,b,TW _ rfl]
def Inv.fresh(I:Inv X zF σ H s):H s.heap.objs.size=s_:=I.hok.fresh^Sc _
def Inv.lstM(I:Inv X zF σ H s)(b:H l=P3^.lst xs):xs.length<=sizeLine/\∃(a:v_ Db) (n:Nat),zv xs a/\xs.length=a.length/\s.heap.get? l=P3 {cls:=.type "list",data:=.seq a.toArray n}:=by
 let#[z,a,n,r,e]:=I.hok l _ b;exact#[z,_,n,r,r.length,e]
theorem Nq(h:n<=sizeLine):nN n=u_:=by
 unfold nN
 grind
end
section

def Qn:V->v_ V->Hp->VK->Prop:=λx b H Q=>∃l a y,x=.ref l/\b=[y]/\H l=P3^.lst a/\a.length<sizeLine/\Q .non^AX H l^.lst (a++[y])
theorem Bt:iw X "list.append" Qn:=by
 intro g s i H x j v k Q I b c h;let#[l,m,y,rfl,rfl,a,o,q]:=h;cases b;let#[u,rfl,d]:=c.one;let#[z,f,n,r,p,e]:=I.lstM a;refine oP F.slot_list_append #[_,e,rfl] F.entry_list_append (F.args_list_append_2 _ _) (PySem.list_append l _ n u^by grind) #[e,?_];refine#[.non,_,I.lset a e (by simp) (r.append^.cons d .nil) ?_,rfl,q]
 grind
def Qm:V->v_ V->Hp->VK->Prop:=λx d H Q=>∃l b a c,x=.ref l/\d=[.ref b]/\H l=P3^.lst a/\H b=P3^.lst c/\a.length+c.length<=sizeLine/\Q .non^AX H l^.lst (a++c)
theorem Sj:iw X "list.extend" Qm:=by
 intro y s A H x B v C Q I i j h;let#[l,b,D,E,rfl,rfl,g,k,G,q]:=h;cases i;let#[u,rfl,m]:=j.one;cases m;let#[z,a,n,r,J,e]:=I.lstM g;let#[K,c,o,p,t,w]:=I.lstM k;have f:a.toArray.size+c.toArray.size<=sizeLine:=by grind
 have d:¬(!a.toArray.isEmpty&&nN (a.toArray.size+c.toArray.size))=t_:=by
  rw[Nq f]
  grind
 refine oP F.slot_list_extend #[_,e,rfl] F.entry_list_extend (F.args_list_extend_2 _ _)
  (AutoSeq1.list_extend_list_list_0 l a.toArray n b _ o d (by grind)^by lk) #[e,w,?_]
 refine#[.non,_,I.lset g e (by simp) (r.append p) ?_,rfl,q]
 grind
def Ut:V->v_ V->Hp->VK->Prop:=λx a H Q=>∃l b,x=.ref l/\a=[]/\H l=P3^.lst b/\Q .non^AX H l^.lst []
theorem Ve:iw X "list.clear" Ut:=by
 intro g s i H x j v k Q I c d h;let#[l,m,rfl,rfl,b,q]:=h;cases c;have a:=d.zero;subst a;let#[z,f,n,r,o,e]:=I.lstM b;exact oP F.slot_list_clear #[_,e,rfl] F.entry_list_clear (F.args_list_clear_1 _) (AutoSeq1.list_clear_list_0 l _ n^by grind) #[e,#[.non,_,I.lset b e rfl .nil (jp _),rfl,q]]
def len_rep(a:v_ b)(k:Nat):(jk k a).flatten.length=k*a.length:=by
 simp_all
end
end L2
namespace Att
open PySem.W PySem.Calls
def IA:∀(c:v_ Int) (d:v_ Db),WellAll P h d^c.map WData.int->IntsAre d c:=by
 intro c
 induction c with
 |nil=>
  intro d w;cases w;exact .nil
 | cons n c e=>
  intro d w;cases w with
  |cons a b=>
   cases a;exact .cons _ _^e _ b
theorem SH{l:OpenLaw}(w:l.most=P3 n)
  (c:l.row.toRowW.claim.pre args=t_) (i:WellAll P h b args):
  ∃a k e,b=[Uf a]/\args=[WData.list^e.map WData.int]/\h.get? a=P3 {cls:=.type "list",data:=.seq k.toArray}/\IntsAre k e/\e.length<=n:=by
 have j:WShape.hasAll [] args [.list .int]=t_:=(pre_splitW c).1;have m:l.pre.holds [] {args:=args}=t_:=(pre_splitW c).2;let#[d,r,rfl,p,q]:=hasAllW_cons j;obtain rfl:=hasAllW_nil q;let#[x,rfl,s]:=hasW_list p;let#[e,rfl]:=items_int s
 have f:e.length<=n:=by
  unfold OpenLaw.pre at m
  have o:(WTm.not^.lt (.lit^.int (n:Int))^.len^.arg 0).holds [] {args:=[.list^e.map .int]}=t_:=by
   have o:=(holds_andW m).1
   grind
  have y:=condW_of o^w_not^w_lt w_lit^w_len_list (w_arg rfl)
  grind
 cases i with
 |cons t u=>
  cases u;cases t with
  |list v g=>exact#[_,_,e,rfl,rfl,v,IA e _ g,f]
def SM(l:OpenLaw)(a:v_ WData):l.row.toRowW.claim.post a (.bool t_) a=t_:=
 postW_of
  (show WShape.has [] _ _=t_ by first|rfl|decide|omega)
  (w_eq_bool (w_res rfl) w_lit) rfl
def attach_call{l:OpenLaw}
  (K:l.most=P3 n) (x:d.params.defaults=[])
  (call:∀(w:j4) (e b:Go) (s y:Str->w_ Db) (j:Ch) (o:Obj) (z t g:Db) (a:Ch) (i:v_ Db) (u:v_ Int),
   Ground q c [] D w e s y b.heap->E w b.heap->
   b.heap.get? j=P3 o->o.data=.func^docDef d.name d.params d.body d.scope z t g->b.heap.CodeRec t d.name->s d.name=P3^.ref j->
   b.heap.get? a=P3 {cls:=.type "list",data:=.seq i.toArray}->IntsAre i u->u.length<=n->b.gens=#[]->
   codeAny (model l.prog w) callerA (.call (.ref j) #[[.ref a],[]]) (λr v=>r=.ok^.ret^.bool t_/\OldK b.heap v.heap/\v.os=b.os/\oB v.gens) b):
  WalkO q c D E l.row.toRowW d [] (λf i=>PySem.call f i):=by
 intro w e b s y G Y j o z t g L M N O A F B P H I X k J Q C R;obtain rfl:L=.none:=Dflts.none F x;obtain rfl:M=.none:=Dflts.noKw F;let#[a,i,u,rfl,rfl,m,h,p]:=SH K k C;refine enter_call^mR (call w e b s y j o z t g a i u G Y N (fd_plain O) A B m h p P) λr v S=>?_;let#[rfl,T,U,V]:=S;exact#[.inl #[.bool t_,.bool t_,[],rfl,λ_=>rfl,.bool t_,SM l _,λ_=>#[r_,λ_ W=>(nomatch W)]],T,U,V]
end Att
namespace L2
theorem K9:∀{a:v_ Db}{b:v_ Int},IntsAre a b->zv (b.map V.int) a
 |_,_,.nil=>.nil
 |_,_,.cons n t h=>.cons #[t,rfl]^K9 h
def cq(H:Hp):Prop:=∀b,H b=s_\/∃o a,H b=P3^.frz o^.lst a
def Vn{K:Frag}
  (KX:K.In c.heap) (C:c.heap.Ns mainGlobals A) (g:c.heap.Ns builtinsNs R) (T:∀x:Str,x ≠ "__name__"->R x=bootBuiltins x) (D:c.heap.NoLimit) (hg:c.gens=#[])
  (Q:c.heap.get? a=P3 {cls:=.type "list",data:=.seq t.toArray}) (hi:IntsAre t B) (hl:B.length<=sizeLine) (hr:zy k callerA)
  (F:∀i:jq,K.In i->i.Ns mainGlobals A->zL P w K A i CX k S fd [x] sp) (y:∀(s:Go) (u:Db),qk s fd #[[u],[]] [(x,u)])
  (U:∀H:Hp,cq H->SqL K H a^B.map V.int->sp [.ref a] H (λv _=>v=.bl t_) λ_ _ _=>False)
  (W:∀H e j,CX [] H c (λ_ _ _=>False) e j->False):
  codeAny (model P w) callerA (.call (.ref S) #[[.ref a],[]]) (λr j=>r=.ok^.ret^.bool t_/\OldK c.heap j.heap/\j.os=c.os/\oB j.gens) c:=by
 have rv:=K9 hi;have E:=hi.length
 have p:∀H:Hp,cq H->SqL K H a^B.map V.int->HOk P w H c.heap->(∀b,H b≠s_->b=a)->(H a≠s_->K.lookup a=s_)->
   codeAny (model P w) callerA (.call (.ref S) #[[.ref a],[]]) (λr j=>r=.ok^.ret^.bool t_/\OldK c.heap j.heap/\j.os=c.os/\oB j.gens) c:=by
  intro H hO hS G hA hK;have f:∀{b:Ch}{o:Obj},c.heap.get? b=P3 o->H b=s_->(Mg c.heap H).get? b=P3 o:=λe n=>V0 e n
  have X:∀{b:Ch}{o:Obj}{I:Array ng}{J:Nat},c.heap.get? b=P3 o->o.data=.dict I J->H b=s_:=λ{b o I J} e d=>by
   cases q:H b with
   |none=>rfl
   |some u=>
    have Y:b=a:=hA b (by rw[q];simp);subst Y;rw[Q]at e;cases e
    have d':Data.seq t.toArray _=Data.dict I J:=d;cases d'
  have l:∀{b:Ch}{m:Str->w_ Db},c.heap.Ns b m->(Mg c.heap H).Ns b m:=λ{b m} #[o,I,J,e,d,r]=>#[o,I,J,f e^X e d,d,r]
  have L:K.In^Mg c.heap H:=λb o e=>f (KX b o e) (by
   cases q:H b with
   |none=>rfl
   |some u=>
    have Y:b=a:=hA b (by rw[q];simp);subst Y;rw[hK^by rw[q];simp]at e;cases e)
  have hM:Mod K A^Mg c.heap H:=#[L,l C,#[R,l g,T],let #[mc,h1,h2]:=D;#[mc,l h1,h2]];have e0:yk P w K A (Mg c.heap H) callerA [] c H:=#[rfl,hM,λb o e=>Xq e,pc^S7 _ _,trivial,λb g=>absurd (show b∈([]:v_ Ch)from g)^by simp,G,.of_eq hg];refine mR ((F _ L^l C).run callerA [] c H #[[.ref a],[]] [.ref a] [.ref a] _ _ hr e0 (y c^.ref a) (.cons rfl .nil)^U H hO hS) λr j h=>?_;cases r with
  |error e=>exact(W H e j h).elim
  | ok fl=>
   cases fl with
   |next=>exact kd h
   |brk=>exact kd h
   |cont=>exact kd h
   | ret u=>
    let#[v,H',os,M,un,N,r',q]:=h;have q':v=.bl t_:=q;subst q';obtain rfl:u=nY t_:=r';refine#[rfl,OldK.of_keep λb o e=>?_,os,M];cases q:H b with
    |none=>exact un.keep b o e q (by intro z;exact absurd (show b∈([]:v_ Ch)from z)^by simp)^by simp
    | some u=>
     rcases hO b with z|⟨ob,xs,z⟩
     .rw[q]at z;cases z
     .have z2:=un.vE b ob _ z
      let#[e1,_]:=G b _ z;let#[e2,_]:=N b _ z2;rw[e]at e1;cases e1
      exact e2
 cases Z:K.lookup a with
 |some o=>
  have e:=KX a o Z;rw[Q]at e;cases e;refine p (λ_=>s_) (λ_=>.inl rfl) (.inr #[_,t.toArray,_,Z,rfl,rfl,rfl,by rw[jn,E];exact hl,by simpa using rv]) (λb u z=>by have O:(s_:w_ HO)=P3 u:=z;cases O) (λb z=>absurd rfl z) λz=>absurd rfl z
 | none=>
  refine p (λb=>if b=a then P3^.frz {cls:=.type "list",data:=.seq t.toArray}^.lst^B.map V.int else s_) (λb=>?_) (.inl^.inr #[{cls:=.type "list",data:=.seq t.toArray},if_pos rfl]) (λb u z=>?_) (λb z=>?_) λ_=>Z
  .by_cases g:b=a
   .exact .inr #[_,_,if_pos g]
   .exact .inl^if_neg g
  .by_cases g:b=a
   .have O:=(if_pos g).symm.trans z
    cases O;subst g;exact#[Q,by rw[Ev];exact hl,t,_,rv,Q]
   .have O:=(if_neg g).symm.trans z
    cases O
  .by_cases g:b=a
   .exact g
   .exact absurd (if_neg g) z
def QU{l:PySem.W.OpenLaw}{K:Params->Frag}{CX:j4->Ts}{sp:j4->Sp}
  (P:l.most=P3 n) (z:n<=sizeLine) (A:d.params.defaults=[]) (Q:zy k callerA)
  (R:∀(w:j4) (h:jq),I w h->(K w.params).In h)
  (F:∀(w:j4) (p:Str->w_ Db) (t:Ch) (h:jq),(K w.params).In h->h.Ns mainGlobals p->p d.name=P3^.ref t->
   ∃fd:kX,(∀(s:Go) (u:Db),qk s fd #[[u],[]] [(x,u)]) /\
    ∀c:jq,(K w.params).In c->c.Ns mainGlobals p->zL l.prog w (K w.params) p c (CX w) k t fd [x]^sp w)
  (B:∀(w:j4) (H:Hp) (a:Ch) (y:v_ Int),y.length<=n->cq H->SqL (K w.params) H a^y.map V.int->sp w [.ref a] H (λv _=>v=.bl t_) λ_ _ _=>False)
  (C:∀(w:j4) (H:Hp) (s:Go) (e:Db) (D:Go),CX w [] H s (λ_ _ _=>False) e D->False):
  PySem.W.WalkO q j O I l.row.toRowW d [] (λf J=>PySem.call f J):=by
 refine Att.attach_call P A λw L M p mb t o pm cd S a J y G Y ho hd U E r m i X=>?_;have N:=R w _ Y;let#[fd,Z,hF]:=F w p t _ N G.T.g E;exact Vn N G.T.g G.T.b G.T.builtins G.T.nolimit X r m (jr i z) Q hF Z (λH hO hS=>B w H a y i hO hS) λH e D=>C w H _ e D
end L2
/- THE LAST THEOREM (shape;LID,My.* are yours):
   My.Adr:a structure of the addresses that your layer names (classes,functions);My.Txt K t:a structure (Prop) of the equations over K;
   My.txt_mk:{K}{implicit addresses ..} (e1:nsIn K mainGlobals "law"=P3^P3^.ref f) (e2:K.lookup f=P3 #[oc,od,.func^fnOf "law" "law" params body scope dV kV doc pm an cdv ct,sl]) (e3:codeIn K cdv "law"=t_) ..:∃ t,My.Txt K t
set_option maxRecDepth 100000 in
set_option maxHeartbeats 0 in
def PySem.Challenge.cw_LID_holds:PySem.Challenge.rw_LID.Holds:=by
 w_on;o_law;k_head;(case hw=>w_witness2)
 k_fill
 refine L2.QU (l:=PySem.Challenge.rw_LID) (n:=63) (k:=40) (x:="script") (CX:=λw=>..) (sp:=λ_=>My.sp_law) rfl (by cbv) rfl #[rfl,by cbv,by cbv] (λw h Y=>PySem.W.kIn_of Y) ?F ?S ?C
 case F=>
  intro w mg fa h KX G hmg
  have T:∃t,My.Txt (L2.KOf KX) t:=by
   dsimp only[L2.KOf] -- K must stand as «<heap const> w.params» for k_is
   refine' My.txt_mk ?e1 ?e2 ?e3 ..
   (case e1=>PySem.W.k_is) -- in the order:a name->its address->its object->its parts
   (case e2=>PySem.W.k_is)
   ..
  let#[t,T]:=T;have e0:=hmg.symm.trans^mg_of KX G T.law;cases e0 -- fa is the law's own address;exact#[_,λs u=>.of_eq rfl,λbase kb nb=>My.law_fn T kb nb] -- if «.of_eq rfl» comes too early:refine' #[_,?b,λbase kb nb=>My.law_fn T kb nb];exact λs u=>.of_eq rfl
 case S=>exact λw H a ns hl hO hS=>..
 case C=>exact ..
(the tactic k_is has no namespace:write k_is) -/
namespace L2
def BH(s:kn):Arguments:=match s with
 |.FunctionDef _ a _ _ _ _ _ _ _ _=>a
 |_=>{posonlyargs:=[],args:=[],vararg:=s_,kwonlyargs:=[],kw_defaults:=[],kwarg:=s_,defaults:=[]}
def Aj(s:kn):v_ kn:=match s with
 |.FunctionDef _ _ b _ _ _ _ _ _ _=>b
 |_=>[]
def AK(s:kn):mP:=match s with
 |.FunctionDef _ _ _ _ _ _ a _ _ _=>a
 |_=>{kind:=.function,names:=[],isGenerator:=u_,isCoroutine:=u_}
abbrev EW:Ts:=λ_ _ _ _ _ _=>False
abbrev E0:XK:=λ_ _ _=>False
def HU:Cq EW X E0:=λ_ _ _ _ _ _ _ h=>h.elim
structure Fun (K:Frag) (x qual:Str) (st:kn) (f:Ch) (fd:kX):Prop where
 ex:∃(oc:Db) (od:Option Ch) (kV doc pm:Db) (an:Option Ch) (cdv ct:Db) (osl:Array^Option Db),
  fd=fnOf x qual (BH st) (Aj st) (AK st) .none kV doc pm an cdv ct/\K.lookup f=P3 #[oc,od,.func fd,osl]/\codeIn K cdv qual=t_
 kp:keepIn K^.ref f=t_
section
variable {K:Frag}
def Fun.ok(F:Fun K x a g f fd)(S:A8 N i^AK g)(len:∀c H Q E,sp c H Q E->c.length=i.length)
  (d:∀(e:Db) (A:kA) (b:v_ Env) (s:Go) (H:Hp) (c:v_ V) (Q:VK) (E:XK),zy k^A.deeper^envOfC a (AK g) s.heap.objs.size f e->sp c H Q E->
   ∃t,PSs (C5 EW P w K mg base N a (AK g) f e A b s H E).nox (Aj g) t/\t {nx:=λ_ m=>Q .non m,rt:=Q} (start N c) H):zL P w K mg base EW (k+1) f fd i sp:=by
 let#[u,v,y,n,z,B,e,C,o,rfl,p,j]:=F.ex;refine ZY p j S len λA b s H c Q E r l=>?_;let#[t,h,q]:=d _ A _ s H c Q E r l;exact#[t,h.nox,q]
def Fun.binds(F:Fun K x a d f fd)
  (h:∀(e b g:Db) (i:w_ Ch) (c j:Db) (k:v_ Db),k.length=ps.length->bindArgs (fnOf x a (BH d) (Aj d) (AK d) .none e b g i c j) #[k,[]]=pure^ps.zip k):Binds K fd ps []:=by
 let#[n,o,e,b,g,i,c,j,l,rfl,p,m]:=F.ex;exact .all^h e _ g i _ j
def Jg{st:kn}{kV d h b i:Db}(l:K.lookup f=P3 #[j,m,.func^fnOf x a (BH st) (Aj st) (AK st) .none kV d h e b i,g])
  (c:codeIn K b a=t_) (k:keepIn K^.ref f=t_):Fun K x a st f^fnOf x a (BH st) (Aj st) (AK st) .none kV d h e b i:=#[#[j,m,kV,_,h,e,_,i,_,rfl,l,c],k]
end
def GI(a:zy k A):A.units+1<cLine:=nh (Nat.add_le_add_left (by cbv) _) a.units
section

def pv(i:Nat)(b:X.N[i]?=P3 x:=by rfl)(c:Ov X.env.scope x:=by first|exact kF rfl|exact k6 (kF rfl)|exact k6 (k6 rfl))(hd:dbN x:=by decide)
  (a:(x==("__classdict__":Str))=u_:=by decide):PE X (.Name x pos)^Bs i:=DB b c hd a
end
theorem Ay{A B:Prop}(h:B):if u_=t_ then A else B:=by
 grind
theorem BE{A B:Prop}(h:A):if t_=t_ then A else B:=by
 grind
theorem Eo{c A B:Prop}[Decidable c](h1:c->A)(a:¬c->B):if c then A else B:=by
 grind
section
variable [DecidableEq κ]
def Cw(a:v_ (κ×V))(k:κ):w_ V:=(a.find? λb=>decide (b.1=k)).map (·.2)
def putK(a:v_ (κ×V))(k:κ)(v:V):v_ (κ×V):=
 if(a.any λb=>decide (b.1=k))=t_ then a.map (λb=>if b.1=k then(b.1,v)else b)else a++[(k,v)]
def Dk{k:κ}(e:p.1=k):Cw (p::r) k=P3 p.2:=by simp[Cw,e]
def Dl{k:κ}(e:¬p.1=k):Cw (p::r) k=Cw r k:=by simp[Cw,e]
theorem NJ(k:κ):∀a:v_ (κ×V),(a.any λb=>decide (b.1=k))=(Cw a k).isSome
 |[]=>rfl
 |p::r=>by
  rw[List.any_cons]
  by_cases e:p.1=k
  .simp[Dk e,decide_eq_true e,Bool.true_or]
  .rw[Dl e,decide_eq_false e];exact NJ k r
theorem Ek(a:v_ (κ×V))(k:κ)(v:V):(putK a k v).length<=a.length+1:=by
 unfold putK
 grind
def vH.vB(r:vH o u):o.isSome=u.isSome:=by
 cases o with
 |none=>cases u with
  |none=>rfl
  |some _=>exact(r).elim
 |some _=>cases u with
  |none=>exact(r).elim
  |some _=>rfl
def vH.getD(r:vH o u)(b:RelV d a):RelV (o.getD d)^u.getD a:=by
 cases o with
 |none=>cases u with
  |none=>exact b
  |some _=>exact(r).elim
 |some _=>cases u with
  |none=>exact(r).elim
  |some _=>exact r
def KV.val(r:KV a f)(k:κ):vH (Cw a k)^valueAt f k:=by
 induction r with
 |nil=>exact lW
 | @cons p q l c h t i=>
  let#[g,j]:=h
  by_cases e:p.1=k
  .have d:=g.symm.trans e
   have b:valueAt (q::c) k=P3 q.2:=by simp[valueAt,d]
   rw[Dk e,b];exact j
  .have d:¬q.1=k:=λz=>e^g.trans z
   have b:valueAt (q::c) k=valueAt c k:=by simp[valueAt,d]
   rw[Dl e,b];exact i
def KV.any(r:KV a c)(k:κ):(a.any λb=>decide (b.1=k))=c.any λb=>decide (b.1=k):=by
 induction r with
 |nil=>rfl
 |cons h t d=>simp_all
def KV.repl(r:KV b c)(k:κ)(f:RelV y u):
  KV (b.map λa=>if a.1=k then(a.1,y)else a) (c.map λa=>if a.1=k then(a.1,u)else a):=by
 induction r with
 |nil=>exact .nil
 |@cons p q g i h t d=>
  refine .cons ?_ d
  by_cases e:p.1=k
  .simp_all
  simp_all
def KV.put(r:KV kvs a)(k:κ)(b:RelV y u):KV (putK kvs k y)^stored a k u:=by
 unfold putK stored;rw[r.any k]
 by_cases e:(a.any λc=>decide (c.1=k))=t_
 .rw[if_pos e,if_pos e];exact r.repl k b
 .rw[if_neg e,if_neg e];exact Paired.snoc r #[rfl,b]
def KV.length(r:KV a b):a.length=b.length:=Paired.length r
end
def Hf(r:RelV (kV k) u):(Av P w).is k u=t_:=by
 cases k with
 |inl i=>let#[t,e]:=(r);subst e;exact Nw P w i t
 |inr x=>let#[t,e]:=(r);subst e;exact Nv P w x t
theorem LZ:∀{a:v_ Key}{b:v_ Db},zv (a.map kV) b->ItemsAre (Av P w) a b
 |[],_,r=>by cases r;exact .nil
 |k::a,_,r=>by
  cases r with
  |cons h t=>exact .cons (Hf h)^LZ t
abbrev KT(H:Hp):v_ (v_ Key×V)->v_ (v_ Key×Ch×Db)->Prop:=Paired λp q=>p.1=q.1/\H q.2.1=P3^.tup^p.1.map kV/\RelV p.2 q.2.2
def KT.val(r:KT H a f)(k:v_ Key):vH (Cw a k) ((atKey f k).map (·.2)):=by
 induction r with
 |nil=>exact lW
 | @cons p q l c h t i=>
  let#[g,_,j]:=h
  by_cases e:p.1=k
  .have d:=g.symm.trans e
   have b:atKey (q::c) k=P3 q.2:=by simp[atKey,d]
   rw[Dk e,b];exact j
  .have d:¬q.1=k:=λz=>e^g.trans z
   have b:atKey (q::c) k=atKey c k:=by simp[atKey,d]
   rw[Dl e,b];exact i
def KT.repl(r:KT H a c)(k:v_ Key)(f:RelV y u):
  KT H (a.map λb=>if b.1=k then(b.1,y)else b) (c.map^putAt k u):=by
 induction r with
 |nil=>exact .nil
 |@cons p q g i h t d=>
  refine .cons ?_ d;unfold putAt
  by_cases e:p.1=k
  .simp_all
  simp_all
def KT.put(r:KT H kvs a)(k:v_ Key)(d:H b=P3^.tup^k.map kV)(c:RelV y u):
  KT H (putK kvs k y) (storedH a k b u):=by
 have e:(kvs.any λf=>decide (f.1=k))=(atKey a k).isSome:=by
  rw[NJ,(r.val k).vB,qY]
 unfold putK storedH;rw[e]
 by_cases q:(atKey a k).isSome=t_
 .rw[if_pos q,if_pos q];exact r.repl k c
 .rw[if_neg q,if_neg q];exact Paired.snoc r #[rfl,d,c]
def KT.keeps(r:KT H a d)(f:∀b e,H b=P3^.tup e->c b=P3^.tup e):KT c a d:=
 Paired.mapP r λ_ _ z=>#[z.1,f _ _ z.2.1,z.2.2]
section

def Y9(ok:HOk P w H h)(e:Rd H a u):zh P w H h a u:=e.ok ok
def FS(ok:HOk P w H h)(e:Rd H a^.dK b):b.length<=sizeLine/\(a==sysModules)=u_/\∃c,KV b c/\h.DictOf (Av P w) a c:=
 Y9 ok e
def Zn(ok:HOk P w H h)(e:H a=P3^.dK b):b.length<=sizeLine/\(a==sysModules)=u_/\∃c,KV b c/\h.DictOf (Av P w) a c:=FS ok^.inl e
def Em(ok:HOk P w H h)(e:H a=P3^.tup^b.map kV):(tupleKind^Av P w).is h b a:=by
 let#[_,c,r,o,d,f,n,g,_]:=(ok a _ e);exact#[o,_,n,d,f,g,by simpa using LZ r]
theorem Dy(ok:HOk P w H h)(e:Rd H a^.dT b):b.length<=sizeLine/\(a==sysModules)=u_ /\
  ∃d,KT H b d/\h.DictOfH (tupleKind^Av P w) a d:=by
 let#[z,y,d,r,o,f,g,i,j,k,n,s]:=(Y9 ok e);refine#[z,y,d,r,o,f,g,i,j,k,n,λx c=>?_,s]
 have all:∀{l:v_ _}{m:v_ _},KT H l m->∀x∈m,(tupleKind^Av P w).is h x.1 x.2.1:=by
  intro l m q
  induction q with
  |nil=>grind
  |@cons p q v A B t u=>
   intro x c
   rcases UF.mp c with e|c
   .exact Em ok^by grind
   .exact u x c
 exact all r x c
def Zl(ok:HOk P w H h)(e:H a=P3^.dT b):b.length<=sizeLine/\(a==sysModules)=u_ /\
  ∃c,KT H b c/\h.DictOfH (tupleKind^Av P w) a c:=Dy ok^.inl e
end
def vS(H:Hp)(a:Ch)(y:V)(r:w_ V):Prop:=
 (∃c k,Rd H a^.dK c/\y=kV k/\r=Cw c k)\/∃c k b,Rd H a^.dT c/\y=.ref b/\H b=P3^.tup^k.map kV/\r=Cw c k
def yJ(H:Hp)(a:Ch)(y v:V)(d:Hp):Prop:=
 (∃c k,H a=P3^.dK c/\y=kV k/\c.length<sizeLine/\d=AX H a^.dK^putK c k v) \/
 ∃c k b,H a=P3^.dT c/\y=.ref b/\H b=P3^.tup^k.map kV/\c.length<sizeLine/\d=AX H a^.dT^putK c k v
theorem vS.k{k:Key}(e:H a=P3^.dK b):vS H a (kV k)^Cw b k:=.inl #[_,k,.inl e,rfl,rfl]
theorem yJ.k{k:Key}(e:H a=P3^.dK b)(c:b.length<sizeLine):yJ H a (kV k) v^AX H a^.dK^putK b k v:=.inl #[_,k,e,rfl,c,rfl]
def yJ.t{k:v_ Key}(e:H a=P3^.dT c)(eb:H b=P3^.tup^k.map kV)(d:c.length<sizeLine):
  yJ H a (.ref b) v (AX H a^.dT^putK c k v):=.inr #[_,k,b,e,rfl,eb,d,rfl]
section

def Inv.big(I:Inv X zF σ H s):sysModules<s.heap.objs.size:=Nat.lt_trans (by cbv) (I.mod.glob.keeps I.bk).lt
def TY(B:A.units+1<cLine)(I:Inv X zF σ H s)(g:vS H a y^P3 v)(t:RelV y u)(h:∀f x,Inv X zF σ H x->RelV v f->Q f x):
  wpAny (model X.prog X.w) A (getItem (.ref a) u) Q E s:=by
 rcases g with⟨i,k,e,j,l⟩|⟨i,k,b,e,j,C,l⟩
 .subst j
  let#[z,D,F,c,m]:=FS I.hok e;let#[f,n,d]:=vH.some_of (v:=v) (o:=valueAt F k) (by rw[l];exact c.val k);exact wpAny_getItem_of (Hf t) m.mapOf n^h f _ (I.tok _) d
 .subst j
  cases(show u=Uf b from t);let#[z,D,G,c,m]:=Dy I.hok e;let#[f,n,d]:=vH.some_of (v:=v) (o:=(atKey G k).map (·.2)) (by rw[l];exact c.val k);let#[p,J,q]:=kO.mp n;refine wpAny_getItem_heap (mN B) (Em I.hok C) m J ?_;rw[q];exact h f _ (I.tok _) d
def ie(p:A.units+1<cLine)(I:Inv X zF σ H s)(g:vS H a y o)(m:RelV y u)(h:∀n,Inv X zF σ H n->Q (.bool o.isSome) n):
  wpAny (model X.prog X.w) A (compareOp .In u^.ref a) Q E s:=by
 rcases g with⟨d,k,e,f,l⟩|⟨d,k,b,e,f,t,l⟩
 .subst f
  let#[z,i,x,c,j]:=FS I.hok e;refine wpAny_in_of (Hf m) i j.mapOf ?_;rw[←(c.val k).vB,←l];exact h _^I.tok _
 .subst f
  cases(show u=Uf b from m);let#[z,i,B,c,j]:=Dy I.hok e;refine wpAny_in_heap (mN p) (Em I.hok t) i j ?_;have q:=(c.val k).vB;rw[qY]at q;rw[←q,←l];exact h _^I.tok _
def YZ(p:A.units+1<cLine)(I:Inv X zF σ H s)(g:vS H a y o)(m:RelV y u)(h:∀n,Inv X zF σ H n->Q (.bool (!o.isSome)) n):
  wpAny (model X.prog X.w) A (compareOp .NotIn u^.ref a) Q E s:=by
 rcases g with⟨d,k,e,f,l⟩|⟨d,k,b,e,f,t,l⟩
 .subst f
  let#[z,i,x,c,j]:=FS I.hok e;refine wpAny_notIn_of (Hf m) i j.mapOf ?_;rw[←(c.val k).vB,←l];exact h _^I.tok _
 .subst f
  cases(show u=Uf b from m);let#[z,i,B,c,j]:=Dy I.hok e;refine wpAny_notIn_heap (mN p) (Em I.hok t) i j ?_;have q:=(c.val k).vB;rw[qY]at q;rw[←q,←l];exact h _^I.tok _
def IX(I:Inv X zF σ H s)(e:gS^H a)(f:mC a s.heap c)(g:∃q,c.get? a=P3 q)(new:zh X.prog X.w (AX H a ob) c a ob):
  Inv X zF σ (AX H a ob) {s with heap:=c,toks:=d}:=
 I.write e (.inl rfl) (λb q h z=>(f.2 b h).trans z) g new
def WI(z:b.length<=sizeLine)(hd:(a==sysModules)=u_)(d:KV b c)(g:e.DictOf (Av P w) a c):
  zh P w f e a (.dK b):=#[z,hd,c,d,g]
theorem Lj(M:A.units+1<cLine)(I:Inv X zF σ H s)(g:yJ H a y v D)(F:RelV y u)(rv:RelV v r)(h:∀G,Inv X zF σ D G->Q () G):
  wpAny (model X.prog X.w) A (setItem (.ref a) u r) Q E s:=by
 rcases g with⟨d,k,e,m,l,n⟩|⟨d,k,b,e,m,J,l,n⟩
 .subst m n
  let#[z,p,N,f,t]:=Zn I.hok e;have x:N.length<=sizeLine:=by rw[←f.length];exact z
  have B:(putK d k v).length<=sizeLine:=by have:=Ek d k v;lk
  refine wpAny_setItem_pairs (hsz:=x) (Hf F) t λK i C=>h _ ?_;have O:∃q,K.get? a=P3 q:=let #[q,_,_,j,_]:=i;#[q,j]
  exact IX I (by rw[e];exact lW) C O^WI B p (f.put k rv) i
 .subst m n
  cases(show u=Uf b from F);let#[z,p,P,f,t]:=Zl I.hok e;have x:P.length<=sizeLine:=by rw[←Paired.length f];exact z
  have B:(putK d k v).length<=sizeLine:=by have:=Ek d k v;lk
  refine wpAny_setItem_heap (hsz:=x) (mN M) (Em I.hok J) t λK i C=>h _ ?_;let#[q,R,S,j,T,U,V,_,W]:=i;refine IX I (by rw[e];exact lW) C #[q,j] #[B,p,_,(f.put k J rv).keeps λc Y L=>?_,q,R,S,j,T,U,V,W];rw[AG^ZV L e λz=>nomatch z];exact L
end
def Yt(i:jx):Prop:=∀a b,subscripted i u_ a b=operate [a,b]^getItem a b
def XJ
  (m:typeLookup (.type T) "__getitem__"=pure^P3^.builtin l) (n:Yt a)
  (h:wpAny (model b w) A (eval value f) (λo e=>wpAny (model b w) A (eval a f) (λi c=>c.TypeIs o T/\wpAny (model b w) A (getItem o i) Q E c) E e) E s):
  wpAny (model b w) A (eval (.Subscript value a pos) f) Q E s:=by
 refine Subscript_^kP h (λo e g=>kP g (λi c d=>?_) λ_ _ x=>x) λ_ _ x=>x;let#[p,d]:=d;refine Cn ?_;refine Cn^rE p m ?_
 first
  |exact On (Cn (by
  rw[n o i];exact wpAny_operating^kP d (λr k j=>Cn^wpAny_letTemporaryGo^On j) λ_ _ x=>x))
  |grind
  |grind
def OO(I:Inv X f h H s)(g:vS H a y o):s.TypeIs (.ref a) "dict":=by
 rcases g with⟨c,k,e,_,_⟩|⟨c,k,b,e,_,_,_⟩
 .let#[_,_,i,_,d]:=FS I.hok e
  exact d.typeIs
 .let#[_,_,j,_,d]:=Dy I.hok e
  exact d.typeIs
def d9(c ty:TE):TE:=λb H Q=>c b H λx H1=>ty b H1 λy H2=>∃a v,x=.ref a/\vS H2 a y^P3 v/\Q v H2
def eG(d ty e:TE):TS:=λD b H=>e b H λv H1=>d b H1 λx H2=>ty b H2 λy f=>∃a c,x=.ref a/\yJ f a y v c/\D.nx b c
section

def IH(e:X.A.units+1<cLine)(f:PE X o td)(hi:PE X i ty)(j:Yt i):PE X (.Subscript o i pos)^d9 td ty:=by
 intro t s c H Q I h;refine XJ PySem.F.slot_dict_getitem.lookup j^Ao (f _ s c H _ I h) λu k zz=>?_;let#[x,H1,l,m,n]:=zz;refine Ao (hi _ k c H1 _ l n) λw z zz=>?_;let#[y,H2,d,p,a,v,ex,g,q]:=zz;subst ex;obtain rfl:u=Uf a:=m;exact#[OO d g,TY e d g p λB C r b=>#[v,H2,r,b,q]]
def IG(c:X.A.units+1<cLine)(d:PE X o td)(hi:PE X i ty)(e:PE X value tv)(f:swapsWith value (P3^.Subscript o i pos') pos.line X.env=pure u_):
  PS X (.Assign [.Subscript o i pos'] value pos) (eG td ty tv):=by
 intro F s b H D I h;refine wpAny_Assign_Subscript (Ao (e _ s b H _ I h) λr j zz=>?_) f;let#[v,H1,k,l,m]:=zz;refine Ao (d _ j b H1 _ k m) λu n zz=>?_;let#[x,H2,p,q,t]:=zz;refine Ao (hi _ n b H2 _ p t) λG J zz=>?_;let#[y,K,w,z,a,B,ex,g,C]:=zz;subst ex;obtain rfl:u=Uf a:=q;exact Lj c w g z l λL E=>#[b,B,E,C]
end
def ON(h:jq)(a:sysModules<h.objs.size):zh P w H (h.push {cls:=.type "dict",data:=.dict #[]}) h.objs.size^.dK []:=
 #[jp _,beq_eq_false_iff_ne.mpr^kM^jo a,[],.nil,Heap.DictOf.new h]
def WC(h:jq)(a:sysModules<h.objs.size):zh P w H (h.push {cls:=.type "dict",data:=.dict #[]}) h.objs.size^.dT []:=
 #[jp _,beq_eq_false_iff_ne.mpr^kM^jo a,[],.nil,_,_,0,TW _ rfl,#[rfl,rfl,rfl],rfl,rfl,ki]
def aT:TE:=λ_ H Q=>∀p,H p=s_->Q (.ref p)^AX H p^.dK []
def aS:TE:=λ_ H Q=>∀p,H p=s_->Q (.ref p)^AX H p^.dT []
section

def JH:PE X (.Dict [] [] pos) aT:=λa s b H Q I h=>
 wpAny_Dict_empty #[.ref _,_,I.laid (λ_ _ q=>FM _ q) (Sc _)^ON _ I.big,rfl,h _^I.hok.fresh^Sc _]
def VG:PE X (.Dict [] [] pos) aS:=λa s b H Q I h=>
 wpAny_Dict_empty #[.ref _,_,I.laid (λ_ _ q=>FM _ q) (Sc _)^WC _ I.big,rfl,h _^I.hok.fresh^Sc _]
end
def PB:v_ (TE×TE)->St->Hp->(v_ (V×V)->Hp->Prop)->Prop
 |[],_,H,Q=>Q [] H
 |(b,c)::r,a,H,Q=>b a H λx H1=>c a H1 λy H2=>PB r a H2 λd e=>Q ((x,y)::d) e
abbrev VV:v_ (V×V)->v_ (Db×Db)->Prop:=Paired λp q=>RelV p.1 q.1/\RelV p.2 q.2
def gp(X:Cx)(pos:Pos)(b:v_^w_ jx)(a:v_ jx)(c:v_ (TE×TE)):Prop:=
 ∀(e:v_ (Ch×Obj)) (s:Go) (d:St) (H:Hp) (Q:v_ (V×V)->Hp->Prop),Inv X e d H s->PB c d H Q->
  wpAny (model X.prog X.w) X.A (evalPairs^pairTrees b a X.env pos) (λh i=>∃f g,Inv X e d g i/\VV f h/\Q f g) X.xe s
def Qt:gp X pos [] [] []:=λa s b H Q I h=>pairTrees_nil_walk #[[],H,I,.nil,h]
def JE(g:PE X k tk)(i:PE X v f)(j:gp X pos d e a):
  gp X pos (P3 k::d) (v::e) ((tk,f)::a):=λB s b H Q I h=>
 pairTrees_cons_walk (Ao (g _ s b H _ I h) λu l #[x,H1,m,n,o]=>Ao (i _ l b H1 _ m o) λC p #[y,H2,q,r,t]=>
  Ao (j _ p b H2 _ q t) λD E #[F,w,z,c,A]=>#[_,w,z,.cons #[n,r] c,A])
def Fg(a more:v_ (Key×V)):v_ (Key×V):=more.foldl (λb c=>putK b c.1 c.2) a
def KV.merge:∀{a:v_ (Key×V)}{d:v_ (Key×Db)}{b:v_ (Key×V)}{c:v_ (Key×Db)},KV a d->KV b c->KV (Fg b a)^merged c d:=by
 intro a d b c r
 induction r generalizing b c with
 |nil=>intro q;exact q
 | @cons p q g i h t e=>
  intro f
  exact e (by
   have:=f.put p.1 h.2
   simp_all)
theorem FR:∀(more a:v_ (Key×V)),(Fg a more).length<=a.length+more.length
 |[],a=>by show a.length<=a.length+0;lk
 |p::r,a=>by
  have b:=FR r^putK a p.1 p.2;have c:=Ek a p.1 p.2;show(Fg _ r).length<=_
  grind
theorem J1:∀{d:v_ (Key×V)}{f:v_ (Db×Db)},VV (d.map λg=>(kV g.1,g.2)) f->∃e,Carries (Av P w) f e/\KV d e
 |[],_,r=>by cases r;exact#[[],lW,.nil]
 | p::d,_,r=>by
  cases r with
  |@cons a b j k h t=>
   let#[e,c,q]:=J1 t;let#[l,i]:=b;exact#[(p.1,i)::e,#[Hf h.1,rfl,c],.cons #[rfl,h.2] q]
def d8(b:v_ (TE×TE)):TE:=λd H Q=>∀p,H p=s_->PB b d (AX H p^.dK []) λe H2=>H2 p=P3^.dK []/\∃a:v_ (Key×V),e=a.map (λc=>(kV c.1,c.2))/\a.length<=15/\Q (.ref p)^AX H2 p^.dK^Fg [] a
theorem Qz(h:gp X pos b d f)(g:b.all (·.isSome)=t_)(n:b.length=d.length)(p:b≠[])
  (k:b.length<=15):PE X (.Dict b d pos)^d8 f:=by
 intro r s t H Q I q;have u:=I.hok.fresh^Sc s.heap.objs.size;have v:=I.laid (a:=s.heap.objs.size) (o:=.dK []) (h':=s.heap.push {cls:=.type "dict",data:=.dict #[]}) (t':=s.toks) (λ_ _ q=>FM _ q) (Sc _)^ON s.heap I.big;refine wpAny_Dict_walk (knd:=Av X.prog X.w) g n p k^Ao (h r _ t _ _ v^q _ u) λN O zz=>?_;let#[R,H2,m,l,e,i,x,S,y]:=zz;subst x;let#[A,c,B]:=J1 (P:=X.prog) (w:=X.w) l;let#[z,C,D,E,F]:=Zn m.hok e;cases E;refine#[A,c,F,λh' j G=>#[.ref s.heap.objs.size,_,?_,rfl,y]]
 have J:(Fg [] i).length<=sizeLine:=by
  have K:=FR i [];rw[j_]at K;rw[kJ];lk
 have L:∃q,h'.get? s.heap.objs.size=P3 q:=let #[q,_,_,M,_]:=j;#[q,M]
 exact IX m (by rw[e];exact lW) G L^WI J C (B.merge .nil) j
structure M1 (X:Cx) (o:jx) (m:Str) (apos:Pos) (e:jx) (cpos:Pos):Prop where
 base:attributeBase o m X.env^eval o X.env=eval o X.env
 few:((backTo cpos^starEach [e] X.env).all (λx=>!x.1)&&(backToKw cpos^keywordEach [] X.env).all (λx=>x.1.isSome)
  && decide (([e]:List jx).length+([]:List nH).length+(if([]:List nH).isEmpty then 0 else 1)<30))=t_
 line:(apos.endLine==cpos.line)=t_
 trees:backTo cpos^starEach [e] X.env=[(u_,eval e X.env)]
structure M2 (X:Cx) (o:jx) (m:Str) (apos:Pos) (e f:jx) (cpos:Pos):Prop where
 base:attributeBase o m X.env^eval o X.env=eval o X.env
 few:((backTo cpos^starEach [e,f] X.env).all (λx=>!x.1)&&(backToKw cpos^keywordEach [] X.env).all (λx=>x.1.isSome)
  && decide (([e,f]:List jx).length+([]:List nH).length+(if([]:List nH).isEmpty then 0 else 1)<30))=t_
 line:(apos.endLine==cpos.line)=t_
 trees:backTo cpos^starEach [e,f] X.env=[(u_,eval e X.env),(u_,eval f X.env)]
def gu(H:Hp)(a:Ch):Prop:=(∃b,Rd H a^.dK b)\/∃b,Rd H a^.dT b
def P1(I:Inv X j k H s)(d:gu H a):
  s.TypeIs (.ref a) "dict"/\(∀b,Uf a=.ref b->∃ob,s.heap.get? b=P3 ob/\ob.dict=s_)/\(a==sysModules)=u_:=by
 rcases d with⟨f,e⟩|⟨f,e⟩
 .let#[_,g,l,_,c]:=FS I.hok e
  refine#[c.typeIs,λb q=>?_,g];cases q;let#[ob,_,_,h,i,_]:=c;exact#[ob,h,i.2.1]
 .let#[_,g,m,_,c]:=Dy I.hok e
  refine#[c.typeIs,λb q=>?_,g];cases q;let#[ob,_,_,h,i,_]:=c;exact#[ob,h,i.2.1]
section

def cJ(t:A.units+1<cLine)(I:Inv X zF σ H s)(g:vS H a y o)(n:RelV y u)(h:∀p q,Inv X zF σ H q->RelV (o.getD .non) p->Q p q):
  wpAny (model X.prog X.w) A (call (.builtin "dict.get") [.ref a,u]) Q E s:=by
 rcases g with⟨i,k,e,j,l⟩|⟨i,k,b,e,j,v,l⟩
 .subst j
  let#[z,m,B,c,f]:=FS I.hok e;refine oE PySem.F.slot_dict_get f.typeIs PySem.F.entry_dict_get (PySem.F.args_dict_get_2 _ _) (meets_dict_get (Av X.prog X.w) a (Hf n) m) #[_,f.mapOf,h _ _ (I.tok _) ?_];rw[l];exact(c.val k).getD rfl
 .subst j
  cases(n);let#[z,m,x,c,f]:=Dy I.hok e;refine oE PySem.F.slot_dict_get f.typeIs PySem.F.entry_dict_get (PySem.F.args_dict_get_2 _ _) (meetsH_dict_get _ a b m) #[mN t,k,x,Em I.hok v,f,h _ _ (I.tok _) ?_];rw[l];exact(c.val k).getD rfl
def cI(v:A.units+1<cLine)(I:Inv X zF σ H s)(g:vS H a y o)(n:RelV y u)(p:RelV d r)(h:∀q t,Inv X zF σ H t->RelV (o.getD d) q->Q q t):
  wpAny (model X.prog X.w) A (call (.builtin "dict.get") [.ref a,u,r]) Q E s:=by
 rcases g with⟨i,k,e,j,l⟩|⟨i,k,b,e,j,x,l⟩
 .subst j
  let#[z,m,C,c,f]:=FS I.hok e;refine oE PySem.F.slot_dict_get f.typeIs PySem.F.entry_dict_get (PySem.F.args_dict_get_3 _ _ _) (meets_dict_get_default (Av X.prog X.w) a (Hf n) m r) #[_,f.mapOf,h _ _ (I.tok _) ?_];rw[l];exact(c.val k).getD p
 .subst j
  cases(n);let#[z,m,B,c,f]:=Dy I.hok e;refine oE PySem.F.slot_dict_get f.typeIs PySem.F.entry_dict_get (PySem.F.args_dict_get_3 _ _ _) (meetsH_dict_get_default _ a b m r) #[mN v,k,B,Em I.hok x,f,h _ _ (I.tok _) ?_];rw[l];exact(c.val k).getD p
end
def aV(c ty:TE):TE:=λb H Q=>c b H λx H1=>∃a,x=.ref a/\gu H1 a/\ty b H1 λy H2=>∃o,vS H2 a y o/\Q (o.getD .non) H2
def aU(d ty e:TE):TE:=λb H Q=>d b H λx H1=>∃a,x=.ref a/\gu H1 a/\ty b H1 λy H2=>e b H2 λz c=>∃o,vS c a y o/\Q (o.getD z) c
section

def VI(j:X.A.units+1<cLine)(k:PE X o td)(l:PE X e ty)(m:M1 X o "get" apos e cpos):PE X (.Call (.Attribute o "get" apos) [e] [] cpos)^aV td ty:=by
 intro C s c H Q I h;refine wpAny_Call_method m.base m.few m.line PySem.F.plainAttrs_dict PySem.F.slot_dict_get PySem.F.type_dict_get^Ao (k _ s c H _ I h) λu n zz=>?_;let#[x,H1,i,p,a,ex,d,q]:=zz;subst ex;obtain rfl:u=Uf a:=p;let#[r,t,_]:=P1 i d;exists r,t;rw[m.trees];refine mE rfl (oO^mM^Ao (l _ n c H1 _ i q) λD E zz=>?_);let#[y,H2,v,w,G,g,z]:=zz;exact m9^cJ j v g w λJ K B b=>#[_,H2,B,b,z]
def VH(j:X.A.units+1<cLine)(k:PE X o td)(l:PE X e ty)(n:PE X f tx)(m:M2 X o "get" apos e f cpos):PE X (.Call (.Attribute o "get" apos) [e,f] [] cpos)^aU td ty tx:=by
 intro M s b H Q I h;refine wpAny_Call_method m.base m.few m.line PySem.F.plainAttrs_dict PySem.F.slot_dict_get PySem.F.type_dict_get^Ao (k _ s b H _ I h) λu p zz=>?_;let#[x,H1,i,q,a,ex,d,r]:=zz;subst ex;obtain rfl:u=Uf a:=q;let#[t,v,_]:=P1 i d;exists t,v;rw[m.trees]
 exact mE rfl (oO (mM (Ao (l _ p b H1 _ i r) λN w #[y,H2,B,C,D]=>
  mM (Ao (n _ w b H2 _ B D) λO P #[z,E,G,J,R,g,K]=>m9^cI j G g C J λS T L c=>#[_,E,L,c,K]))))
end
end L2
set_option maxHeartbeats 4000000
namespace L2
section
def QF:∀(f:v_ (Str×mh)) (h:v_ (Str×Ch)),(∀x,(x,kr)∈f->∃c,g.cells.lookup x=P3 c)->(∀x c,h.lookup x=P3 c->g.cells.lookup x=P3 c)->
  ∃i,(forIn f h fun(x:Str×mh) (r:v_ (Str×Ch))=>(if(x.2==kr)=t_ then do let a ←cellOf g x.1;pure^ni ((x.1,a)::r) else pure^ni r:Sem^ForInStep^v_ (Str×Ch)))=(pure i:Sem _) /\
   (∀x c,i.lookup x=P3 c->g.cells.lookup x=P3 c)/\(∀x,((x,kr)∈f\/∃c,h.lookup x=P3 c)->∃c,i.lookup x=P3 c):=by
 intro f
 induction f with
 |nil=>
  intro h _ m;exact#[h,rfl,m,λx d=>d.elim (λz=>absurd z^by simp) λz=>z]
 | cons p r w=>
  intro h q m;let#[n,k]:=p
  by_cases s:k=kr
  .subst s
   let#[c,y]:=q n No;have j:cellOf g n=pure c:=by simp only[cellOf,y]
   let#[i,e,a,b]:=w ((n,c)::h) (λx d=>q x^Rs _ d) (λx o d=>by
    rw[mi]at d;cases t:x==n with
    |true=>
     rw[t]at d;have u:P3 c=P3 o:=d;cases u
     have:x=n:=by simpa using t
     rw[this];exact y
    |false=>rw[t]at d;exact m x o d)
   refine#[i,?_,a,λx d=>b x ?_]
   .rw[pf]
    simp only[beq_self_eq_true,if_true,j,pure_bind];exact e
   .by_cases l:x=n
    .subst l
     exact .inr #[c,by simp[mi]]
    .rcases d with d|⟨o,d⟩
     .rcases UF.mp d with d|d
      .cases d;exact absurd rfl l
      .exact .inl d
     .refine .inr #[o,?_]
      have:(x==n)=u_:=by simpa using l
      rw[mi,this];exact d
  .have v:(k==kr)=u_:=by simpa using s
   let#[i,e,a,b]:=w h (λx d=>q x^Rs _ d) m;refine#[i,?_,a,λx d=>b x ?_]
   .rw[pf]
    simp only[v,kG,if_false,pure_bind];exact e
   .rcases d with d|d
    .rcases UF.mp d with d|d
     .cases d;exact absurd rfl s
     .exact .inl d
    .exact .inr d
def J0(h:∀x,(x,kr)∈scope.names->∃c,env.cells.lookup x=P3 c):
  ∃d,closureFor scope env=pure d/\(∀x c,d.lookup x=P3 c->env.cells.lookup x=P3 c)/\(∀x,(x,kr)∈scope.names->∃c,d.lookup x=P3 c):=by
 let#[d,e,a,b]:=QF _ [] h (λx c f=>by simp at f);refine#[d,?_,a,λx f=>b x^.inl f];simp[closureFor]
 simp_all

def Ms(I:Nat->Go->Prop)
  (B:∀n s,I n s->wpAny (model prog w) A (pyNext F) (λr d=>match r with
   |none=>R (.ok .next) d
   | some v=>wpAny (model prog w) A (letOwnedTupleGo a F v) (λ_ e=>wpAny (model prog w) A (assign a b v) (λ_ i=>
     wpAny (model prog w) A (forIn y t_ λc r=>if r=t_ then do let ok ←isTrue c b^eval c b;pure^ni ok else pure^ni r) (λok f=>
      if ok=t_ then wpAny (model prog w) A (eval t b) (λx j=>
       wpAny (model prog w) A (call (.builtin "list.append") [z,x]) (λ_ k=>∃m,m<n/\I m k) (λ_ _=>False) j) (λ_ _=>False) f
      else ∃m,m<n/\I m f) (λ_ _=>False) i) (λ_ _=>False) e) (λ_ _=>False) d) (λ_ _=>False) s)
  (n:Nat) (h:I n s):
  codeAny (model prog w) A (.compLoop (.ListComp t [#[a,u,y,0]] p pos) 0 F z b) R s:=by
 refine codeAny_loop rfl I (λn s G=>?_) n h;refine wpAny_noted ?_;refine Cn^pG^Cn^kP (B n s G) (λr d l=>?_) λ_ _ g=>g.elim;cases r with
 |none=>exact On l
 | some v=>
  refine Cn^kP l (λ_ e q=>?_) λ_ _ g=>g.elim;refine Cn^kP q (λ_ i C=>Cn^kP C (λok f o=>?_) λ_ _ g=>g.elim) λ_ _ g=>g.elim;cases ok with
  |false=>exact On #[rfl,o]
  |true=>
   exact Cn^Cn^kP o (λx j D=>Cn^kP D (λ_ k E=>On^On #[rfl,E]) λ_ _ g=>g.elim) λ_ _ g=>g.elim
end
def Ah(X:Cx)(a:mP)(b:v_ Str)(c:v_ (Str×Ch))(C:Ch)(s:Go)(H:Hp)(ex:v_ Ch):Cx where
 prog:=X.prog
 w:=X.w
 K:=X.K
 mg:=X.mg
 base:=X.base
 A:=X.A
 N:=b
 s₀:=s
 H₀:=H
 env:=compEnvC a c C X.env
 outer:=X.stack
 stack:=X.stack
 ex:=ex
 fn:=λ_=>u_
 calm:=t_
 pn:=[]
 xe:=λ_ _=>False
def CQ(a:v_^w_ Nat)(b:St):St:=a.map λo=>match o with
 |some i=>(b[i]?).getD s_
 |none=>s_
def X5(o:w_ mh):Bool:=match o with
 |some .cell=>t_
 |some .free=>t_
 |_=>u_
theorem RH(h:X5 o=t_):o=P3 .cell\/o=P3 .free:=by
 unfold X5 at h
 split at h
 .grind
 .grind
 .cases h
def isFree(o:w_ mh):Bool:=match o with
 |some .free=>t_
 |_=>u_
def S5(h:isFree o=t_):o=P3 .free:=by
 unfold isFree at h
 split at h
 .rfl
 .cases h
def Vv(o:w_ mh):Bool:=match o with
 |some .local=>t_
 |_=>u_
def Vu(h:Vv o=t_):o=P3 .local:=by
 unfold Vv at h
 split at h
 .rfl
 .cases h
def Vx(k:ScopeKind):Bool:=match k with
 |.function=>t_
 |_=>u_
def Vw(h:Vx k=t_):k=.function:=by
 unfold Vx at h
 split at h
 .rfl
 .cases h
def iK(b a:mP)(p:Str×mh):Bool:=match p.2 with
 |.cell=>u_
 |.free=>X5^a.names.lookup p.1
 |.local=>Vv^b.names.lookup p.1
 |_=>t_
def ic(x:w_ Str)(y:Str):Bool:=match x with
 |some z=>z==y
 |none=>u_
theorem bz(h:ic x y=t_):x=P3 y:=by
 unfold ic at h
 split at h
 .grind
 .cases h
def J5(b a:mP)(N:v_ Str):v_ Str->v_^w_ Nat->Bool
 |[],[]=>t_
 |x::c,P3 j::d=>isFree^b.names.lookup x&&ic (N[j]?) x&&X5^a.names.lookup x&&J5 b a N c d
 |_::c,s_::d=>J5 b a N c d
 |_,_=>u_
def FT(b a:mP)(N c:v_ Str)(d:v_^w_ Nat):Bool:=Vx b.kind&&b.names.all^iK b a&&J5 b a N c d
theorem Eu:∀{c:v_ Str}{a:v_^w_ Nat},J5 d b N c a=t_->a.length=c.length
 |[],[],_=>rfl
 |x::e,P3 j::a,h=>by
  unfold J5 at h;rw[jv]at h;rw[f8,f8,Eu h.2]
 |x::e,s_::a,h=>by
  unfold J5 at h;rw[f8,f8,Eu h]
 |[],P3 _::_,h=>by cases h
 |[],s_::_,h=>by cases h
 |_::_,[],h=>by cases h
theorem Mu:∀{f:v_ Str}{d:v_^w_ Nat},J5 e a N f d=t_->∀{k:Nat}{x:Str}{j:Nat},f[k]?=P3 x->d[k]?=P3^P3 j->
  e.names.lookup x=P3 .free/\N[j]?=P3 x/\(a.names.lookup x=P3 .cell\/a.names.lookup x=P3 .free)
 |[],_,_,k,x,j,b,_=>by simp at b
 |_::_,[],h,_,_,_,_,_=>by unfold J5 at h;cases h
 | y::g,P3 i::d,h,k,x,j,b,c=>by
  unfold J5 at h;rw[jv,jv,jv]at h;cases k with
  |zero=>
   simp at b c;subst b c;exact#[S5 h.1.1.1,bz h.1.1.2,RH h.1.2]
  |succ k=>exact Mu h.2 (k:=k) (by simpa using b)^by simpa using c
 |y::g,s_::d,h,k,x,j,b,c=>by
  unfold J5 at h;cases k with
  |zero=>simp at c
  |succ k=>exact Mu h (k:=k) (by simpa using b)^by simpa using c
def Sw{k:Nat}(h:(CQ a b)[k]?=P3^P3 v):∃j,a[k]?=P3^P3 j/\b[j]?=P3^P3 v:=by
 unfold CQ at h;rw[ji]at h;cases e:a[k]? with
 |none=>simp_all
 | some o=>
  rw[e]at h;cases o with
  |none=>cases h
  |some j=>
   cases q:b[j]? with
   |none=>simp_all
   |some w=>simp_all
theorem Cs{a:Env}:∀{b:v_ (Str×mh)}{x:Str},b.lookup x=P3 .free->
  (b.map fun(n,k)=>if(k==kr&&a.scope.kind==.function&&a.kindOf n==P3 .cell)then(n,pH)else(n,k)).lookup x=P3 .cell \/
  (b.map fun(n,k)=>if(k==kr&&a.scope.kind==.function&&a.kindOf n==P3 .cell)then(n,pH)else(n,k)).lookup x=P3 .free
 |[],_,h=>by simp at h
 | (n,k)::r,x,h=>by
  have d:=@Cs a r x;show lj x ((if(k==kr&&a.scope.kind==.function&&a.kindOf n==P3 .cell)=t_ then(n,pH)else(n,k))::_)=_\/lj x ((if(k==kr&&a.scope.kind==.function&&a.kindOf n==P3 .cell)=t_ then(n,pH)else(n,k))::_)=_
  by_cases e:(k==kr&&a.scope.kind==.function&&a.kindOf n==P3 .cell)=t_
  .rw[if_pos e]
   cases c:x==n with
   |true=>exact .inl^by simp only[mi,c]
   |false=>
    simp only[mi,c]at h ⊢;exact d h
  .rw[if_neg e]
   cases c:x==n with
   |true=>
    simp_all
   |false=>
    simp only[mi,c]at h ⊢;exact d h
theorem PP(c:∀y∈a.names,y.2≠.cell)(h:(relabel a env).names.lookup x=P3 .cell\/(relabel a env).names.lookup x=P3 .free):(x,kr)∈a.names:=by
 have d:(x,pH)∈(relabel a _).names\/(x,kr)∈(relabel a _).names:=h.elim (λz=>.inl^PySem.mem_of_lookup z) λz=>.inr^PySem.mem_of_lookup z
 have go:∀k,(k=.cell\/k=.free)->(x,k)∈(relabel a env).names->(x,kr)∈a.names:=by
  intro k e b;unfold relabel at b
  grind
 exact d.elim (go _ (.inl rfl))^go _ (.inr rfl)
section

structure vT (X:Cx) (sc:mP) (N':List Str) (js:List^Option Nat):Prop where
 kind:sc.kind=.function
 cell:∀y∈sc.names,y.2≠.cell
 free:∀x,(x,kr)∈sc.names->X.env.scope.names.lookup x=P3 .cell\/X.env.scope.names.lookup x=P3 .free
 names:∀y∈sc.names,y.2=.local->sc.names.lookup y.1=P3 .local
 cap:J5 sc X.env.scope X.N N' js=t_
def vT.of(h:FT c X.env.scope X.N d f=t_):vT X c d f:=by
 unfold FT at h;rw[jv,jv,lE]at h;let#[#[g,a],i]:=h;refine#[Vw g,λy b e=>?_,λx j=>?_,λy b e=>?_,i]
 .have q:=a y b
  unfold iK at q
  simp_all
 .have q:=a _ j
  exact RH q
 .have q:=a y b
  unfold iK at q;rw[e]at q;exact Vu q
def OC{K:v_^w_ Nat}{V:Nat}(I:Inv X zF σ H s)(W:X.calm=t_)(O:vT X D E K)
  (d:∀x c,B.lookup x=P3 c->X.env.cells.lookup x=P3 c) (k:∀x,(x,kr)∈D.names->∃c,B.lookup x=P3 c)
  (G:∀b∈F,Gg X zF H b) (Y:∀b∈F,∃o,s.heap.get? b=P3 o)
  (L:f.Ns (s.heap.objs.size+1) λ_=>s_) (J:∀b o,s.heap.get? b=P3 o->f.get? b=P3 o) (Z:∃n,f.get? s.heap.objs.size=P3 {cls:=.type "list",data:=.seq #[] n}):
  Inv (Ah X D E B (s.heap.objs.size+1) s H F) [] (CQ K σ) (AX H s.heap.objs.size^.lst []) {s with heap:=f,toks:=V}:=by
 have fr:∀a,s.heap.objs.size<=a->H a=s_:=λa ha=>I.hok.fresh ha
 have h:∀x c,B.lookup x=P3 c->c<s.heap.objs.size:=λx c e=>by
  let#[v,q]:=I.cell x c^d x c e;exact q.lt
 have ok:(Ah X D E B (s.heap.objs.size+1) s H F).Ok:=by
  refine#[I.ok.mod,O.kind,I.ok.glob,I.ok.blt,kL _,λx y c C M=>I.ok.inj x y c (d x c C)^d y c M,λx N=>?_,λx c N=>?_,λ_=>I.ok.hd W,I.ok.frames,.inl rfl,λb t=>#[?_,λx c e=>?_],I.bs,jr I.ok.bsz I.sz,λb o e t=>?_,λb t P=>?_,I.stack,I.yK]
  .exact k x^PP (env:=X.env) O.cell N
  .exact absurd (show u_=t_ from N) jt
  .let#[o,e]:=Y b t
   exact jo^lL^Tk e
  .exact(G b t).2.2.2.2.1 x c^d x c e
  .rcases(G b t).2.2.2.1 with z|z
   .exact I.ok.noex b o e z
   .have C:b<X.base.objs.size:=Tk e
    exact absurd (jz C^jr I.ok.bsz z)^ko _
  .rcases UF.mp^I.yV b P with z|z
   .exact(G b t).2.1 z
   .exact(G b t).2.2.1 z
 exists ok,rfl,I.bare,?_,#[_,L,λi x v C M h3=>?_],λx c e=>?_,?_,λx c e=>?_,λp hp=>absurd (show p∈([]:v_ (Ch×Obj))from hp)^by simp,?_
 .exact Un.laid J (Sc _)^fr _^Sc _
 .let#[j,e1,e2]:=Sw M
  let#[T,c2,A]:=Mu O.cap C e1;let#[m,_,hl]:=I.loc;let#[u,r,l]:=hl j x v c2 e2^.inr A;refine#[u,r,.inr #[Cs T,?_]]
  rcases l with⟨l1,_⟩|⟨_,c,l2,l3⟩
  .have Q:X.env.scope.names.lookup x=P3 .local:=l1
   rcases A with A|A <;>(rw[Q]at A;cases A)
  .let#[R,U]:=k x^PySem.mem_of_lookup T
   have:R=c:=ZB^(d x R U).symm.trans l2
   subst this;let#[S,w,g]:=id l3;exact#[R,U,S,J _ _ w,g]
 .let#[v,S,w,g]:=I.cell x c^d x c e
  exact#[v,S,J _ _ w,g]
 .show AX H s.heap.objs.size (.lst []) (s.heap.objs.size+1)=s_
  rw[AG^Nat.succ_ne_self _];exact fr _^kL _
 .show AX H s.heap.objs.size (.lst []) c=s_
  rw[AG^jo^h x c e];exact I.vG x c^d x c e
 .refine I.hok.laid J (Sc _) ?_
  let#[n,e]:=Z;exact#[jp _,[],n,.nil,e]
 .unfold CQ
  show(K.map _).length=E.length;rw[Ev];exact Eu O.cap
theorem Un.but(u:Un fs ex H H1 h a)(j:h.get? C=s_)(f:∀b,b≠C->d.get? b=a.get? b):Un fs ex H H1 h d:=by
 have g:∀{b:Ch}{o:Obj},h.get? b=P3 o->b≠C:=λ{b o} e z=>by grind
 refine#[λb o e n a c=>(f b^g e).trans^u.keep b o e n a c,λb o e n a c=>?_,u.free,λb o e a=>?_,u.vy,u.vE,u.vI]
 .let#[i,q]:=u.slot b o e n a c
  exact#[i,(f b^g e).trans q]
 .let#[k,q]:=u.there b o e a
  simp_all
theorem Jc(I:Inv X zF σ H s)(n:∀b∈g,Gg X zF H b)(p:s.heap.objs.size<=C)
  (J:Inv (Ah X j k l C s H g) c m d f) (h:∀b,b≠C->h'.get? b=f.heap.get? b):Inv X zF σ d {f with heap:=h'}:=by
 have r:d C=s_:=J.free
 refine I.call' J.os (Un.but J.base (by
  cases e:s.heap.get? C with
  |none=>rfl
  |some o=>exact absurd (Tk e)^nj.mpr p) h) (λa o e=>(J.hok a o e).J6 (λb u i q=>(h b (λz=>by
   grind)).trans q) (λ_ q=>q) λ_ _ q=>q) J.bare λb i=>?_
 .let#[y,t,A,v,w,x]:=n b i
  exact#[v,t,w,x]
end
def gP(X:Cx)(a:v_ jx)(t:TT):Prop:=
 ∀(d:v_ (Ch×Obj)) (s:Go) (b:St) (H:Hp) (Q:Bool->Hp->Prop),Inv X d b H s->t b H Q->
  wpAny (model X.prog X.w) X.A (forIn a t_ λc r=>if r=t_ then do let ok ←isTrue c X.env^eval c X.env;pure^ni ok else pure^ni r) (TP X d b Q) X.xe s
def hZ:TT:=λ_ H Q=>Q t_ H
def Xb:gP X [] hZ:=λa s b H Q I h=>wpAny_tests_nil #[H,I,h]
def Xa(h:PT X c t):gP X [c] t:=λb s a H Q I q=>wpAny_tests_one^h _ s a H Q I q
def UJ(X:Cx)(e:mP)(f:v_ Str)(z:v_^w_ Nat)(A h:jx)(j:v_ jx)(B:TI):TE:=λq H Q=>B q H λJ H1=>∀l,H1 l=s_->X.K.lookup l=s_->∀k C s n o,∃(g:TG) (r:TT) (t:TE) (W:Nat->Nat->St->Hp->Prop),
 PG (Ah X e f k C s n o) A g/\gP (Ah X e f k C s n o) j r/\PE (Ah X e f k C s n o) h t/\(∃m,W 0 m (CQ z q)^AX H1 l^.lst [])/\∀i m u a,W i m u a->
 (J.stop i a/\Q (.ref l) a)\/(J.go i a/\∀x H2,J.yld i a x H2->g x u H2 λd D=>r d D λb v=>if b=t_ then t d v λy w=>∃p,w l=P3^.lst p/\p.length<sizeLine/\∃c,c<m/\W (i+1) c d^AX w l^.lst (p++[y]) else ∃c,c<m/\W (i+1) c d v)
section

def Lk{Q:VK}{W:Nat->Nat->St->Hp->Prop}{V:Hp}
  (I:Inv X zF σ H s) (hf:∀b∈a,Gg X zF H b) (a3:∀b∈a,b<s.heap.objs.size) (hC:s.heap.objs.size<=C)
  (T:Turn X.prog X.w X.K tg J a it U)
  (hg:PG (Ah X sc N' h C s H a) tg g) (ht:gP (Ah X sc N' h C s H a) ifs tt) (he:PE (Ah X sc N' h C s H a) elt te)
  (hW:∀i m k c,W i m k c->
   (J.stop i c/\Q (.ref l) c)\/(J.go i c/\∀x H2,J.yld i c x H2->g x k H2 λY H3=>tt Y H3 λb z=>if b=t_ then te Y z λy H5=>∃E,H5 l=P3^.lst E/\E.length<sizeLine/\∃f,f<m/\W (i+1) f Y^AX H5 l^.lst (E++[y]) else ∃f,f<m/\W (i+1) f Y z))
  (hR:∀k c G,Inv (Ah X sc N' h C s H a) [] k c G->Q (.ref l) c->R (.ok .next) G)
  (I3:Inv (Ah X sc N' h C s H a) [] zG V s3) (t3:U 0 s3.heap) (f3:∀b∈a,V b=s_) (w0:W 0 m0 zG V):
  codeAny (model X.prog X.w) X.A (.compLoop (.ListComp elt [#[tg,iter,ifs,0]] sc pos) 0 (.ref it) (.ref l)^compEnvC sc h C X.env) R s3:=by
 have j:∀{c:Hp},(∀b∈a,c b=s_)->∀b∈a,Gg (Ah X sc N' h C s H a) [] c b:=λhn b t=>by
  have q:=I3.ok.exf b t;refine#[hn b t,q.1,I3.ok.exfs b t,.inl t,q.2,λp hp=>absurd (show p∈([]:v_ (Ch×Obj))from hp)^by simp]
 refine Ms (λn G=>∃i k c,Inv (Ah X sc N' h C s H a) [] k c G/\U i G.heap/\(∀b∈a,c b=s_)/\W i n k c) ?_ m0 #[0,zG,V,I3,t3,f3,w0];rintro n s4 ⟨i,L,z,I4,M,N,w4⟩
 rcases hW i n L z w4 with⟨O,qn⟩|⟨go,step⟩
 .refine Ao (T.done (Ah X sc N' h C s H a) rfl rfl rfl rfl i [] s4 L z (λ_ _=>False) I4 (j N) M O) λr s5 zz=>?_;let#[hr,I5]:=zz
  subst hr;exact hR L z s5 I5 qn
 .refine Ao (T.item (Ah X sc N' h C s H a) rfl rfl rfl rfl i [] s4 L z (λ_ _=>False) I4 (j N) M go) λr s5 zz=>?_;let#[u,hr,h5]:=zz
  subst hr;refine Ao h5 λ_ s6 zz=>?_;let#[x,H6,I6,r6,y6,B,a0]:=zz;have a1:=I6.pinned (j a0)^T.obj _ _ B;refine Ao (hg _ s6 L H6 x u _ a1 r6^step x H6 y6) λ_ s7 zz=>?_;let#[Z,H7,I7,q7]:=zz
  have again:∀{zH:St}{D:Hp}{F:Go}{f:Nat},Inv (Ah X sc N' h C s H a) ([]++JG a s6.heap) zH D F->f<n->W (i+1) f zH D->∃m,m<n/\∃i k c,Inv (Ah X sc N' h C s H a) [] k c F/\U i F.heap/\(∀b∈a,c b=s_)/\W i m k c:=λ{zH D F f} P S w9=>by
   refine#[f,S,i+1,zH,D,P.yq,T.keep _ _ _ B λb t o e=>(P.pin (b,o)^jm _^jm _^EG t e).1,λb t=>?_,w9];let#[o,e,d]:=T.obj _ _ B b t;exact(P.pin (b,o)^jm _^jm _^EG t e).2.1
  refine Ao (ht _ s7 Z H7 _ I7 q7) λok s8 zz=>?_;let#[H8,I8,q8]:=zz;cases ok with
  |false=>
   have a2:∃f,f<n/\W (i+1) f Z H8:=q8;let#[f,S,w8]:=a2;show ∃m,m<n/\_;exact again I8 S w8
  |true=>
   refine Ao (he _ s8 Z H8 _ I8 q8) λy F zz=>?_;let#[yv,D,P,ry,q9]:=zz;let#[E,hl,hz,f,S,w9]:=q9;refine Ao (Bt (X:=Ah X sc N' h C s H a) _ F Z D (.ref l) [yv] (.ref l) [y] (λv c=>v=.non/\c=AX D l^.lst (E++[yv])) P rfl (.cons ry .nil) #[l,E,yv,rfl,rfl,hl,hz,rfl,rfl]) λ_ sa zz=>?_;let#[v,Ha,Ia,_,_,eH]:=zz;subst eH;exact again Ia S w9
theorem Xj(Z:X.calm=t_)(N':v_ Str)(js:v_^w_ Nat)(hi:PI X tg iter wi)
  (hB:FT sc X.env.scope X.N N' js=t_)
  (hs:∀x,foldedSetIterable iter X.env x=pure x:=by intro _;rfl):
  PE X (.ListComp elt [#[tg,iter,ifs,0]] sc pos) (UJ X sc N' js tg elt ifs wi):=by
 intro U s M H Q I h;have O:vT X sc N' js:=vT.of hB;let#[z,l,P,B]:=J0 (scope:=sc) (env:=X.env) λx hx=>I.ok.has x^O.free x hx;rw[eval_ListComp];refine wpAny_comprehension_free (use:=s_) rfl hs l O.kind O.names (Ao (hi U s M H _ I h) λv s1 h1=>Ao h1 λa0 c h2=>?_);let#[V,G,tn,J,H2,e,C,T,p,L,hq]:=h2;subst e
 have r:X.K.lookup c.heap.objs.size=s_:=by
  cases q:X.K.lookup c.heap.objs.size with
  |none=>rfl
  |some o=>exact absurd (Tk^C.kIn _ _ q)^ko _
 let#[g,tt,te,W,hg,ht,he,#[m0,w0],hW]:=hq c.heap.objs.size (C.hok.fresh^Sc _) r z (c.heap.objs.size+1) c H2 G;refine lH^wpAny_newFunctionEnv O.cell (by intro y hy;simp at hy) (λf d a=>?_) O.kind
 dsimp only at d a ⊢
 generalize t:c.heap.push {cls:=.type "list",dict:=s_,data:=.seq ([]:v_ Db).toArray}=Hh at d a ⊢;have i:Hh.objs.size=c.heap.objs.size+1:=by rw[←t,kh]
 have D:∀b∈G,b<c.heap.objs.size:=λb j=>by
  let#[o,e,_]:=T.obj _ _ p b j;exact Tk e
 have E:∀b o,c.heap.get? b=P3 o->f.get? b=P3 o:=λb o e=>a.extBut b o (by rw[i];exact jo^lL^Tk e)^FM _ (t▸FM _ e);have hD:∃n,f.get? c.heap.objs.size=P3 {cls:=.type "list",data:=.seq #[] n}:=#[_,a.extBut _ _ (by rw[i];exact jo^me _)^FM _ (t▸TW _ rfl)]
 have I3:∀u,Inv (Ah X sc N' z (c.heap.objs.size+1) c H2 G) [] (CQ js M) (AX H2 c.heap.objs.size^.lst []) {c with heap:=f,toks:=u}:=λu=>
  OC C Z O P B L (λb j=>let #[o,e,_]:=T.obj _ _ p b j;#[o,e]) (by rw[←i];exact d) E hD
 have F:tn 0 f:=T.keep _ _ _ p λb j o e=>E b o e
 have R:∀b∈G,AX H2 c.heap.objs.size (.lst []) b=s_:=λb j=>by
  rw[AG^jo^D b j];exact(L b j).1
 have k:∀u,codeAny (model X.prog X.w) X.A (.compLoop (.ListComp elt [#[tg,iter,ifs,0]] sc pos) 0 (.ref V) (.ref c.heap.objs.size)^compEnvC sc z (c.heap.objs.size+1) X.env)
   (compPost (model X.prog X.w) X.A X.xe s_ (EP X U M Q) (.ref c.heap.objs.size) (c.heap.objs.size+1)) {c with heap:=f,toks:=u}:=λu=>by
  refine Lk (W:=W) (m0:=m0) (Q:=Q) C L D (kL _) T hg ht he hW (λzZ H' s' Y q'=>?_) (I3 u) F R w0;let#[m,hn,_]:=Y.loc;exact#[m,hn,λh' S=>#[.ref _,H',Jc C L (kL _) Y λb j=>S.2 b j,rfl,q']]
 rw[show(newEnv sc Hh.objs.size X.env.globals z X.env.qual s_ .none (P3 X.env) builtinsNs).locals=c.heap.objs.size+1 from i];show codeAny (model X.prog X.w) X.A (.compStart (.ListComp elt [#[tg,iter,ifs,0]] sc pos) 0 (.ref V) (.ref c.heap.objs.size)^compEnvC sc z (c.heap.objs.size+1) X.env) _ _;exact codeAny_compStart_list (k _)^T.self _ 0 _ _ _ F^k _
end
structure Fly (B:jq) (l:List Env) (a C:Ch) (dx:Option Ch) (h:jq):Prop where
 stays:B.StaysIn h
 new:B.get? a=s_
 frames:h.FunFrames B l
 obj:∃vs sl tb,h.get? a=P3 #[.ref C,dx,.fields vs,sl]/\vs[2]?=P3 .none/\vs[1]?=P3 tb/\(tb=.none\/∃T oT ts,tb=.ref T/\B.get? T=s_/\T≠a/\h.get? T=P3 oT/\oT.data=.fields ts/\3<ts.size)
section
variable {s:Shared}
def size_of{b:Array Db}(h:b[i]?=P3 x):i<b.size:=(oV.mp h).1
theorem Lc(r:A.frames=P3 (env::outer))(P:env.frame=P3 L)(m:s.heap.FunFrames B (env::outer))(R:B.StaysIn s.heap)(x:B.get? a=s_)
  (t:s.heap.get? a=P3 #[.ref C,dx,.fields d,p]) (h1:d[1]?=P3 N) (y:d[2]?=P3 .none)
  (h:∀u,Fly B (env::outer) a C dx u->s.heap.UpToSlots u->Q () {s with heap:=u}):
  wpAny M A (do let f ←frameOf env;let pl ←entryPlaceOf L O;let b ←rh g f .none (rawInt L) .none pl;setField (.ref a) 1 b) Q E s:=by
 have D:=size_of h1;have W:=size_of y
 have S:a∉(env::outer).filterMap (·.frame):=λq=>by
  let#[_,o,F,c]:=m.mem q;rw[t]at F;cases F;exact c d rfl
 refine Cn^wpAny_frameOf_fun r m P λk n=>?_;refine Cn^wpAny_entryPlaceOf λpl v=>?_;unfold rh newFields;refine Cn^lH ?_^v.sizeOk5 _ _ _ _ _;have G:k.get? a=P3 #[.ref C,dx,.fields d,p]:=(n.2.1 a S).trans t;have H:B.StaysIn k:=λb o q=>(n.2.1 b λz=>by rw[(m.mem z).1]at q;cases q).trans^R b o q;generalize i:({cls:=.type "traceback",dict:=s_,data:=.fields ([g,.ref L,.none,rawInt L,.none]++(if pl.isEmpty then jk 6 kE else pl)).toArray}:Obj)=ob;have I:(k.push ob).get? a=P3 #[.ref C,dx,.fields d,p]:=FM _ G;refine nI I rfl D ?_;have J:k.objs.size≠a:=mQ^Tk G;have T:=kY (mH (·.setIfInBounds 1^Uf k.objs.size)) I rfl
 have U:((k.push ob).update a (mH (·.setIfInBounds 1^Uf k.objs.size))).get? k.objs.size=P3 ob:=by
  rw[jl _ _^kM J];exact TW k^by subst i;rfl
 have w:∀b o,b≠a->k.get? b=P3 o->((k.push ob).update a (mH (·.setIfInBounds 1^Uf k.objs.size))).get? b=P3 o:=λb o V q=>by
  rw[jl _ _^kM V];exact FM _ q
 have K:∀b o,s.heap.get? b=P3 o->(∀d,o.data≠.fields d)->b≠a:=λb o q c z=>by
  rw[z,t]at q;cases q;exact c d rfl
 refine h _ #[λb o q=>w b o (λz=>by rw[z,x]at q;cases q)^H b o q,x,m.of_keeps λb o q c=>?_,_,_,_,T,?_,?_,.inr #[k.objs.size,ob,_,rfl,H.fresh,J,U,by subst i;rfl,?_]] λb o q c=>?_
 .let#[j,e]:=n.2.2 b o q
  exact#[_,w b _ (K b o q c) e,rfl]
 .rw[Array.getElem?_setIfInBounds_ne^by cbv];exact y
 .simp[D]
 .simp only[jn,eq,f8,j_];lk
 .let#[j,e]:=n.2.2 b o q
  exact#[j,w b _ (K b o q c) e]
def Fly.mark(F:Fly B l a C dx s.heap)(m:s.heap.get? a=P3 #[.ref C,dx,.fields d,f])(h1:d[1]?=P3^.ref T)(n:d[2]?=P3 .none)(p:B.get? T=s_)(i:T≠a)(r:s.heap.get? T=P3 g)
  (hd:g.data=.fields h) (u:3<h.size):Fly B l a C dx (s.heap.update T (mH (·.setIfInBounds 3 x)))/\s.heap.UpToSlots (s.heap.update T (mH (·.setIfInBounds 3 x)))/\(s.heap.update T (mH (·.setIfInBounds 3 x))).get? a=P3 #[.ref C,dx,.fields d,f]:=by
 have e:∀b,b≠T->(s.heap.update T (mH (·.setIfInBounds 3 x))).get? b=s.heap.get? b:=λb t=>jl _ _^kM t
 have j:∀b o,s.heap.get? b=P3 o->(∀d,o.data≠.fields d)->b≠T:=λb o q c z=>by
  simp_all
 have k:=(e a^kM i).trans m;refine#[#[λb o q=>(e b λz=>by grind).trans^F.stays b o q,F.new,F.frames.of_keeps λb o q c=>#[o,(e b^j b o q c).trans q,rfl],d,f,_,k,n,h1,.inr #[T,_,_,rfl,p,i,kY _ r^pQ^mq hd _,mq hd _,by simp_all]],λb o q c=>#[o.slots,(e b^j b o q c).trans q],k]
def Fl(F:Fly B l a C dx s.heap)(h:∀c,Fly B l a C dx c->s.heap.UpToSlots c->Q () {s with heap:=c}):wpAny M A (setFlight (.ref a) s_) Q E s:=by
 let#[q,r,t,d,j,e,k]:=F.obj;refine Cn (lD d rfl e ?_)
 rcases k with rfl|⟨T,u,v,rfl,m,n,f,g,i⟩
 .exact On^h _ F^rj _
 .let#[o,p,_]:=F.mark d e j m n f g i
  exact nI f g i^h _ o p
def OD(c:A.frames=P3 (env::outer))(g:env.frame=P3 L)(F:Fly B (env::outer) a C dx s.heap)
  (h:∀d,Fly B (env::outer) a C dx d->s.heap.UpToSlots d->Q () {s with heap:=d}):wpAny M A (noteFrame (.ref a) env) Q E s:=by
 let#[D,G,H,i,j,f,p]:=F.obj;unfold noteFrame;simp only[g];refine Cn (lD i rfl f ?_)
 rcases p with rfl|⟨T,I,q,rfl,r,t,k,m,n⟩
 .rw[if_neg^by cbv]
  exact Lc c g F.frames F.stays F.new i f j h
 .rw[if_pos (show(Uf T !=kE)=t_ by simp)]
  obtain⟨x,u⟩:∃x,q[3]?=P3 x:=#[_,mO n];refine Cn^lD k m u ?_
  by_cases e:(x==rawInt L)=t_
  .rw[if_pos e]
   exact On^h _ F^rj _
  .rw[if_neg e]
   let#[o,v,w]:=F.mark (x:=kE) i f j r t k m n;refine Cn^nI k m n ?_;exact Lc c g o.frames o.stays o.new w f j λd y z=>h d y^v.trans z
def S_(d:A.frames=P3 (env::outer))(e:env.frame=P3 L)(F:Fly B (env::outer) a C dx s.heap)
  (h:∀c,Fly B (env::outer) a C dx c->s.heap.UpToSlots c->Q () {s with heap:=c}):wpAny M A (leaving env^.ref a) Q E s:=Cn^OD d e F λc f g=>Fl f λi j k=>h i j^g.trans k
def Fly.tail(F:Fly B (env::outer) a C dx s.heap):Fly B outer a C dx s.heap:=#[F.stays,F.new,F.frames.2.2,F.obj]
end
section
variable {os:OsState}

def Bk(C t:Ch):Obj:={cls:=.ref C,data:=.fields #[ .ref t,.none,.none,.none,.bool u_,.none]}
def gU(x:Ch)(R:Result->Go->Prop)(r:Result)(a:Go):Prop:=match r with
 |.ok (.ret v)=>v=.none/\R (.ok^.ret^.ref x) a
 |.ok _=>False
 |.error e=>R (.error e) a
theorem PU(hbase:bm.contains^.type "BaseException"=t_)(hh:A.handled=s_)
  (hx:wpAny M A x (λv s₁=>∃e dx vs sl,v=.ref e/\s₁.heap.get? C=P3^excClassObj nm q C N bs bm hdct sn sub ab col dd k0 k1 k2 k3 k5 newId /\
   s₁.heap.get? e=P3 #[.ref C,dx,.fields vs,sl]/\vs[1]?=P3 .none/\E (.ref e) s₁) E s):
  wpAny M A (raiseStmt env (P3 x) s_) Q E s:=by
 have hcB:(Uf C::bm).contains^.type "BaseException"=t_:=by grind
 unfold raiseStmt;refine Cn^kP hx (λv s₁ h₁=>?_) λ_ _ x=>x;let#[e,dx,vs,sl,rfl,hC,he,h1,hE]:=h₁
 repeat (first|omega|omega|(with_reducible refine lF hC ?_;rw[hcB])|wp_step)
 rw[h1];refine On ?_;exact On^wpAny_raiseNew_none hh hE
def TC
  (hC:h.get? C=P3^excClassObj nm q C N bs bm hdct sn sub ab col dd k0 k1 k2 k3 k5 newId) (hD:h.get? D=P3^excClassObj nm' q' D N' bs' bmD hdct' sn' sub' ab' col' dd' l0 l1 l2 l3 l5 newId') (hbase:bmD.contains^.type "BaseException"=t_)
  (he:h.get? e=P3 oe) (hcls:oe.cls=.ref C) (hq:Q ((Uf C::bm).contains^.ref D) #[h,g,d,t,os]):wpAny M A (excMatches (.ref e)^.ref D) Q E #[h,g,d,t,os]:=by
 have hcB:(Uf D::bmD).contains^.type "BaseException"=t_:=by grind
 have f:=tc_notTuple;generalize hb:(Uf C::bm).contains^.ref D=b at hq;unfold excMatches
 repeat (first|(with_reducible refine ku he ?_;rw[hcls])|omega|(with_reducible refine lF hD ?_;rw[hcB])|wp_step)
 refine lF hC ?_;rw[hb];cases b <;>(wp_walk;exact hq)
end
def CV:v_ Db:=[.type "ValueError",.type "Exception",.type "BaseException",.type "object"]
structure XC (K:Frag) (nm:Str) (C U:Ch):Prop where
 obj:∃q N bs sn sub ab col dd k0 k1 k2 k3 k5,K.lookup C=P3 (excClassObj nm q C N bs (.ref U::CV) t_ sn sub ab col dd k0 k1 k2 k3 k5 "ValueError.__new__")
 up:∃q N bs sn sub ab col dd k0 k1 k2 k3 k5 hd,K.lookup U=P3 (excClassObj "ThinError" q U N bs CV hd sn sub ab col dd k0 k1 k2 k3 k5 "ValueError.__new__")
 kp:keepIn K^.ref C=t_
 ga:PySem.W.findIn K (.ref C) "__getattribute__"=P3 (P3^.builtin "BaseException.__getattribute__")
 gt:PySem.W.findIn K (.ref C) "__getattr__"=P3 s_
 sa:PySem.W.findIn K (.ref C) "__setattr__"=P3 (P3^.builtin "object.__setattr__")
 at_:nsIn K mainGlobals nm=P3 (P3^.ref C)
 atU:nsIn K mainGlobals "ThinError"=P3 (P3^.ref U)
 ca:PySem.W.findIn K (.ref C) "__class__"=P3 (P3^.builtin "object.__class__")
 nw:PySem.W.findIn K (.ref C) "word"=P3 s_
 nn:PySem.W.findIn K (.ref C) "number"=P3 s_
 nr:PySem.W.findIn K (.ref C) "row"=P3 s_
section
variable {K:Frag}
def XC.cls(c:XC K nm C U):∃a,PySem.W.clsIn K C=P3 a/\a.mro=.ref C::.ref U::CV/\a.hasDict=t_/\a.name=nm:=by
 let#[q,N,f,g,b,h,d,i,j,k,l,m,n,e]:=c.obj;refine#[_,by unfold PySem.W.clsIn;rw[e],rfl,rfl,rfl]
def Q2(X:K.In s.heap)(c:XC K nm C U)(I:PySem.W.InstAt s.heap x m C n)(o:PySem.W.findIn K (.ref C) name=P3 s_)
  (h:∀b,wpAny (model prog w) A.in1 (Builtin.ObjectAttr.storeInOwnDict (.ref x) (.ref C) (.str name tk) name v b)
   (λg d=>match g with|.done f=>R (.ok f) d|.again c'=>c'.quiet=t_/\codeAny (model prog w) A c' R d) (λe d=>R (.error e) d) s):
  codeAny (model prog w) A (.call (.builtin "object.__setattr__") #[[.ref x,.str name tk,v],[]]) R s:=by
 have a:=PySem.F.store_ValueError;let#[p,k,l,_]:=c.cls;have i:PySem.W.Looks (model prog w) s.heap (isInstance (.ref x)^.type "object") t_:=I.type.andThen (PySem.W.looks_mroIn X^by unfold PySem.W.mroIn;rw[k,Option.bind_some,l];rfl);refine oQ a.slot.plain a.entry^@PySem.W.check_slot (model prog w) _ _ s "object.__setattr__" "object" "__setattr__" (.ref x) [.str name tk,v] [] _ a.kind a.split i (a.args (.ref x) (.str name tk) v) ?_;have j:PySem.W.Looks (model prog w) s.heap (mroOf^.ref C) p.mro:=(PySem.W.looks_clsIn X k).andThen .now;rw[PySem.W.osa_eq,refuse_eq];refine Cn^Cn^I.type.here^Cn^j.here ?_;rw[l,refuseLoop_ref,refuseLoop_ref,show refuseLoop (.ref x) "__setattr__" CV=pure ()from a.passes _];exact On^Cn^I.type.here^Cn^(PySem.W.looks_findIn X o).here^Cn^On^h _
theorem US(X:K.In s.heap)(c:XC K nm C U)(j:s.heap.get? x=P3 #[.ref C,s_,.fields f,g])(t:PySem.W.findIn K (.ref C) name=P3 s_)
  (h:∀d u,d.get? x=P3 #[.ref C,P3 s.heap.objs.size,.fields f,g]->d.Ns1 s.heap.objs.size (λy=>if y=name then P3 v else s_)->(∀b o,b≠x->s.heap.get? b=P3 o->d.get? b=P3 o)->Q () {s with heap:=d,toks:=u}):
  wpAny (model prog w) A (setAttr (.ref x) name v) Q E s:=by
 let#[N,z,O,B,_]:=c.cls;have J:PySem.W.InstAt s.heap x #[.ref C,s_,.fields f,g] C s_:=#[j,rfl,rfl,trivial];refine PySem.W.set_plain X J c.sa^Q2 (s:={s with toks:=s.toks+1}) X c J t λb=>?_;refine Cn^On^Cn^Cn^qB j^Cn^PySem.W.Looks.here (s:={s with toks:=s.toks+1}) (PySem.W.looks_clsIn X z) ?_;rw[B];have i:(s.heap.push {cls:=.type "dict",data:=.dict #[]}).get? x=P3 #[.ref C,s_,.fields f,g]:=FM _ j;have p:x≠s.heap.objs.size:=jo^Tk j;show wpAny _ _ (alloc _ >>=_) _ _ _;refine Cn^wpAny_alloc^Cn^wpAny_update i^On ?_;generalize a:((s.heap.push {cls:=.type "dict",data:=.dict #[]}).update x λo=>{cls:=o.cls,dict:=P3 s.heap.objs.size,data:=o.data,slots:=o.slots})=hh
 have D:hh.get? s.heap.objs.size=P3 {cls:=.type "dict",data:=.dict #[]}:=by
  rw[←a,Heap.get?_update_ne _ _ _ _ p.symm];exact TW _ rfl
 have F:hh.get? x=P3 #[.ref C,P3 s.heap.objs.size,.fields f,g]:=by
  rw[←a];exact kY _ i rfl
 have G:∀b o,b≠x->s.heap.get? b=P3 o->hh.get? b=P3 o:=λb o k e=>by
  rw[←a,Heap.get?_update_ne _ _ _ _ k];exact FM _ e
 have H:hh.Ns s.heap.objs.size (λ_=>s_):=#[_,#[],_,D,rfl,λe I=>absurd I^by simp,λ_=>rfl];show wpAny _ _ (ph s.heap.objs.size _ name v) _ _ _;unfold ph Builtin.ObjectAttr.newKeyGuard;refine Cn^On^Cn^wpAny_nsSet1 (r9 H) λd q r=>?_;let#[P,L,M,l,m,n]:=q.count^PySem.Within.cons name v PySem.Within.nil;refine Cn^qm l (by rw[m];exact qo^jr n^by rw[f8,j_,kJ];lk) ?_;refine On^h d _ ((r.2 x p).trans F) q λb o k e=>(r.2 b^jo^Tk e).trans^G b o k e
theorem UR(X:K.In s.heap)(c:XC K nm C U)(n:s.heap.get? x=P3 #[.ref C,P3 d,.fields k,l])(p:s.heap.Ns1 d f)(r:PySem.Within f m)(t:m.length<=sizeLine)(u:PySem.W.findIn K (.ref C) name=P3 s_)
  (h:∀e z,e.Ns1 d (λy=>if y=name then P3 v else f y)->mC d s.heap e->Q () {s with heap:=e,toks:=z}):
  wpAny (model prog w) A (setAttr (.ref x) name v) Q E s:=by
 let#[L,B,M,D,_]:=c.cls;let#[o,_,_,F,_]:=id p;have J:PySem.W.InstAt s.heap x #[.ref C,P3 d,.fields k,l] C^P3 o:=#[n,rfl,rfl,F];refine PySem.W.set_plain X J c.sa^Q2 (s:={s with toks:=s.toks+1}) X c J u λb=>?_;refine Cn^On^Cn^Cn^qB n^Cn^PySem.W.Looks.here (s:={s with toks:=s.toks+1}) (PySem.W.looks_clsIn X B) ?_;rw[D];refine On (a:=P3 d)^Cn^On^Cn ?_;refine wpAny_nsSet1 (s:={s with toks:=s.toks+1}) p λe q G=>?_;let#[N,H,I,g,i,j]:=q.count^PySem.Within.cons name v r;refine Cn^qm g (by rw[i];exact qo^jr j^by rw[f8];lk) ?_;exact On^h _ _ q G
end
section
variable {os:OsState}
variable {K:Frag}
def Rb(hC:h.get? C=P3^excClassObj nm q C N bs (.ref U::CV) t_ sn sub ab col dd k0 k1 k2 k3 k5 "ValueError.__new__")
  (hq:Q () #[h,g,d,t,os]):wpAny M A (checkBuiltinCall "ValueError.__new__" #[.ref C::rest,[]]) Q E #[h,g,d,t,os]:=by
 have F:=PySem.F.excBase_ValueError;have hcont:(Uf C::.ref U::CV).contains^.type "ValueError"=t_:=by simp[CV]
 have hstar:=F.noStar;simp only[checkBuiltinCall,F.newKind,F.newSplit,F.newRow]
 repeat (first|refine ku hC ?_|(refine lF hC ?_;rw[hcont])|refine wpAny_staticBase_exc hC ?_|refine qq hC ?_|simp only[bne_self_eq_false,kG,if_false]|wp_step)
 exact hq
def RO(hC:h.get? C=P3^excClassObj nm q C N bs (.ref U::CV) t_ sn sub ab col dd k0 k1 k2 k3 k5 "ValueError.__new__")
  (hq:R (.ok^.ret^.ref (h.objs.size+1)) #[(h.push {cls:=.type "tuple",data:=.seq rest.toArray}).push^Bk C h.objs.size,g,d,t,os]) (hrest:rest.length<=sizeLine):
  codeAny (model prog w) A (.builtin "ValueError.__new__" #[.ref C::rest,[]]) R #[h,g,d,t,os]:=by
 have F:=PySem.F.excBase_ValueError;have hends:=F.ends;have hcB:(Uf C::.ref U::CV).contains^.type "ValueError"=t_:=by simp[CV]
 have hcA:(Uf C::.ref U::CV).contains^.type "AttributeError"=u_:=by simp[CV]
 have hcN:(Uf C::.ref U::CV).contains^.type "NameError"=u_:=by simp[CV]
 refine codeAny_builtinAt F.entry ?_;unfold lm.«BaseException.__new__»;refine PySem.wpAt_bind ?_;show PySem.wpAt _ _ _ (stack >>=_) _ _ _;refine PySem.wpAt_bind^PySem.wpAt_stack λp below=>wpAt_of_wpAny ?_
 wp_walk
 refine wpAt_of_wpAny ?_;rw[F.owner]
 repeat (first|with_reducible refine wpAny_madeHere_exc F.canon hC ?_|with_reducible refine ku hC ?_|(with_reducible refine lF hC ?_;first|rw[hcB]|rw[hcA]|rw[hcN])|wp_step)
 show R _ _;rw[kh];exact hq
def WW(hC:h.get? C=P3^excClassObj nm q C N bs (.ref U::CV) t_ sn sub ab col dd k0 k1 k2 k3 k5 "ValueError.__new__")(he:h.get? e=P3 oe)(hcls:oe.cls=.ref C)(hq:Q () #[h,g,d,t,os]):
  wpAny M A (checkBuiltinCall "ValueError.__init__" #[.ref e::rest,[]]) Q E #[h,g,d,t,os]:=by
 have F:=PySem.F.excBase_ValueError;have hcB:(Uf C::.ref U::CV).contains^.type "ValueError"=t_:=by simp[CV]
 have hshort:=F.noStar;simp only[checkBuiltinCall,F.initKind,F.initSplit,F.initRow]
 repeat (first|(with_reducible refine ku he ?_;rw[hcls])|with_reducible refine ku hC ?_|(with_reducible refine lF hC ?_;rw[hcB])|wp_step)
 refine pI ?_
 rw[show ∀(a b:String) (n:Nat),Bind.check #[.positional,"*","ValueError",.self,[#["args",.varPos,u_]]] a b n^List.map (λx=>x.fst) ({pos:=Uf e::rest}:Args).kw=pure ()from
  λa b n=>check_star_args _ _ _ _ _ _]
 exact On hq
theorem V_(X:K.In h)(c:XC K nm C U)(hi:PySem.W.findIn K (.ref C) "__init__"=P3^P3^.ref f)(hf:PySem.W.typeIn K^.ref f=P3^.type "function")(hrest:rest.length<=sizeLine)
  (hq:codeAny (model prog w) (A.under^.builtin "type.__call__" #[.ref C::rest,[]]) (.call (.ref f) #[.ref (h.objs.size+1)::rest,[]]) (gU (h.objs.size+1) R) #[(h.push {cls:=.type "tuple",data:=.seq rest.toArray}).push^Bk C h.objs.size,g,d,t,os]):
  codeAny (model prog w) A (.call (.ref C) #[rest,[]]) R #[h,g,d,t,os]:=by
 have F:=PySem.F.excBase_ValueError;let#[q,N,bs,sn,sub,ab,col,dd,k0,k1,k2,k3,k5,eC]:=c.obj;have hC:=X _ _ eC;have f1:=tc_lookup;have f2:=tc_bind^.ref C;have hT:(#[h,g,d,t,os]:Go).TypeIs (.ref C) "type":=#[_,hC,rfl];refine rF ?_;show wpAny _ _ (callAny (.ref C) _) _ _ _
 repeat (any_goals (first|assumption|with_reducible refine ku hC ?_|wp_step))
 refine#[rfl,?_];refine codeAny_call_builtin_at (nk _^by decide +kernel) entry_typeCall^wpAny_check_type_call_sub hC ?_
 repeat (first|with_reducible refine ku hC ?_|with_reducible refine qq hC ?_|wp_step)
 refine codeAny_call_builtin_code (nk _ F.quiet)^Rb hC ?_;refine RO hC ?_ hrest;show wpAny _ _ _ _ _ _;have kk:∀b o,h.get? b=P3 o->((h.push {cls:=.type "tuple",data:=.seq rest.toArray}).push^Bk C h.objs.size).get? b=P3 o:=λb o e=>FM _^FM _ e;have hC₁:=kk _ _ hC;have hget:((h.push {cls:=.type "tuple",data:=.seq rest.toArray}).push^Bk C h.objs.size).get? (h.objs.size+1)=P3^Bk C h.objs.size:=by unfold Bk;heap_get
 have hcC:(Uf C::Uf U::CV).contains^.ref C=t_:=by simp
 unfold isInstance;unfold Bk at *
 repeat (first|with_reducible refine ku hget ?_|(with_reducible refine lF hC₁ ?_;rw[hcC])|wp_step)
 show wpAny _ _ (isSubtype (.ref C)^.ref C) _ _ _;refine lF hC₁ ?_;rw[hcC,if_neg^by cbv];refine Cn^kQ ?_;unfold callSpecial? specialOf
 repeat (first|with_reducible refine ku hget ?_|wp_step)
 show wpAny _ _ (typeLookup (.ref C) _) _ _ _;refine(PySem.W.looks_findIn (X.keeps kk) hi).here ?_;refine kQ^Cn^(PySem.W.bind_fn (X.keeps kk) _ hf).here ?_;refine Cn^mj^mR hq λr s' z=>?_
 rcases r with e|(v|_|_|_) <;>first|exact z|exact z.elim|skip
 let#[rfl,z]:=z;exact On^On z
def TD(X:K.In h)(c:XC K nm C U)(hi:PySem.W.findIn K (.ref C) "__init__"=P3^P3^.builtin "ValueError.__init__")(hrest:rest.length<=sizeLine)
  (hq:∀h',(∀b o,h.get? b=P3 o->h'.get? b=P3 o)->h'.get? (h.objs.size+1)=P3^Bk C (h.objs.size+2)->R (.ok^.ret^.ref (h.objs.size+1)) #[h',g,d,t,os]):
  codeAny (model prog w) A (.call (.ref C) #[rest,[]]) R #[h,g,d,t,os]:=by
 have F:=PySem.F.excBase_ValueError;let#[q,N,bs,sn,sub,ab,col,dd,k0,k1,k2,k3,k5,eC]:=c.obj;have hC:=X _ _ eC;have f1:=tc_lookup;have f2:=tc_bind^.ref C;have hT:(#[h,g,d,t,os]:Go).TypeIs (.ref C) "type":=#[_,hC,rfl];refine rF ?_;show wpAny _ _ (callAny (.ref C) _) _ _ _
 repeat (any_goals (first|assumption|with_reducible refine ku hC ?_|wp_step))
 refine#[rfl,?_];refine codeAny_call_builtin_at (nk _^by decide +kernel) entry_typeCall^wpAny_check_type_call_sub hC ?_
 repeat (first|with_reducible refine ku hC ?_|with_reducible refine qq hC ?_|wp_step)
 refine codeAny_call_builtin_code (nk _ F.quiet)^Rb hC ?_;refine RO hC ?_ hrest;show wpAny _ _ _ _ _ _;have kk:∀b o,h.get? b=P3 o->((h.push {cls:=.type "tuple",data:=.seq rest.toArray}).push^Bk C h.objs.size).get? b=P3 o:=λb o e=>FM _^FM _ e;have hC₁:=kk _ _ hC;have hget:((h.push {cls:=.type "tuple",data:=.seq rest.toArray}).push^Bk C h.objs.size).get? (h.objs.size+1)=P3^Bk C h.objs.size:=by unfold Bk;heap_get
 have hcC:(Uf C::Uf U::CV).contains^.ref C=t_:=by simp
 unfold isInstance;unfold Bk at *
 repeat (first|with_reducible refine ku hget ?_|(with_reducible refine lF hC₁ ?_;rw[hcC])|wp_step)
 show wpAny _ _ (isSubtype (.ref C)^.ref C) _ _ _;refine lF hC₁ ?_;rw[hcC,if_neg^by cbv];refine Cn^kQ ?_;unfold callSpecial? specialOf
 repeat (first|with_reducible refine ku hget ?_|wp_step)
 show wpAny _ _ (typeLookup (.ref C) _) _ _ _;refine(PySem.W.looks_findIn (X.keeps kk) hi).here ?_;refine kQ^Cn^qG (F.init.bind _) ?_;refine Cn^mj^oQ F.init.plain F.initEntry (WW hC₁ hget rfl ?_)
 wp_walk
 refine hq _ (λb o e=>?_) ?_
 .rw[jl _ _^mQ^lL^Tk e]
  exact FM _^kk b o e
 .refine(kY (mH (·.setIfInBounds 0^Uf _)) (FM _ hget) rfl).trans ?_
  simp only[kh];rfl
end
structure CXD (P:ju) (w:j4) (outer:List Env) (H:Hp) (s:Go) (a C:Ch) (dx:Option Ch) (B:jq) (H':Hp) (s':Go):Prop where
 os:s'.os=s.os
 bare:oB s'.gens
 un:Un (Lb outer) [] H H' s.heap s'.heap
 hok:HOk P w H' B
 all:∀b o o',s.heap.get? b=P3 o->b∉Lb outer->s'.heap.get? b=P3 o'->B.get? b=P3 o'
 fly:Fly B outer a C dx s'.heap
 new:s.heap.objs.size<=a
 free:H' a=s_
def Kb(P:ju)(w:j4):Ts:=λb H s E e f=>∃a C c B d,e=.ref a/\CXD P w b H s a C c B d f/\E (.ref C) c d
section

theorem CXD.step(x:CXD P w outer H s a C dx B H' s')(F:Fly B outer a C dx h')(u:s'.heap.UpToSlots h'):CXD P w outer H s a C dx B H' {s' with heap:=h'}:=by
 have fr:∀b∈Lb outer,∃o,s'.heap.get? b=P3 o/\∀k,o.data≠.fields k:=λb c=>(x.fly.frames.mem c).2;refine#[x.os,x.bare,#[λb o e n c d=>F.stays _ _^x.all b o o e c^x.un.keep b o e n c d,λb o e n c d=>?_,x.un.free,λb o e d=>?_,x.un.vy,x.un.vE,x.un.vI],x.hok,λb o j e c q=>?_,F,x.new,x.free]
 .let#[p,q]:=x.un.slot b o e n c d
  let#[j,f,h]:=fr b c;rw[q]at f;cases f;let#[i,l]:=u b _ q h
  grind
 .let#[g,q]:=x.un.there b o e d
  by_cases c:b∈Lb outer
  .let#[j,f,h]:=fr b c
   let#[i,l]:=u b _ f h
   grind
  .exact#[g,F.stays _ _^x.all b o g e c q]
 .let#[g,m]:=x.un.there b o e^by simp
  have z:=x.all b o g e c m;rw[F.stays _ _ z]at q
  grind
end
section

def CXD.inv(x:CXD X.prog X.w X.stack H s a C dx B H' s')(I:Inv X zF σ H s):Inv X zF σ H' s':=
 I.call' x.os x.un (x.hok.kept x.fly.stays) x.bare λb z=>absurd z^by simp
theorem CXD.leave(x:CXD X.prog X.w X.stack H s a C dx B H' s')(I:Inv X zF σ H s)(c:X.stack=X.env::X.outer)(f:X.ex=[]):CXD X.prog X.w X.outer X.H₀ X.s₀ a C dx B H' s':=by
 have J:=x.inv I;have d:=x.fly;rw[c]at d;refine#[J.os,J.bare,by have z:=J.base;grind,x.hok,λb o g e h q=>?_,d.tail,jr I.sz x.new,x.free];let#[i,j]:=I.base.there b o e (by grind);refine x.all b i g j (λz=>?_) q
 rcases UF.mp^I.yV b z with z|z
 .exact absurd (Tk e)^by rw[z];exact nj.mpr I.ok.above
 .exact h z
def Nl{K:Frag}:
  Cq (Kb P w) (C5 (Kb P w) P w K j d N g b f k A c h i E) E:=by
 intro zF σ H s e s' I #[a,C,dx,B,H',l,x,q];subst l;exact S_ I.ok.frames rfl x.fly λn m u=>#[a,C,dx,B,H',rfl,(x.step m u).leave I rfl rfl,q]
def Xl{K:Frag}:
  pP (model P w) (C5 (Kb P w) P w K i d N e b f j A c g h E).A (C5 (Kb P w) P w K i d N e b f j A c g h E).env (C5 (Kb P w) P w K i d N e b f j A c g h E).xe:=by
 passes_own
end
def XO(a C:Ch)(c:w_ Ch)(h:jq):Prop:=∃b d,h.get? a=P3 #[.ref C,c,.fields b,d]/\b[2]?=P3 .none/\b[1]?=P3 .none
def XF(d:Ch)(fs:v_ (Str×V))(h:jq):Prop:=∃a,h.Ns1 d a/\(∀f,vH (fs.lookup f)^a f)/\PySem.Within a (fs.map (·.1))/\fs.length<=1000
def XO.ok(x:XO a C b h):zh P w H h a^.ext^XO a C b:=by
 refine#[x,?_,λf g #[c,d,e,r] k=>#[c,d,k _ e,r]];let#[c,d,e,_]:=x
 simp_all
theorem XF.ok(x:XF d a h):zh P w H h d^.ext^XF d a:=by
 refine#[x,?_,λc f #[b,e,r] k=>#[b,e.at k,r]];let#[b,#[o,_,_,e,_],_]:=x
 grind
section

def UQ(I:Inv X zF σ H s)(e:H a=P3^.ext^XO a C s_)(c:XC X.K nm C U)(n:vz X.K C f)(M:RelV y u)
  (h:∀d B,H d=s_->d≠a->Inv X zF σ (AX (AX H d^.ext^XF d [(f,y)]) a^.ext^XO a C^P3 d) B->Q () B):wpAny (model X.prog X.w) A (setAttr (.ref a) f u) Q E s:=by
 let#[#[N,O,D,P,R],_]:=(show zh X.prog X.w H s.heap a _ from I.hok a _ e);refine US I.kIn c D n λh' t' F S l=>?_;have G:H s.heap.objs.size=s_:=I.hok.fresh^Sc _;have T:s.heap.objs.size≠a:=mQ^Tk D;have lt:∀{b:Ch}{o:Obj},s.heap.get? b=P3 o->b≠s.heap.objs.size:=λ{b o} q=>jo^Tk q;have p:∀{b:Ch},H b=s_->b≠a:=λ{b} q z=>by rw[z,e]at q;cases q
 have of:∀{b:Ch}{u:HO},H b=P3 u->(∀j,u≠.ext j)->AX (AX H s.heap.objs.size^.ext^XF s.heap.objs.size [(f,y)]) a (.ext^XO a C^P3 s.heap.objs.size) b=P3 u:=λ{b u} q W=>by
  rw[AG (λz=>by rw[z,e]at q;exact W _ (ZB q).symm),AG λz=>by rw[z,G]at q;cases q];exact q
 refine h s.heap.objs.size _ G T^I.un (h':=h') (t':=t') #[λb o q n _ _=>l b o (p n) q,λb o q n _ _=>#[o.slots,l b o (p n) q],λb o q n _=>?_,λb o q _=>?_,λb J q=>of q (by intro j z;cases z),λb o J q=>of q (by intro j z;cases z),λb ps q=>#[#[],by rw[of q^by intro j z;cases z];simp]] ?_
 .rw[AG^p n,AG^lt q];exact n
 .by_cases z:b=a
  .rw[z];exact#[_,F]
  .exact#[o,l b o z q]
 .intro b o q
  by_cases z:b=a
  .subst z
   rw[AI]at q;cases q;exact XO.ok #[N,O,F,P,R]
  .rw [AG z]at q
   by_cases L:b=s.heap.objs.size
   .subst L
    rw[AI]at q;cases q;refine XF.ok #[_,S,λg=>?_,λg Y=>?_,by simp]
    .by_cases i:g=f
     .rw[if_pos i]
      have t:(g==f)=t_:=beq_iff_eq.mpr i;simp only[lj,t];exact M
     .rw[if_neg i]
      have t:(g==f)=u_:=beq_eq_false_iff_ne.mpr i;simp only[lj,t];trivial
    .by_cases i:g=f
     .simp[i]
     .exact absurd (if_neg i) Y
   .rw[AG L]at q
    refine(I.hok b o q).J6 (λx v m r=>l x v ?_ r) (λx r=>of r^by intro j z;cases z) λx J r=>of r^by intro j z;cases z
    rcases m with rfl|m
    .exact z
    .intro Z;rw[Z,e]at m;cases m
theorem UP(I:Inv X zF σ H s)(e:H a=P3^.ext^XO a C^P3 d)(k:H d=P3^.ext^XF d i)(c:XC X.K nm C U)(n:vz X.K C f)(v:RelV y u)(O:i.length<1000)
  (h:∀l,Inv X zF σ (AX H d^.ext^XF d^Cz f y i) l->Q () l):wpAny (model X.prog X.w) A (setAttr (.ref a) f u) Q E s:=by
 let#[#[P,R,B,S,T],_]:=(show zh X.prog X.w H s.heap a _ from I.hok a _ e);let#[#[m,D,r,p,_],_]:=(show zh X.prog X.w H s.heap d _ from I.hok d _ k);refine UR I.kIn c B D p (by rw[Ev,kJ];lk) n λF W t G=>h _ ?_;have J:∃o,F.get? d=P3 o:=let #[o,_,_,L,_]:=t;#[o,L]
 refine I.write (x:=d) (e:=d) (by rw[k];exact lW) (.inl rfl) (λb q M z=>(G.2 b M).trans z) J^XF.ok #[_,t,λg=>?_,λg N=>?_,?_]
 .show vH ((Cz f y i).lookup g) (if g=f then P3 u else m g)
  rw[Eh]
  by_cases q:g=f
  .rw[if_pos q,if_pos q];exact v
  .rw[if_neg q,if_neg q];exact r g
 .by_cases q:g=f
  .rw[q];exact(Dq f y i).1
  .refine(Dq f y i).2 g^p g λz=>N ?_
   show(if g=f then P3 u else m g)=s_;rw[if_neg q];exact z
 .have:=El f y i;lk
end
def jZ(C:Ch)(c e:TE)(f:Str):TS:=λD b H=>e b H λy H1=>c b H1 λx H2=>∃a,x=.ref a/\H2 a=P3^.ext^XO a C s_/\∀d,H2 d=s_->d≠a->D.nx b^AX (AX H2 d^.ext^XF d [(f,y)]) a^.ext^XO a C^P3 d
def jY(C:Ch)(e g:TE)(f:Str):TS:=λD b H=>g b H λy H1=>e b H1 λx H2=>∃a d c,x=.ref a/\H2 a=P3^.ext^XO a C^P3 d/\H2 d=P3^.ext^XF d c/\c.length<1000/\D.nx b^AX H2 d^.ext^XF d^Cz f y c
section

def e7(c:XC X.K nm C U)(n:vz X.K C f)(g:PE X o ta)(i:PE X value tv)(j:swapsWith value (P3^.Attribute o f pos') pos.line X.env=pure u_):PS X (.Assign [.Attribute o f pos'] value pos)^jZ C ta tv f:=by
 intro B s b H D I h;refine nQ (Ao (i _ s b H _ I h) λu k zz=>?_) j;let#[y,H1,l,m,q]:=zz;refine Ao (g _ k b H1 _ l q) λp E zz=>?_;let#[x,H2,r,t,a,ex,v,w]:=zz;subst ex;obtain rfl:p=Uf a:=t;exact UQ r v c n m λd F z e A=>#[b,_,A,w d z e]
def ej(c:XC X.K nm C U)(n:vz X.K C f)(e:PE X o ta)(g:PE X value tv)(i:swapsWith value (P3^.Attribute o f pos') pos.line X.env=pure u_):PS X (.Assign [.Attribute o f pos'] value pos)^jY C ta tv f:=by
 intro B s b H D I h;refine nQ (Ao (g _ s b H _ I h) λu j zz=>?_) i;let#[y,H1,k,m,q]:=zz;refine Ao (e _ j b H1 _ k q) λp E zz=>?_;let#[x,H2,r,t,a,d,F,ex,v,w,l,z]:=zz;subst ex;obtain rfl:p=Uf a:=t;exact UP r v w c n m l λG A=>#[b,_,A,z]
end
def del(H:Hp)(a:Ch):Hp:=λb=>if b=a then s_ else H b
def Jt(h:b≠a):del H a b=H b:=if_neg h
def Er:del H a a=s_:=if_pos rfl
section

def fZ(I:Inv X zF σ H s)(y:s1.os=s.os)(f:oB s1.gens)(u:Un (Lb X.stack) [] H H1 s.heap s1.heap)(hok:HOk X.prog X.w H1 s1.heap)(j:H1 a=P3^.ext^XO a C dx)(h:s.heap.objs.size<=a):
  CXD X.prog X.w X.stack H s a C dx (PySem.W.hideAll s1.heap (a::Lb X.stack)) (del H1 a) s1:=by
 have J:Inv X zF σ H1 s1:=I.call' y u hok f λb z=>absurd z (by simp);have D:∀{b:Ch}{u:HO},H1 b=P3 u->(∀g,u≠.ext g)->b≠a:=λ{b u} q l z=>by rw[z,j]at q;exact l _ (ZB q).symm
 have of:∀{b:Ch}{u:HO},H1 b=P3 u->(∀g,u≠.ext g)->del H1 a b=P3 u:=λq l=>(Jt^D q l).trans q;have A:∀{b:Ch}{u:HO},H1 b=P3 u->b∉Lb X.stack:=λ{b u} q z=>by rw[J.yK b z]at q;cases q
 let#[#[E,F,p,G,K],_]:=(show zh X.prog X.w H1 s1.heap a _ from hok a _ j);refine#[y,f,#[u.keep,u.slot,λb o q n p=>?_,u.there,λb i q=>of (u.vy b i q) (by intro g z;cases z),λb o i q=>of (u.vE b o i q) (by intro g z;cases z),λb L q=>?_],λb o q=>?_,λb o O q t M=>?_,#[λb o q=>PySem.W.of_hideAll _ q,PySem.W.hideAll_none _^by simp,PySem.W.funFrames_hide J.stack λx N b t=>?_,E,F,.none,p,G,K,.inl rfl],h,Er]
 .by_cases z:b=a
  .rw[z];exact Er
  .rw[Jt z];exact u.free b o q n p
 .let#[m,e]:=u.vI b L q
  exact#[m,of e^by intro g z;cases z]
 .have B:b≠a:=λz=>by rw[z,Er]at q;cases q
  rw[Jt B]at q;refine(hok b o q).J6 (λc v d r=>PySem.W.hideAll_get _ r λz=>?_) (λc r=>of r^by intro g z;cases z) λc i r=>of r^by intro g z;cases z
  rcases UF.mp z with z|z
  .rcases d with d|d
   .exact B^d.symm.trans z
   .rw[z,j]at d;cases d
  .rcases d with d|d
   .exact A q (d▸z)
   .exact A d z
 .refine PySem.W.hideAll_get _ M λz=>?_
  rcases UF.mp z with z|z
  .exact absurd (Tk q)^by rw[z];exact nj.mpr h
  .exact t z
 .exact Rs _^qJ.mpr #[x,N,t]
end
def XS(X:Cx)(a:v_ (Ch×Obj))(b:St)(R:XK)(e:Db)(c:Go):Prop:=∃H s,Inv X a b H s/\Kb X.prog X.w X.stack H s R e c
def Made(X:Cx)(d:v_ (Ch×Obj))(e:St)(C:Ch)(R:XK)(v:Db)(b:Go):Prop:=∃a c H s H1,v=.ref a/\Inv X d e H s/\b.os=s.os/\oB b.gens/\Un (Lb X.stack) [] H H1 s.heap b.heap/\HOk X.prog X.w H1 b.heap/\H1 a=P3^.ext^XO a C c/\s.heap.objs.size<=a/\R (.ref C) c^del H1 a
section

def LI(c:XC X.K nm C U)(D:X.A.handled=s_)(h:wpAny (model X.prog X.w) X.A (eval e X.env) (Made X zF σ C R) i s)(E:∀e t,XS X zF σ R e t->i e t):
  wpAny (model X.prog X.w) X.A (exec (.Raise (P3 e) s_ pos) X.env) Q i s:=by
 let#[q,N,F,G,m,H,n,L,M,O,P,S,T,V]:=c.obj
 have W:wpAny (model X.prog X.w) X.A (eval e X.env) (λv d=>∃e k l o,v=.ref e/\d.heap.get? C=P3^excClassObj nm q C N F (.ref U::CV) t_ G m H n L M O P S T "ValueError.__new__" /\
   d.heap.get? e=P3 #[.ref C,k,.fields l,o]/\l[1]?=P3 .none/\i (.ref e) d) i s:=by
  refine Ao h λv s1 zz=>?_;let#[a,k,Y,Z,H1,ev,I,y,f,u,g,B,p,r]:=zz;let#[#[l,o,hx,h2,h1],_]:=(g a _ B);have J:=I.call' y u g f λb z=>absurd z (by simp);exact#[a,k,l,o,ev,J.kIn _ _ V,hx,h1,E _ _ #[Y,Z,I,a,C,k,_,_,rfl,fZ I y f u g B p,r]]
 first
  |exact Cn^pG (PU rfl D (Cn^kP W (λv d j=>Cn^pG^On j) λ_ _ x=>x))
  |omega
end
def Iq(C:Ch)(c f:Str):Sp:=λg H Q _=>∃a b e,g=[.ref a,b,e]/\H a=P3^.ext^XO a C s_ /\
 ∀d,H d=s_->d≠a->Q .non^AX (AX (AX H d^.ext^XF d [(c,b)]) a^.ext^XO a C^P3 d) d^.ext^XF d [(c,b),(f,e)]
section

def Xv(c:XC X.K nm C U)(hi:PySem.W.findIn X.K (.ref C) "__init__"=P3^P3^.ref f)(M:PySem.W.typeIn X.K^.ref f=P3^.type "function")(F:zL X.prog X.w X.K X.mg X.base EW k f fd [p0,p1,p2]^Iq C k1 k2)(N:Binds X.K fd [p0,p1,p2] [])
  (O:zy (k+1) X.A) (I:Inv X zF σ H s) (r:zv [v1,v2] us) (h:∀d,H d=s_->R (.ref C) (P3 d)^AX H d^.ext^XF d [(k1,v1),(k2,v2)]):wpAny (model X.prog X.w) X.A (call (.ref C) us) (Made X zF σ C R) E s:=by
 let#[a,g,P,t,Q]:=s;have y:us.length=2:=r.length.symm;have S:((a.push {cls:=.type "tuple",data:=.seq us.toArray}).push^Bk C a.objs.size).get? (a.objs.size+1)=P3^Bk C a.objs.size:=by unfold Bk;heap_get
 have B:∀b o,a.get? b=P3 o->((a.push {cls:=.type "tuple",data:=.seq us.toArray}).push^Bk C a.objs.size).get? b=P3 o:=λb o e=>FM _^FM _ e;have D:H (a.objs.size+1)=s_:=I.hok.fresh^kL _;have G:Inv X zF σ (AX H (a.objs.size+1)^.ext^XO (a.objs.size+1) C s_) #[(a.push {cls:=.type "tuple",data:=.seq us.toArray}).push^Bk C a.objs.size,g,P,t,Q]:=I.laid (t':=t) B (kL _)^XO.ok #[_,_,S,rfl,rfl]
 have p:Iq C k1 k2 [.ref (a.objs.size+1),v1,v2] (AX H (a.objs.size+1)^.ext^XO (a.objs.size+1) C s_) (λv J=>v=.non/\∃d,H d=s_/\d≠a.objs.size+1 /\
   J=AX (AX (AX (AX H (a.objs.size+1)^.ext^XO (a.objs.size+1) C s_) d^.ext^XF d [(k1,v1)]) (a.objs.size+1)^.ext^XO (a.objs.size+1) C^P3 d) d^.ext^XF d [(k1,v1),(k2,v2)]) E0:=
  #[_,v1,v2,rfl,AI,λd l i=>#[rfl,d,by rw[AG i]at l;exact l,i,rfl]]
 have T:zv [V.ref (a.objs.size+1),v1,v2] (Uf (a.objs.size+1)::(us++[])):=by rw[j5];exact .cons rfl r
 refine mj^V_ (K:=X.K) (U:=U) (nm:=nm) I.kIn c hi M (by rw[y];decide)^mR (F.run _ X.stack _ _ #[Uf (a.objs.size+1)::us,[]] _ _ _ E0 (O.make C us []) (G.env0.make C us []) (N _ (Uf (a.objs.size+1)::us) G.kIn^by simp[y]) T p) λY s' L=>?_
 rcases Y with e|(u|_|_|_) <;>first|exact kd L|skip
 let#[v,J,q,j,Z,x,rv,ev,d,l,i,eH]:=L;subst ev;subst eH;exists rv,a.objs.size+1,P3 d,H,_,_,rfl,I,q,j,(Un.laid B (kL _) D).trans Z,x,by rw[AG i.symm,AI],kL _
 have e:del (AX (AX (AX (AX H (a.objs.size+1)^.ext^XO (a.objs.size+1) C s_) d^.ext^XF d [(k1,v1)]) (a.objs.size+1)^.ext^XO (a.objs.size+1) C^P3 d) d^.ext^XF d [(k1,v1),(k2,v2)]) (a.objs.size+1)=AX H d^.ext^XF d [(k1,v1),(k2,v2)]:=by
  funext b
  by_cases z:b=a.objs.size+1
  .rw[z,Er,AG i.symm,D]
  .rw[Jt z]
   by_cases m:b=d
   .rw[m,AI,AI]
   .rw[AG m,AG z,AG m,AG z,AG m]
 rw[e];exact h d l
theorem Xw(c:XC X.K nm C U)(hi:PySem.W.findIn X.K (.ref C) "__init__"=P3^P3^.builtin "ValueError.__init__")(I:Inv X zF σ H s)(j:us.length<=sizeLine)(h:R (.ref C) s_ H):wpAny (model X.prog X.w) X.A (call (.ref C) us) (Made X zF σ C R) E s:=by
 let#[a,g,m,t,n]:=s;have d:=I.hok.fresh^kL _;refine mj^TD (K:=X.K) (U:=U) (nm:=nm) I.kIn c hi j λo i k=>?_;have l:Inv X zF σ (AX H (a.objs.size+1) _) _:=I.laid (t':=t) i (kL _)^XO.ok #[_,_,k,rfl,rfl];exists a.objs.size+1,s_,H,_,_,rfl,I,rfl,I.bare,Un.laid i (kL _) d,l.hok,AI,kL _
 have e:del (AX H (a.objs.size+1)^.ext^XO (a.objs.size+1) C s_) (a.objs.size+1)=H:=by
  funext b
  by_cases z:b=a.objs.size+1
  .rw[z,Er,d]
  .rw[Jt z,AG z]
 grind
end
abbrev W0:=Ends->XK->St->Hp->Prop
abbrev gM:=XK->St->Hp->VK->Prop
def XE(X:Cx)(b:v_ (Ch×Obj))(c:St)(R:XK)(e:Db)(a:Go):Prop:=X.xe e a\/XS X b c R e a
def cm(X:Cx)(c:kn)(t:W0):Prop:=
 ∀(a:v_ (Ch×Obj)) (s:Go) (b:St) (H:Hp) (D:Ends) (R:XK),Inv X a b H s->t D R b H->wpAny (model X.prog X.w) X.A (exec c X.env) (SP X a D) (XE X a b R) s
def Ws(X:Cx)(c:v_ kn)(t:W0):Prop:=
 ∀(a:v_ (Ch×Obj)) (s:Go) (b:St) (H:Hp) (D:Ends) (R:XK),Inv X a b H s->t D R b H->wpAny (model X.prog X.w) X.A (execs c X.env) (SP X a D) (XE X a b R) s
def iu(X:Cx)(e:jx)(t:gM):Prop:=
 ∀(b:v_ (Ch×Obj)) (s:Go) (a:St) (H:Hp) (Q:VK) (R:XK),Inv X b a H s->t R a H Q->wpAny (model X.prog X.w) X.A (eval e X.env) (EP X b a Q) (XE X b a R) s
section
variable {st:Stmt}
def gg{t:Sem a}(h:wpAny (model X.prog X.w) X.A t Q X.xe s):wpAny (model X.prog X.w) X.A t Q (XE X b c R) s:=kP h (λ_ _ z=>z) λ_ _ z=>.inl z
def SK(b:Cq (Kb X.prog X.w) X R)(h:cm X st t):PS X st (λD=>t D R):=λg s a H D I q=>
 kP (h _ s a H D R I q) (λ_ _ z=>z) λe d z=>z.elim id fun#[H,s,J,c]=>b _ a H s e d J c
def U4(h1:cm X st t):Ws X [st] t:=by
 intro c s a H D R I h;refine ql^kP (h1 _ s a H D R I h) (λf d q=>?_) λ_ _ z=>z;cases f with
 |next=>
  let#[e,b,J,q]:=q;exact nZ #[_,b,J,q]
 |brk=>exact q
 |cont=>exact q
 |ret v=>exact q
def iB(c:TT)(t u:W0):W0:=λD R a H=>c a H λb H1=>if b=t_ then t D R a H1 else u D R a H1
def az{e:TT}(j:PT X c e)(k:Ws X a t)(l:Ws X b u):cm X (.If c a b pos)^iB e t u:=by
 intro m s d H D R I h;refine wpAny_If^Ao (gg^j _ s d H _ I h) λv g zz=>?_;let#[H1,i,q]:=zz;cases v with
 |true=>exact k _ g d H1 D R i q
 |false=>exact l _ g d H1 D R i q
def XG(C:Ch)(k1 k2:Str)(ta:TA):W0:=λ_ R c H=>ta c H λe H1=>∃a b,e=[a,b]/\∀d,H1 d=s_->R (.ref C) (P3 d)^AX H1 d^.ext^XF d [(k1,a),(k2,b)]
def XH(C:Ch)(ta:TA):W0:=λ_ R a H=>ta a H λb H1=>b.length<=sizeLine/\R (.ref C) s_ H1
def PY(c:XC X.K nm C U)(hi:PySem.W.findIn X.K (.ref C) "__init__"=P3^P3^.ref f)(i:PySem.W.typeIn X.K^.ref f=P3^.type "function")(F:zL X.prog X.w X.K X.mg X.base EW k f fd [p0,p1,p2]^Iq C k1 k2)(j:Binds X.K fd [p0,p1,p2] [])
  (d:zy (k+1) X.A) (l:Gl X x) (m:X.mg x=P3^.ref C) (n:PA X (e::es) ta) (a:dbN x:=by decide) (o:X.sE e es:=by rfl) (b:(backTo cpos^starEach es X.env).any (·.1)=u_:=by rfl):
  cm X (.Raise (P3^.Call (.Name x p) (e::es) [] cpos) s_ pos) (XG C k1 k2 ta):=by
 intro v s t H D R I h;refine LI c d.hd ?_ λ_ _ z=>.inr z;refine kz^C2 I l m ?_ a;refine PySem.W.callWith_K I.ok.mod.kin c.kp (Ao (gg^n _ _ s t H _ I h) λy B zz=>?_) o b;let#[E,H1,g,r,G,J,u,q]:=zz;refine #[g.kIn,?_];subst u;exact Xv c hi i F j d g r q
def PZ(c:XC X.K nm C U)(hi:PySem.W.findIn X.K (.ref C) "__init__"=P3^P3^.builtin "ValueError.__init__")(g:X.A.handled=s_)(i:Gl X x)(j:X.mg x=P3^.ref C)(k:PA X (e::es) ta)(a:dbN x:=by decide)(l:X.sE e es:=by rfl)(b:(backTo cpos^starEach es X.env).any (·.1)=u_:=by rfl):
  cm X (.Raise (P3^.Call (.Name x p) (e::es) [] cpos) s_ pos) (XH C ta):=by
 intro o s m H D R I h;exact LI c g (kz^C2 I i j (PySem.W.callWith_K I.ok.mod.kin c.kp (Ao (gg^k _ _ s m H _ I h) λt u #[v,H1,d,r,n,q]=>#[d.kIn,Xw c hi d (by rw[j7,←r.length];exact n) q]) l b) a) λ_ _ z=>.inr z
def aW(sp:Sp)(ta:TA):gM:=λR a H Q=>ta a H λb H1=>sp b H1 Q R
theorem VB(F:zL X.prog X.w X.K X.mg X.base (Kb X.prog X.w) k f fd ps sp)(l:zy k X.A)(m:Gl X x)(n:X.mg x=P3^.ref f)(o:keepIn X.K^.ref f=t_)(t:Binds X.K fd ps [])
  (v:PA X (e::es) ta) (d:dbN x:=by decide) (y:X.sE e es:=by rfl) (g:(backTo pos^starEach es X.env).any (·.1)=u_:=by rfl):
  iu X (.Call (.Name x p) (e::es) [] pos) (aW sp ta):=by
 intro z s B H Q R I h;refine kz^C2 I m n ?_ d;refine PySem.W.callWith_K (h₀:=X.base) I.ok.mod.kin o (Ao (gg^v pos z s B H _ I h) λa i zz=>?_) y g;let#[j,H1,b,r,q]:=zz;refine #[b.kIn,?_];have D:(a++[]).length=ps.length:=by rw[j5,←r.length];exact F.len _ _ _ _ q
 have E:zv j (a++[]):=by grind
 refine mj^mR (F.run X.A X.stack i H1 #[a,[]] (a++[]) j Q R l b.env0 (t i a b.kIn D) E q) λr J c=>?_;cases r with
 |error e=>exact .inr #[H1,i,b,c]
 |ok G=>
  cases G with
  |ret u=>exact b.after c
  |next=>exact kd c
  |brk=>exact kd c
  |cont=>exact kd c
def aR(te:gM):W0:=λD R a H=>te R a H λ_ H1=>D.nx a H1
def U3(b:iu X e te)(c:swapsWith e s_ pos.line X.env=pure u_:=by rfl):cm X (.Expr e pos)^aR te:=λg s a H D R I h=>wpAny_Expr_any (Ao (b _ s a H _ R I h) λu i #[v,H1,d,_,q]=>#[a,H1,d,q]) I.quiet c
end
def Cx.yy(X:Cx)(A:kA):Cx:={X with A:=A,calm:=u_,xe:=λ_ _=>False}
section

def Inv.yy(I:Inv X zF σ H s)(a:A.frames=P3 X.stack):Inv (X.yy A) zF σ H s:=
 #[#[I.ok.mod,I.ok.kind,I.ok.glob,I.ok.blt,I.ok.above,I.ok.inj,I.ok.has,I.ok.cab,λz=>absurd (z) jt,a,I.ok.stk,I.ok.exf,I.ok.bs,I.ok.bsz,I.ok.noex,I.ok.exfs,I.ok.YP,I.ok.frf],I.os,I.bare,I.base,I.loc,I.cell,I.free,I.vG,I.pin,I.hok,I.len]
def Inv.unhush(I:Inv (X.yy A) zF σ H s)(ok:X.Ok):Inv X zF σ H s:=#[ok,I.os,I.bare,I.base,I.loc,I.cell,I.free,I.vG,I.pin,I.hok,I.len]
theorem Inv.track(I:Inv X zF σ H s)(n:H a=s_)(h1:X.s₀.heap.objs.size<=a)(d:a≠X.env.locals)(f:∀x c,X.env.cells.lookup x=P3 c->c≠a)(g:∀p∈X.pn++zF,p.1≠a)(new:zh X.prog X.w (AX H a o) s.heap a o):
  Inv X zF σ (AX H a o) s:=by
 have of:∀{b:Ch}{u:HO},H b=P3 u->AX H a o b=P3 u:=λ{b u} q=>by rw[AG λz=>by grind];exact q
 refine I.step (g':=s.gens) (d':=s.drawn) (t':=s.toks) (h':=s.heap) (ch:=[a]) (λb k=>?_) (λb o _ _ _ e _=>e) (λb o _ _ _ e _=>#[o.slots,e]) (λb o h _ m=>?_) (λb o _ e=>#[o,e]) (λb i e=>of e) (λb o i e=>of e) (λb l e=>#[#[],by grind]) (λm j=>j) (λb u e=>?_) I.bare
 .have e:b=a:=by grind
  subst e;exact#[.inr h1,d,f,g]
 .rw[AG λz=>h^by simp[z]];exact m
 .by_cases z:b=a
  .subst z
   rw[AI]at e
   grind
  .rw[AG z]at e
   exact(I.hok b u e).J6 (λ_ _ _ q=>q) (λ_ q=>of q) λ_ _ q=>of q
def Inv.gone(I:Inv X zF σ H s)(E:X.N.Nodup)(hi:X.N[i]?=P3 x)
  (F:∀(i:Nat) (x:Str) (v:V),X.N[i]?=P3 x->σ[i]?=P3^P3 v->Ov X.env.scope x->∃u,RelV v u/\Look X.env s.heap m x u)
  (G:t.Ns X.env.locals λy=>if y=x then v else m y) (a:mC X.env.locals s.heap t):Inv X zF (σ.set i s_) H {s with heap:=t,toks:=D}:=by
 have f:∀{b:Ch}{o:Obj},X.s₀.heap.get? b=P3 o->b≠X.env.locals:=λ{b o} e=>jo^jz (Tk e) I.ok.above;refine#[I.ok,I.os,I.bare,#[λb o e n w l=>(a.2 b^f e).trans^I.base.keep b o e n w l,λb o e n w l=>?_,I.base.free,λb o e l=>?_,I.base.vy,I.base.vE,I.base.vI],#[_,G,λj y J g h K=>?_],λy c e=>?_,I.free,I.vG,λp L=>?_,λb o e=>?_,by simpa using I.len]
 .let#[M,g]:=I.base.slot b o e n w l
  exact#[M,(a.2 b^f e).trans g]
 .let#[O,g]:=I.base.there b o e l
  exact#[O,(a.2 b^f e).trans g]
 .by_cases B:j=i
  .subst B
   rw[qZ]at h
   split at h
   .split at h <;>cases h
   .rename_i z;exact absurd rfl z
  .rw[pZ^kM B]at h
   let#[P,Q,q]:=F j y J g h K;exists P,Q
   rcases q with⟨k,e⟩|⟨k,c,e,z⟩
   .refine .inl #[k,?_]
    have:y≠x:=λe=>B^JU E g (e▸hi)
    simp[this,e]
   .exact .inr #[k,c,e,z.sameBut a^I.cne y c e]
 .let#[C,z]:=I.cell y c e
  exact#[C,z.sameBut a^I.cne y c e]
 .let#[e,n,f,R,d]:=I.pin p L
  exact#[(a.2 p.1 f).trans e,n,f,R,d]
 .refine(I.hok b o e).J6 (λc C r q=>(a.2 c ?_).trans q) (λ_ q=>q) λ_ _ q=>q
  rintro rfl
  rcases r with rfl|r
  .rw[I.free]at e;cases e
  .rw[I.free]at r;cases r
end
def XT(C:Ch)(c:w_ Ch)(a:Ch)(u:HO):Prop:=∃b d,u=.frz #[.ref C,c,.fields b,d]^.own a/\b[2]?=P3 .none
abbrev TH:=Ends->Ch->w_ Ch->St->Hp->Prop
def PH(X:Cx)(g:v_ oW)(t:TH):Prop:=
 ∀(b:v_ (Ch×Obj)) (c:St) (D:Ends) (a C:Ch) (d:w_ Ch) (B:jq) (e:Hp) (f:Go) (H:Hp) (s:Go),Inv X b c e f->CXD X.prog X.w X.stack e f a C d B H s->t D C d c H->
  wpAny (model X.prog X.w) X.A (handleBy (.ref a) X.env g) (SP X b D) X.xe s
section

def d6(K:Frag)(Dc:Ch)(i:Nat)(ts:Ch->TS)(th:TH):TH:=λD C d e H=>∃nm U,XC K nm C U/\((C=Dc\/U=Dc)/\(∀a u,H a=s_->XT C d a u->ts a {nx:=λb c=>D.nx (b.set i s_) c,rt:=D.rt,bk:=λb c=>D.bk (b.set i s_) c,ct:=λb c=>D.ct (b.set i s_) c} (e.set i^P3^.ref a)^AX H a u)\/C≠Dc/\U≠Dc/\th D C d e H)
def dG(K:Frag)(D:Ch):Prop:=∃nm q N d c e f a g b h j k l m o,K.lookup D=P3^excClassObj nm q D N d c e f a g b h j k l m o "ValueError.__new__"/\c.contains^.type "BaseException"=t_
def XC.isX{K:Frag}(c:XC K nm C U):dG K C:=by
 let#[q,N,a,b,d,f,g,h,j,k,l,m,o,e]:=c.obj;exact#[nm,q,N,a,_,_,b,_,f,_,h,j,k,l,m,o,e,by simp[CV]]
def XC.isU{K:Frag}(c:XC K nm C U):dG K U:=by
 let#[q,N,a,b,d,f,g,h,j,k,l,m,o,p,e]:=c.up;exact#[_,q,N,a,_,_,b,_,f,_,h,j,k,l,m,o,e,by simp[CV]]
theorem Hq:(Uf C::Uf U::CV).contains^.ref D=(decide (C=D)||decide (U=D)):=by
 simp only[List.contains_cons,CV,List.contains_nil]
 have d:∀(a b:Ch),(Uf a==Uf b)=decide (b=a):=λa b=>by
  grind
 have c:∀T,(Uf D==kZ T)=u_:=λT=>rfl;rw[d,d,c,c,c,c];simp
def Xd(hN:X.N.Nodup)(hi:X.N[i]?=P3 n)(R:X.env.scope.names.lookup n=P3 .local)(hg:Gl X x)(hm:X.mg x=P3^.ref Dc)(hD:dG X.K Dc)(a3:X.stack=X.env::X.outer)(a4:X.env.frame=P3 X.env.locals)
  (hs:∀a,PSs (X.yy^X.A.mark^P3^.ref a) (b₀::suite)^ts a) (o:PH X rest th) (hd:dbN x:=by decide):
  PH X (.ExceptHandler (P3^.Name x np) (P3 n) (b₀::suite) pos::rest) (d6 X.K Dc i ts th):=by
 intro t σ D a C dx B H0 s0 H s I c h;let#[nm,U,xc,h]:=h;have J:=c.inv I;have E:(X.A.mark^P3^.ref a).frames=P3 X.stack:=I.ok.frames;have J':=J.yy E;refine wpAny_handleBy_cons (codeAny_handlers_test ?_) (by intro q;cases q);refine C2 (X:=X.yy^X.A.mark^P3^.ref a) J' hg hm ?_ hd;let#[a5,q',N',a6,a7,a8,a9,a1,b0,a2,b1,l0,l1,l2,l3,l5,eD,hB]:=hD;let#[q,N,bs,sn,b2,ab,b3,dd,k0,k1,k2,k3,k5,eC]:=xc.obj;let#[vs,sl,tb,hx,h2,h1,hT]:=c.fly.obj;let#[hh,g,dr,tk,os]:=s;refine TC (J.kIn _ _ eC) (J.kIn _ _ eD) hB hx rfl ?_;rw[Hq]
 rcases h with⟨S,h⟩|⟨n1,n2,h⟩
 .have e:(decide (C=Dc)||decide (U=Dc))=t_:=by rcases S with z|z <;>simp[z]
  rw[e];refine codeAny_handlers_suite_as ?_;refine Fl (s:=#[hh,g,dr,tk,os]) c.fly λh' f' u'=>?_;have c2:=c.step f' u';have J2:=c2.inv I;let#[F,G,b4,L,T,_]:=f'.obj
  have J3:Inv X t σ (AX H a^.frz #[.ref C,dx,.fields F,G]^.own a) #[h',g,dr,tk,os]:=by
   refine J2.track c.free (jr I.sz c.new) (mQ^jz I.lt c.new) (λy c' e z=>?_) (λp hp z=>?_) #[L,_,L]
   .let#[v,q]:=I.cell y c' e
    exact absurd (jz q.lt c.new)^by rw[z];exact ko _
   .exact absurd (jz (Tk (I.pin p hp).1) c.new)^by rw[z];exact ko _
  refine Fz J3 hN hi (.inl R) (v:=.ref a) (u:=.ref a) rfl (λs4 J4=>?_) (.inr R);have V:=hs a t s4 _ _ _ (J4.yy E)^h a _ c.free #[F,G,rfl,T];refine kP V (λf W O=>?_) λe W z=>z.elim
  have j:∀{k:St}{b:Hp}{P:St->Hp->Prop}{Q:Go->Prop},Inv (X.yy^X.A.mark^P3^.ref a) t k b W->P (k.set i s_) b->(∀l,Inv X t (k.set i s_) b l->Q l)->
    wpAny (model X.prog X.w) X.A (do bindName X.env n .none;unbindBehindTheSuite X.env n pos) (λ_ l=>Q l) X.xe W:=λ{k b P Q} d _ kq=>by
   let#[m,hn,Y]:=d.loc;refine wpAny_nameGoes_keeps (M:=model X.prog X.w) R hn (by show(X.env.scope.kind==.class||(X.env.scope.kind==.module&&X.env.locals !=X.env.globals))=u_;rw[I.ok.kind];rfl) λh6 v Z a0=>?_;exact kq _^(d.unhush I.ok).gone hN hi Y Z a0
  cases f with
  |next=>
   let#[k,b,d,q]:=O;exact j (P:=D.nx) d q λl r=>#[_,b,r,q]
  |brk=>
   let#[k,b,d,q]:=O;exact j (P:=D.bk) d q λl r=>#[_,b,r,q]
  |cont=>
   let#[k,b,d,q]:=O;exact j (P:=D.ct) d q λl r=>#[_,b,r,q]
  |ret u=>
   let#[v,k,b,d,rv,q]:=O;exact j (P:=λ_ b=>D.rt v b) d q λl r=>#[v,_,b,r,rv,q]
 .have e:(decide (C=Dc)||decide (U=Dc))=u_:=by simp[n1,n2]
  rw[e];exact o t σ D a C dx B H0 s0 H _ I c h
def aQ:TH:=λ_ _ _ _ _=>False
def bD:PH X [] aQ:=λ_ _ _ _ _ _ _ _ _ _ _ _ _ h=>h.elim
def h8(tb:W0)(th:TH):TS:=λD a H=>tb D (λC c d=>∃b,C=.ref b/\th D b c a d) a H
theorem a9(d:X.stack=X.env::X.outer)(g:X.env.frame=P3 X.env.locals)(M:∀e s,X.xe e s->False)(p:Ws X body tb)(r:PH X (b::rest) th):PS X (.Try body (b::rest) [] [] pos)^h8 tb th:=by
 intro k s l H D I h;refine wpAny_Try_except^kP (p k s l H D _ I h) (λf m q=>?_) λe m q=>?_
 .cases f with
  |next=>exact nZ q
  |_=>exact q
 .rcases q with q|⟨t,u,v,a,C,w,B,y,rfl,c,N,z,j⟩
  .grind
  .cases z
   have o:=c.fly;rw[d]at o;have fr:=I.ok.frames;rw[d]at fr;refine OD fr g o λA E F=>?_;have G:=c.step (by grind) F;refine Fl (s:={m with heap:=A}) E λO J K=>?_;have L:=G.step (by rw[d];exact J) K;exact r k l D a C w B t u y _ v L j
end
end L2
namespace Dp
open L2
inductive D where
 |non|bl (b:Bool)|int (i:Int)|str (x:Str)|tup (xs:List D)|lst (xs:List D)|dic (ks:List Key) (xs:List D)|fdi (ks:List Key) (xs:List D)|dit (ks:List^List Key) (xs:List D)|ob (a:Ch)
 deriving Inhabited
inductive Wc where
 |pl (d:D)|ins (C:Ch) (ks:List Str) (ds:List D)
structure Sg where
 n:Nat
 w:Ch->Option Wc
instance:HSub Sg Nat Sg:=#[λs k=>#[s.n - k,s.w]]
def Tl(o:HO):Prop:=∃u,o=.vol u
def NdT(M:Ch->Prop)(H:Hp)(a:Ch)(b:v_ V):Prop:=H a=P3^.tup b
def NdL(M:Ch->Prop)(H:Hp)(a:Ch)(b:v_ V):Prop:=¬M a/\H a=P3^.lst b
def NdD(M:Ch->Prop)(H:Hp)(a:Ch)(b:v_ Key)(c:v_ V):Prop:=¬M a/\H a=P3^.dK^b.zip c
def NdF(M:Ch->Prop)(H:Hp)(a:Ch)(b:v_ Key)(c:v_ V):Prop:=∃o,¬M a/\H a=P3^.frz o^.dK^b.zip c
def NdU(M:Ch->Prop)(H:Hp)(a:Ch)(b:v_^v_ Key)(c:v_ V):Prop:=¬M a/\H a=P3^.dT^b.zip c
mutual
def At(K:Frag)(M:Ch->Prop)(H:Hp):D->V->Prop
 |.non,v=>v=.non
 |.bl b,v=>v=.bl b
 |.int i,v=>v=.int i
 |.str x,v=>v=.str x/\x.length<=sizeLine
 |.tup ds,v=>∃a vs,v=.ref a/\NdT M H a vs/\Ats K M H ds vs
 |.lst ds,v=>∃a vs,v=.ref a/\NdL M H a vs/\Ats K M H ds vs
 |.dic ks ds,v=>∃a vs,v=.ref a/\NdD M H a ks vs/\ks.length=ds.length/\Ats K M H ds vs
 |.fdi ks ds,v=>∃a vs,v=.ref a/\NdF M H a ks vs/\ks.length=ds.length/\Ats K M H ds vs
 |.dit ks ds,v=>∃a vs,v=.ref a/\NdU M H a ks vs/\ks.length=ds.length/\Ats K M H ds vs
 |.ob a,v=>v=.ref a/\∃o,H a=P3 o
def Ats(K:Frag)(M:Ch->Prop)(H:Hp):v_ D->v_ V->Prop
 |[],vs=>vs=[]
 |d::ds,vs=>∃v r,vs=v::r/\At K M H d v/\Ats K M H ds r
end
section
variable {K:Frag}
def NdT.sq(h:NdT M H a vs):SqT K H a vs:=.inl^.inl h
def NdL.sq(h:NdL M H a vs):SqL K H a vs:=.inl^.inl h.2
def zg(M:Ch->Prop)(H:Hp)(M':Ch->Prop)(H':Hp):Prop:=(∀b o,H b=P3 o->¬M b->¬Tl o->H' b=P3 o)/\(∀b,M' b->M b\/H b=s_)/\(∀b vs,H b=P3^.tup vs->H' b=P3^.tup vs)/\∀b o,H b=P3 o->∃c,H' b=P3 c
theorem zg.nd(p:zg M H M' H')(n:¬M a)(h:H a=P3 u)(b:¬Tl u:=by rintro⟨_,z⟩;cases z):¬M' a/\H' a=P3 u:=by
 refine#[λz=>?_,p.1 _ _ h n b]
 rcases p.2.1 a z with z|z
 .exact n z
 grind
def NdT.q4(p:zg M H M' H')(h:NdT M H a vs):NdT M' H' a vs:=p.2.2.1 _ _ h
def NdL.q4(p:zg M H M' H')(h:NdL M H a vs):NdL M' H' a vs:=p.nd h.1 h.2
def NdD.q4(p:zg M H M' H')(h:NdD M H a ks vs):NdD M' H' a ks vs:=p.nd h.1 h.2
def NdU.q4{ks:v_^v_ Key}(p:zg M H M' H')(h:NdU M H a ks vs):NdU M' H' a ks vs:=p.nd h.1 h.2
def NdF.q4(p:zg M H M' H')(h:NdF M H a ks vs):NdF M' H' a ks vs:=let #[o,b,c]:=h;#[o,p.nd b c]
mutual
theorem At.q4(p:zg M H M' H'):∀{d:D}{v:V},At K M H d v->At K M' H' d v
 |.non,v,h=>h
 |.bl b,v,h=>h
 |.int i,v,h=>h
 |.str x,v,h=>h
 |.tup ds,v,h=>by
  let#[a,vs,e,hn,hs]:=h;exact#[a,vs,e,hn.q4 p,Ats.q4 p hs]
 |.lst ds,v,h=>by
  let#[a,vs,e,hn,hs]:=h;exact#[a,vs,e,hn.q4 p,Ats.q4 p hs]
 |.dic ks ds,v,h=>by
  let#[a,vs,e,hn,hl,hs]:=h;exact#[a,vs,e,hn.q4 p,hl,Ats.q4 p hs]
 |.fdi ks ds,v,h=>by
  let#[a,vs,e,hn,hl,hs]:=h;exact#[a,vs,e,hn.q4 p,hl,Ats.q4 p hs]
 |.dit ks ds,v,h=>by
  let#[a,vs,e,hn,hl,hs]:=h;exact#[a,vs,e,hn.q4 p,hl,Ats.q4 p hs]
 |.ob a,v,h=>#[h.1,let #[_,e]:=h.2;p.2.2.2 _ _ e]
theorem Ats.q4(p:zg M H M' H'):∀{ds:v_ D}{vs:v_ V},Ats K M H ds vs->Ats K M' H' ds vs
 |[],vs,h=>h
 |d::ds,vs,h=>by
  let#[v,r,e,h1,h2]:=h;exact#[v,r,e,At.q4 p h1,Ats.q4 p h2]
end
theorem zg.trans{M1 M2 d:Ch->Prop}(p:zg M1 H1 M2 H2)(q:zg M2 H2 d f):zg M1 H1 d f:=by
 refine#[λb o e n g=>?_,λb z=>?_,λb vs e=>q.2.2.1 b vs^p.2.2.1 b vs e,λb o e=>?_]
 .refine q.1 b o (p.1 b o e n g) (λz=>?_) g
  rcases p.2.1 b z with z|z
  .exact n z
  grind
 .rcases q.2.1 b z with z|z
  .exact p.2.1 b z
  .cases e:H1 b with
   |none=>grind
   |some o=>
    let#[h,c]:=p.2.2.2 b o e;rw[c]at z;cases z
 .let#[h,c]:=p.2.2.2 b o e
  exact q.2.2.2 b h c
def zg.refl(M:Ch->Prop)(H:Hp):zg M H M H:=#[λ_ _ e _ _=>e,λ_ z=>.inl z,λ_ _ e=>e,λ_ o e=>#[o,e]]
def zg.less(h:∀b,M' b->M b):zg M H M' H:=#[λ_ _ e _ _=>e,λb z=>.inl^h b z,λ_ _ e=>e,λ_ o e=>#[o,e]]
theorem Ats.length:∀{b:v_ D}{vs:v_ V},Ats K M H b vs->vs.length=b.length
 |[],vs,h=>by cases h;rfl
 |d::b,vs,h=>by
  let#[v,r,e,f,c]:=h;subst e;rw[f8,f8,Ats.length c]
theorem Ats.get:∀{b:v_ D}{vs:v_ V}{i:Nat}{d:D},Ats K M H b vs->b[i]?=P3 d->∃v,vs[i]?=P3 v/\At K M H d v
 |[],vs,i,d,h,e=>by simp at e
 |f::b,vs,0,d,h,e=>by
  let#[v,r,g,j,c]:=h
  simp_all
 |f::b,vs,i+1,d,h,e=>by
  let#[v,r,g,j,c]:=h;let#[u,k,l]:=Ats.get c^by simpa using e
  simp_all
theorem Ats.append:∀{f b:v_ D}{vs c:v_ V},Ats K M H f vs->Ats K M H b c->Ats K M H (f++b) (vs++c)
 |[],b,vs,c,h,g=>by cases h;exact g
 |d::f,b,vs,c,h,g=>by
  let#[v,r,e,i,j]:=h;subst e;exact#[v,_,rfl,i,Ats.append j g]
theorem Ats.drop:∀{b:v_ D}{vs:v_ V} (n:Nat),Ats K M H b vs->Ats K M H (b.drop n)^vs.drop n
 |b,vs,0,h=>h
 |[],vs,n+1,h=>by cases h;exact rfl
 |d::b,vs,n+1,h=>by
  let#[v,r,e,f,c]:=h;subst e;exact Ats.drop n c
theorem Ats.take:∀{b:v_ D}{vs:v_ V} (n:Nat),Ats K M H b vs->Ats K M H (b.take n)^vs.take n
 |b,vs,0,h=>rfl
 |[],vs,n+1,h=>by cases h;exact rfl
 |d::b,vs,n+1,h=>by
  let#[v,r,e,c,f]:=h;subst e;exact#[v,_,rfl,c,Ats.take n f]
def Ats.one(h:At K M H d v):Ats K M H [d] [v]:=#[v,[],rfl,h,rfl]
theorem Ats.eraseIdx:∀{b:v_ D}{vs:v_ V} (i:Nat),Ats K M H b vs->Ats K M H (b.eraseIdx i)^vs.eraseIdx i
 |[],vs,i,h=>by cases h;exact rfl
 |f::b,vs,0,h=>by
  let#[u,r,c,d,e]:=h
  grind
 |f::b,vs,i+1,h=>by
  let#[u,r,c,d,e]:=h;subst c;exact#[u,_,rfl,d,Ats.eraseIdx i e]
theorem Ats.reverse:∀{b:v_ D}{vs:v_ V},Ats K M H b vs->Ats K M H b.reverse vs.reverse
 |[],vs,h=>by cases h;exact rfl
 |d::b,vs,h=>by
  let#[v,r,e,c,f]:=h;subst e;rw[o_,o_];exact Ats.append (Ats.reverse f)^Ats.one c
end
inductive Kd where
 |sh|tp|fr
def vh(K:Frag)(M:Ch->Prop)(H:Hp)(a:Ch):D->Prop
 |.lst c=>∃b,H a=P3^.lst b/\Ats K M H c b
 |.dic d c=>∃b,H a=P3^.dK^d.zip b/\d.length=c.length/\Ats K M H c b
 |.dit d c=>∃b,H a=P3^.dT^d.zip b/\d.length=c.length/\Ats K M H c b
 |_=>False
theorem vh.notT{K:Frag}(h:vh K M H a d):H a≠P3^.tup f:=λq=>by
 cases d with
 |lst b=>let#[c,e,_]:=h;grind
 |dic g b=>let#[c,e,_]:=h;grind
 |dit g b=>let#[c,e,_]:=h;grind
 |_=>exact h.elim
def vh.notV{K:Frag}(h:vh K M H a d)(q:H a=P3 o):¬Tl o:=fun#[u,z]=>by
 subst z;cases d with
 |lst b=>let#[c,e,_]:=h;rw[e]at q;cases q
 |dic f b=>let#[c,e,_]:=h;rw[e]at q;cases q
 |dit f b=>let#[c,e,_]:=h;rw[e]at q;cases q
 |_=>exact h.elim
def vh.q4{K:Frag}(h:vh K M H a d)(p:zg M H j g)(e:∀o,H a=P3 o->g a=P3 o):vh K j g a d:=by
 cases d with
 |lst k=>let#[b,c,f]:=h;exact#[b,e _ c,f.q4 p]
 |dic l k=>let#[b,c,f,i]:=h;exact#[b,e _ c,f,i.q4 p]
 |dit l k=>let#[b,c,f,i]:=h;exact#[b,e _ c,f,i.q4 p]
 |_=>assumption
def vh.at{K:Frag}(h:vh K M H a d)(n:¬M a):At K M H d^.ref a:=by
 cases d with
 |lst g=>let#[b,c,e]:=h;exact#[a,b,rfl,#[n,c],e]
 |dic i g=>let#[b,c,e,f]:=h;exact#[a,b,rfl,#[n,c],e,f]
 |dit i g=>let#[b,c,e,f]:=h;exact#[a,b,rfl,#[n,c],e,f]
 |_=>exact(h).elim
def AtT(K:Frag)(U:Ch->Prop)(M:Ch->Prop)(H:Hp):D->V->Prop
 |.lst c,v=>∃a b,v=.ref a/\¬U a/\Rd H a^.lst b/\Ats K M H c b
 |.dic e c,v=>∃a b,v=.ref a/\¬U a/\H a=P3^.dK^e.zip b/\e.length=c.length/\Ats K M H c b
 |.dit e c,v=>∃a b,v=.ref a/\¬U a/\H a=P3^.dT^e.zip b/\e.length=c.length/\Ats K M H c b
 |d,v=>At K M H d v
def vh.att{K:Frag}(h:vh K M H a d)(n:¬U a):AtT K U M H d^.ref a:=by
 cases d with
 |lst g=>let#[b,c,e]:=h;exact#[a,b,rfl,n,.inl c,e]
 |dic i g=>let#[b,c,e,f]:=h;exact#[a,b,rfl,n,c,e,f]
 |dit i g=>let#[b,c,e,f]:=h;exact#[a,b,rfl,n,c,e,f]
 |_=>exact(h).elim
def VR(K:Frag)(U:Ch->Prop)(M:Ch->Prop)(H c:Hp):Kd->V->D->Prop
 |.sh,v,d=>At K M c d v
 |.tp,v,d=>AtT K U M c d v
 |.fr,v,d=>∃a,v=.ref a/\H a=s_/\vh K (λb=>M b\/b=a) c a d
def yS(K:Frag)(M:Ch->Prop)(H:Hp)(f:Ch×Ch)(n:Nat):Prop:=
 ∃(at_ b:Int) (a:v_ Int),H f.1=P3^.lst [.ref f.2,.int at_,.int b]/\f.2≠f.1/\NdL M H f.2^a.map V.int/\a.length<=63/\0<=at_/\at_+n<=2 ^ 60
mutual
def flat:D->Bool
 |.tup ds=>A7 ds
 |.lst _=>u_
 |.dic _ _=>u_
 |.fdi _ _=>u_
 |.dit _ _=>u_
 |_=>t_
def A7:v_ D->Bool
 |[]=>t_
 |d::ds=>flat d&&A7 ds
end
section
variable {K:Frag}
mutual
theorem IM(t:∀b vs,H b=P3^.tup vs->H' b=P3^.tup vs)(o:∀b o,H b=P3 o->∃o',H' b=P3 o'):∀(d:D) {v:V},flat d=t_->At K M H d v->At K M' H' d v
 |.non,_,_,h=>h
 |.bl _,_,_,h=>h
 |.int _,_,_,h=>h
 |.str _,_,_,h=>h
 |.tup ds,_,f,#[a,vs,e,n,h]=>#[a,vs,e,t _ _ n,A4 t o ds f h]
 |.lst _,_,f,_=>by cases f
 |.dic _ _,_,f,_=>by cases f
 |.fdi _ _,_,f,_=>by cases f
 |.dit _ _,_,f,_=>by cases f
 |.ob _,_,_,#[e,_,h]=>#[e,o _ _ h]
theorem A4(t:∀b vs,H b=P3^.tup vs->H' b=P3^.tup vs)(o:∀b o,H b=P3 o->∃o',H' b=P3 o'):∀(ds:v_ D) {vs:v_ V},A7 ds=t_->Ats K M H ds vs->Ats K M' H' ds vs
 |[],_,_,h=>h
 |d::ds,_,f,#[v,r,e,h,hs]=>#[v,r,e,IM t o d (jv _ _▸f:_/\_).1 h,A4 t o ds (jv _ _▸f:_/\_).2 hs]
end
end
def vk(K:Frag)(M:Ch->Prop)(H:Hp)(a:Ch):Wc->Prop
 |.pl (.lst b)=>¬M a/\∃c,H a=P3^.vol^.lst c/\A7 b=t_/\Ats K M H b c
 |.pl (.dit d b)=>¬M a/\∃c,H a=P3^.vol^.dT^d.zip c/\d.length=b.length/\A7 b=t_/\Ats K M H b c
 |.pl _=>False
 |.ins C d b=>∃e c,H a=P3^.vol^.ins C e^d.zip c/\d.length=b.length/\A7 b=t_/\Ats K M H b c
def zk(K:Frag)(F:w_ (Ch×Ch))(M:Ch->Prop)(H:Hp)(s:Sg):Prop:=(∀f,F=P3 f->yS K M H f s.n)/\∀a c,s.w a=P3 c->vk K M H a c
def Ext(U:Ch->Prop)(H c:Hp):Prop:=∀b o,H b=P3 o->∃a,c b=P3 a/\(¬U b->¬Tl o->a=o)/\∀d,o=.tup d->a=o
def Ext.keep(p:Ext U H a)(e:H b=P3 o)(n:¬U b)(c:¬Tl o:=by rintro⟨_,z⟩;cases z):a b=P3 o:=by
 let#[d,q,r,_]:=p b o e;rw[q,r n c]
theorem Ext.tup{U:Ch->Prop}{H a:Hp}(p:Ext U H a){b:Ch}{c:v_ V}(e:H b=P3^.tup c):a b=P3^.tup c:=by
 let#[d,q,_,r]:=p b _ e
 grind
theorem Ext.free(p:Ext U H a)(e:a b=s_):H b=s_:=by
 cases q:H b with
 |none=>rfl
 |some o=>
  let#[c,z,_]:=p b o q
  grind
def Ext.refl(U:Ch->Prop)(H:Hp):Ext U H H:=λ_ o e=>#[o,e,λ_ _=>rfl,λ_ _=>rfl]
def Ext.trans(p:Ext U H1 H2)(q:Ext U H2 c):Ext U H1 c:=λb o e=>by
 let#[g,h,d,f]:=p b o e;let#[i,j,k,l]:=q b g h;exact#[i,j,λn v=>(k n^by rw[d n v];exact v).trans^d n v,λa z=>(l a^(f a z).trans z).trans^f a z]
def vJ(H a:Hp):Prop:=a=H\/∃p o,H p=s_/\a=AX H p o
def vJ.all(g:vJ H a):∀b o,H b=P3 o->a b=P3 o:=by
 intro b o e
 rcases g with rfl|⟨p,u,n,rfl⟩
 .exact e
 .rw[AG^Aa e n];exact e
def vJ.refl:vJ H H:=.inl rfl
def vJ.ext(g:vJ H a):Ext U H a:=λb o e=>#[o,g.all b o e,λ_ _=>rfl,λ_ _=>rfl]
def vJ.q4(g:vJ H a):zg M H M a:=#[λb o e _ _=>g.all b o e,λ_ z=>.inl z,λb c e=>g.all b _ e,λb o e=>#[o,g.all b o e]]
def yS.q4{K:Frag}(h:yS K M H f n)(p:zg M H c b)(e:∀o,H f.1=P3 o->b f.1=P3 o):yS K c b f n:=by
 let#[a,r,d,g,i,j,k]:=h;exact#[a,r,d,e _ g,i,j.q4 p,k]
def vk.to{K:Frag}(h:vk K M H a c)(m:∀u,H a=P3^.vol u->¬M a->¬p a)(t:∀b f,H b=P3^.tup f->k b=P3^.tup f)(o:∀b o,H b=P3 o->∃r,k b=P3 r)(e:∀u,H a=P3^.vol u->k a=P3^.vol u):vk K p k a c:=by
 cases c with
 |ins C s q=>let#[v,f,i,l,g,j]:=h;exact#[v,f,e _ i,l,g,A4 t o _ g j]
 |pl d=>cases d with
  |lst q=>let#[n,f,i,g,j]:=h;exact#[m _ i n,f,e _ i,g,A4 t o _ g j]
  |dit s q=>let#[n,f,i,l,g,j]:=h;exact#[m _ i n,f,e _ i,l,g,A4 t o _ g j]
  |_=>exact h.elim
def zk.q4{K:Frag}(h:zk K F M H n)(p:zg M H d b)(e:∀f o,F=P3 f->H f.1=P3 o->b f.1=P3 o)(v:∀a u,H a=P3^.vol u->b a=P3^.vol u):zk K F d b n:=#[λf g=>(h.1 f g).q4 p λo q=>e f o g q,λa c q=>(h.2 a c q).to (λu q n z=>(p.2.1 a z).elim n λz=>by rw[q]at z;cases z) p.2.2.1 p.2.2.2^v a]
def zk.grow{K:Frag}(h:zk K F M H n)(g:vJ H b):zk K F M b n:=h.q4 g.q4 (λf o _ e=>g.all _ o e) λa u e=>g.all a _ e
def zk.more{K:Frag}(h:zk K F M H n)(a:Ch)(v:∀f,F=P3 f->f.2≠a)(w:∀u,H a≠P3^.vol u):zk K F (λb=>M b\/b=a) H n:=by
 refine#[λf s=>?_,λb c q=>?_]
 .let#[x,r,y,i,l,g,j]:=h.1 f s
  exact#[x,r,y,i,l,#[λz=>z.elim g.1^v f s,g.2],j]
 .have k:∀u,H b=P3^.vol u->b≠a:=λu e z=>w u (z▸e)
  have h:=h.2 b c q;cases c with
  |ins C A t=>let#[B,m,i,l,g,j]:=h;exact#[B,m,i,l,g,A4 (λ_ _ z=>z) (λ_ o z=>#[o,z]) _ g j]
  |pl d=>cases d with
   |lst t=>let#[p,m,i,g,j]:=h;exact#[λz=>z.elim p^k _ i,m,i,g,A4 (λ_ _ z=>z) (λ_ o z=>#[o,z]) _ g j]
   |dit A t=>let#[p,m,i,l,g,j]:=h;exact#[λz=>z.elim p^k _ i,m,i,l,g,A4 (λ_ _ z=>z) (λ_ o z=>#[o,z]) _ g j]
   |_=>exact h.elim
def AtX(K:Frag)(M:Ch->Prop)(H:Hp)(a:Ch)(g:Str)(b:v_ Str)(f:v_ D):Prop:=∃C U c u e,XC K g C U/\(¬M a/\H a=P3 u)/\XT C c a u/\(c=s_/\b=[]/\e=[]\/∃d,c=P3 d/\¬M d/\H d=P3^.ext^XF d^b.zip e)/\b.length=f.length/\Ats K M H f e
def AtX.q4{K:Frag}(h:AtX K M H a f g i)(p:zg M H b e):AtX K b e a f g i:=by
 let#[C,U,j,u,k,c,#[n,l],x,m,o,q]:=h;refine#[C,U,j,u,k,c,p.nd n l (by let#[_,_,rfl,_]:=x;rintro⟨_,z⟩;cases z),x,?_,o,q.q4 p]
 rcases m with z|⟨d,r,s,t⟩
 .exact .inl z
 .exact .inr #[d,r,p.nd s t]
inductive Slot where
 |no|sh (d:D)|br (d:D)|fd|ow (d:D)|lt (a:Ch) (d:D)|ex (a:Ch) (nm:Str) (ks:List Str) (ds:List D)
def Slot.yj:Slot->Bool
 |.ow _=>t_
 |.lt _ _=>t_
 |_=>u_
def vP(K:Frag)(F:w_ (Ch×Ch))(U:Ch->Prop)(M:Ch->Prop)(H:Hp):Slot->w_ V->Prop
 |.no,_=>True
 |.sh d,o=>∃v,o=P3 v/\At K M H d v
 |.br d,o=>∃v,o=P3 v/\AtT K U M H d v
 |.fd,o=>∃f,o=P3^.ref f.1/\F=P3 f
 |.ow d,o=>∃a,o=P3^.ref a/\M a/\¬U a/\vh K M H a d
 |.lt a d,o=>o=P3^.ref a/\M a/\¬U a/\vh K M H a d
 |.ex a b c e,o=>o=P3^.ref a/\AtX K M H a b c e
structure Fm where
 M0:Ch->Prop
 F:Option (Ch×Ch)
 U:Ch->Prop
 V:Ch->Prop
 H0:Hp
 zF:List ((Ch->Prop)×Hp)
 kp:List (Ch×HO)
def Apart(b:v_ Slot)(c:L2.St):Prop:=∀(i j:Nat) (s t:Slot) (a:Ch),b[i]?=P3 s->s.yj=t_->b[j]?=P3 t->t.yj=t_->(c[i]?).getD s_=P3^.ref a->(c[j]?).getD s_=P3^.ref a->i=j
structure Rel (K:Frag) (C:Fm) (M:Ch->Prop) (H:Hp) (n:Sg) (ρ:List Slot) (σ:L2.St):Prop where
 len:ρ.length=σ.length
 sub:∀a,C.M0 a->M a
 dom:∀a,M a->∃o,H a=P3 o
 ext:Ext C.U C.H0 H
 fU:∀f,C.F=P3 f->C.U f.1
 uV:∀a,C.U a->C.V a
 vM:∀a,C.V a->M a
 feed:zk K C.F M H n
 sl:∀(i:Nat) (s:Slot),ρ[i]?=P3 s->vP K C.F C.V M H s ((σ[i]?).getD s_)
 pin:∀p∈C.zF,zg p.1 p.2 M H
 br0:∀(i:Nat) (d:D) (a:Ch),ρ[i]?=P3^.br d->(σ[i]?).getD s_=P3^.ref a->∃o,C.H0 a=P3 o
 new:∀(i:Nat) (s:Slot) (a:Ch),ρ[i]?=P3 s->s.yj=t_->(σ[i]?).getD s_=P3^.ref a->¬C.M0 a/\C.H0 a=s_
 two:Apart ρ σ
 kept:∀p∈C.kp,H p.1=P3 p.2/\(M p.1/\¬Tl p.2)/\¬C.V p.1/\∀(i:Nat) (d:D),ρ[i]?=P3^.ow d->(σ[i]?).getD s_≠P3^.ref p.1
section
variable {K:Frag}
def Rel.q4(R:Rel K C M H n ρ σ)(e:Ext C.U H H'):zg M H M H':=#[λb o q a c=>e.keep q (λz=>a^R.vM b^R.uV b z) c,λ_ z=>.inl z,λb g q=>e.tup q,λb o q=>let #[f,h,_]:=e b o q;#[f,h]]
def AtT.q4(h:AtT K q M H d v)(p:zg M H s H')(e:Ext U H H')(l:∀a,U a->q a):AtT K q s H' d v:=by
 cases d with
 |lst m=>
  let#[a,g,j,c,f,k]:=h;refine#[a,g,j,c,?_,k.q4 p]
  rcases f with f|⟨o,f⟩
  .exact .inl^e.keep f λz=>c^l a z
  .exact .inr #[o,e.keep f λz=>c^l a z]
 |dic t m=>
  let#[a,g,j,c,f,r,k]:=h;exact#[a,g,j,c,e.keep f λz=>c^l a z,r,k.q4 p]
 |dit t m=>
  let#[a,g,j,c,f,r,k]:=h;exact#[a,g,j,c,e.keep f λz=>c^l a z,r,k.q4 p]
 |non=>assumption
 |bl b=>assumption
 |int i=>assumption
 |str x=>assumption
 |tup m=>exact At.q4 p h
 |fdi t m=>exact At.q4 p h
 |ob a=>exact At.q4 p h
def AtT.same(h:AtT K U M H d v)(p:zg M H s H')(e:∀a o,v=.ref a->H a=P3 o->H' a=P3 o)(m:∀a,v=.ref a->¬U a->¬r a):AtT K r s H' d v:=by
 cases d with
 |lst l=>
  let#[a,g,c,j,f,k]:=h;refine#[a,g,c,m a c j,?_,k.q4 p]
  rcases f with f|⟨o,f⟩
  .exact .inl^e a _ c f
  .exact .inr #[o,e a _ c f]
 |dic t l=>
  let#[a,g,c,j,f,q,k]:=h;exact#[a,g,c,m a c j,e a _ c f,q,k.q4 p]
 |dit t l=>
  let#[a,g,c,j,f,q,k]:=h;exact#[a,g,c,m a c j,e a _ c f,q,k.q4 p]
 |non=>assumption
 |bl b=>assumption
 |int i=>assumption
 |str x=>assumption
 |tup l=>exact At.q4 p h
 |fdi t l=>exact At.q4 p h
 |ob a=>exact At.q4 p h
theorem AtT.lies(h:AtT K U M H d^.ref a):∃o,H a=P3 o:=by
 cases d with
 |lst f=>
  let#[b,g,e,_,c,_]:=h;cases e
  rcases c with c|⟨o,c⟩
  .exact#[_,c]
  grind
 |dic j f=>
  let#[b,g,e,_,c,_]:=h
  grind
 |dit j f=>
  let#[b,g,e,_,c,_]:=h
  grind
 |non=>cases(h)
 |bl b=>cases(h)
 |int i=>cases(h)
 |str x=>cases(h).1
 |tup f=>
  let#[b,g,e,c,_]:=h;cases e;exact#[_,c]
 |fdi j f=>
  let#[b,g,e,#[o,_,c],_]:=h
  simp_all
 |ob b=>let#[e,h]:=h;cases e;exact h
def vP.q4(h:vP K F i M H s o)(p:zg M H j H')(m:∀a,M a->j a)(e:Ext U H H')(k:∀a,U a->i a):vP K F i j H' s o:=by
 cases s with
 |no=>trivial
 |sh d=>let#[v,b,c]:=h;exact#[v,b,c.q4 p]
 |ex a l r t=>let#[b,c]:=h;exact#[b,c.q4 p]
 |br d=>let#[v,b,c]:=h;exact#[v,b,c.q4 p e k]
 |fd=>exact h
 |ow d=>let#[a,b,c,f,g]:=h;exact#[a,b,m a c,f,g.q4 p λo q=>e.keep q (λz=>f^k a z)^g.notV q]
 |lt a d=>let#[b,c,f,g]:=h;exact#[b,m a c,f,g.q4 p λo q=>e.keep q (λz=>f^k a z)^g.notV q]
theorem Rel.step(R:Rel K C M H n ρ σ)(e:Ext C.U H H')(f:zk K C.F M H' n'):Rel K C M H' n' ρ σ:=by
 have p:=R.q4 e;refine#[R.len,R.sub,λa z=>?_,R.ext.trans e,R.fU,R.uV,R.vM,f,λi s q=>(R.sl i s q).q4 p (λ_ z=>z) e R.uV,λq b=>(R.pin q b).trans p,R.br0,R.new,R.two,λq b=>?_]
 .let#[o,c]:=R.dom a z
  let#[k,g,_]:=e a o c
  grind
 .let#[c,g,h,j]:=R.kept q b
  exact#[e.keep c (λz=>h^R.uV _ z) g.2,g,h,j]
def Rel.udom(R:Rel K C M H n ρ σ):∀a,C.U a->∃o,H a=P3 o:=λa z=>R.dom a^R.vM a^R.uV a z
def At.tp(k:∀a,U a->M a)(h:At K M H d v):AtT K U M H d v:=by
 cases d with
 |lst j=>
  let#[a,f,e,c,g]:=h;exact#[a,f,e,λz=>c.1^k a z,.inl c.2,g]
 |dic m j=>
  let#[a,f,e,c,l,g]:=h;exact#[a,f,e,λz=>c.1^k a z,c.2,l,g]
 |dit m j=>
  let#[a,f,e,c,l,g]:=h;exact#[a,f,e,λz=>c.1^k a z,c.2,l,g]
 |non=>exact h
 |bl b=>exact h
 |int i=>exact h
 |str x=>exact h
 |tup j=>exact h
 |fdi m j=>exact h
 |ob a=>exact h
def VR.back(e:Ext U H H1)(h:VR K b M H1 H' κ v d):VR K b M H H' κ v d:=by
 cases κ with
 |sh=>exact h
 |tp=>exact h
 |fr=>
  let#[a,c,f,g]:=h;exact#[a,c,e.free f,g]
theorem VR.vD(b:∀a,M a->∃o,H a=P3 o)(h:VR K U M H H' κ v d)(e:κ≠.tp):At K M H' d v:=by
 cases κ with
 |sh=>exact h
 |tp=>grind
 |fr=>
  let#[a,rfl,f,c]:=h;refine(c.q4 (zg.less λ_ z=>.inl z) λ_ z=>z).at λz=>?_
  grind
theorem VR.vv(b:∀a,M a->∃o,H a=P3 o)(c:∀a,U a->M a)(h:VR K U M H H' κ v d):AtT K U M H' d v:=by
 cases κ with
 |sh=>exact At.tp c h
 |tp=>exact h
 |fr=>exact At.tp c^VR.vD b h^by grind
def Ec{l:v_ a}(h:(l.set i x)[j]?=P3 y):(j=i/\i<l.length/\y=x)\/(j≠i/\l[j]?=P3 y):=by
 rw[qZ]at h
 by_cases e:i=j
 .simp_all
 .rw[if_neg e]at h
  exact .inr #[λz=>e z.symm,h]
def Fa{l:L2.St}(h:j≠i):((l.set i x)[j]?).getD s_=(l[j]?).getD s_:=by
 rw[qZ,if_neg λz=>h z.symm]
def PM{l:L2.St}(h:i<l.length):((l.set i x)[i]?).getD s_=x:=by
 simp_all
def Rel.set(R:Rel K C M H n ρ σ)(h:At K M H d v):Rel K C M H n (ρ.set i^.sh d)^σ.set i^P3 v:=by
 have b:∀(j:Nat) (s:Slot),(ρ.set i^.sh d)[j]?=P3 s->s.yj=t_->ρ[j]?=P3 s/\((σ.set i^P3 v)[j]?).getD s_=(σ[j]?).getD s_:=λj s q o=>by
  rcases Ec q with⟨_,_,rfl⟩|⟨f,q⟩
  .cases o
  .exact#[q,Fa f]
 refine#[by rw[my,my];exact R.len,R.sub,R.dom,R.ext,R.fU,R.uV,R.vM,R.feed,λj s q=>?_,R.pin,λj e a q c=>?_,λj s a q o c=>?_,λj k s t a g m c r u w=>?_,λp x=>?_]
 .rcases Ec q with⟨rfl,y,rfl⟩|⟨f,q⟩
  .rw[PM^by rw[←R.len];exact y]
   exact#[v,rfl,h]
  .rw[Fa f]
   exact R.sl j s q
 .rcases Ec q with⟨_,_,e⟩|⟨f,q⟩
  .cases e
  .rw[Fa f]at c
   exact R.br0 j e a q c
 .let#[g,e]:=b j s q o
  rw[e]at c;exact R.new j s a g o c
 .let#[z,A]:=b j s g m
  let#[B,l]:=b k t c r;rw[A]at u;rw[l]at w;exact R.two j k s t a z m B r u w
 .let#[D,E,F,G]:=R.kept p x
  refine#[D,E,F,λj e q=>?_];let#[g,l]:=b j _ q rfl;rw[l];exact G j e g
def Rel.owner(R:Rel K C M H n ρ σ){i:Nat}(h:ρ[i]?=P3 s)(o:s.yj=t_):∃a e,(σ[i]?).getD s_=P3^.ref a/\M a/\¬C.V a/\vh K M H a e/\¬C.M0 a/\C.H0 a=s_:=by
 have q:=R.sl i s h;cases s with
 |ow d=>let#[a,b,c,f,g]:=q;exact#[a,d,b,c,f,g,R.new i _ a h o b]
 |lt a d=>let#[b,c,f,g]:=q;exact#[a,d,b,c,f,g,R.new i _ a h o b]
 |_=>cases o
def Rel.setOw(R:Rel K C M H n ρ σ)(e:Ext C.U H H')(f:zk K C.F M H' n')(I:H a=s_)(h:vh K (λb=>M b\/b=a) H' a d):
  Rel K C (λb=>M b\/b=a) H' n' (ρ.set i^.ow d) (σ.set i^P3^.ref a):=by
 have L:=R.step e f
 have J:∀b,M b->b≠a:=λb z q=>by
  let#[o,w]:=R.dom b z;rw[q,I]at w;cases w
 have Y:¬C.M0 a/\C.H0 a=s_:=#[λz=>J a (R.sub a z) rfl,R.ext.free I];have S:zg M H (λb=>M b\/b=a) H':=#[λb o q Z nv=>e.keep q (λz=>Z^R.vM b^R.uV b z) nv,λb z=>z.elim .inl λz=>.inr (by rw[z];exact I),λb N q=>e.tup q,λb o q=>let #[o',h,_]:=e b o q;#[o',h]]
 have r:∀(j:Nat) (s:Slot),(ρ.set i^.ow d)[j]?=P3 s->(j=i/\s=.ow d/\((σ.set i^P3^.ref a)[j]?).getD s_=P3^.ref a)\/(j≠i/\ρ[j]?=P3 s/\((σ.set i^P3^.ref a)[j]?).getD s_=(σ[j]?).getD s_):=λj s q=>by
  rcases Ec q with⟨rfl,hl,rfl⟩|⟨B,q⟩
  .exact .inl #[rfl,rfl,PM^by rw[←R.len];exact hl]
  .exact .inr #[B,q,Fa B]
 have E:∀(j:Nat) (s:Slot) (b:Ch),ρ[j]?=P3 s->s.yj=t_->(σ[j]?).getD s_=P3^.ref b->b≠a:=λj s b q o z=>by
  let#[c,_,l,m,_]:=R.owner q o;rw[l]at z;cases z;exact J _ m
 have hd:∃o,H' a=P3 o:=by
  cases d with
  |lst T=>let#[N,q,_]:=h;exact#[_,q]
  |dic ks T=>let#[N,q,_]:=h;exact#[_,q]
  |dit ks T=>let#[N,q,_]:=h;exact#[_,q]
  |_=>exact(show False from h).elim
 refine#[by rw[my,my];exact R.len,λb z=>.inl^R.sub b z,λb z=>?_,L.ext,R.fU,R.uV,λb z=>.inl^R.vM b z,f.more a (λg hg q=>?_) λu z=>h.notV z #[u,rfl],λj s q=>?_,λq hq=>(R.pin q hq).trans S,λj y b q x=>?_,λj s b q o x=>?_,λj k s t b A V x W G D=>?_,λp hp=>?_]
 .rcases z with z|z
  .exact L.dom b z
  .rw[z];exact hd
 .let#[_,_,_,_,_,O,_]:=R.feed.1 g hg
  have:=O.2
  rw[q,I]at this;cases this
 .rcases r j s q with⟨rfl,rfl,l⟩|⟨B,A,l⟩
  .rw[l]
   exact#[a,rfl,.inr rfl,λz=>J a (R.vM a z) rfl,h]
  .rw[l]
   exact(R.sl j s A).q4 S (λ_ z=>.inl z) e R.uV
 .rcases r j _ q with⟨_,l,_⟩|⟨B,A,l⟩
  .cases l
  .rw[l]at x
   exact R.br0 j y b A x
 .rcases r j s q with⟨_,_,l⟩|⟨B,A,l⟩
  .rw[l]at x
   cases x;exact Y
  .rw[l]at x
   exact R.new j s b A o x
 .rcases r j s A with⟨rfl,_,l⟩|⟨B,X,l⟩
  .rw[l]at G
   cases G
   rcases r k t x with⟨rfl,_,_⟩|⟨hk,P,y⟩
   .rfl
   .rw[y]at D
    exact absurd rfl (E k t a P W D)
  .rw[l]at G
   rcases r k t x with⟨rfl,_,y⟩|⟨hk,P,y⟩
   .rw[y]at D
    cases D;exact absurd rfl (E j s a X V G)
   .rw[y]at D
    exact R.two j k s t b X V P W G D
 .let#[h1,Q,O,h4]:=L.kept p hp
  refine#[h1,#[.inl Q.1,Q.2],O,λj y q=>?_]
  rcases r j _ q with⟨_,_,l⟩|⟨B,A,l⟩
  .rw[l]
   intro z;cases z;exact J _ Q.1 rfl
  .rw[l]
   exact h4 j y A
def Rel.mut(R:Rel K C M H n ρ σ)(hi:ρ[i]?=P3^.ow d)(N:(σ[i]?).getD s_=P3^.ref a)(h:vh K M (AX H a o) a e):
  Rel K C M (AX H a o) n (ρ.set i^.ow e) σ:=by
 let#[b,_,c,m,U,t,n0,V]:=R.owner hi rfl;rw[N]at c;cases c;have F:zg M H M^AX H a o:=#[λb A q Y _=>by rw[AG λz=>Y^by rw[z];exact m];exact q,λ_ z=>.inl z,λb vs q=>by rw[AG λz=>t.notT^by rw[←z];exact q];exact q,λb A q=>(oF (b=a)).elim (λz=>#[o,by rw[z,AI]]) λz=>#[A,by rw[AG z];exact q]]
 have l:∀(j:Nat) (s:Slot),(ρ.set i^.ow e)[j]?=P3 s->(j=i/\s=.ow e)\/(j≠i/\ρ[j]?=P3 s):=λj s q=>by
  rcases Ec q with⟨rfl,hl,rfl⟩|⟨B,q⟩
  .exact .inl #[rfl,rfl]
  .exact .inr #[B,q]
 have I:∀(j:Nat) (s:Slot) (b:Ch),j≠i->ρ[j]?=P3 s->s.yj=t_->(σ[j]?).getD s_=P3^.ref b->b≠a:=λj s b B q o z w=>by
  subst w;exact B (R.two j i s _ b q o hi rfl z N)
 refine#[by rw[my];exact R.len,R.sub,λb z=>?_,λb A q=>?_,R.fU,R.uV,R.vM,R.feed.q4 F (λf A Z q=>?_) (λb u q=>by rw[AG λz=>t.notV (by rw[←z];exact q) #[u,rfl]];exact q),λj s q=>?_,λq hq=>(R.pin q hq).trans F,λj O b q g=>?_,λj s b q G g=>?_,λj k s t b x W g G P Q=>?_,λp hp=>?_]
 .by_cases E:b=a
  .exact#[o,by rw[E,AI]]
  .let#[A,q]:=R.dom b z
   exact#[A,by rw[AG E];exact q]
 .let#[G,g,r]:=R.ext b A q
  have E:b≠a:=λz=>by rw[z,V]at q;cases q
  exact#[G,by rw[AG E];exact g,r]
 .have E:f.1≠a:=λz=>U^by rw[←z];exact R.uV _^R.fU f Z
  rw[AG E];exact q
 .rcases l j s q with⟨rfl,rfl⟩|⟨B,x⟩
  .rw[N]
   exact#[a,rfl,m,U,h]
  .have g:=R.sl j s x
   cases s with
   |no=>trivial
   |sh d=>let#[v,c,y]:=g;exact#[v,c,y.q4 F]
   |ex a nm ks ds=>let#[c,y]:=g;exact#[c,y.q4 F]
   |br d=>
    let#[v,c,y]:=g;refine#[v,c,y.same F (λb A z q=>?_) λ_ _ z=>z];subst z;let#[o3,w]:=R.br0 j d b x c;rw[AG λz=>by rw[z,V]at w;cases w];exact q
   |fd=>exact g
   |ow d=>
    let#[b,c,y,J,L]:=g;exact#[b,c,y,J,L.q4 F λA w=>by rw[AG (I j _ b B x rfl c)];exact w]
   |lt b d=>
    let#[c,y,J,L]:=g;exact#[c,y,J,L.q4 F λA w=>by rw[AG (I j _ b B x rfl c)];exact w]
 .rcases l j _ q with⟨_,c⟩|⟨B,x⟩
  .cases c
  .exact R.br0 j O b x g
 .rcases l j s q with⟨rfl,_⟩|⟨B,x⟩
  .exact R.new j _ b hi rfl g
  .exact R.new j s b x G g
 .rcases l j s x with⟨rfl,rfl⟩|⟨B,X⟩
  .rcases l k t g with⟨rfl,_⟩|⟨hk,S⟩
   .rfl
   .exact R.two j k _ t b hi rfl S G P Q
  .rcases l k t g with⟨rfl,rfl⟩|⟨hk,S⟩
   .exact R.two j k s _ b X W hi rfl P Q
   .exact R.two j k s t b X W S G P Q
 .let#[y,J,L,T]:=R.kept p hp
  have E:p.1≠a:=λz=>T i d hi (by rw[N,z]);refine#[by rw[AG E];exact y,J,L,λj O q=>?_]
  rcases l j _ q with⟨rfl,_⟩|⟨B,x⟩
  .exact T j d hi
  .exact T j O x
end
abbrev DW:=Sg->v_ Slot->(D->Sg->Prop)->Prop
abbrev Fv:=Sg->v_ Slot->(Bool->Sg->Prop)->Prop
abbrev Di:=Sg->v_ Slot->(v_ D->Sg->Prop)->Prop
abbrev NC:=Sg->v_ Slot->(v_ Slot->Sg->Prop)->Prop
section
variable (X:Cx)
def DE(e:jx)(g:Kd)(w:DW):Prop:=∃t,PE X e t/\∀(C:Fm) (M:Ch->Prop) (H:Hp) (n:Sg) (b:v_ Slot) (c:L2.St) (P:D->Sg->Prop) (Q:VK),Rel X.K C M H n b c->w n b P->
 (∀v a d f,Ext C.U H a->zk X.K C.F M a f->VR X.K C.V M H a g v d->P d f->Q v a)->t c H Q
def DT(e:jx)(w:Fv):Prop:=∃t,PT X e t/\∀(C:Fm) (M:Ch->Prop) (H:Hp) (n:Sg) (c:v_ Slot) (d:L2.St) (P:Bool->Sg->Prop) (Q:Bool->Hp->Prop),Rel X.K C M H n c d->w n c P->
 (∀b a f,Ext C.U H a->zk X.K C.F M a f->P b f->Q b a)->t d H Q
def DTW(e:jx)(w:Fv):Prop:=∃t,PW X e t/\∀(C:Fm) (M:Ch->Prop) (H:Hp) (n:Sg) (c:v_ Slot) (d:L2.St) (P:Bool->Sg->Prop) (Q:Bool->Hp->Prop),Rel X.K C M H n c d->w n c P->
 (∀b a f,Ext C.U H a->zk X.K C.F M a f->P b f->Q b a)->t d H Q
def Yx(h:v_ jx)(w:Di):Prop:=∃t,PA X h t/\∀(C:Fm) (M:Ch->Prop) (H:Hp) (n:Sg) (b:v_ Slot) (c:L2.St) (P:v_ D->Sg->Prop) (Q:v_ V->Hp->Prop),Rel X.K C M H n b c->w n b P->
 (∀e a f g,Ext C.U H a->zk X.K C.F M a g->Paired (λv d=>AtT X.K C.V M a d v) e f->P f g->Q e a)->t c H Q
def W3(g:v_ jx)(w:Di):Prop:=∃t,PA X g t/\∀(C:Fm) (M:Ch->Prop) (H:Hp) (n:Sg) (b:v_ Slot) (c:L2.St) (P:v_ D->Sg->Prop) (Q:v_ V->Hp->Prop),Rel X.K C M H n b c->w n b P->
 (∀d a e f,Ext C.U H a->zk X.K C.F M a f->Ats X.K M a e d->P e f->Q d a)->t c H Q
def D6(K:Frag)(F:w_ (Ch×Ch))(a M:Ch->Prop)(H:Hp)(v:V)(s:Slot):Prop:=vP K F a M H s^P3 v/\s.yj=u_
def gY(e:jx)(w:Sg->v_ Slot->(Slot->Sg->Prop)->Prop):Prop:=∃t,PE X e t/\∀(C:Fm) (M:Ch->Prop) (H:Hp) (n:Sg) (b:v_ Slot) (c:L2.St) (P:Slot->Sg->Prop) (Q:VK),Rel X.K C M H n b c->w n b P->
 (∀v a s d,Ext C.U H a->zk X.K C.F M a d->D6 X.K C.F C.V M a v s->P s d->Q v a)->t c H Q
def Ow(g:v_ jx)(w:NC):Prop:=∃t,PA X g t/\∀(C:Fm) (M:Ch->Prop) (H:Hp) (n:Sg) (b:v_ Slot) (c:L2.St) (P:v_ Slot->Sg->Prop) (Q:v_ V->Hp->Prop),Rel X.K C M H n b c->w n b P->
 (∀d a e f,Ext C.U H a->zk X.K C.F M a f->Paired (D6 X.K C.F C.V M a) d e->P e f->Q d a)->t c H Q
end
def AJ(i:Nat):DW:=λn a P=>match a[i]? with
 |some (.sh d)=>P d n
 |_=>False
def BC(i:Nat):DW:=λn a P=>match a[i]? with
 |some (.sh d)=>P d n
 |some (.br d)=>P d n
 |some (.ow d)=>P d n
 |some (.lt _ d)=>P d n
 |_=>False
def wC(d:D):DW:=λn _ P=>P d n
section
variable {X:Cx}
def getD_some{c:L2.St}{i:Nat}(h:(c[i]?).getD s_=P3 v):c[i]?=P3^P3 v:=by
 cases q:c[i]? with
 |none=>simp_all
 |some o=>simp_all
set_option tactic.hygienic true in
theorem YN(h:PE X e^Bs i):DE X e .sh^AJ i:=by
 refine#[_,h,λC M H n j k P Q R w q=>?_];unfold AJ at w
 split at w
 .rename_i d c
  let#[v,f,g]:=R.sl i _ c;exact#[v,getD_some f,q v H d n (Ext.refl _ _) R.feed g w]
 grind
set_option tactic.hygienic true in
def WP(h:PE X e^Bs i):DE X e .tp^BC i:=by
 refine#[_,h,λC M H n l m P Q R w q=>?_];unfold BC at w
 split at w
 .rename_i d c
  let#[v,f,g]:=R.sl i _ c;exact#[v,getD_some f,q v H d n (Ext.refl _ _) R.feed (At.tp R.vM g) w]
 .rename_i d c
  let#[v,f,g]:=R.sl i _ c;exact#[v,getD_some f,q v H d n (Ext.refl _ _) R.feed g w]
 .rename_i d c
  let#[a,f,_,j,k]:=R.sl i _ c;exact#[.ref a,getD_some f,q _ H d n (Ext.refl _ _) R.feed (k.att j) w]
 .rename_i a d c
  let#[f,_,j,k]:=R.sl i _ c;exact#[.ref a,getD_some f,q _ H d n (Ext.refl _ _) R.feed (k.att j) w]
 .exact w.elim
def dv(i:Nat)(d:X.N[i]?=P3 x:=by rfl)(e:Ov X.env.scope x:=by first|exact kF rfl|exact k6 (kF rfl)|exact k6 (k6 rfl))(hd:dbN x:=by decide)
  (c:(x==("__classdict__":Str))=u_:=by decide):DE X (.Name x pos) .sh^AJ i:=YN^DB d e hd c
def C6(i:Nat)(d:X.N[i]?=P3 x:=by rfl)(e:Ov X.env.scope x:=by first|exact kF rfl|exact k6 (kF rfl)|exact k6 (k6 rfl))(hd:dbN x:=by decide)
  (c:(x==("__classdict__":Str))=u_:=by decide):DE X (.Name x pos) .tp^BC i:=WP^DB d e hd c
def Es(h:PE X e^tC v)(hd:∀M H,At X.K M H d v):DE X e .sh^wC d:=
 #[_,h,λC M H n c f P Q R w q=>q v H d n (Ext.refl _ _) R.feed (hd M H) w]
def AC{j pos}:DE X (.Constant (.int i) j pos) .sh^wC^.int i:=Es An λ_ _=>rfl
def ER{b:Bool}{j pos}:DE X (.Constant (.bool b) j pos) .sh^wC^.bl b:=Es fB λ_ _=>rfl
def Bz{j pos}:DE X (.Constant .none j pos) .sh^wC .non:=Es VE λ_ _=>rfl
def AO{j pos}(c:decide (x.length<=1000)=t_:=by rfl):DE X (.Constant (.str x) j pos) .sh^wC^.str x:=
 Es Pg λ_ _=>#[rfl,jr (of_decide_eq_true c)^by cbv]
def EN(c:Gl X x)(d:X.mg x=P3^.int i t)(hd:dbN x:=by decide):DE X (.Name x pos) .sh^wC^.int i:=
 Es (MH c d (v:=.int i) #[t,rfl] hd) λ_ _=>rfl
def Dg(K:Frag)(κ:Kd)(r:R2)(f:D->D->(D->Prop)->Prop):Prop:=∀(U:Ch->Prop) (M:Ch->Prop) (H:Hp) (d e:D) (x y:V) (P:D->Prop) (Q:VK),(∀a,M a->∃o,H a=P3 o)->(∀a,U a->M a)->
 AtT K U M H d x->AtT K U M H e y->f d e P->(∀v c z,vJ H c->VR K U M H c κ v z->P z->Q v c)->r x y H Q
def Ak(f:D->D->(D->Prop)->Prop)(wa wb:DW):DW:=λn c P=>wa n c λx d=>wb d c λy e=>f x y λz=>P z e
theorem EO(A:Dg X.K κ r f)(B:∀(C:Fm) (M:Ch->Prop) (H:Hp) (n:Sg) (h:v_ Slot) (i:L2.St) (P:D->Sg->Prop) (Q:VK),Rel X.K C M H n h i->wa n h P->
   (∀v c d j,Ext C.U H c->zk X.K C.F M c j->VR X.K C.V M H c zU v d->P d j->Q v c)->s i H Q)
  (E:∀(C:Fm) (M:Ch->Prop) (H:Hp) (n:Sg) (h:v_ Slot) (i:L2.St) (P:D->Sg->Prop) (Q:VK),Rel X.K C M H n h i->wb n h P->
   (∀v c d j,Ext C.U H c->zk X.K C.F M c j->VR X.K C.V M H c zR v d->P d j->Q v c)->t i H Q)
  (C:Fm) (M:Ch->Prop) (H:Hp) (n:Sg) (h:v_ Slot) (i:L2.St) (P:D->Sg->Prop) (Q:VK) (R:Rel X.K C M H n h i) (w:Ak f wa wb n h P)
  (q:∀v c d j,Ext C.U H c->zk X.K C.F M c j->VR X.K C.V M H c κ v d->P d j->Q v c):Dh r s t i H Q:=by
 refine B C M H n h i _ _ R w λx H1 d G o I J L=>?_;have k:=R.step o I;refine E C M H1 G h i _ _ k L λy H2 e N l u O S=>?_;have m:=k.step l u;exact A _ M H2 d e x y _ _ m.dom m.vM ((J.vv R.dom R.vM).q4 (k.q4 l) l R.uV) (O.vv k.dom k.vM) S λv T z g W p=>q v T z N ((o.trans l).trans g.ext) (u.grow g) (VR.back (o.trans l) W) p
def Ar(i:OpR X (binaryOp h) r)(j:Dg X.K κ r f)(k:DE X a zU wa)(l:DE X b zR wb):DE X (.BinOp a h b pos) κ^Ak f wa wb:=by
 let#[p,c,d]:=k;let#[s,e,g]:=l;exact#[_,Bo i c e,λC M H n m o P Q R w q=>EO j d g C M H n m o P Q R w q]
def Lh(h:IxR X r)(i:Dg X.K κ r f)(j:DE X a zU wa)(k:DE X b zR wb)(l:NA b:=by intro _ _;rfl):DE X (.Subscript a b pos) κ^Ak f wa wb:=by
 let#[p,c,d]:=j;let#[s,e,g]:=k;exact#[_,EQ h c e l,λC M H n m o P Q R w q=>EO i d g C M H n m o P Q R w q]
def HC{c:CmpOp}(i:OpR X (compareOp c) r)(j:Dg X.K .sh r f)(k:DE X a zU wa)(l:DE X b zR wb)(m:behindInMarks c b=u_):DE X (.Compare a [c] [b] pos) .sh^Ak f wa wb:=by
 let#[s,d,e]:=k;let#[t,g,h]:=l;exact#[_,Xk i d g m,λC M H n o p P Q R w q=>EO j e h C M H n o p P Q R w q]
def Am(w:DW):Fv:=λn c P=>w n c λd e=>match d with
 |.bl b=>P b e
 |_=>False
def Fy{K:Frag}{H c:Hp}{b:Bool}(h:VR K U M H c κ v^.bl b):v=.bl b:=by
 cases κ with
 |sh=>exact h
 |tp=>exact h
 |fr=>let#[a,_,_,t]:=h;exact(t).elim
def P9{c:CmpOp}(k:OpR X (compareOp c) r)(l:Dg X.K .sh r f)(m:DE X a zU wa)(o:DE X b zR wb)(s:behindInMarks c b=u_):DT X (.Compare a [c] [b] pos)^Am^Ak f wa wb:=by
 let#[z,g,h]:=m;let#[A,i,j]:=o;refine#[_,E5 k g i s,λC M H n t u P Q R w q=>?_];refine EO l h j C M H n t u _ _ R w λv x d y e f r p=>?_;cases d with
 |bl b=>exact#[b,Fy r,q b x y e f p]
 |_=>exact p.elim
def By(h:DE X e κ wa)(g:∀c,isTrue e X.env c=(do let v ←c;standAt e.pos;holding [v]^truthy v):=by intro _;rfl):DT X e^Am wa:=by
 let#[t,i,j]:=h;refine#[_,ax i g,λC M H n k l P Q R w q=>?_];refine j C M H n k l _ _ R w λv m d o e f r p=>?_;cases d with
 |bl b=>exact#[b,Fy r,q b m o e f p]
 |_=>exact p.elim
def O1(f g:D->D->(D->Prop)->Prop)(wa wb wc:DW):DW:=λn c P=>wa n c λx e=>wb e c λy d=>f x y λz=>match z with
 |.bl t_=>wc d c λu h=>g y u λr=>P r h
 |.bl u_=>P (.bl u_) d
 |_=>False
def OY(Z:Dg X.K .sh r f)(hB:Dg X.K .sh L g)(ha:∀(C:Fm) (M:Ch->Prop) (H:Hp) (n:Sg) (i:v_ Slot) (h:L2.St) (P:D->Sg->Prop) (Q:VK),Rel X.K C M H n i h->wa n i P->
   (∀v c d j,Ext C.U H c->zk X.K C.F M c j->VR X.K C.V M H c zU v d->P d j->Q v c)->N h H Q)
  (hb:∀(C:Fm) (M:Ch->Prop) (H:Hp) (n:Sg) (i:v_ Slot) (h:L2.St) (P:D->Sg->Prop) (Q:VK),Rel X.K C M H n i h->wb n i P->
   (∀v c d j,Ext C.U H c->zk X.K C.F M c j->VR X.K C.V M H c zR v d->P d j->Q v c)->O h H Q)
  (hc:∀(C:Fm) (M:Ch->Prop) (H:Hp) (n:Sg) (i:v_ Slot) (h:L2.St) (P:D->Sg->Prop) (Q:VK),Rel X.K C M H n i h->wc n i P->
   (∀v c d j,Ext C.U H c->zk X.K C.F M c j->VR X.K C.V M H c zI v d->P d j->Q v c)->E h H Q)
  (C:Fm) (M:Ch->Prop) (H:Hp) (n:Sg) (i:v_ Slot) (h:L2.St) (P:D->Sg->Prop) (Q:VK) (R:Rel X.K C M H n i h) (w:O1 f g wa wb wc n i P)
  (q:∀v c d j,Ext C.U H c->zk X.K C.F M c j->VR X.K C.V M H c .sh v d->P d j->Q v c):PC r L N O E h H Q:=by
 refine ha C M H n i h _ _ R w λx H1 d n1 G f1 r1 w1=>?_;have o:=R.step G f1;refine hb C M H1 n1 i h _ _ o w1 λy H2 e S s I r2 w2=>?_;have l:=o.step s I;have ty:AtT X.K C.V M H2 e y:=r2.vv o.dom o.vM;refine Z C.V M H2 d e x y _ _ l.dom l.vM ((r1.vv R.dom R.vM).q4 (o.q4 s) s R.uV) ty w2 λv A z m vr p=>?_;have t:=l.step m.ext^I.grow m;cases z with
 | bl k=>
  exists k,vr;cases k with
  |false=>exact q _ A (.bl u_) S ((G.trans s).trans m.ext) (I.grow m) (show VR X.K C.V M H A .sh (.bl u_)^.bl u_ from rfl) p
  |true=>
   show E h A _;refine hc C M A S i h _ _ t p λu H4 d4 n4 B T r4 w4=>?_;have W:=t.step B T;refine hB C.V M H4 e d4 y u _ _ W.dom W.vM ((ty.q4 m.q4 (m.ext (U:=C.U)) R.uV).q4 (t.q4 B) B R.uV) (r4.vv t.dom t.vM) w4 λv5 H5 z5 Y J p5=>?_;exact q v5 H5 z5 n4 ((((G.trans s).trans m.ext).trans B).trans Y.ext) (T.grow Y) J p5
 |_=>exact p.elim
def OT{e d:CmpOp}(t:OpR X (compareOp e) r)(u:Dg X.K .sh r f)(h:OpR X (compareOp d) p)(v:Dg X.K .sh p g)(x:DE X a zU wa)(y:DE X b zR wb)(z:DE X c s wc)
  (A:lastMarks [e,d] [b,c]=u_:=by with_unfolding_all rfl):DE X (.Compare a [e,d] [b,c] B) .sh^O1 f g wa wb wc:=by
 let#[G,i,j]:=x;let#[I,k,l]:=y;let#[J,m,o]:=z;exact#[_,VJ t h i k m A,λC M H n E F P Q R w q=>OY u v j l o C M H n E F P Q R w q]
def WD(y:OpR X (compareOp i) r)(z:Dg X.K .sh r f)(j:OpR X (compareOp h) u)(A:Dg X.K .sh u g)(B:DE X a zU wa)(E:DE X b zR wb)(F:DE X c x wc)
  (G:lastMarks [i,h] [b,c]=u_:=by with_unfolding_all rfl):DT X (.Compare a [i,h] [b,c] I)^Am^O1 f g wa wb wc:=by
 let#[S,k,l]:=B;let#[T,m,o]:=E;let#[U,s,t]:=F;refine#[_,U2 y j k m s G,λC M H n J L P Q R w q=>?_];refine OY z A l o t C M H n J L _ _ R w λv N d O e f r p=>?_;cases d with
 |bl b=>exact#[b,r,q b N O e f p]
 |_=>exact p.elim
def QX(u v:Fv):Fv:=λn d P=>u n d λc e=>if c=t_ then v e d P else P u_ e
def L0(u v:Fv):Fv:=λn d P=>u n d λc e=>if c=t_ then P t_ e else v e d P
def K6(u:Fv):Fv:=λn d P=>u n d λc e=>P (!c) e

def GN(h:DT X a wA):DTW X (.BoolOp .And [a] pos) wA:=by
 let#[t,c,d]:=h;exact#[t,Qo c,d]
def Bx(h:DT X a wA):DTW X (.BoolOp .Or [a] pos) wA:=by
 let#[t,c,d]:=h;exact#[t,aw c,d]
def Jj(i:DT X a wA)(j:DTW X (.BoolOp .And (b::rest) pos) wB):DTW X (.BoolOp .And (a::b::rest) pos)^QX wA wB:=by
 let#[t,k,l]:=i;let#[u,m,o]:=j;refine#[_,Ux k m,λC M H n e f P Q R w q=>?_];refine l C M H n e f _ _ R w λc H1 g d h p=>?_;cases c with
 |false=>exact q _ H1 g d h p
 |true=>exact o C M H1 g e f P Q (R.step d h) p λb H2 r s v x=>q b H2 r (d.trans s) v x
def CD(i:DT X a wA)(j:DTW X (.BoolOp .Or (b::rest) pos) wB):DTW X (.BoolOp .Or (a::b::rest) pos)^L0 wA wB:=by
 let#[t,k,l]:=i;let#[u,m,o]:=j;refine#[_,eh k m,λC M H n e f P Q R w q=>?_];refine l C M H n e f _ _ R w λc H1 g d h p=>?_;cases c with
 |true=>exact q _ H1 g d h p
 |false=>exact o C M H1 g e f P Q (R.step d h) p λb H2 r s v x=>q b H2 r (d.trans s) v x
def DTW.dt(h:DTW X e wA):DT X e wA:=by
 let#[t,c,d]:=h;exact#[t,c.pt,d]
def Bq(d:DT X a wA):DT X (.UnaryOp .Not a pos)^K6 wA:=by
 let#[t,e,f]:=d;exact#[_,ay e,λC M H n g h P Q R w q=>f C M H n g h _ _ R w λc H1 i j k p=>q _ H1 i j k p]
def hV(u v:DW):DW:=λn d P=>u n d λc e=>match c with
 |.bl t_=>v e d P
 |.bl u_=>P (.bl u_) e
 |_=>False
def jO(u v:DW):DW:=λn d P=>u n d λc e=>match c with
 |.bl t_=>P (.bl t_) e
 |.bl u_=>v e d P
 |_=>False
def g8(u:DW):DW:=λn d P=>u n d λc e=>match c with
 |.bl b=>P (.bl (!b)) e
 |_=>False
def Jw{op}(h:DE X a κ wa):DE X (.BoolOp op [a] pos) κ wa:=by
 assumption
def Mr(j:DE X a zU wa)(l:DE X (.BoolOp .And (b::rest) pos) .sh wb):DE X (.BoolOp .And (a::b::rest) pos) .sh^hV wa wb:=by
 let#[t,m,o]:=j;let#[u,r,s]:=l;refine#[_,bL m r,λC M H n f g P Q R w q=>?_];refine o C M H n f g _ _ R w λc H1 d h e i x p=>?_;cases d with
 | bl k=>
  exists k,Fy x;cases k with
  |false=>exact q _ H1 _ h e i (show VR _ _ M H H1 _ _^.bl _ from rfl) p
  |true=>
   exact s C M H1 h f g P Q (R.step e i) p λv H2 d y z A B D=>q v H2 d y (e.trans z) A B D
 |_=>exact p.elim
def fu(j:DE X a zU wa)(l:DE X (.BoolOp .Or (b::rest) pos) .sh wb):DE X (.BoolOp .Or (a::b::rest) pos) .sh^jO wa wb:=by
 let#[t,m,o]:=j;let#[u,r,s]:=l;refine#[_,fA m r,λC M H n f g P Q R w q=>?_];refine o C M H n f g _ _ R w λc H1 d h e i x p=>?_;cases d with
 | bl k=>
  exists k,Fy x;cases k with
  |true=>exact q _ H1 _ h e i (show VR _ _ M H H1 _ _^.bl _ from rfl) p
  |false=>
   exact s C M H1 h f g P Q (R.step e i) p λv H2 d y z A B D=>q v H2 d y (e.trans z) A B D
 |_=>exact p.elim
def cF(e:DE X a zU wa):DE X (.UnaryOp .Not a pos) .sh^g8 wa:=by
 let#[t,f,g]:=e;refine#[_,bE f,λC M H n h i P Q R w q=>?_];refine g C M H n h i _ _ R w λc H1 d j l m o p=>?_;cases d with
 |bl k=>exact#[k,Fy o,q _ H1 _ j l m (show VR _ _ M H H1 _ _^.bl _ from rfl) p]
 |_=>exact p.elim
def gc(t:Fv)(u v:DW):DW:=λn d P=>t n d λc e=>if c=t_ then u e d P else v e d P
def OR(r:DT X c wA)(s:DE X a κ wa)(x:DE X b κ wb):DE X (.IfExp c a b pos) κ^gc wA wa wb:=by
 let#[t,y,z]:=r;let#[u,A,B]:=s;let#[F,D,E]:=x;refine#[_,Nk y A D,λC M H n f g P Q R w q=>?_];refine z C M H n f g _ _ R w λc H1 m e o p=>?_;cases c with
 |true=>exact B C M H1 m f g P Q (R.step e o) p λv H2 d h i j k l=>q v H2 d h (e.trans i) j (VR.back e k) l
 |false=>exact E C M H1 m f g P Q (R.step e o) p λv H2 d h i j k l=>q v H2 d h (e.trans i) j (VR.back e k) l
def Ag:Di:=λn _ P=>P [] n
def AM(w:DW)(e:Di):Di:=λn c P=>w n c λd f=>e f c λg h=>P (d::g) h

def AU:Yx X [] Ag:=#[_,B6,λC M H n c d P Q R w q=>q [] H [] n (Ext.refl _ _) R.feed .nil w]
def AL:W3 X [] Ag:=#[_,B6,λC M H n c d P Q R w q=>q [] H [] n (Ext.refl _ _) R.feed rfl w]
def AR(j:DE X e κ wa)(k:Yx X es ws)(l:X.sE e es:=by rfl):Yx X (e::es)^AM wa ws:=by
 let#[t,m,o]:=j;let#[u,r,s]:=k;refine#[_,Ax m r l,λC M H n f g P Q R w q=>?_];refine o C M H n f g _ _ R w λv H1 d x h y z p=>?_;have i:=R.step h y;exact s C M H1 x f g _ _ i p λF H2 G A c B D E=>q _ H2 _ A (h.trans c) B (.cons ((z.vv R.dom R.vM).q4 (i.q4 c) c R.uV) D) E
def AA(j:DE X e κ wa)(k:W3 X es ws)(l:κ≠.tp:=by intro z;cases z)(m:X.sE e es:=by rfl):W3 X (e::es)^AM wa ws:=by
 let#[t,o,r]:=j;let#[u,s,x]:=k;refine#[_,Ax o s m,λC M H n c f P Q R w q=>?_];refine r C M H n c f _ _ R w λv H1 d y g A B p=>?_;have h:=R.step g A;exact x C M H1 y c f _ _ h p λD H2 E F i G I J=>q _ H2 (d::E) F (g.trans i) G #[v,D,rfl,(B.vD R.dom l).q4^h.q4 i,I] J
def D7(ws:Di):DW:=λn d P=>ws n d λc e=>c.length<=sizeLine/\P (.tup c) e
def L4(ws:Di):DW:=λn d P=>ws n d λc e=>c.length<=sizeLine/\P (.lst c) e
theorem Fk(h:H p=s_):zg M H (λb=>M b\/b=p)^AX H p o:=#[λb u e _ _=>by rw[AG^Aa e h];exact e,λb z=>z.elim .inl λz=>.inr^by grind,λb c e=>by rw[AG^Aa e h];exact e,λb u e=>#[u,by rw[AG^Aa e h];exact e]]
def AV(h:H p=s_):vJ H^AX H p o:=.inr #[p,o,h,rfl]
def Ad{x1}(h:W3 X es ws):DE X (.Tuple es x1 pos) .sh^D7 ws:=by
 let#[t,e,f]:=h;refine#[_,VC e,λC M H n i j P Q R w q=>?_];refine f C M H n i j _ _ R w λc H1 k l m o d p=>?_;refine#[by rw[d.length];exact p.1,λa r=>?_];have g:vJ H1^AX H1 a^.tup c:=AV r;refine q _ _ (.tup k) l (m.trans g.ext) (o.grow g) #[a,c,rfl,AI,d.q4 g.q4] p.2
def BV(h:W3 X es ws):DE X (.List es pos) .fr^L4 ws:=by
 let#[t,i,j]:=h;refine#[_,Ph i,λC M H n k l P Q R w q=>?_];refine j C M H n k l _ _ R w λd H1 m o e r f p=>?_;refine#[by rw[f.length];exact p.1,λa c=>?_];have g:vJ H1^AX H1 a^.lst d:=AV c;exact q _ _ (.lst m) o (e.trans g.ext) (r.grow g) (VR.back e #[a,rfl,c,d,AI,f.q4^Fk c]) p.2
def Bw(K:Frag)(κ:Kd)(r:v_ V->Hp->VK->Prop)(f:v_ D->(D->Prop)->Prop):Prop:=∀(U:Ch->Prop) (M:Ch->Prop) (H:Hp) (e:v_ D) (g:v_ V) (P:D->Prop) (Q:VK),(∀a,M a->∃o,H a=P3 o)->(∀a,U a->M a)->
 Paired (λv d=>AtT K U M H d v) g e->f e P->(∀v c z,vJ H c->VR K U M H c κ v z->P z->Q v c)->r g H Q
def EZ(f:v_ D->(D->Prop)->Prop)(ws:Di):DW:=λn c P=>ws n c λd e=>f d λz=>P z e
def Zr(s:Bw X.K κ r f)(u:∀(C:Fm) (M:Ch->Prop) (H:Hp) (n:Sg) (e:v_ Slot) (h:L2.St) (P:v_ D->Sg->Prop) (Q:v_ V->Hp->Prop),Rel X.K C M H n e h->ws n e P->
   (∀j c k i,Ext C.U H c->zk X.K C.F M c i->Paired (λv d=>AtT X.K C.V M c d v) j k->P k i->Q j c)->t h H Q)
  (C:Fm) (M:Ch->Prop) (H:Hp) (n:Sg) (e:v_ Slot) (h:L2.St) (P:D->Sg->Prop) (Q:VK) (R:Rel X.K C M H n e h) (w:EZ f ws n e P)
  (q:∀v c d i,Ext C.U H c->zk X.K C.F M c i->VR X.K C.V M H c κ v d->P d i->Q v c):d_ r t h H Q:=by
 refine u C M H n e h _ _ R w λj H1 k x l m y p=>?_;have o:=R.step l m;exact s _ M H1 k j _ _ o.dom o.vM y p λv H2 z g A B=>q v H2 z x (l.trans g.ext) (m.grow g) (VR.back l A) B
def Ac(h:zS X (.builtin g) r)(i:Bw X.K κ r f)(j:Gl X x)(k:X.mg x=s_)(l:bootBuiltins x=P3^.builtin g)(m:Yx X (e::es) ws)
  (o:x ≠ "__name__":=by decide) (c:dbN x:=by decide)
  (he:X.sE e es:=by rfl) (d:(backTo pos^starEach es X.env).any (·.1)=u_:=by rfl):DE X (.Call (.Name x p) (e::es) [] pos) κ^EZ f ws:=by
 let#[t,s,u]:=m;exact#[_,Cf h j k l s o c he d,λC M H n v y P Q R w q=>Zr i u C M H n v y P Q R w q]
def B8(g:zS X (.type T) r)(h:Bw X.K κ r f)(i:Gl X x)(j:X.mg x=s_)(k:bootBuiltins x=P3^.type T)(l:Yx X (e::es) ws)
  (m:x ≠ "__name__":=by decide) (c:dbN x:=by decide)
  (he:X.sE e es:=by rfl) (d:(backTo pos^starEach es X.env).any (·.1)=u_:=by rfl):DE X (.Call (.Name x p) (e::es) [] pos) κ^EZ f ws:=by
 let#[t,o,s]:=l;exact#[_,Gv g i j k o m c he d,λC M H n u v P Q R w q=>Zr h s C M H n u v P Q R w q]
end
end Dp
namespace L2
def i4(z:Str):It:=#[λi _=>i<z.cps.size,λi H x a=>a=H/\∃c,z.cps[i]?=P3 c/\x=.str #[#[ c]],λi _=>z.cps.size<=i]
def NN{K:Frag}(a:Ch)(z:Str)(t:Tok)(ty:String)(j:ty="str_ascii_iterator"\/ty="str_iterator")
  (W:∀N:kA,N.handled=s_->Walks P w N a [a] [a] z.cps.size (SignAt z) λi h=>h.IsStrIter a ty z t i):Turn P w K U (i4 z) [a] a (λi h=>h.IsStrIter a ty z t i) where
 mem:=by simp
 obj:=λi h f b g=>by
  have e:b=a:=by simpa using g
  subst e;let#[o,e,c,d]:=f;exact#[o,e,λv z=>by rw[d]at z;cases z]
 keep:=λi h l f k=>let #[o,V,r]:=f;#[o,k a (by simp) o V,r]
 item:=by
  intro X D F G n i O s R H E I p f J;subst D F G;let#[q,x,Y,y,B,C]:=p a (by simp);refine(W X.A^I.ok.hd n).item i s _ _ J f λv l S Z m kk=>?_;let#[c,u,L,rfl]:=Z;have I1:Inv X O R H {s with heap:=l,toks:=S}:=I.turned (λb o g e=>kk b o (by simpa using g) e) q x y B C;let#[o,e,cc,d]:=id m;exact#[_,rfl,RI (s:={s with heap:=l,toks:=S}) e cc d (by rcases j with rfl|rfl <;>decide) #[.str #[#[ c]],H,I1,#[_,rfl],#[rfl,c,L,rfl],m,λb g=>(p b g).1]]
 done:=by
  intro X D F G n i O s R H E I p f J;subst D F G;let#[q,x,Y,y,B,C]:=p a^by simp
  have T:z.cps[i]?=s_:=by
   have:z.cps.size<=i:=J
   simp[this]
  rcases j with rfl|rfl
  .exact wpAny_pyNext_ascii_end (I.ok.hd n) f T λl M=>#[rfl,I.turned (t':=s.toks) (λb o g e=>M b o g e) q x y B C]
  .exact wpAny_pyNext_wide_end (I.ok.hd n) f T λl M=>#[rfl,I.turned (t':=s.toks) (λb o g e=>M b o g e) q x y B C]
 self:=λA i s Q E f h=>by
  rcases j with rfl|rfl
  .exact wpAny_pyIter_striter_ascii f h
  .exact wpAny_pyIter_striter_wide f h
section

def iR(K:Frag)(c:TE):TI:=λd H R=>c d H λx H1=>
 (∃a,x=.ref a/\(∃b,SqL K H1 a b)/\R (i5 K a) H1)\/(∃a,x=.ref a/\(∃b,SqT K H1 a b)/\R (cu K a) H1)\/∃z,x=.str z/\R (i4 z) H1
def Pe(u:PE X l m):PI X tg l^iR X.K m:=by
 intro n s w H R I h;refine Ao (u n s w H _ I h) λv c zz=>?_;let#[x,H1,f,i,y]:=zz
 have d:∀b,b∈[c.heap.objs.size]->Gg X n H1 b:=λb A=>by
  have e:b=c.heap.objs.size:=by simpa using A
  subst e;exact f.fpOk (Sc _)^f.hok.fresh^Sc _
 rcases y with⟨a,e,⟨B,j⟩,q⟩|⟨a,e,⟨B,j⟩,q⟩|⟨z,e,q⟩
 .subst e
  cases i;let#[g,C,p,D]:=f.list j;refine lU p.isList ?_;exact#[c.heap.objs.size,[c.heap.objs.size],_,_,H1,rfl,f.kept (t':=c.toks) λb o e=>FM _ e,R6 a _,#[_,TW _ rfl,rfl,rfl],d,q]
 .subst e
  cases i;let#[g,C,p,D]:=f.tuple j;refine lI (show c.heap.IsTuple a g.toArray from p) ?_;exact#[c.heap.objs.size,[c.heap.objs.size],_,_,H1,rfl,f.kept (t':=c.toks) λb o e=>FM _ e,Ih a _,#[_,TW _ rfl,rfl,rfl],d,q]
 .subst e
  let#[t,rfl]:=i;cases r:z.cps.all (·<128)
  .refine wpAny_pyIter_wide r ?_
   exact#[c.heap.objs.size,[c.heap.objs.size],_,_,H1,rfl,f.kept (t':=c.toks) λb o e=>FM _ e,NN _ z t "str_iterator" (.inr rfl) λE k=>Walks.strWide k _ z t,#[_,TW _ rfl,rfl,rfl],d,q]
  .refine wpAny_pyIter_ascii r ?_
   exact#[c.heap.objs.size,[c.heap.objs.size],_,_,H1,rfl,f.kept (t':=c.toks) λb o e=>FM _ e,NN _ z t "str_ascii_iterator" (.inl rfl) λE k=>Walks.strAscii k _ z t,#[_,TW _ rfl,rfl,rfl],d,q]
end
section

def Kg(bs:v_ Bool):((kH bs.length).all λi=>(bs[i]?).getD t_)=bs.all id:=by
 induction bs with
 |nil=>rfl
 |cons b r a=>
  rw[f8,List.range_succ_eq_map,qT,rp]
  congr 1
theorem KA(t:X.calm=t_):zS X (.builtin "all") (λj H Q=>∃(p:Ch) (c:v_ Bool),j=[.ref p]/\SqL X.K H p^c.map V.bl/\Q (.bl^c.all id) H):=by
 intro G s J H j L Q I r h;let#[p,c,rfl,w,q]:=h;let#[u,rfl,y]:=vals1 r;cases y;let#[a,k,pl,M]:=I.list w;have d:=k.length;have f:s.heap.IsList p a.toArray:=pl.isList;have g:p<s.heap.objs.size:=by let#[_,e,_]:=id f;exact Tk e
 refine call_all_walk^lU f ?_
 refine#[s.heap.objs.size,[s.heap.objs.size,p],[s.heap.objs.size],a.toArray.size,_,_,λi=>(c[i]?).getD t_,rfl,Walks.list (A:=X.A.in1) (I.ok.hd t) _ p (jo g) a.toArray,
  #[#[_,TW _ rfl,rfl,rfl],f.push _],λi v N O P z l=>?_,λR B C=>?_]
 .have m:a[i]?=P3 v:=by simpa using z
  have D:∃b,c[i]?=P3 b:=by
   have S:i<a.length:=(XV.mp m).1;rw[Ev]at d;exact#[c[i]'(by lk),Op^by lk]
  let#[b,n]:=D;let#[u,o,E]:=k.get (i:=i) (x:=.bl b) (by rw[ji,n];rfl);rw[m]at o;cases o;cases E;simp only[n,Option.getD_some]at l;exact lG l
 .have e:((kH a.toArray.size).all λi=>(c[i]?).getD t_)=c.all id:=by
   rw[jn,←d,Ev];exact Kg c
  rw[e];exact#[.bl _,H,I.kept (t':=B) λb x e=>C b x (λF=>by rw[Re.mp F]at e;exact ko _^Tk e)^FM _ e,rfl,q]
def Ob:zS X (.builtin "isinstance") (λa H Q=>∃x T t b,a=[x,.ty T]/\Ft X.K H x t/\PySem.W.kitOne X.K t^.type T=P3 b/\Q (.bl b) H):=by
 intro f s g H a i Q I r h;let#[x,T,t,b,rfl,ty,e,q]:=h;let#[u,j,rfl,c,d]:=vals2 r;cases d;exact S4 I c ty e λk=>#[.bl b,H,I.tok _,rfl,q]
def SW:OpR X (compareOp .LtE) (λx y H Q=>∃i j,x=.str i/\y=.str j/\Q (.bl (!(j.cps.toList<i.cps.toList))) H):=by
 intro c s d H x y v u Q I a b h;let#[i,j,rfl,rfl,q]:=h;let#[t,rfl]:=a;let#[e,rfl]:=b;exact PySem.P.le_str #[.bl _,H,I,rfl,q]
def Ip:∀{a:v_ Db},zv (b.map V.str) a->StrsAre a b:=by
 induction b with
 |nil=>intro a r;cases r;exact .nil
 | cons n g c=>
  intro a r;cases r with
  |cons d f=>
   let#[t,e]:=d;subst e;exact .cons n t^c f
def af:SlR X (λx f g H Q=>∃z,x=.str z/\z.length<=sizeLine/\Q (.str^Txt.slice z f g) H):=by
 intro o s p H x v w y f g A Q I r c pl m h;let#[z,rfl,d,q]:=h;let#[t,rfl]:=r;exists "str",_,F.slot_str_getitem.lookup,nC _ _ _;have b:∀a k,EP X o p Q (.str _ a) {s with toks:=k}:=λa k=>#[.str _,H,I.tok _,#[_,rfl],q];cases pl with
 |none=>
  cases m with
  |none=>exact nR (l:=s_) (u:=s_) (st:=s_) c rfl (pi #[jr (Txt.slice_le z _ _) d,λa k=>b a k])
  |int j e=>exact nR (l:=s_) (u:=P3 (j,e)) (st:=s_) c rfl (pi #[jr (Txt.slice_le z _ _) d,λa k=>b a k])
 |int i n=>
  cases m with
  |none=>exact nR (l:=P3 (i,n)) (u:=s_) (st:=s_) c rfl (pi #[jr (Txt.slice_le z _ _) d,λa k=>b a k])
  |int j e=>exact nR (l:=P3 (i,n)) (u:=P3 (j,e)) (st:=s_) c rfl (pi #[jr (Txt.slice_le z _ _) d,λa k=>b a k])
def SU(d:X.A.units<cLine):OpR X (compareOp .NotEq) (λx y H Q=>∃a b c,x=.ref a/\y=.ref b/\SqL X.K H a c/\SqL X.K H b []/\Q (.bl (!c.isEmpty)) H):=by
 intro w s z H x y v u Q I m n h;let#[a,b,c,rfl,rfl,o,p,q]:=h;cases m;cases n;let#[r,f,g,_]:=I.list o;let#[i,k,l,_]:=I.list p;cases k;cases f with
 |nil=>exact SeqAt.RcNeAt.lists (e:=λ_=>t_) g.isList l.isList rfl d (λj t B=>absurd t^by simp) _ _ _ _ #[.bl _,H,I,rfl,q]
 |cons f k=>exact SeqAt.RcNeAt.lists_lengths g.isList l.isList (by simp) d _ _ _ _ #[.bl _,H,I,rfl,q]
end
end L2
namespace Dp
open L2
def cj(K:Frag)(F:w_ (Ch×Ch))(U b M:Ch->Prop)(H:Hp)(n:Sg)(c:v_ Slot)(d:v_ V):Prop:=
 (∀a,M a->∃o,H a=P3 o)/\(∀f,F=P3 f->U f.1)/\(∀a,U a->b a)/\(∀a,b a->M a)/\zk K F M H n/\Paired (D6 K F b M H) d c
abbrev W2:=v_ Slot->Sg->(D->Sg->Prop)->Prop
def SG(K:Frag)(g:Kd)(W:W2)(h:Nat):Sp:=λb H Q _=>b.length=h/\∃(F:w_ (Ch×Ch)) (U c M:Ch->Prop) (n:Sg) (e:v_ Slot) (P:D->Sg->Prop),cj K F U c M H n e b/\W e n P /\
 ∀v a d f,Ext U H a->zk K F M a f->VR K c M H a g v d->P d f->Q v a
def AS(w:DW):Sg->v_ Slot->(Slot->Sg->Prop)->Prop:=λn a P=>w n a λd b=>P (.sh d) b
def B9(w:DW):Sg->v_ Slot->(Slot->Sg->Prop)->Prop:=λn a P=>w n a λd b=>P (.br d) b
def Bc(i:Nat):Sg->v_ Slot->(Slot->Sg->Prop)->Prop:=λn a P=>match a[i]? with
 |some .fd=>P .fd n
 |_=>False
def AW:NC:=λn _ P=>P [] n
def AH(w:Sg->v_ Slot->(Slot->Sg->Prop)->Prop)(b:NC):NC:=λn a P=>w n a λs c=>b c a λd e=>P (s::d) e
def Ae(W:W2)(a:NC):DW:=λn b P=>a n b λc d=>W c d P
section

def Zp(h:DE X e κ wa)(b:κ≠.tp:=by intro z;cases z):gY X e^AS wa:=by
 let#[t,c,g]:=h;exact#[t,c,λC M H n i j P Q R w q=>g C M H n i j _ _ R w λv k d l e f r p=>q v k (.sh d) l e f #[#[v,rfl,r.vD R.dom b],rfl] p]
def Br(h:DE X e κ wa):gY X e^B9 wa:=by
 let#[t,b,c]:=h;exact#[t,b,λC M H n g i P Q R w q=>c C M H n g i _ _ R w λv j d k e f r p=>q v j (.br d) k e f #[#[v,rfl,r.vv R.dom R.vM],rfl] p]
def Bh(i:Nat)(d:X.N[i]?=P3 x:=by rfl)(e:Ov X.env.scope x:=by first|exact kF rfl|exact k6 (kF rfl)|exact k6 (k6 rfl))(b:dbN x:=by decide)
  (c:(x==("__classdict__":Str))=u_:=by decide):gY X (.Name x pos)^Bc i:=by
 refine#[_,DB d e b c,λC M H n j k P Q R w q=>?_];unfold Bc at w
 split at w
 .rename_i b
  let#[f,g,h]:=R.sl i _ b;exact#[_,getD_some g,q _ H .fd n (Ext.refl _ _) R.feed #[#[f,rfl,h],rfl] w]
 grind
def AF:Ow X [] AW:=#[_,B6,λC M H n b c P Q R w q=>q [] H [] n (Ext.refl _ _) R.feed .nil w]
def AQ(j:gY X e w1)(k:Ow X es was)(l:X.sE e es:=by rfl):Ow X (e::es)^AH w1 was:=by
 let#[t,m,o]:=j;let#[u,r,s]:=k;refine#[_,Ax m r l,λC M H n c f P Q R w q=>?_];refine o C M H n c f _ _ R w λv H1 d x g y h p=>?_;have i:=R.step g y;exact s C M H1 x c f _ _ i p λF H2 G A b B D E=>q _ H2 _ A (g.trans b) B (.cons #[h.1.q4 (i.q4 b) (λ_ z=>z) b R.uV,h.2] D) E
def YW(G:zL X.prog X.w X.K X.mg X.base EW k f fd b^SG X.K κ W b.length)(o:∀c n P,W c n P->c.length=b.length)
  (r:zy k X.A) (s:Gl X x) (u:X.mg x=P3^.ref f) (y:keepIn X.K^.ref f=t_) (z:Binds X.K fd b []) (B:Ow X (e::es) was)
  (h:dbN x:=by decide) (D:X.sE e es:=by rfl) (i:(backTo pos^starEach es X.env).any (·.1)=u_:=by rfl):
  DE X (.Call (.Name x p) (e::es) [] pos) κ (Ae W was):=by
 let#[t,E,F]:=B;refine#[_,II G r s u y z .nil HU E h D i,λC M H n I J P Q R w q=>?_];refine F C M H n I J _ _ R w λV H1 c L j l m p=>?_;have g:=R.step j l;rw[j5];exact#[(Paired.length m).trans^o _ _ _ p,_,_,_,M,L,c,P,#[g.dom,g.fU,g.uV,g.vM,l,m],p,λv H2 d N O S T U=>q v H2 d N (j.trans O) S (VR.back j T) U]
def jM(K:Frag)(κ:Kd)(T:String)(r:V->v_ V->Hp->VK->Prop)(f:D->v_ D->(D->Prop)->Prop):Prop:=∀(U:Ch->Prop) (M:Ch->Prop) (H:Hp) (d:D) (c:v_ D) (x:V) (e:v_ V) (P:D->Prop) (Q:VK),(∀a,M a->∃o,H a=P3 o)->(∀a,U a->M a)->
 AtT K U M H d x->Paired (λv d=>AtT K U M H d v) e c->f d c P->(∀v b z,vJ H b->VR K U M H b κ v z->P z->Q v b)->r x e H Q
def gj(T:String)(d:D):Prop:=match d with
 |.str _=>T="str"
 |.int _=>T="int"
 |.lst _=>T="list"
 |_=>False
def i_(T:String)(f:D->v_ D->(D->Prop)->Prop)(c:DW)(ws:Di):DW:=λn b P=>c n b λd e=>gj T d/\ws e b λg h=>f d g λz=>P z h
def Pz{K:Frag}(h:gj T d)(b:AtT K U M H d x):c6 K T x H:=by
 cases d with
 |str z=>let#[e,_]:=b;subst e;exact h
 |int i=>cases(b);exact h
 |lst g=>let#[a,c,e,_,f,_]:=b;subst e;exact .inl #[h,c,.inl f]
 |_=>exact(h).elim
def fw(J:oq T)(k:PySem.Slot T name s)(y:typeOf^.builtin s=pure^.type "method_descriptor")(L:W1 X s r)
  (N:jM X.K κ T r f) (O:DE X a zU wa) (S:Yx X (e::es) ws)
  (i:attributeBase a name X.env^eval a X.env=eval a X.env:=by rfl)
  (l:((backTo b^starEach (e::es) X.env).all (λx=>!x.1)&&(backToKw b^keywordEach [] X.env).all (λx=>x.1.isSome)
   && decide ((e::es).length+([]:v_ nH).length+(if([]:v_ nH).isEmpty then 0 else 1)<30))=t_:=by rfl)
  (j:(h.endLine==b.line)=t_:=by rfl) (U:X.sE e es:=by rfl) (c:(backTo b^starEach es X.env).any (·.1)=u_:=by rfl):
  DE X (.Call (.Attribute a name h) (e::es) [] b) κ (i_ T f wa ws):=by
 let#[t,W,Y]:=O;let#[u,Z,g2]:=S;refine#[_,ZQ J k y L W Z i l j U c,λC M H n E F P Q R w q=>?_];refine Y C M H n E F _ _ R w λx H1 d n1 A f1 r1 p=>?_;have B:=R.step A f1;have G:=r1.vv R.dom R.vM;exists Pz p.1 G;refine g2 C M H1 n1 E F _ _ B p.2 λvs H2 ds n2 m I r2 p2=>?_;have o:=B.step m I;refine N C.V M H2 d ds x vs _ _ o.dom o.vM (G.q4 (B.q4 m) m R.uV) r2 p2 λv H3 z g vr pz=>?_;exact q v H3 z n2 ((A.trans m).trans g.ext) (I.grow g) (VR.back (A.trans m) vr) pz
def DO(X:Cx)(e:w_ jx)(w:Sg->v_ Slot->(w_ Int->Sg->Prop)->Prop):Prop:=∃t,PO X e t/\∀(C:Fm) (M:Ch->Prop) (H:Hp) (n:Sg) (c:v_ Slot) (d:L2.St) (P:w_ Int->Sg->Prop) (Q:w_ Int->Hp->Prop),Rel X.K C M H n c d->w n c P->
 (∀o b f,Ext C.U H b->zk X.K C.F M b f->P o f->Q o b)->t d H Q
def D8:Sg->v_ Slot->(w_ Int->Sg->Prop)->Prop:=λn _ P=>P s_ n
def Ie(w:DW):Sg->v_ Slot->(w_ Int->Sg->Prop)->Prop:=λn b P=>w n b λd c=>match d with
 |.int i=>P (P3 i) c
 |_=>False
def C4:DO X s_ D8:=#[_,Qv,λC M H n b c P Q R w q=>q _ H n (Ext.refl _ _) R.feed w]
def P4{K:Frag}(h:VR K U M H b κ v^.int i):v=.int i:=by
 cases κ with
 |sh=>exact h
 |tp=>exact h
 |fr=>let#[a,_,_,t]:=h;exact(t).elim
def C3(h:DE X e κ wa):DO X (P3 e)^Ie wa:=by
 let#[t,b,c]:=h;refine#[_,Qu b,λC M H n f g P Q R w q=>?_];refine c C M H n f g _ _ R w λv H1 d j k l m p=>?_;cases d with
 |int i=>exact#[i,P4 m,q _ H1 j k l p]
 |_=>exact p.elim
def jJ(K:Frag)(κ:Kd)(r:V->w_ Int->w_ Int->Hp->VK->Prop)(f:D->w_ Int->w_ Int->(D->Prop)->Prop):Prop:=∀(U:Ch->Prop) (M:Ch->Prop) (H:Hp) (d:D) (x:V) (lo hi:w_ Int) (P:D->Prop) (Q:VK),(∀a,M a->∃o,H a=P3 o)->(∀a,U a->M a)->
 AtT K U M H d x->f d lo hi P->(∀v b z,vJ H b->VR K U M H b κ v z->P z->Q v b)->r x lo hi H Q
def Z8(f:D->w_ Int->w_ Int->(D->Prop)->Prop)(w:DW)(c e:Sg->v_ Slot->(w_ Int->Sg->Prop)->Prop):DW:=λn b P=>w n b λd g=>c g b λh i=>e i b λj k=>f d h j λz=>P z k
def GR(E:SlR X r)(F:jJ X.K κ r f)(G:DE X e zU wa)(I:DO X i x)(J:DO X j y):
  DE X (.Subscript e (.Slice i j s_ k) pos) κ (Z8 f wa x y):=by
 let#[t,L,N]:=G;let#[u,O,S]:=I;let#[u',T,U]:=J;refine#[_,Nj E L O T,λC M H n l m P Q R w q=>?_];refine N C M H n l m _ _ R w λv H1 d W o Y Z p=>?_;have s:=R.step o Y;have tv:=Z.vv R.dom R.vM;refine S C M H1 W l m _ _ s p λi H2 n2 c f2 k=>?_;have b:=s.step c f2;refine U C M H2 n2 l m _ _ b k λj H3 n3 h A p3=>?_;have B:=b.step h A;refine F C.V M H3 d v i j _ _ B.dom B.vM ((tv.q4 (s.q4 c) c R.uV).q4 (b.q4 h) h R.uV) p3 λv H4 z g vr pz=>?_;exact q v H4 z n3 (((o.trans c).trans h).trans g.ext) (A.grow g) (VR.back ((o.trans c).trans h) vr) pz
end
structure E2 where
 nx:Sg->List Slot->Prop
 rt:D->Sg->Prop
 bk:Sg->List Slot->Prop:=λ_ _=>False
 ct:Sg->List Slot->Prop:=λ_ _=>False
abbrev AY:=E2->Sg->v_ Slot->Prop
structure Ge (K:Frag) (C:Fm) (κ:Kd) (D2:E2) (E:Ends):Prop where
 nx:∀M H n ρ σ,Rel K C M H n ρ σ->D2.nx n ρ->E.nx σ H
 rt:∀v H d n,Ext C.U C.H0 H->zk K C.F C.M0 H n->VR K C.V C.M0 C.H0 H κ v d->D2.rt d n->E.rt v H
 bk:∀M H n ρ σ,Rel K C M H n ρ σ->D2.bk n ρ->E.bk σ H
 ct:∀M H n ρ σ,Rel K C M H n ρ σ->D2.ct n ρ->E.ct σ H
def DS(X:Cx)(d:Kd)(e:kn)(w:AY):Prop:=∃t,PS X e t/\∀(C:Fm) (M:Ch->Prop) (H:Hp) (n:Sg) (a:v_ Slot) (b:L2.St) (c:E2) (E:Ends),Rel X.K C M H n a b->Ge X.K C d c E->w c n a->t E b H
def Ou(X:Cx)(d:Kd)(e:v_ kn)(w:AY):Prop:=∃t,PSs X e t/\∀(C:Fm) (M:Ch->Prop) (H:Hp) (n:Sg) (a:v_ Slot) (b:L2.St) (c:E2) (E:Ends),Rel X.K C M H n a b->Ge X.K C d c E->w c n a->t E b H
def B0:AY:=λa n b=>a.nx n b
def Au(u v:AY):AY:=λa n b=>u {a with nx:=v a} n b
def HM(w:DW):AY:=λb n a=>w n a λ_ c=>b.nx c a
def Cd(w:DW):AY:=λa n b=>w n b λd c=>a.rt d c
def Cv(t:Fv)(u v:AY):AY:=λb n a=>t n a λc d=>if c=t_ then u b d a else v b d a
def Bj(i:Nat)(w:DW):AY:=λb n a=>w n a λd c=>b.nx c^a.set i^.sh d
section
variable {st:Stmt}
def AT:Ou X κ [] B0:=#[_,MG,λC M H n a b c E R L w=>L.nx M H n a b R w]
def AB(h1:DS X κ st u)(d:Ou X κ rest v):Ou X κ (st::rest)^Au u v:=by
 let#[t,e,f]:=h1;let#[i,g,h]:=d;exact#[_,Az e g,λC M H n a b c E R L w=>f C M H n a b {c with nx:=v c} _ R #[λM H n a b R w=>h C M H n a b c E R L w,L.rt,L.bk,L.ct] w]
def AD(h1:DS X κ st u):Ou X κ [st] u:=by
 let#[t,a,b]:=h1;exact#[t,CY a,b]
def B4(h:DE X e zT wa)(c:swapsWith e s_ pos.line X.env=pure u_:=by rfl):DS X κ (.Expr e pos)^HM wa:=by
 let#[t,f,g]:=h;exact#[_,IF f c,λC M H n a b m E R L w=>g C M H n a b _ _ R w λv i d j k l o p=>L.nx M i j a b (R.step k l) p]
theorem ak{K:Frag}{v:V}(R:Rel K C M H n j k)(L:Ge K C κ i E)(e:Ext C.U H g)(f:zk K C.F M g h)(r:VR K C.V M H g κ v d)(q:κ≠.tp)(p:i.rt d h):E.rt v g:=by
 have c:zg M g _ g:=zg.less R.sub;refine L.rt v g d h (R.ext.trans e) (f.q4 c (λ_ _ _ z=>z) λ_ _ z=>z) ?_ p;cases κ with
 |sh=>exact At.q4 c r
 |tp=>grind
 |fr=>
  let#[a,l,m,o]:=VR.back R.ext r;exact#[a,l,m,o.q4 (zg.less λb z=>z.imp (R.sub b) id) λ_ z=>z]
def AN(h:DE X e κ wa)(a:κ≠.tp:=by intro z;cases z):DS X κ (.Return (P3 e) pos)^Cd wa:=by
 let#[t,b,c]:=h;exact#[_,Fd b,λC M H n f g l E R L w=>c C M H n f g _ _ R w λv m d o i j k p=>ak R L i j k a p]
def Ai(j:DT X c wA)(k:Ou X κ a u)(l:Ou X κ b v):DS X κ (.If c a b pos)^Cv wA u v:=by
 let#[t,m,o]:=j;let#[z,q,r]:=k;let#[s,x,y]:=l;refine#[_,Qs m q x,λC M H n d e f E R L w=>?_];refine o C M H n d e _ _ R w λb H1 g h i p=>?_;cases b with
 |true=>exact r C M H1 g d e f E (R.step h i) L p
 |false=>exact y C M H1 g d e f E (R.step h i) L p
def QA(b:X.N.Nodup)(hi:X.N[i]?=P3 x)(c:Loc X.env.scope x)(f:DE X e zT wa)(g:zT≠.tp:=by intro z;cases z)(h:swapsWith e (P3^.Name x a) pos.line X.env=pure u_:=by rfl)
  (j:X.lO x:=by first|exact .inl rfl|exact .inr rfl|assumption):DS X κ (.Assign [.Name x a] e pos)^Bj i wa:=by
 let#[t,k,l]:=f;exact#[_,EA b hi c k h j,λC M H n m o A E R L w=>l C M H n m o _ _ R w λv q d r s u y p=>L.nx M q r _ _ ((R.step s u).set^y.vD R.dom g) p]
end
section

def Ic(i:Nat)(w:DW):AY:=λb n a=>w n a λd c=>b.nx c^a.set i^.ow d
def Mm(c:X.N.Nodup)(hi:X.N[i]?=P3 x)(f:Loc X.env.scope x)(g:DE X e .fr wa)(h:swapsWith e (P3^.Name x b) pos.line X.env=pure u_:=by rfl)
  (j:X.lO x:=by first|exact .inl rfl|exact .inr rfl|assumption):DS X κ (.Assign [.Name x b] e pos)^Ic i wa:=by
 let#[t,k,l]:=g;refine#[_,EA c hi f k h j,λC M H n m o B E R L w=>?_];refine l C M H n m o _ _ R w λv q d r s u y p=>?_;let#[a,rfl,z,A]:=y;exact L.nx _ q r _ _ (R.setOw s u z A) p
def T4(i:Nat):AY:=λa n b=>∃d,b[i]?=P3^.ow d/\a.rt d n
theorem IR(i:Nat)(h:PE X (.Name x p)^Bs i):DS X .fr (.Return (P3^.Name x p) pos)^T4 i:=by
 refine#[_,Fd h,λC M H n g j k E R L zz=>?_];let#[d,c,f]:=zz;let#[a,e,m,l,t]:=R.sl i _ c;exact#[_,getD_some e,L.rt _ H d n R.ext (R.feed.q4 (zg.less R.sub) (λ_ _ _ z=>z) λ_ _ z=>z) #[a,rfl,(R.new i _ a c rfl e).2,t.q4 (zg.less λb z=>z.elim (R.sub b) λz=>by grind) λ_ z=>z] f]
def NB(K:Frag)(r:V->v_ V->Hp->VK->Prop)(f:D->v_ D->(D->D->Prop)->Prop):Prop:=∀(M:Ch->Prop) (H:Hp) (a:Ch) (d:D) (b:v_ D) (c:v_ V) (P:D->D->Prop) (Q:VK),M a->vh K M H a d->Ats K M H b c->f d b P->
 (∀o e z v,vh K M (AX H a o) a e->At K M (AX H a o) z v->P e z->Q v^AX H a o)->r (.ref a) c H Q
def Ww(i:Nat)(T:String)(f:D->v_ D->(D->D->Prop)->Prop)(b:Di):AY:=λc n a=>∃d,a[i]?=P3^.ow d/\gj T d/\b n a λg h=>f d g λe _=>c.nx h^a.set i^.ow e
theorem CZ(m:M a)(e:H a=P3 u)(t:∀c,u≠.tup c:=by intro _ z;cases z):zg M H M^AX H a o:=#[λb d q f _=>by rw[AG λz=>f^by simp_all];exact q,λ_ z=>.inl z,λb c q=>by rw[AG λz=>by grind];exact q,λb d q=>(oF (b=a)).elim (λz=>#[o,by rw[z,AI]]) λz=>#[d,by rw[AG z];exact q]]
def GO(i:Nat)(O:oq T)(q:PySem.Slot T name w)(y:typeOf^.builtin w=pure^.type "method_descriptor")
  (P:W1 X w r) (Q:NB X.K r f) (h:PE X (.Name x p)^Bs i) (S:W3 X (e::j) I)
  (k:attributeBase (.Name x p) name X.env^eval (.Name x p) X.env=eval (.Name x p) X.env:=by rfl)
  (s:((backTo b^starEach (e::j) X.env).all (λx=>!x.1)&&(backToKw b^keywordEach [] X.env).all (λx=>x.1.isSome)
   && decide ((e::j).length+([]:v_ nH).length+(if([]:v_ nH).isEmpty then 0 else 1)<30))=t_:=by rfl)
  (l:(c.endLine==b.line)=t_:=by rfl) (U:X.sE e j:=by rfl) (g:(backTo b^starEach j X.env).any (·.1)=u_:=by rfl)
  (A:swapsWith (.Call (.Attribute (.Name x p) name c) (e::j) [] b) s_ pos.line X.env=pure u_:=by rfl):
  DS X κ (.Expr (.Call (.Attribute (.Name x p) name c) (e::j) [] b) pos) (Ww i T f I):=by
 let#[t,W,Y]:=S;refine#[_,IF (ZQ O q y P h W k s l U g) A,λC M H n Z J D2 E R L zz=>?_];let#[d,B,hT,hw]:=zz;let#[a,F,m,nv,tt]:=R.sl i _ B;exists .ref a,getD_some F,Pz hT^tt.att nv;refine Y C M H n Z J _ _ R hw λvs H1 ds n1 ee f1 r1 p=>?_;have N:=R.step ee f1;let#[a',u,m',a0,G]:=N.sl i _ B;rw[F]at u;cases u;exact Q M H1 a d ds vs _ _ m' G r1 p λo d' z v t2 hz pp=>L.nx M _ n1 _ J (N.mut B F t2) pp
def Kw(d:D)(b:v_ D)(P:D->D->Prop):Prop:=∃a y,d=.lst a/\b=[y]/\a.length<sizeLine/\P (.lst (a++[y])) .non
def Hr{K:Frag}:NB K Qn Kw:=by
 intro M H a d j k P Q m t e w q;let#[l,y,rfl,rfl,f,w]:=w;let#[g,b,c]:=t;let#[u,r,rfl,h,i]:=e;cases(i);exact#[a,g,u,rfl,rfl,b,by rw[c.length];exact f,q _ (.lst _) .non _ #[_,AI,(c.append^Ats.one h).q4^CZ m b] rfl w]
def iZ(d:D)(c:v_ D)(P:D->D->Prop):Prop:=∃a b,d=.lst a/\c=[.lst b]/\a.length+b.length<=sizeLine/\P (.lst (a++b)) .non
def gB{K:Frag}:NB K Qm iZ:=by
 intro M H a d o p P Q m t g w q;let#[s,v,rfl,rfl,h,w]:=w;let#[i,c,e]:=t;let#[u,r,rfl,j,k]:=g;cases(k);let#[b,l,rfl,n,f]:=j;exact#[a,b,i,l,rfl,rfl,c,n.2,by rw[e.length,f.length];exact h,q _ (.lst _) .non _ #[_,AI,(e.append f).q4^CZ m c] rfl w]
end
def U0(K:Frag)(M:Ch->Prop)(H:Hp)(J:It)(e:v_ D):Prop:=∀(i:Nat) (c:Ch->Prop) (b:Hp),zg M H c b->(∀a,c a->∃o,b a=P3 o)->
 (∀d,e[i]?=P3 d->J.go i b/\∀x H2,J.yld i b x H2->vJ b H2/\At K c H2 d x)/\(e.length<=i->J.stop i b)
def Rp(K:Frag)(U M:Ch->Prop)(H:Hp)(J:It)(e:v_ D):Prop:=∀(i:Nat) (c:Ch->Prop) (b:Hp),zg M H c b->Ext U H b->(∀a,c a->∃o,b a=P3 o)->
 (∀d,e[i]?=P3 d->J.go i b/\∀x H2,J.yld i b x H2->vJ b H2/\At K c H2 d x)/\(e.length<=i->J.stop i b)
def U0.e{K:Frag}(h:U0 K M H J a):Rp K U M H J a:=λi b c p _ d=>h i b c p d
def Z0(X:Cx)(h a:jx)(w:Di):Prop:=∃c,PI X h a c/\∀(C:Fm) (M:Ch->Prop) (H:Hp) (n:Sg) (d:v_ Slot) (e:L2.St) (P:v_ D->Sg->Prop) (R:It->Hp->Prop),Rel X.K C M H n d e->w n d P->
 (∀J b f g,Ext C.U H b->zk X.K C.F M b g->Rp X.K C.U M b J f->P f g->R J b)->c e H R
def DI(X:Cx)(h a:jx)(w:Di):Prop:=∃c,PI X h a c/\∀(C:Fm) (M:Ch->Prop) (H:Hp) (n:Sg) (d:v_ Slot) (e:L2.St) (P:v_ D->Sg->Prop) (R:It->Hp->Prop),Rel X.K C M H n d e->w n d P->
 (∀J b f g,Ext C.U H b->zk X.K C.F M b g->U0 X.K M b J f->P f g->R J b)->c e H R
def signs(x:Str):v_ D:=x.cps.toList.map λc=>.str #[#[ c]]
def FV(w:DW):Di:=λn c P=>w n c λd a=>match d with
 |.lst b=>P b a
 |.tup b=>P b a
 |.str x=>P (signs x) a
 |_=>False
def NF{K:Frag}(h:NdL M H a b)(g:Ats K M H f b):U0 K M H (i5 K a) f:=by
 intro i o j p _;have c:SqL K j a b:=(h.q4 p).sq;refine#[λd k=>?_,λl=>#[b,c,by rw[g.length];exact l]];let#[v,e,m]:=(g.q4 p).get k;refine#[#[b,v,c,e],λx H2 y=>?_];let#[n,y]:=y;subst n
 have:=e.symm.trans^y b c
 cases this;exact#[.refl,m]
def Ib{K:Frag}(h:NdT M H a b)(g:Ats K M H f b):U0 K M H (cu K a) f:=by
 intro i o j p _;have c:SqT K j a b:=(h.q4 p).sq;refine#[λd k=>?_,λl=>#[b,c,by rw[g.length];exact l]];let#[v,e,m]:=(g.q4 p).get k;refine#[#[b,v,c,e],λx H2 y=>?_];let#[n,y]:=y;subst n
 have:=e.symm.trans^y b c
 cases this;exact#[.refl,m]
set_option tactic.hygienic true in
theorem yY{K:Frag}:U0 K M H (i4 z)^signs z:=by
 intro i h j p _;refine#[λd a=>?_,λe=>?_]
 .unfold signs at a
  rw[ji]at a
  have f:i<z.cps.size:=by
   cases q:z.cps.toList[i]? with
   |none=>simp_all
   |some c=>simpa using (XV.mp q).1
  refine#[f,λx H2 y=>?_];let#[g,c,k,rfl]:=y;subst g
  have:z.cps.toList[i]?=P3 c:=by grind
  rw[this]at a;have b:D.str #[#[ c]]=d:=ZB a;subst b;exact#[.refl,rfl,by rw[kJ];show 1<=16777216;decide]
 .show z.cps.size<=i
  unfold signs at e
  simp_all
def Gs(lo:Int)(n:Nat):v_ D:=(kH n).map fun(i:Nat)=>.int (lo+(i:Int))
def Lz{K:Frag}{lo:Int}:U0 K M H (gs lo m)^Gs lo m:=by
 intro i j k p _;refine#[λd a=>?_,λf=>?_]
 .unfold Gs at a
  rw[ji]at a
  have e:=by
   cases q:(kH m)[i]? with
   |none=>simp_all
   |some c=>simpa using (XV.mp q).1
  rw[List.getElem?_range e]at a;have b:=ZB a;subst b;refine#[e,λx H2 y=>?_];let#[g,h]:=y;subst g;exact#[.refl,h]
 .show m<=i
  unfold Gs at f
  simp_all
section

def Js(h:DE X e κ wa)(m:κ≠.tp:=by intro z;cases z):DI X tg e^FV wa:=by
 let#[t,o,r]:=h;refine#[_,Pe o,λC M H n s u P y R w q=>?_];refine r C M H n s u _ _ R w λv H1 d c f g x p=>?_;have i:=x.vD R.dom m;cases d with
 |lst j=>
  let#[a,k,e,b,l]:=i;exact .inl #[a,e,#[k,b.sq],q _ H1 j c f g (NF b l) p]
 |tup j=>
  let#[a,k,e,b,l]:=i;exact .inr^.inl #[a,e,#[k,b.sq],q _ H1 j c f g (Ib b l) p]
 |str z=>exact .inr^.inr #[z,i.1,q _ H1 _ c f g yY p]
 |_=>exact p.elim
def Y2(ws:Di):Di:=λn a P=>ws n a λb c=>∃j:Int,b=[.int j]/\(-(2 ^ 62)<=j/\j<2 ^ 62)/\P (Gs 0 j.toNat) c
def FG(b:Gl X "range")(c:X.mg "range"=s_)(d:Yx X [e] ws)(f:starEach [e] X.env=[(u_,eval e X.env)]:=by rfl):DI X tg (.Call (.Name "range" p) [e] [] pos)^Y2 ws:=by
 let#[t,g,h]:=d;refine#[_,SN b c g f,λC M H n i k P v R w q=>?_];refine h C M H n i k _ _ R w λx H1 y l m o s p=>?_;let#[j,rfl,a,p]:=p;cases s with
 |cons r u=>
  cases u;exact#[j,by rw[r],a.1,a.2,q _ H1 _ l m o Lz p]
def DI.c(h:DI X tg e ws):Z0 X tg e ws:=by
 let#[a,b,d]:=h;exact#[a,b,λC M H n f g P i R w q=>d C M H n f g P i R w λJ j k l m o y p=>q J j k l m o y.e p]
def BQ(h:DE X e κ wa):Z0 X tg e^FV wa:=by
 let#[t,A,B]:=h;refine#[_,Pe A,λC M H n D E P N R w q=>?_];refine B C M H n D E _ _ R w λv H1 d j k l F p=>?_;have f:AtT X.K C.V M H1 d v:=F.vv R.dom R.vM;cases d with
 | lst m=>
  let#[a,b,e,s,c,g]:=f;refine .inl #[a,e,#[b,.inl c],q _ H1 m j k l (λi O G I ex _=>?_) p]
  have r:SqL X.K G a b:=by
   rcases c with c|⟨o,c⟩
   .exact .inl^.inl^ex.keep c λz=>s^R.uV a z
   .exact .inl^.inr #[o,ex.keep c λz=>s^R.uV a z]
  refine#[λd J=>?_,λL=>#[b,r,by rw[g.length];exact L]];let#[v,e,f]:=(g.q4 I).get J;refine#[#[b,v,r,e],λx H2 y=>?_];let#[e2,y]:=y;subst e2
  have:P3 v=P3 x:=e.symm.trans^y b r
  cases this;exact#[.refl,f]
 |tup m=>
  let#[a,b,e,u,g]:=f;exact .inr^.inl #[a,e,#[b,u.sq],q _ H1 m j k l (Ib u g).e p]
 |str z=>exact .inr^.inr #[z,f.1,q _ H1 _ j k l yY.e p]
 |_=>exact p.elim
end
abbrev BW:=D->v_ Slot->(v_ Slot->Prop)->Prop
def DG(X:Cx)(h:jx)(b:BW):Prop:=∃g,PG X h g/\∀(C:Fm) (M:Ch->Prop) (H:Hp) (n:Sg) (a:v_ Slot) (c:L2.St) (d:D) (v:V) (P:v_ Slot->Prop) (Q:L2.St->Hp->Prop),Rel X.K C M H n a c->At X.K M H d v->b d a P->
 (∀e f,Rel X.K C M H n e f->P e->Q f H)->g v c H Q
def Bm(i:Nat):BW:=λd a P=>P^a.set i^.sh d
def EM(a:X.N.Nodup)(hi:X.N[i]?=P3 x)(b:Loc X.env.scope x)(c:X.lO x:=by first|exact .inl rfl|exact .inr rfl|assumption):DG X (.Name x pos)^Bm i:=
 #[_,F6 a hi b c,λC M H n e f d v P Q R h w q=>q _ _ (R.set h) w]
def BF(b:BW)(a:AY)(c:E2):v_ D->Sg->v_ Slot->Prop
 |[],n,e=>c.nx n e
 |d::f,n,e=>b d e λg=>a {c with nx:=BF b a c f,ct:=BF b a c f,bk:=c.nx} n g
def T7(c:Di)(b:BW)(a:AY):AY:=λe n d=>c n d λf g=>BF b a e f g d
def Rel.yZ{K:Frag}(R:Rel K {C with zF:=p::C.zF} M H n a b):Rel K C M H n a b:=
 #[R.len,R.sub,R.dom,R.ext,R.fU,R.uV,R.vM,R.feed,R.sl,λq c=>R.pin q^Rs _ c,R.br0,R.new,R.two,R.kept]
def Rel.pinned{K:Frag}(R:Rel K C M H n a b):Rel K {C with zF:=(M,H)::C.zF} M H n a b:=
 #[R.len,R.sub,R.dom,R.ext,R.fU,R.uV,R.vM,R.feed,R.sl,λq c=>(UF.mp c).elim (λe=>e▸zg.refl M H)^R.pin q,R.br0,R.new,R.two,R.kept]
section

theorem De(Q:pP (model X.prog X.w) X.A X.env X.xe)(S:X.calm=t_)(G:DI X tg iter src)(T:DG X tg b)(U:Ou X κ body wb)
  (V:∀x,foldedSetIterable iter X.env x=pure x:=by intro _;rfl):DS X κ (.For tg iter body [] pos)^T7 src b wb:=by
 let#[wi,W,Y]:=G;let#[g,Z,g2]:=T;let#[tb,b1,b2]:=U;refine#[_,JD Q S W Z b1 V,λC M H n I σ h E R L w=>?_];refine Y C M H n I σ _ _ R w λJ H1 a n1 e1 f1 y w1=>?_;have R1:=R.step e1 f1;exists λi m u j=>m=a.length - i/\i<=a.length/\∃c k o,Rel X.K {C with zF:=(M,H1)::C.zF} c j k o u/\BF b wb h (a.drop i) k o,#[a.length,by simp,jp _,M,n1,I,R1.pinned,w1];rintro i m u j ⟨rfl,G,c,k,o,l,v⟩;have N:zg M H1 c j:=l.pin (M,H1) No
 by_cases d:i<a.length
 .have ed:a.drop i=a[i]::a.drop (i+1):=lX d
  rw[ed]at v;let#[go,yl]:=(y i c j N l.dom).1 a[i] (Op d);refine .inr #[go,λO H2=>∃M2 z B,Rel X.K {C with zF:=(M,H1)::C.zF} M2 H2 z B O/\BF b wb h (a.drop (i+1)) z B,λO H2 #[M2,z,B,f,w2]=>#[a.length - (i+1),by lk,rfl,d,M2,z,B,f,w2],λx H2 hy=>?_];let#[P,hx]:=yl x H2 hy;have f:=l.step P.ext^l.feed.grow P;refine g2 _ c H2 k o u a[i] x _ _ f hx v λzP zV R3 w3=>?_;refine b2 _ c H2 k zP zV {h with nx:=BF b wb h^a.drop (i+1),ct:=BF b wb h^a.drop (i+1),bk:=h.nx} _ R3 #[λp D q r F s t=>#[p,q,r,s,t],L.rt,λp D q r F s t=>L.nx p D q r F s.yZ t,λp D q r F s t=>#[p,q,r,s,t]] w3
 .have e:i=a.length:=by lk
  subst e;rw[oR]at v;exact .inl #[(y _ c j N l.dom).2 (Sc _),L.nx c j k o u l.yZ v]
end
def JW(b:BW)(f:Fv)(g:DW)(P:v_ D->Sg->Prop):v_ D->v_ D->Sg->v_ Slot->Prop
 |[],a,n,_=>P a n
 |d::h,a,n,j=>b d j λe=>f n e λc i=>if c=t_ then g i e λy k=>JW b f g P h (a++[y]) k e else JW b f g P h a i e
def Vk:Slot->Slot
 |.ow d=>.br d
 |.lt _ d=>.br d
 |s=>s
def Sr(s:Slot):(Vk s).yj=u_:=by cases s <;>rfl
theorem EH{a:v_^w_ Nat}{b:v_ Slot}{i:Nat}(h:(a.map λo=>match o with|some i=>Vk^(b[i]?).getD .no|none=>Slot.no)[i]?=P3 s):s.yj=u_:=by
 rw[ji]at h;cases q:a[i]? with
 |none=>grind
 | some o=>
  rw[q]at h;cases o with
  |none=>
   rw[←ZB h];rfl
  |some j=>
   rw[←ZB h];exact Sr _
def GH(a:v_^w_ Nat)(b:v_ Slot):v_ Slot:=a.map λo=>match o with
 |some i=>Vk^(b[i]?).getD .no
 |none=>.no
def HN(f:v_^w_ Nat)(a:Di)(b:BW)(g:Fv)(h:DW):DW:=λn d P=>a n d λe i=>e.length<=10000000/\JW b g h (λc j=>P (.lst c) j) e [] i^GH f d
def Zz(X:Cx)(a:v_ jx)(w:Fv):Prop:=∃t,gP X a t/\∀(C:Fm) (M:Ch->Prop) (H:Hp) (n:Sg) (d:v_ Slot) (e:L2.St) (P:Bool->Sg->Prop) (Q:Bool->Hp->Prop),Rel X.K C M H n d e->w n d P->
 (∀b c f,Ext C.U H c->zk X.K C.F M c f->P b f->Q b c)->t e H Q
def dH:Fv:=λn _ P=>P t_ n
def CF:Zz X [] dH:=#[_,Xb,λC M H n a b P Q R w q=>q _ H n (Ext.refl _ _) R.feed w]
def FF(h:DT X c w):Zz X [c] w:=by
 let#[t,a,b]:=h;exact#[t,Xa a,b]
def LU{i:Nat}(a:(GH c d)[i]?=P3 s):s=.no\/∃(j:Nat) (b:Slot),d[j]?=P3 b/\s=Vk b/\((CQ c g)[i]?).getD s_=(g[j]?).getD s_:=by
 unfold GH at a;unfold CQ;rw[ji]at a ⊢;cases q:c[i]? with
 |none=>simp_all
 | some o=>
  rw[q]at a;cases o with
  |none=>simp_all
  | some j=>
   have e:Vk _=s:=ZB a;cases f:d[j]? with
   |none=>rw[f]at e;exact .inl e.symm
   |some b=>
    rw[f]at e;exact .inr #[j,b,f,e.symm,rfl]
def N3{K:Frag}(k:∀(i:Nat) (s:Slot),o[i]?=P3 s->vP K F U M H s^(p[i]?).getD s_)
  (r:zg M H g h) (br:∀d v,AtT K U M H d v->AtT K m g h d v):∀(i:Nat) (s:Slot),(GH n o)[i]?=P3 s->vP K F m g h s^((CQ n p)[i]?).getD s_:=by
 intro i s w
 rcases LU w with rfl|⟨j,u,q,rfl,e⟩
 .trivial
 .rw[e]
  have c:=k j u q;cases u with
  |no=>trivial
  |sh d=>let#[v,b,f]:=c;exact#[v,b,f.q4 r]
  |ex a x y z=>let#[b,f]:=c;exact#[b,f.q4 r]
  |br d=>let#[v,b,f]:=c;exact#[v,b,br d v f]
  |fd=>exact c
  |ow d=>let#[a,b,_,l,t]:=c;exact#[_,b,br d _^t.att l]
  |lt a d=>let#[b,_,l,t]:=c;exact#[_,b,br d _^t.att l]
def RB{K:Frag}(g:∀(i:Nat) (s:Slot),l[i]?=P3 s->vP K F U M H s^(m[i]?).getD s_){i:Nat}
  (r:(GH k l)[i]?=P3^.br d) (n:((CQ k m)[i]?).getD s_=P3^.ref a):∃o,H a=P3 o:=by
 rcases LU r with z|⟨j,p,q,z,e⟩
 .cases z
 .rw[e]at n
  have f:=g j p q;rw[n]at f;cases p with
  |br d=>let#[v,c,u]:=f;cases c;exact u.lies
  |ow d=>let#[b,c,_,h,t]:=f;cases c;exact(t.att h).lies
  |lt b d=>let#[c,_,h,t]:=f;cases c;exact(t.att h).lies
  |no=>cases z
  |sh d=>cases z
  |ex a w x y=>cases z
  |fd=>cases z
section

theorem YV(hc:X.calm=t_)(N':v_ Str)(js:v_^w_ Nat)(hi:Z0 X tg iter src)(hg:∀L C s H O,DG (Ah X sc N' L C s H O) tg b)(ht:∀L C s H O,Zz (Ah X sc N' L C s H O) ifs tt)(he:∀L C s H O,DE (Ah X sc N' L C s H O) elt zT te)
  (hB:FT sc X.env.scope X.N N' js=t_) (hk:zT≠.tp:=by intro z;cases z)
  (hs:∀x,foldedSetIterable iter X.env x=pure x:=by intro _;rfl):DE X (.ListComp elt [#[tg,iter,ifs,0]] sc pos) .fr^HN js src b tt te:=by
 let#[wi,a1,a2]:=hi;refine#[_,Xj hc N' js a1 hB hs,λC M H n ρ σ P Q R w q=>?_];refine a2 C M H n ρ σ _ _ R w λJ H1 r n1 A f1 y w1=>?_;let#[b2,w1]:=w1;have R1:=R.step A f1;intro l hl b4 L Ca s0 H0 O;let#[g,g1,g2]:=hg L Ca s0 H0 O;let#[tc,c1,c2]:=ht L Ca s0 H0 O;let#[tx,x1,x2]:=he L Ca s0 H0 O
 have a3:¬C.U l:=λz=>by
  let#[o,z]:=R1.udom l z;rw[hl]at z;cases z
 generalize S:(λb=>M b\/b=l)=M';have a4:M' l:=by rw[←S];exact .inr rfl
 have M'of:∀b,M b->M' b:=λb z=>by rw[←S];exact .inl z
 have a0:∀b,M' b->M b\/b=l:=λb z=>by rw[←S]at z;exact z
 have a9:∀b,C.V b\/b=l->M' b:=λb z=>z.elim (λz=>M'of b^R1.vM b z) λz=>by rw[z];exact a4
 have b3:js.length=N'.length:=Eu (vT.of hB).cap
 exists g,tc,tx,λi m zZ G=>m=r.length - i/\i<=r.length/\∃n' zY k I,Rel X.K #[M',C.F,C.U,λb=>C.V b\/b=l,H1,[],[]] M' G n' zY zZ/\G l=P3^.lst I/\Ats X.K M' G k I/\k.length<=i/\zg M H1 M' G /\
   JW b tt te (λk n2=>P (.lst k) n2) (r.drop i) k n' zY,g1,c1,x1,#[r.length,by simp,jp _,n1,GH js ρ,[],[],?_]
 .have D:vJ H1^AX H1 l^.lst []:=AV hl
  have T:zg M H1 M'^AX H1 l^.lst []:=#[λb o e _ _=>D.all b o e,λb z=>(a0 b z).elim .inl λz=>.inr (by rw[z];exact hl),λb I e=>D.all b _ e,λb o e=>#[o,D.all b o e]];refine#[#[?_,λa z=>z,λa z=>?_,D.ext,R1.fU,λa z=>.inl^R1.uV a z,a9,f1.q4 T (λf o _ e=>D.all f.1 o e) λa u e=>D.all a _ e,?_,λp hp=>absurd hp^by simp,λi d a q z=>RB R1.sl q z,λi s a q o _=>absurd o (by rw[EH q];decide),λi j s t a q o _ _ _ _=>absurd o (by rw[EH q];decide),λp hp=>absurd hp^by simp],AI,rfl,jp _,T,w1]
  .unfold GH CQ
   rw[Ev,Ev]
  .rcases a0 a z with z|z
   .let#[o,z]:=R1.dom a z
    exact#[o,D.all a o z]
   .subst z
    exact#[_,AI]
  .refine N3 R1.sl T λd v h=>h.same T (λa o _ e=>D.all a o e) λa e n1 z=>z.elim n1 λz=>?_
   subst e;let#[o,w]:=h.lies;rw[z,hl]at w;cases w
 .rintro i m zZ G ⟨rfl,hi,n',zY,k,I,R',a6,W,a7,T,w'⟩
  by_cases Y:i<r.length
  .have ed:r.drop i=r[i]::r.drop (i+1):=lX Y
   rw[ed]at w';let#[go,yl]:=(y i M' G T R'.ext R'.dom).1 r[i] (Op Y);refine .inr #[go,λx H2 hy=>?_];let#[D,hx]:=yl x H2 hy;have b0:=R'.step D.ext^R'.feed.grow D;refine g2 _ M' H2 n' zY zZ r[i] x _ _ b0 hx w' λzP zV R3 w3=>?_;refine c2 _ M' H2 n' zP zV _ _ R3 w3 λc H4 n4 e4 f4 w4=>?_;have R4:=R3.step e4 f4;have p4:zg M' G M' H4:=D.q4.trans^R3.q4 e4;have l4:H4 l=P3^.lst I:=e4.keep (D.all _ _ a6) a3;cases c with
   |false=>exact#[r.length - (i+1),by lk,rfl,Y,n4,zP,k,I,R4,l4,W.q4 p4,by lk,T.trans p4,w4]
   | true=>
    refine x2 _ M' H4 n4 zP zV _ _ R4 w4 λyv H5 d5 n5 e5 f5 r5 w5=>?_;have B:=R4.step e5 f5;have p5:zg M' H4 M' H5:=R4.q4 e5;have l5:H5 l=P3^.lst I:=e5.keep l4 a3;have b1:=r5.vD R4.dom hk;have a5:=(W.q4 p4).q4 p5;have pu:zg M' H5 M'^AX H5 l^.lst (I++[yv]):=CZ a4 l5;have b5:I.length=k.length:=W.length;refine#[I,l5,by rw[kJ];lk,r.length - (i+1),by lk,rfl,Y,n5,zP,k++[d5],I++[yv],?_,AI,(a5.append^Ats.one b1).q4 pu,by rw[eq,kN];lk,(T.trans p4).trans^p5.trans pu,w5];refine#[B.len,B.sub,λa z=>?_,λb o e=>?_,B.fU,B.uV,B.vM,?_,λj s hs=>?_,λp hp=>absurd hp^by simp,B.br0,B.new,B.two,λp hp=>absurd hp^by simp]
    .by_cases ha:a=l
     .subst ha;exact#[_,AI]
     .rw[AG ha];exact B.dom a z
    .let#[o',q1,q2]:=B.ext b o e
     by_cases hb:b=l
     .subst hb
      have e':H1 b=P3 o:=e;rw[hl]at e';cases e'
     .exact#[o',by rw[AG hb];exact q1,q2]
    .refine f5.q4 pu (λf o hf e=>?_) λa u e=>by rw[AG λz=>by rw[z,l5]at e;cases e];exact e
     rw[AG λz=>a3^by rw[←z];exact R1.fU f hf];exact e
    .have E:=B.sl j s hs
     cases s with
     |no=>trivial
     |sh d=>let#[v,A,Z]:=E;exact#[v,A,Z.q4 pu]
     |ex a nm ks r=>let#[A,Z]:=E;exact#[A,Z.q4 pu]
     | br d=>
      let#[v,A,Z]:=E;refine#[v,A,Z.same pu (λa o z e=>?_) λ_ _ z=>z];subst z;let#[o3,w]:=B.br0 j d a hs A
      have a7:a≠l:=λz=>by
       have w':H1 a=P3 o3:=w;rw[z,hl]at w';cases w'
      rw[AG a7];exact e
     |ow d=>
      let#[a,A,Z,_]:=E;exact absurd Z (B.new j _ a hs rfl A).1
     |lt a d=>
      let#[A,Z,_]:=E;exact absurd Z (B.new j _ a hs rfl A).1
     |fd=>exact E
  .have e:i=r.length:=by lk
   subst e;rw[oR]at w';refine .inl #[(y _ M' G T R'.ext R'.dom).2 (Sc _),?_];have eb:Ext C.U H1 G:=R'.ext;have a8:zg M' G M G:=zg.less M'of;refine q _ G (.lst k) n' (A.trans eb) (R'.feed.q4 a8 (λ_ _ _ z=>z) λ_ _ z=>z) (VR.back A ?_) w';exact#[l,rfl,hl,I,a6,by rw[S];exact W]
end
theorem LJ{K:Frag}(h:cj K F U k M H n c f)(G:f.length<=N.length):
  Rel K #[M,F,U,k,H,[],[]] M H n (c++jk (N.length - c.length) .no) (L2.start N f):=by
 let#[u,A,B,C,fd,q]:=h;have D:f.length=c.length:=Paired.length q
 have go:∀{f:v_ V}{c:v_ Slot}{i:Nat}{s:Slot},Paired (D6 K F k M H) f c->c[i]?=P3 s->∃v,f[i]?=P3 v/\D6 K F k M H v s:=by
  intro f c i s q
  induction q generalizing i with
  |nil=>intro e;simp at e
  | cons r t E=>
   intro e;cases i with
   |zero=>simp at e;subst e;exact#[_,rfl,r]
   |succ i=>
    let#[v,l,m]:=E (i:=i) (by simpa using e);exact#[v,by simpa using l,m]
 have g:∀(i:Nat) (s:Slot),(c++jk (N.length - c.length) Slot.no)[i]?=P3 s->s=.no\/∃v,((L2.start N f)[i]?).getD s_=P3 v/\D6 K F k M H v s:=by
  intro i s b
  by_cases x:i<c.length
  .rw[nB x]at b
   let#[v,l,m]:=go q b;refine .inr #[v,?_,m];unfold L2.start;rw[nB (by rw[Ev,D];exact x),ji,l];rfl
  .rw[mz^by lk,o5]at b
   split at b
   .exact .inl (ZB b).symm
   .cases b
 refine#[?_,λa z=>z,u,Ext.refl _ _,A,B,C,fd,λi s b=>?_,λp w=>absurd w^by simp,λi d a b y=>?_,λi s a b o _=>?_,λi j s t a b o _ _ _ _=>?_,λp w=>absurd w^by simp]
 .unfold L2.start
  simp only[eq,Ev,oC];lk
 .rcases g i s b with rfl|⟨v,e,h⟩
  .trivial
  .rw[e];exact h.1
 .rcases g i _ b with z|⟨v,e,h⟩
  .cases z
  .rw[e]at y
   cases y;let#[v,l,m]:=h.1;cases l;exact m.lies
 .rcases g i s b with rfl|⟨v,e,h⟩
  .cases o
  .rw[h.2]at o;cases o
 .rcases g i s b with rfl|⟨v,e,h⟩
  .cases o
  .rw[h.2]at o;cases o
theorem jG{K:Frag}(F:Fun K x b j f fd)(S:A8 N g^AK j)(D:g.length<=N.length)
  (G:∀(c:Db) (A:kA) (a:v_ Env) (s:Go) (H:Hp) (E:XK),zy k^A.deeper^envOfC b (AK j) s.heap.objs.size f c->Ou (C5 EW P w K u e N b (AK j) f c A a s H E).nox m (Aj j) y)
  (hW:∀l n i,l.length=g.length->W l n i->y {nx:=λn _=>m=.sh/\i .non n,rt:=i} n (l++jk (N.length - g.length) .no)):
  zL P w K u e EW (k+1) f fd g (SG K m W g.length):=by
 refine F.ok S (λB H Q E h=>h.1) λc A a s H B Q E I h=>?_;let#[hl,J,U,L,M,n,l,i,C,hw,q]:=h;let#[t,O,T]:=G c A a s H E I;exists t,O;have el:B.length=l.length:=Paired.length C.2.2.2.2.2;have R:=LJ (N:=N) C (by lk);refine T #[M,J,U,L,H,[],[]] M H n _ _ {nx:=λn _=>m=.sh/\i .non n,rt:=i} _ R #[λM1 H1 o zO zJ r p=>?_,λv H1 d o V X Y p=>q v H1 d o V X Y p,λ_ _ _ _ _ _ z=>z.elim,λ_ _ _ _ _ _ z=>z.elim] ?_
 .let#[Z,p]:=p
  subst Z;exact q .non H1 .non o r.ext (r.feed.q4 (zg.less r.sub) (λ_ _ _ z=>z) λ_ _ z=>z) rfl p
 grind
end Dp
namespace L2
section

def Inv.rdl(I:Inv X c d H s)(h:Rd H l^.lst b):b.length<=sizeLine/\∃(a:v_ Db) (n:Nat),zv b a/\b.length=a.length/\s.heap.get? l=P3 {cls:=.type "list",data:=.seq a.toArray n}:=by
 let#[z,a,n,r,e]:=h.ok I.hok;exact#[z,_,n,r,r.length,e]
def Q7:OpR X (binaryOp .Add) (λx y H Q=>∃l b d f,x=.ref l/\y=.ref b/\Rd H l^.lst d/\Rd H b^.lst f/\d.length+f.length<=sizeLine/\∀p,H p=s_->Q (.ref p)^AX H p^.lst (d++f)):=by
 intro A s B H x y v u Q I g i h;let#[l,b,d,f,rfl,rfl,j,k,C,q]:=h;cases g;cases i;let#[z,c,n,r,D,e]:=I.rdl j;let#[E,a,F,m,o,t]:=I.rdl k;refine PySem.P.add_list e t ?_ (by grind);have w:c.toArray++a.toArray=(c++a).toArray:=by simp
 rw[w];exact#[.ref _,_,I.lnew (r.append m)^by grind,rfl,q _ I.fresh]
end
end L2
namespace Dp
open L2
section
variable {K:Frag}
def AtT.int(h:AtT K U M H (.int i) v):v=.int i:=h
def AtT.bl(h:AtT K U M H (.bl i) v):v=.bl i:=h
def AtT.str(h:AtT K U M H (.str x) v):v=.str x/\x.length<=sizeLine:=h
def AtT.tup{U M:Ch->Prop}{H:Hp}{b:v_ D}{v:V}(h:AtT K U M H (.tup b) v):∃a c,v=.ref a/\NdT M H a c/\Ats K M H b c:=h
def gl(g:Int->Int->(D->Prop)->Prop)(d e:D)(P:D->Prop):Prop:=match d,e with
 |.int i,.int j=>g i j P
 |_,_=>False
theorem Mj(w:gl g d e P):∃i j,d=.int i/\e=.int j/\g i j P:=by
 unfold gl at w
 split at w
 .grind
 grind
def f2(g:Int->Int->D):D->D->(D->Prop)->Prop:=gl λi j P=>P^g i j
def fm(C:Int->Int->Prop)(g:Int->Int->D):D->D->(D->Prop)->Prop:=gl λi j P=>C i j/\P^g i j
def Wj{g:Int->Int->Int}:Dg K .sh (Hw λi j=>.int^g i j) (f2 λi j=>.int^g i j):=by
 intro U M H d e x y P Q a f b c w q;let#[i,j,rfl,rfl,w]:=Mj w;exact#[i,j,b,c,q _ H (.int _) .refl rfl w]
def QP{g:Int->Int->Bool}:Dg K .sh (Hw λi j=>.bl^g i j) (f2 λi j=>.bl^g i j):=by
 intro U M H d e x y P Q a f b c w q;let#[i,j,rfl,rfl,w]:=Mj w;exact#[i,j,b,c,q _ H (.bl _) .refl rfl w]
def HI{g:Int->Int->Int}:Dg K .sh (rI C λi j=>.int^g i j) (fm C λi j=>.int^g i j):=by
 intro U M H d e x y P Q a f b c w q;let#[i,j,rfl,rfl,w]:=Mj w;exact#[i,j,b,c,w.1,q _ H (.int _) .refl rfl w.2]
def fc(g:Str->Str->(D->Prop)->Prop)(d e:D)(P:D->Prop):Prop:=match d,e with
 |.str i,.str j=>g i j P
 |_,_=>False
theorem RL(w:fc g d e P):∃i j,d=.str i/\e=.str j/\g i j P:=by
 unfold fc at w
 split at w
 .grind
 grind
def QM{g:Str->Str->Bool}:Dg K .sh (λx y H Q=>∃i j,x=.str i/\y=.str j/\Q (.bl^g i j) H) (fc λi j P=>P^.bl^g i j):=by
 intro U M H d e x y P Q a f b c w q;let#[i,j,rfl,rfl,w]:=RL w;exact#[i,j,b.1,c.1,q _ H (.bl _) .refl rfl w]
def Tj:Dg K .sh (λx y H Q=>∃i j,x=.str i/\y=.str j/\i.length+j.length<=sizeLine/\Q (.str (i++j)) H) (fc λi j P=>i.length+j.length<=sizeLine/\P^.str (i++j)):=by
 intro U M H d e x y P Q a f b c w q;let#[i,j,rfl,rfl,w]:=RL w;exact#[i,j,b.1,c.1,w.1,q _ H (.str _) .refl #[rfl,by rw[Str.length_append i j];exact w.1] w.2]
def iW(g:v_ D->v_ D->(D->Prop)->Prop)(d e:D)(P:D->Prop):Prop:=match d,e with
 |.tup i,.tup j=>g i j P
 |_,_=>False
def iY(g:v_ D->v_ D->(D->Prop)->Prop)(d e:D)(P:D->Prop):Prop:=match d,e with
 |.lst i,.lst j=>g i j P
 |_,_=>False
theorem YA(w:iW g d e P):∃i j,d=.tup i/\e=.tup j/\g i j P:=by
 unfold iW at w
 split at w
 .grind
 grind
theorem YB(w:iY g d e P):∃i j,d=.lst i/\e=.lst j/\g i j P:=by
 unfold iY at w
 split at w
 .grind
 grind
def DL(d:∀a,M a->∃o,H a=P3 o)(e:H p=s_)(h:Ats K M H c b):At K M (AX H p^.tup b) (.tup c)^.ref p:=#[p,b,rfl,AI,h.q4 (AV e).q4]
def Bg(c:H p=s_)(h:Ats K M H b a):VR K U M H (AX H p^.lst a) .fr (.ref p)^.lst b:=
 #[p,rfl,c,a,AI,h.q4^Fk c]
theorem Ti:Dg K .sh (Uv K) (iW λi j P=>i≠[]/\i.length+j.length<=sizeLine/\P^.tup (i++j)):=by
 intro U M H d e x y P Q c u o r w q;let#[i,j,rfl,rfl,w]:=YA w;let#[a,g,rfl,h,f]:=o.tup;let#[b,s,rfl,t,k]:=r.tup;have l:=f.length;have m:=k.length;refine#[a,b,g,s,rfl,rfl,h.sq,t.sq,λz=>w.1 ?_,by simp_all,λz=>?_,λz p n=>?_]
 .rw[z]at l;exact o6.mp l.symm
 .rw[z]at m
  have:j=[]:=o6.mp m.symm
  subst this;exact q _ H (.tup i) .refl #[a,g,rfl,h,f]^by grind
 .exact q _ _ (.tup (i++j)) (AV n) (DL c n^f.append k) w.2.2
def Lv:Dg K .fr (λx y H Q=>∃l b c f,x=.ref l/\y=.ref b/\Rd H l^.lst c/\Rd H b^.lst f/\c.length+f.length<=sizeLine/\∀p,H p=s_->Q (.ref p)^AX H p^.lst (c++f)) (iY λi j P=>i.length+j.length<=sizeLine/\P^.lst (i++j)):=by
 intro U M H d e x y P Q m v n o w q;let#[i,j,rfl,rfl,w]:=YB w;let#[a,r,rfl,_,s,g]:=n;let#[b,t,rfl,_,u,h]:=o;exact#[a,b,r,t,rfl,rfl,s,u,by rw[g.length,h.length];exact w.1,λp k=>q _ _ _ (AV k) (Bg k^g.append h) w.2]
def RN(a:Bool)(d e:D)(P:D->Prop):Prop:=match d,e with
 |.bl i,.bl j=>P^.bl (if a then !(i==j)else i==j)
 |.int i,.int j=>P^.bl (if a then !(i==j)else i==j)
 |.str i,.str j=>P^.bl (if a then !(i==j)else i==j)
 |_,_=>False
theorem RM(w:RN a d e P):(∃i j,d=.bl i/\e=.bl j/\P^.bl (if a then !(i==j)else i==j))\/(∃i j,d=.int i/\e=.int j/\P^.bl (if a then !(i==j)else i==j))\/∃i j,d=.str i/\e=.str j/\P^.bl (if a then !(i==j)else i==j):=by
 unfold RN at w
 split at w
 .simp_all
 .simp_all
 .simp_all
 grind
def Co:Dg K .sh jE^RN u_:=by
 intro U M H d e x y P Q c f a b w q
 rcases RM w with⟨i,j,rfl,rfl,w⟩|⟨i,j,rfl,rfl,w⟩|⟨i,j,rfl,rfl,w⟩
 .rw[a.bl,b.bl];exact#[rfl,q _ H _ .refl (by rw[Mq];rfl) w]
 .rw[a.int,b.int];exact#[rfl,q _ H _ .refl (by rw[IV];rfl) w]
 .rw[a.str.1,b.str.1];exact#[rfl,q _ H _ .refl (by rw[IU];rfl) w]
def Yg:Dg K .sh jB^RN t_:=by
 intro U M H d e x y P Q c f a b w q
 rcases RM w with⟨i,j,rfl,rfl,w⟩|⟨i,j,rfl,rfl,w⟩|⟨i,j,rfl,rfl,w⟩
 .rw[a.bl,b.bl];exact#[rfl,q _ H _ .refl (by rw[Mq];rfl) w]
 .rw[a.int,b.int];exact#[rfl,q _ H _ .refl (by rw[IV];rfl) w]
 .rw[a.str.1,b.str.1];exact#[rfl,q _ H _ .refl (by rw[IU];rfl) w]
def Vt:D->Bool
 |.non=>t_
 |_=>u_
def OB(h:AtT K U M H d x):decide (x=.non)=Vt d:=by
 cases d with
 |non=>rw[h];rfl
 |bl b=>rw[h.bl];rfl
 |int i=>rw[h.int];rfl
 |str z=>rw[h.str.1];rfl
 |tup c=>let#[a,e,rfl,_]:=h.tup;rfl
 |lst c=>let#[a,e,rfl,_]:=h;rfl
 |dic f c=>let#[a,e,rfl,_]:=h;rfl
 |fdi f c=>let#[a,e,rfl,_]:=h;rfl
 |dit f c=>let#[a,e,rfl,_]:=h;rfl
 |ob a=>let#[rfl,_]:=h;rfl
def CI(d e:D)(P:D->Prop):Prop:=match d,e with
 |.lst a,.int i=>∃z,atI a i=P3 z/\P z
 |.tup a,.int i=>∃z,atI a i=P3 z/\P z
 |.str x,.int i=>∃c,atI x.cps.toList i=P3 c/\P^.str #[#[ c]]
 |_,_=>False
theorem YC(w:CI d e P):(∃a i z,d=.lst a/\e=.int i/\atI a i=P3 z/\P z)\/(∃a i z,d=.tup a/\e=.int i/\atI a i=P3 z/\P z)\/∃x i c,d=.str x/\e=.int i/\atI x.cps.toList i=P3 c/\P^.str #[#[ c]]:=by
 unfold CI at w
 split at w
 .simp_all
 .simp_all
 .simp_all
 grind
theorem Ats.atI(h:Ats K M H a b)(e:atI a i=P3 z):∃v,L2.atI b i=P3 v/\At K M H z v:=by
 unfold L2.atI at e ⊢;rw[h.length];cases q:Wz _ i with
 |none=>grind
 |some j=>
  rw[q]at e;exact h.get e
def Th:Dg K .sh (jC K) CI:=by
 intro U M H d e x y P Q n r f g w q
 rcases YC w with⟨o,i,z,rfl,rfl,h,w⟩|⟨o,i,z,rfl,rfl,h,w⟩|⟨x,i,c,rfl,rfl,p,w⟩
 .let#[a,j,rfl,_,k,l]:=f
  let#[v,m,b]:=l.atI h;exact .inl #[a,j,i,v,rfl,g,.inl k,m,q v H z .refl b w]
 .let#[a,j,rfl,k,l]:=f.tup
  let#[v,m,b]:=l.atI h;exact .inr^.inl #[a,j,i,v,rfl,g,k.sq,m,q v H z .refl b w]
 .exact .inr^.inr #[x,i,c,f.str.1,g,f.str.2,p,q _ H (.str _) .refl #[rfl,by show 1<=16777216;decide] w]
def cutD(a:v_ b)(lo hi:w_ Int):v_ b:=(a.drop^HT.sIx a.length 0 lo).take (HT.sIx a.length a.length hi - HT.sIx a.length 0 lo)
theorem CJ(h:Paired R a [d]):∃v,a=[v]/\R v d:=by
 cases h with
 |cons r t=>cases t;grind
def iL:D->w_ Nat
 |.str x=>P3 x.length
 |.tup a=>P3 a.length
 |.lst a=>P3 a.length
 |_=>s_
def IB(a:v_ D)(P:D->Prop):Prop:=∃d n,a=[d]/\iL d=P3 n/\P^.int (n:Int)
def f9:Bw K .sh (λe H Q=>∃x n,e=[x]/\cr K x H n/\Q (.int n) H) IB:=by
 intro U M H k l P Q i m j w q;let#[d,n,rfl,b,w]:=w;let#[v,rfl,c]:=CJ j;refine#[v,n,rfl,?_,q _ H (.int _) .refl rfl w];cases d with
 |str z=>cases b;rw[c.str.1];exact#[c.str.2,rfl]
 |tup e=>
  cases b;let#[a,f,rfl,g,h]:=c.tup;exact .inr #[f,g.sq,h.length.symm]
 |lst e=>
  cases b;let#[a,f,rfl,_,g,h]:=c;exact .inl #[f,.inl g,h.length.symm]
 |_=>cases b
def allB:v_ D->w_^v_ Bool
 |[]=>P3 []
 |.bl b::r=>(allB r).map (b::·)
 |_::_=>s_
theorem Rk:∀{d:v_ D}{a:v_ V}{c:v_ Bool},allB d=P3 c->Ats K M H d a->a=c.map V.bl
 |[],a,c,e,h=>by cases e;exact h
 |.bl b::r,a,c,e,h=>by
  let#[v,l,f,g,i]:=h;let#[j,k,rfl]:=kO.mp e;rw[f,Rk k i,g];rfl
 |.non::r,a,c,e,h=>by cases e
 |.int _::r,a,c,e,h=>by cases e
 |.str _::r,a,c,e,h=>by cases e
 |.tup _::r,a,c,e,h=>by cases e
 |.lst _::r,a,c,e,h=>by cases e
 |.dic _ _::r,a,c,e,h=>by cases e
 |.fdi _ _::r,a,c,e,h=>by cases e
 |.dit _ _::r,a,c,e,h=>by cases e
def bx(c:v_ D)(P:D->Prop):Prop:=∃a b,c=[.lst a]/\allB a=P3 b/\P^.bl^b.all id
def Wm:Bw K .sh (λc H Q=>∃(p:Ch) (b:v_ Bool),c=[.ref p]/\SqL K H p^b.map V.bl/\Q (.bl^b.all id) H) bx:=by
 intro U M H j k P Q d l f w q;let#[c,b,rfl,e,w]:=w;let#[v,rfl,g]:=CJ f;let#[a,m,rfl,_,h,i]:=g
 have:=Rk e i
 subst this;exact#[a,b,rfl,.inl h,q _ H (.bl _) .refl rfl w]
def QJ:v_ D->w_^v_ Str
 |[]=>P3 []
 |.str b::r=>(QJ r).map (b::·)
 |_::_=>s_
theorem Ri:∀{d:v_ D}{a:v_ V}{c:v_ Str},QJ d=P3 c->Ats K M H d a->a=c.map V.str
 |[],a,c,e,h=>by cases e;exact h
 |.str b::r,a,c,e,h=>by
  let#[v,l,f,g,i]:=h;let#[j,k,rfl]:=kO.mp e;rw[f,Ri k i,g.1];rfl
 |.non::r,a,c,e,h=>by cases e
 |.int _::r,a,c,e,h=>by cases e
 |.bl _::r,a,c,e,h=>by cases e
 |.tup _::r,a,c,e,h=>by cases e
 |.lst _::r,a,c,e,h=>by cases e
 |.dic _ _::r,a,c,e,h=>by cases e
 |.fdi _ _::r,a,c,e,h=>by cases e
 |.dit _ _::r,a,c,e,h=>by cases e
def P8(b:v_ D)(P:D->Prop):Prop:=match b with
 |[.lst a]=>P^.lst a
 |[.tup a]=>P^.lst a
 |_=>False
theorem Yi:Bw K .fr (λi H Q=>∃p c,i=[.ref p]/\(SqL K H p c\/SqT K H p c)/\∀l,H l=s_->Q (.ref l)^AX H l^.lst c) P8:=by
 intro U M H k m P Q j n h w q;unfold P8 at w
 split at w
 .let#[v,rfl,d]:=CJ h
  let#[a,e,rfl,_,f,g]:=d;exact#[a,e,rfl,.inl^.inl f,λl b=>q _ _ _ (AV b) (Bg b g) w]
 .let#[v,rfl,d]:=CJ h
  let#[a,e,rfl,f,g]:=d.tup;exact#[a,e,rfl,.inr f.sq,λl b=>q _ _ _ (AV b) (Bg b g) w]
 grind
end
def dX:D->String
 |.non=>"NoneType"
 |.bl _=>"bool"
 |.int _=>"int"
 |.str _=>"str"
 |.tup _=>"tuple"
 |.lst _=>"list"
 |.dic _ _=>"dict"
 |.fdi _ _=>"dict"
 |.dit _ _=>"dict"
 |.ob _=>""
def fP:D->(String->Prop)->Prop
 |.ob _,_=>False
 |d,k=>k^dX d
def Mf(h:fP d k):(∀a,d≠.ob a)/\k^dX d:=by
 cases d <;>first|exact h.elim|exact#[(λ_ z=>by cases z),h]
def fQ(t T:String):Bool:=t==T||(t=="bool"&&T=="int")
def g_(T:String)(a:DW):DW:=λn b P=>a n b λd c=>fP d λt=>P (.bl^fQ t T) c
structure Wu (K:Frag) (T:String):Prop where
 ans:∀t∈["NoneType","bool","int","str","tuple","list","dict"],PySem.W.kitOne K (.type t)^.type T=P3^fQ t T
def W7{K:Frag}(h:AtT K U M H d x)(no:∀a,d≠.ob a):Ft K H x^.type^dX d:=by
 cases d with
 |non=>cases(h);exact .non
 |bl b=>cases h.bl;exact .bl b
 |int i=>cases h.int;exact .int i
 |str z=>cases h.str.1;exact .str z
 |tup e=>
  let#[a,f,rfl,c,j]:=h.tup;exact .tup c
 |lst e=>
  let#[a,f,rfl,_,c,j]:=h
  rcases c with c|⟨o,c⟩
  .exact .lst c
  .exact .frz c
 |dic g e=>
  let#[a,f,rfl,_,c,_]:=h;exact .dK c
 |fdi g e=>
  let#[a,f,rfl,#[o,_,c],_]:=h;exact .dF c
 |dit g e=>
  let#[a,f,rfl,_,c,_]:=h;exact .dT c
 |ob a=>exact absurd rfl (no a)
def W8(d:D)(no:∀a,d≠.ob a):dX d∈["NoneType","bool","int","str","tuple","list","dict"]:=by cases d <;>first|exact absurd rfl (no _)|simp[dX]
theorem Jx(r:Wu X.K T)(s:DE X a o l)(u:Gl X "isinstance")(x:X.mg "isinstance"=s_)(e:Gl X b)(f:X.mg b=s_)(g:bootBuiltins b=P3^.type T)
  (h:b ≠ "__name__":=by decide) (i:dbN b:=by decide)
  (m:starEach [a,.Name b c] X.env=(u_,eval a X.env)::starEach [.Name b c] X.env:=by rfl) (j:starEach [.Name b c] X.env=[(u_,eval (.Name b c) X.env)]:=by rfl)
  (k:(backTo pos^starEach [.Name b c] X.env).any (·.1)=u_:=by rfl):DE X (.Call (.Name "isinstance" p) [a,.Name b c] [] pos) .sh^g_ T l:=by
 let#[t,y,z]:=s;have A:PE X (.Name b c)^tC^.ty T:=Q0 e f g rfl h i;exact#[_,Cf Ob u x (by decide +kernel) (Ax y (Ax A B6 j) m) (by cbv) (by cbv) m k,λC M H n B D P Q R w q=>z C M H n B D _ _ R w λv H1 d E F G I p=>#[v,T,_,_,rfl,W7 (I.vv R.dom R.vM) (Mf p).1,r.ans _^W8 d (Mf p).1,q _ H1 (.bl _) E F G rfl (Mf p).2]]
section
variable {K:Frag}{X:Cx}
def Zi(d e:D)(P:D->Prop):Prop:=match d,e with
 |.int i,.int j=>P^.int (i+j)
 |.str i,.str j=>i.length+j.length<=sizeLine/\P^.str (i++j)
 |.tup i,.tup j=>i≠[]/\i.length+j.length<=sizeLine/\P^.tup (i++j)
 |.lst i,.lst j=>i.length+j.length<=sizeLine/\P^.lst (i++j)
 |_,_=>False
def eg:R2:=λx y H Q=>∃l b a c,x=.ref l/\y=.ref b/\Rd H l^.lst a/\Rd H b^.lst c/\a.length+c.length<=sizeLine/\∀p,H p=s_->Q (.ref p)^AX H p^.lst (a++c)
def eZ:R2:=λx y H Q=>∃i j,x=.str i/\y=.str j/\i.length+j.length<=sizeLine/\Q (.str (i++j)) H
def Uk(g:Str->Str->Bool):R2:=λx y H Q=>∃i j,x=.str i/\y=.str j/\Q (.bl^g i j) H
def Uw(K:Frag):R2:=λx y H Q=>(Hw λi j=>.int (i+j)) x y H Q\/eZ x y H Q\/Uv K x y H Q\/eg x y H Q
def op_addU:OpR X (binaryOp .Add)^Uw X.K:=yz.or^(Pk).or^op_catT.or^Q7
theorem M5:Dg X.K .sh (Uw X.K) Zi:=λU M H d e x y P Q a b c f w q=>by
 unfold Zi at w
 split at w
 .exact .inl^Wj U M H _ _ x y P Q a b c f w q
 .exact .inr^.inl^Tj U M H _ _ x y P Q a b c f w q
 .exact .inr^.inr^.inl^Ti U M H _ _ x y P Q a b c f w q
 .exact .inr^.inr^.inr^Lv U M H _ _ x y P Q a b c f w λv h z g r p=>q v h z g (r.vD a^by grind) p
 grind
def fi(d e:D)(P:D->Prop):Prop:=match d,e with
 |.int i,.int j=>P^.bl (decide (i<j))
 |.str i,.str j=>P^.bl (decide (i.cps.toList<j.cps.toList))
 |_,_=>False
def ao:R2:=λx y H Q=>(Hw λi j=>.bl (decide (i<j))) x y H Q\/Uk (λi j=>decide (i.cps.toList<j.cps.toList)) x y H Q
def op_ltU:OpR X (compareOp .Lt) ao:=op_lt.or SV
theorem Zu:Dg X.K .sh ao fi:=λU M H d e x y P Q a b c f w q=>by
 unfold fi at w
 split at w
 .exact .inl^QP U M H _ _ x y P Q a b c f w q
 .exact .inr^QM U M H _ _ x y P Q a b c f w q
 grind
def fj(d e:D)(P:D->Prop):Prop:=match d,e with
 |.int i,.int j=>P^.bl (decide (i<=j))
 |.str i,.str j=>P^.bl (!(decide (j.cps.toList<i.cps.toList)))
 |_,_=>False
def eR:R2:=λx y H Q=>(Hw λi j=>.bl (decide (i<=j))) x y H Q\/Uk (λi j=>!(decide (j.cps.toList<i.cps.toList))) x y H Q
def ED:OpR X (compareOp .LtE) eR:=op_le.or SW
theorem GZ:Dg X.K .sh eR fj:=λU M H d e x y P Q a b c f w q=>by
 unfold fj at w
 split at w
 .exact .inl^QP U M H _ _ x y P Q a b c f w q
 .exact .inr^QM U M H _ _ x y P Q a b c f w q
 grind
def eW:R2:=Hw λi j=>.bl (decide (j<i))
def ML:OpR X (compareOp .Gt) eW:=ZR
def Ro:Dg X.K .sh eW (f2 λi j=>.bl (decide (j<i))):=QP
def eV:R2:=Uk λi j=>!(mY j i 0 j.length 1).isEmpty
def bQ:OpR X (compareOp .In) eV:=SX
def f_:Dg X.K .sh eV (fc λi j P=>P^.bl (!(mY j i 0 j.length 1).isEmpty)):=QM
def eI:V->w_ Int->w_ Int->Hp->VK->Prop:=λx a b H Q=>∃z,x=.str z/\z.length<=sizeLine/\Q (.str^Txt.slice z a b) H
def sl_U:SlR X eI:=af
def g9(w:DW):DW:=λn a P=>w n a λd b=>∃i,d=.int i/\P (.int (-i)) b
def WO(h:DE X a c b):DE X (.UnaryOp .USub a pos) .sh^g9 b:=by
 let#[t,e,f]:=h;refine#[_,e_ aG e,λC M H n g j P Q R w q=>?_];refine f C M H n g j _ _ R w λv H1 d k l m o p=>?_;let#[i,rfl,p]:=p;exact#[i,P4 o,q _ H1 (.int _) k l m rfl p]
def Got(P:ju)(w:j4)(K:Frag)(c:Str->w_ Db)(a:jq)(x:Str)(k:Nat)(b:v_ Str)(e:Kd)(W:W2):Prop:=
 ∃f fd,zL P w K c a EW k f fd b^SG K e W b.length/\c x=P3^.ref f/\keepIn K^.ref f=t_/\Binds K fd b []/\∀d n P,W d n P->d.length=b.length
def Jy(G:Got X.prog X.w X.K X.mg X.base x k h g W)
  (i:zy k X.A) (j:Gl X x) (l:Ow X (e::a) b)
  (c:dbN x:=by decide) (m:X.sE e a:=by rfl) (d:(backTo pos^starEach a X.env).any (·.1)=u_:=by rfl):
  DE X (.Call (.Name x p) (e::a) [] pos) g (Ae W b):=by
 let#[f,fd,G,n,o,q,r]:=G;exact YW G r i j n o q l c m d
def X2:Wu K "int":=#[λt a=>by
 simp at a
 rcases a with rfl|rfl|rfl|rfl|rfl|rfl|rfl <;>kernel_rfl]
def Vq:Wu K "bool":=#[λt a=>by
 simp at a
 rcases a with rfl|rfl|rfl|rfl|rfl|rfl|rfl <;>kernel_rfl]
def RD:Wu K "str":=#[λt a=>by
 simp at a
 rcases a with rfl|rfl|rfl|rfl|rfl|rfl|rfl <;>kernel_rfl]
def kit_tuple:Wu K "tuple":=#[λt a=>by
 simp at a
 rcases a with rfl|rfl|rfl|rfl|rfl|rfl|rfl <;>kernel_rfl]
end
theorem KL(p:b->Bool):∀l:v_ b,allB (l.map λc=>.bl^p c)=P3^l.map p
 |[]=>rfl
 |a::l=>by
  rw[jy];unfold allB;rw[KL p l];rfl
theorem WY{k:(D->Sg->Prop)->Prop}(c:a=t_->P (.bl b) n->k P)(h:P (.bl (a&&b)) n):(match (.bl a:D)with|.bl t_=>k P|.bl u_=>P (.bl u_) n|_=>False):=by
 cases a with
 |false=>exact h
 |true=>grind
def NY(K:Frag):Sp:=λc H Q _=>∃a b,c=[V.ref a]/\(pE (α:=Int) b<=63/\SqL K H a^b.map V.int)/\∀d,Q (.bl t_) d
def L9(K:Frag):Sp:=λe H Q _=>∃a b,e=[V.ref a]/\(pE (α:=Int) b<=63/\SqL K H a^b.map V.int) /\
 ∀(c f:Ch) (d:Hp),c≠f->d c=P3^.lst^b.map V.int->d f=P3^.lst [.ref c,.int 0,.int 0]->Q (.ref f) d
theorem f6{a:v_ Int}(h:a.length<=63):OU (a.map V.int) s_^P3 63=a.map V.int:=by
 have e:HT.sIx (a.map V.int).length (a.map V.int).length^P3 63=a.length:=by
  rw[show(63:Int)=(63:Nat)from rfl,HT.sIx_nat,Ev,Nat.min_eq_right h]
 unfold OU;rw[HT.sIx_none]
 grind
theorem G1(I:Nat->Sg->v_ Slot->Prop)(f:∀n a,I 0 n a->g.nx n a)
  (c:∀(k:Nat) (d:D) (n:Sg) (a:v_ Slot) (nx:Sg->v_ Slot->Prop),I (k+1) n a->(∀i l,I k i l->nx i l)->b d a λm=>e {g with nx:=nx,ct:=nx,bk:=g.nx} n m):
  ∀(j:v_ D) (n:Sg) (a:v_ Slot),I j.length n a->BF b e g j n a
 |[],n,a,h=>f n a h
 |d::j,n,a,h=>c _ d n a _ h λi l o=>G1 I f c j i _ o
theorem fY{K:Frag}{D:v_ Str}(F:Fun K "law" "law" C f fd)
  (S:A8 ("_law_script"::"_law_feed_here"::D) ["_law_script"]^AK C) (L:Aj C=O::B) (Y:n0<=2 ^ 60)
  (h1:∀(n:Db) (A:kA) (l:v_ Env) (s:Go) (H:Hp) (E:XK),zy k^A.deeper^envOfC "law" (AK C) s.heap.objs.size f n->
   PS (C5 EW P w K J u ("_law_script"::"_law_feed_here"::D) "law" (AK C) f n A l s H E).nox O (NU (Qf (L9 K) [] E0^Qe (Bs 0) R_)^Hj 1))
  (Z:∀(n:Db) (A:kA) (l:v_ Env) (s:Go) (H:Hp) (E:XK),zy k^A.deeper^envOfC "law" (AK C) s.heap.objs.size f n->
   Ou (C5 EW P w K J u ("_law_script"::"_law_feed_here"::D) "law" (AK C) f n A l s H E).nox .sh B T)
  (hW:T {nx:=λ_ _=>False,rt:=λd _=>d=.bl t_} #[n0,λ_=>s_] (.no::.fd::jk D.length .no)):zL P w K J u EW (k+1) f fd ["_law_script"]^NY K:=by
 refine F.ok S (λvs H Q E h=>?_) λn A l s H vs Q E U h=>?_
 .let#[a,M,rfl,_]:=h
  rfl
 .let#[a,M,rfl,#[W,hS],q]:=h
  let#[t,t1,t2]:=Z n A l s H E U;refine#[R9 (NU (Qf (L9 K) [] E0^Qe (Bs 0) R_)^Hj 1) t,by rw[L];exact Az (h1 n A l s H E U) t1,?_];refine#[_,rfl,a,M,rfl,#[W,hS],λc g I G hc X=>?_]
  have y:∀(i:Nat) (x:Slot),(Slot.no::Slot.fd::jk D.length Slot.no)[i]?=P3 x->Slot.no=x\/(Slot.fd=x/\i=1):=by
   intro i x m
   match i,m with
   |0,m=>exact .inl^ZB m
   |1,m=>exact .inr #[ZB m,rfl]
   |i+2,m=>
    rw[o8,o8,o5]at m
    split at m
    .exact .inl^ZB m
    .cases m
  have R:Rel K #[λb=>b=g,P3 (g,c),λb=>b=g,λb=>b=g,I,[],[]] (λb=>b=g) I #[n0,λ_=>s_] (.no::.fd::jk D.length .no)^(start ("_law_script"::"_law_feed_here"::D) [V.ref a]).set 1^P3^.ref g:=by
   refine#[by simp[L2.start],λ_ z=>z,λb z=>#[_,(congrArg I z).trans X],Ext.refl _ _,λb z=>by rw[←ZB z],λ_ z=>z,λ_ z=>z,#[λb z=>?_,λa c z=>by cases z],λi x m=>?_,λp N=>absurd N^by simp,λi d b m _=>?_,λi x b m o _=>?_,λi j x t b m o _ _ _ _=>?_,λp N=>absurd N^by simp]
   .have e:(g,c)=b:=ZB z
    subst e;exact#[0,0,M,X,G,#[G,hc],W,by cbv,by show(0:Int)+(n0:Int)<=2 ^ 60;lk]
   .rcases y i x m with e|⟨e,rfl⟩
    .rw[←e];trivial
    .rw[←e]
     exact#[(g,c),by simp[L2.start],rfl]
   .rcases y i _ m with e|⟨e,_⟩ <;>cases e
   .rcases y i x m with e|⟨e,_⟩ <;>(rw[←e]at o;cases o)
   .rcases y i x m with e|⟨e,_⟩ <;>(rw[←e]at o;cases o)
  refine t2 _ _ I #[n0,λ_=>s_] _ _ {nx:=λ_ _=>False,rt:=λd _=>d=.bl t_} _ R #[λ_ _ _ _ _ _ z=>z.elim,λv H2 d n' _ _ r p=>?_,λ_ _ _ _ _ _ z=>z.elim,λ_ _ _ _ _ _ z=>z.elim] hW;have e:d=.bl t_:=p;subst e;have e2:v=.bl t_:=r;subst e2;exact q H2
end Dp
namespace L2
section

theorem B_:∀{a:v_ Db}{b:v_ Str},StrsAre a b->zv (b.map V.str) a
 |_,_,.nil=>.nil
 |_,_,.cons x t r=>.cons #[t,rfl]^B_ r
def Uq(K:Frag):v_ V->Hp->VK->Prop:=λc H Q=>∃(p:Ch) (b:v_ Str),c=[.ref p]/\SqL K H p^b.map V.str/\b.length<64/\∀(a:v_ Str) (l:Ch),a.Perm b->sortedS a=t_->H l=s_->Q (.ref l)^AX H l^.lst^a.map V.str
theorem J9:zS X (.builtin "sorted")^Uq X.K:=by
 intro x s y H A B Q I r h;let#[p,C,rfl,f,g,q]:=h;let#[u,rfl,i]:=vals1 r;cases i;let#[j,c,pl,D]:=I.list f;have a:=c.length;rw[Ev]at a;refine sorted_strs pl.isList (Ip c) (by lk) λk l m d n=>?_;let#[e,t]:=sortedAll_at _ _ _;have v:=d.length_eq;have w:=I.hok.fresh^kL _;refine#[.ref _,_,I.laid (λb o z=>sortedAll_old z) (kL _) (show zh _ _ _ _ _^.lst _ from#[?_,_,e,B_ m,?_]),rfl,q _ _ d n w]
 .grind
 .exact t
def ZF:R2:=λx y H Q=>∃z k,x=.str z/\y=.int k/\MulOk z k/\Q (.str^Txt.mul z k) H
def Xm:OpR X (binaryOp .Mult) ZF:=by
 intro e s f H x y v u Q I a b h;let#[z,k,rfl,rfl,c,q]:=h;let#[t,rfl]:=a;let#[d,rfl]:=b;exact SB.mul c λd k=>#[.str _,H,I.tok _,#[_,rfl],q]
end
end L2
namespace Dp
open L2
section
variable {K:Frag}
def Cb(b:v_ D)(P:D->Prop):Prop:=match b with
 |[.lst a]=>P^.tup a
 |[.tup a]=>P^.tup a
 |_=>False
theorem KP:Bw K .sh (λj H Q=>∃p d,j=[.ref p]/\((SqL K H p d/\∀l,H l=s_->Q (.ref l)^AX H l^.tup d)\/(SqT K H p d/\Q (.ref p) H))) Cb:=by
 intro U M H k m P Q e n h w q;unfold Cb at w
 split at w
 .let#[v,rfl,f]:=CJ h
  let#[a,b,rfl,_,c,g]:=f;exact#[a,b,rfl,.inl #[.inl c,λl i=>q _ _ (.tup _) (AV i) (DL e i g) w]]
 .let#[v,rfl,f]:=CJ h
  let#[a,b,rfl,c,g]:=f.tup;exact#[a,b,rfl,.inr #[c.sq,q _ H (.tup _) .refl #[a,b,rfl,c,g] w]]
 grind
theorem Ats.strs:∀{a:v_ Str},(∀x∈a,x.length<=sizeLine)->Ats K M H (a.map D.str)^a.map V.str
 |[],_=>rfl
 |x::r,h=>#[_,_,rfl,#[rfl,h x No],Ats.strs λy b=>h y^Rs _ b]
theorem Ats.yw:∀{b:v_ Str}{c:v_ V},Ats K M H (b.map D.str) c->∀x∈b,x.length<=sizeLine
 |[],_,_=>λx a=>by cases a
 |y::r,c,h=>λx a=>by
  let#[v,t,e,d,f]:=h
  rcases UF.mp a with rfl|a
  .exact d.2
  .exact Ats.yw f x a
def bv(d:v_ D)(P:D->Prop):Prop:=∃(c:v_ D) (b:v_ Str),d=[.lst c]/\QJ c=P3 b/\b.length<64/\∀a:v_ Str,a.Perm b->sortedS a=t_->P^.lst^a.map .str
theorem Rj:∀{c:v_ D}{a:v_ Str},QJ c=P3 a->c=a.map .str
 |[],a,h=>by cases h;rfl
 |.str b::r,a,h=>by
  let#[t,e,rfl]:=kO.mp h;rw[jy,←Rj e]
 |.non::r,a,h=>by cases h
 |.int _::r,a,h=>by cases h
 |.bl _::r,a,h=>by cases h
 |.tup _::r,a,h=>by cases h
 |.lst _::r,a,h=>by cases h
 |.dic _ _::r,a,h=>by cases h
 |.fdi _ _::r,a,h=>by cases h
 |.dit _ _::r,a,h=>by cases h
 |.ob _::r,a,h=>by cases h
def Rn:Bw K .fr (Uq K) bv:=by
 intro U M H p r P Q h s i w q;let#[t,j,rfl,e,b,w]:=w;let#[v,rfl,c]:=CJ i;let#[a,u,rfl,_,k,d]:=c
 have:=Ri e d
 subst this;have m:=Rj e;subst m;exact#[a,j,rfl,.inl k,b,λn l f o g=>q _ _ _ (AV g) (Bg g^Ats.strs λx c=>d.yw x^f.mem_iff.mp c)^w _ f o]
def Hk(d e:D)(P:D->Prop):Prop:=match d,e with
 |.int i,.int j=>vL i j/\P^.int (i*j)
 |.str z,.int k=>MulOk z k/\(Txt.mul z k).length<=sizeLine/\P^.str^Txt.mul z k
 |_,_=>False
def ZH:R2:=λx y H Q=>(rI vL λi j=>.int (i*j)) x y H Q\/ZF x y H Q
def F8:OpR X (binaryOp .Mult) ZH:=XP.or Xm
set_option tactic.hygienic true in
theorem KQ:Dg K .sh ZH Hk:=λU M H d e x y P Q a f b c w q=>by
 unfold Hk at w
 split at w
 .exact .inl^HI U M H _ _ x y P Q a f b c w q
 .rename_i z k
  exact .inr #[z,k,b.1,c,w.1,q _ H (.str _) .refl #[rfl,w.2.1] w.2.2]
 grind
end
section

def gX(X:Cx)(i:v_ jx)(b:v_ D->v_ Slot->(v_ Slot->Prop)->Prop):Prop:=∃g,gQ X i g/\∀(C:Fm) (M:Ch->Prop) (H:Hp) (n:Sg) (a:v_ Slot) (c:L2.St) (d:v_ D) (e:v_ V) (P:v_ Slot->Prop) (Q:L2.St->Hp->Prop),Rel X.K C M H n a c->Ats X.K M H d e->b d a P->
 (∀f h,Rel X.K C M H n f h->P f->Q h H)->g e c H Q
def KC:v_ D->v_ Slot->(v_ Slot->Prop)->Prop:=λa b P=>a=[]/\P b
def CG(b:BW)(bs:v_ D->v_ Slot->(v_ Slot->Prop)->Prop):v_ D->v_ Slot->(v_ Slot->Prop)->Prop:=λa c P=>match a with
 |d::r=>b d c λe=>bs r e P
 |[]=>False
def EL:gX X [] KC:=#[_,Qw,λC M H n a b c d P Q R h w q=>by
 let#[rfl,w]:=w;exact#[h,q a b R w]]
def A5(h1:DG X e b)(c:gX X es bs)(f:(assignEach (e::es) X.env).map (·.2)=assign e X.env::(assignEach es X.env).map (·.2):=by rfl):gX X (e::es)^CG b bs:=by
 let#[g,i,j]:=h1;let#[y,k,l]:=c;refine#[_,F5 i k f,λC M H n m o p z P Q R h w q=>?_];cases p with
 |nil=>exact w.elim
 |cons d r=>
  let#[v,a,e,s,t]:=h;exact#[v,a,e,j C M H n m o d v _ _ R s w λA B u x=>l C M H n _ _ r a _ _ u t x q]
def Od(k:Nat)(bs:v_ D->v_ Slot->(v_ Slot->Prop)->Prop):BW:=λd b P=>match d with
 |.tup a=>a.length=k/\bs a b P
 |_=>False
def WM(f:X.calm=t_)(h:gX X es bs)(i:(assignEach es X.env).length=k:=by rfl)(b:(assignEach es X.env).findIdx? (·.1)=s_:=by rfl):DG X (.Tuple es j pos)^Od k bs:=by
 let#[g,l,m]:=h;refine#[_,VA f l i b,λC M H n o p d v P Q R h w q=>?_];cases d with
 |tup r=>
  let#[a,c,rfl,s,e]:=h;exact#[a,c,rfl,s.sq,by rw[e.length];exact w.1,m C M H n o p r c P Q R e w.2 q]
 |_=>exact w.elim
end
end Dp
namespace L2
mutual
def RV(H:Hp):on->V->Prop
 |.none,v=>v=.non
 |.bool b,v=>v=.bl b
 |.int i,v=>v=.int i
 |.str x,v=>v=.str x
 |.tuple xs,v=>∃a vs,v=.ref a/\H a=P3^.tup vs/\RVs H xs vs
 |.list xs,v=>∃a vs,v=.ref a/\Rd H a^.lst vs/\RVs H xs vs
 |.dict _,_=>False
def RVs(H:Hp):v_ on->v_ V->Prop
 |[],vs=>vs=[]
 |x::xs,vs=>∃v r,vs=v::r/\RV H x v/\RVs H xs r
end
section

mutual
theorem RV.reads(I:Inv X zF σ H s):∀{d:on}{v:V}{u:Db},RV H d v->RelV v u->∃as,Reads s.heap u d as
 |.none,v,u,h,r=>by
  cases(show v=.non from h);cases(show u=kE from r);exact#[_,.none]
 |.bool b,v,u,h,r=>by
  cases(show v=.bl b from h);cases(show u=nY b from r);exact#[_,.bool b]
 |.int i,v,u,h,r=>by
  cases(show v=.int i from h);let#[t,rfl]:=r;exact#[_,.int i t]
 |.str x,v,u,h,r=>by
  cases(show v=.str x from h);let#[t,rfl]:=r;exact#[_,.str x t]
 |.tuple xs,v,u,h,r=>by
  let#[a,vs,rfl,hq,hs]:=h;cases r;let#[its,rv,#[o,e,c,n,d],_]:=I.tuple (X:=X) (xs:=vs)^.inl^.inl hq;let#[as,ra]:=RVs.reads I hs rv;exact#[_,.tuple e c d ra]
 |.list xs,v,u,h,r=>by
  let#[a,vs,rfl,hq,hs]:=h;cases r;let#[its,rv,pl,_]:=I.list (X:=X) (xs:=vs)^.inl hq;let#[o,e,c,n,d]:=pl.isList;let#[as,ra]:=RVs.reads I hs rv;exact#[_,.list e c d ra]
 |.dict _,v,u,h,r=>h.elim
theorem RVs.reads(I:Inv X zF σ H s):∀{ds:v_ on}{vs:v_ V}{us:v_ Db},RVs H ds vs->zv vs us->∃as,ReadsAll s.heap us ds as
 |[],vs,us,h,r=>by
  cases(show vs=[]from h);cases r;exact#[_,.nil]
 | d::ds,vs,us,h,r=>by
  let#[v,w,rfl,h1,h2]:=h;cases r with
  |cons r1 r2=>
   let#[as,a1]:=RV.reads I h1 r1;let#[bs,a2]:=RVs.reads I h2 r2;exact#[_,.cons a1 a2]
end
end
theorem RV.noDict:∀(d:on) (v:V),RV H d v->d.hasDict=u_
 | d,v,h=>by
  have go:∀(n:Nat),(∀(d:on) (v:V),sizeOf d<=n->RV H d v->d.hasDict=u_)/\∀(c:v_ on) (e:v_ V),sizeOf c<=n->RVs H c e->qa c=u_:=by
   intro n
   induction n with
   |zero=>
    refine#[λd v h _=>?_,λc e h _=>?_]
    .cases d <;>simp at h
    .cases c <;>simp at h
   | succ n j=>
    refine#[λd v h f=>?_,λc e h f=>?_]
    .cases d with
     |tuple g=>
      let#[a,e,_,_,k]:=f;simp only[oG]
      grind
     |list g=>
      let#[a,e,_,_,k]:=f;simp only[oG]
      grind
     |dict l=>exact(show False from f).elim
     |none=>simp only[oG]
     |bool b=>simp only[oG]
     |int i=>simp only[oG]
     |str x=>simp only[oG]
    .cases c with
     |nil=>simp only[qa]
     |cons x g=>
      let#[v,w,_,m,o]:=f;simp only[qa,j.1 x v (by simp at h;lk) m,j.2 g w (by simp at h;lk) o,Bool.or_false]
  exact(go^sizeOf d).1 d v (Sc _) h
section

def ZE:v_ V->Hp->VK->Prop:=λa H Q=>∃x d,a=[x]/\RV H d x/\d.showable=t_/\d.depth<=100/\d.shown.length<=sizeLine/\Q (.str d.shown) H
theorem BZ(g:zy k X.A):zS X (.builtin "repr") ZE:=by
 intro B s C H D E Q I r h;let#[x,d,rfl,c,j,F,l,q]:=h;let#[u,rfl,f]:=vals1 r;have G:=g.un;cases d with
 |none=>
  cases(show x=.non from c);cases(show u=kE from f);exact PySem.P.repr_of_none #[.str _,H,I.tok _,#[_,rfl],q]
 |bool b=>
  cases(show x=.bl b from c);cases(show u=nY b from f);refine PySem.P.repr_of_bool #[.str _,H,I.tok _,#[_,rfl],?_]
  assumption
 |int i=>
  cases(show x=.int i from c);let#[t,rfl]:=f;refine PySem.P.repr_of_int (by simpa [PyData.showable]using j) #[.str _,H,I.tok _,#[_,rfl],q]
 |str z=>
  cases(show x=.str z from c);let#[t,rfl]:=f;exact PySem.P.repr_of_str #[.str _,H,I.tok _,#[_,rfl],q] l
 |tuple p=>
  let#[v,m]:=RV.reads I c f;let#[a,w,rfl,_]:=id c;cases f;refine repr_of_reads' m j (PyData.noDict_hsm^RV.noDict _ _ c) g.gd (by lk) (λ_ _ e=>e) (λy u n o=>#[.str _,H,I.kept (t':=n) o,#[_,rfl],q]) l
 |list p=>
  let#[v,m]:=RV.reads I c f;let#[a,w,rfl,_]:=id c;cases f;refine repr_of_reads' m j (PyData.noDict_hsm^RV.noDict _ _ c) g.gd (by lk) (λ_ _ e=>e) (λy u n o=>#[.str _,H,I.kept (t':=n) o,#[_,rfl],q]) l
 |dict _=>exact(show False from c).elim
def eX:R2:=λx y H Q=>∃d e,RV H d x/\RV H e y/\d.canLay0=t_/\e.canLay0=t_/\d.depth<=100/\Q (.bl^oS d e) H
theorem bT(a:zy k X.A):OpR X (compareOp .Eq) eX:=by
 intro n s o H x y v u Q I b c h;let#[d,e,f,g,i,j,p,q]:=h;let#[r,l]:=RV.reads I f b;let#[t,m]:=RV.reads I g c;have w:=a.un;have z:min _ e.depth<=d.depth:=Nat.min_le_left _ _;exact PySem.SeqAt.compareEq_reads l m i j (by lk) #[.bl _,H,I,rfl,q]
def ar(b:Bool):R2:=λx y H Q=>∃d a,RV H d x/\(RV H (.list a) y\/RV H (.tuple a) y)/\d.canLay0=t_/\nA a=t_/\d.depth<=100/\Q (.bl (if b then !(a.any λy=>oS y d)else a.any λy=>oS y d)) H
theorem Pj(i:zy k X.A):OpR X (compareOp .In)^ar u_:=by
 intro o s p H x y v u Q I j c h;let#[d,l,m,a,e,f,r,q]:=h;let#[t,g]:=RV.reads I m j;have w:=i.un;have z:min (l9 l) _<=d.depth:=qr _ _
 rcases a with a|a
 .let#[n,b]:=RV.reads I a c
  exact PySem.SeqAt.in_list_reads b g f e (by lk) #[.bl _,H,I,rfl,q]
 .let#[n,b]:=RV.reads I a c
  exact PySem.SeqAt.in_tuple_reads b g f e (by lk) #[.bl _,H,I,rfl,q]
def CP(i:zy k X.A):OpR X (compareOp .NotIn)^ar t_:=by
 intro o s p H x y v u Q I j c h;let#[d,l,m,a,e,f,r,q]:=h;let#[t,g]:=RV.reads I m j;have w:=i.un;have z:min (l9 l) _<=d.depth:=qr _ _
 rcases a with a|a
 .let#[n,b]:=RV.reads I a c
  exact PySem.SeqAt.notIn_list_reads b g f e (by lk) #[.bl _,H,I,rfl,q]
 .let#[n,b]:=RV.reads I a c
  exact PySem.SeqAt.notIn_tuple_reads b g f e (by lk) #[.bl _,H,I,rfl,q]
end
end L2
namespace Dp
open L2
mutual
def toPy:D->on
 |.non=>.none
 |.bl b=>.bool b
 |.int i=>.int i
 |.str x=>.str x
 |.tup ds=>.tuple^BR ds
 |.lst ds=>.list^BR ds
 |.dic _ _=>.dict []
 |.fdi _ _=>.dict []
 |.dit _ _=>.dict []
 |.ob _=>.dict []
def BR:v_ D->v_ on
 |[]=>[]
 |d::ds=>toPy d::BR ds
end
mutual
def FQ:D->Bool
 |.tup ds=>DY ds
 |.lst ds=>DY ds
 |.dic _ _=>u_
 |.fdi _ _=>u_
 |.dit _ _=>u_
 |.ob _=>u_
 |_=>t_
def DY:v_ D->Bool
 |[]=>t_
 |d::ds=>FQ d&&DY ds
end
def Ez(a:v_ D):BR a=a.map toPy:=by
 induction a with
 |nil=>rfl
 |cons d r b=>rw[BR,b,jy]
section
variable {K:Frag}
mutual
theorem At.rv:∀{d:D}{v:V},At K M H d v->FQ d=t_->RV H (toPy d) v
 |.non,v,h,_=>h
 |.bl b,v,h,_=>h
 |.int i,v,h,_=>h
 |.str x,v,h,_=>h.1
 |.tup ds,v,h,n=>by
  let#[a,vs,e,hn,hs]:=h;exact#[a,vs,e,hn,Ats.rv hs n]
 |.lst ds,v,h,n=>by
  let#[a,vs,e,hn,hs]:=h;exact#[a,vs,e,.inl hn.2,Ats.rv hs n]
 |.dic ks ds,v,h,n=>by cases n
 |.fdi ks ds,v,h,n=>by cases n
 |.dit ks ds,v,h,n=>by cases n
 |.ob _,v,h,n=>by cases n
theorem Ats.rv:∀{ds:v_ D}{vs:v_ V},Ats K M H ds vs->DY ds=t_->RVs H (BR ds) vs
 |[],vs,h,_=>h
 |d::ds,vs,h,n=>by
  let#[v,r,e,h1,h2]:=h;have n':(FQ d&&DY ds)=t_:=n;rw[jv]at n';exact#[v,r,e,At.rv h1 n'.1,Ats.rv h2 n'.2]
end
def AtT.rv(h:AtT K U M H d v)(n:FQ d=t_):RV H (toPy d) v:=by
 cases d with
 |lst c=>
  let#[a,g,e,_,j,k]:=h;exact#[a,g,e,j,Ats.rv k n]
 |dic f c=>cases n
 |fdi f c=>cases n
 |dit f c=>cases n
 |ob a=>cases n
 |non=>exact h
 |bl b=>exact h
 |int i=>exact h
 |str x=>exact h.1
 |tup c=>exact At.rv h n
def Iv(d:D):Prop:=FQ d=t_/\(toPy d).showable=t_/\(toPy d).depth<=100/\(toPy d).shown.length<=sizeLine
def C_(d:D):Str:=(toPy d).shown
def GK(a:v_ D)(P:D->Prop):Prop:=∃d,a=[d]/\Iv d/\P^.str^C_ d
def DM:Bw K .sh ZE GK:=by
 intro U M H f g P Q b h c w q;let#[d,rfl,a,w]:=w;let#[v,rfl,e]:=CJ c;exact#[v,_,rfl,e.rv a.1,a.2.1,a.2.2.1,a.2.2.2,q _ H (.str _) .refl #[rfl,a.2.2.2] w]
def CT(d:D):Prop:=FQ d=t_/\(toPy d).canLay0=t_/\(toPy d).depth<=100
def Fn(d e:D):Bool:=oS (toPy d)^toPy e
def ia(d e:D)(P:D->Prop):Prop:=CT d/\CT e/\P^.bl^Fn d e
def gC:Dg K .sh eX ia:=λU M H d e x y P Q a f b c w q=>
 #[_,_,b.rv w.1.1,c.rv w.2.1.1,w.1.2.1,w.2.1.2.1,w.1.2.2,q _ H (.bl _) .refl rfl w.2.2]
def Iw:D->w_^v_ D
 |.lst a=>P3 a
 |.tup a=>P3 a
 |_=>s_
def V8(a:Bool)(d e:D)(P:D->Prop):Prop:=CT d/\CT e/\∃b,Iw e=P3 b/\P^.bl (if a then !(b.any λy=>Fn y d)else b.any λy=>Fn y d)
def FU:Dg K .sh (ar c)^V8 c:=λU M H d e x y P Q k m i j w q=>by
 let#[b,f,g,h,w]:=w;have a:∀g:v_ D,(g.map _).any (λy=>oS y _)=g.any λy=>Fn y d:=λg=>by rw[List.any_map];rfl
 cases e with
 |lst l=>
  cases h;exists _,_,i.rv b.1,.inl^j.rv f.1,b.2.1,by simpa [toPy,PyData.canLay0]using f.2.1,b.2.2;rw[Ez,a];exact q _ H (.bl _) .refl rfl w
 |tup l=>
  cases h;exists _,_,i.rv b.1,.inr^j.rv f.1,b.2.1,by simpa [toPy,PyData.canLay0]using f.2.1,b.2.2;rw[Ez,a];exact q _ H (.bl _) .refl rfl w
 |_=>cases h
def fe(d e:D)(P:D->Prop):Prop:=CT d/\CT e/\P^.bl (!Fn d e)
end
end Dp
namespace L2
def eN:R2:=λx y H Q=>∃d e,RV H d x/\RV H e y/\d.canLay0=t_/\e.canLay0=t_/\d.depth<=100/\Q (.bl (!PyData.eqv d e)) H
def VP(a:zy k X.A):OpR X (compareOp .NotEq) eN:=by
 intro n s o H x y v u Q I b c h;let#[d,e,f,g,i,j,p,q]:=h;let#[r,l]:=RV.reads I f b;let#[t,m]:=RV.reads I g c;have w:=a.un;have z:min _ e.depth<=d.depth:=Nat.min_le_left _ _;exact PySem.SeqAt.compareNe_reads l m i j (by lk) #[.bl _,H,I,rfl,q]
end L2
namespace Dp
open L2
def Zt{K:Frag}:Dg K .sh eN fe:=λU M H d e x y P Q a f b c w q=>
 #[_,_,b.rv w.1.1,c.rv w.2.1.1,w.1.2.1,w.2.1.2.1,w.1.2.2,q _ H (.bl _) .refl rfl w.2.2]
end Dp
namespace L2
def kOf:Key->V
 |.inl i=>.int i
 |.inr x=>.str x
def c_:Key->Key->Bool
 |.inl i,.inl j=>decide (i<j)
 |.inr x,.inr y=>decide (x.cps.toList<y.cps.toList)
 |_,_=>u_
def HR:Key->Key->Bool
 |.inl _,.inl _=>t_
 |.inr _,.inr _=>t_
 |_,_=>u_
def Bu:v_ Key->v_ Key->Bool
 |[],[]=>u_
 |[],_::_=>t_
 |_::_,[]=>u_
 |x::a,y::b=>if x=y then Bu a b else c_ x y
def BI:v_ Key->v_ Key->Bool
 |x::a,y::b=>HR x y&&BI a b
 |_,_=>t_
def OJ(a:RelV (kOf x) u)(b:RelV (kOf y) v):∃e,SeqAt.EqAt A s u v e/\(e=t_↔x=y):=by
 cases x with
 |inl i=>
  cases y with
  |inl j=>exact#[_,Ml a b rfl rfl,by simp[kOf,fo]]
  |inr z=>exact#[_,Ml a b rfl rfl,by simp[kOf,fo]]
 |inr z=>
  cases y with
  |inl j=>exact#[_,Ml a b rfl rfl,by simp[kOf,fo]]
  |inr c=>exact#[_,Ml a b rfl rfl,by simp[kOf,fo]]
def Ud(A:kA)(s:Go)(b:RelV (kOf x) u)(c:RelV (kOf y) v)(d:HR x y=t_)(a:ju)(w:j4)(E:Db->Go->Prop)(Q:Db->Go->Prop)(h:Q (.bool^c_ x y) s):
  wpAny (model a w) A (richCompare .Lt u v) Q E s:=by
 cases x with
 | inl i=>
  cases y with
  |inl j=>
   let#[t,rfl]:=b;let#[e,rfl]:=c;exact rM h
  |inr z=>cases d
 | inr z=>
  cases y with
  |inl j=>cases d
  |inr f=>
   let#[t,rfl]:=b;let#[e,rfl]:=c;exact PySem.P.lt_str h
section
open PySem.SeqAt
open PySem.AutoSeq1 (wpAny_loadPart')
open PySem.MeetsSeq PySem.MeetsSeq2 PySem.MeetsSeq3
theorem FO(l b:Ch)(items items2:Array Db)(n n2:Nat)(dd dd2:w_ Ch)(sl sl2:Array^w_ Db)(ns ms:v_ Key)(hi:zv (ns.map kOf) items.toList)(hj:zv (ms.map kOf) items2.toList)(hsame:BI ns ms=t_):
  Meets (lm.«tuple.__lt__» #[[.ref l,.ref b],[]])
   (λ_ R s=>s.heap.get? l=P3 {cls:=.type "tuple",dict:=dd,data:=.seq items n,slots:=sl}/\s.heap.get? b=P3 {cls:=.type "tuple",dict:=dd2,data:=.seq items2 n2,slots:=sl2} /\
    R (.ok^.ret^.bool^Bu ns ms) s):=
 .of_wp λprog w A R s h=>by
  let#[hp,g,d,tk,os]:=s;let#[hl,hb,h]:=h
  have f2:=qt;have z1:items.size=ns.length:=by have:=hi.length;rw[Ev]at this;rw[this];simp
  have z2:items2.size=ms.length:=by have:=hj.length;rw[Ev]at this;rw[this];simp
  wp_walk using k8 hl,k8 hb,wpAny_forIn_list _ (λrest b s'=>b.1=s_/\s'=#[hp,g,d,tk,os]/\∃(vs ws:v_ Db) (ns' ms':v_ Key),rest=vs.zip ws /\
   zv (ns'.map kOf) vs/\zv (ms'.map kOf) ws/\BI ns' ms'=t_/\ns'.length+items2.size=ms'.length+items.size/\R (.ok^.ret^.bool^Bu ns' ms') #[hp,g,d,tk,os]) _
  case turn=>
   rintro⟨y,x⟩ rest b s' ⟨hb',rfl,vs,ws,ns',ms',hz,hvi,hwi,hsm,hlen,hR⟩;cases ns' with
   |nil=>cases hvi;rw[qc]at hz;cases hz
   | cons a ns'=>
    cases ms' with
    |nil=>cases hwi;rw[qK]at hz;cases hz
    | cons c ms'=>
     rw[jy]at hvi hwi;cases hvi with
     | cons ra hvi'=>
      cases hwi with
      | cons rc hwi'=>
       rw[lP]at hz;injection hz with hyx hrest
       injection hyx with hy hx
       subst hy hx;have hR':R (.ok^.ret^.bool (if a=c then Bu ns' ms' else c_ a c)) #[hp,g,d,tk,os]:=hR;have hsm':(HR a c&&BI ns' ms')=t_:=hsm;rw[jv]at hsm';simp only[f8]at hlen;let#[e,he,hiff]:=OJ (A:=A.in1) (s:=#[hp,g,d,tk,os]) ra rc;refine Cn^he prog w _ _ ?_;cases e with
       |true=>
        rw[if_pos (hiff.mp rfl)]at hR'
        wp_walk
        exact#[rfl,rfl,_,_,_,_,hrest,hvi',hwi',hsm'.2,by lk,hR']
       |false=>
        rw[if_neg λq=>absurd (hiff.mpr q) jt]at hR';have hri:=Ud A.in1 #[hp,g,d,tk,os] ra rc hsm'.1 prog w
        wp_walk using hri
        exact#[_,rfl,by simpa using hR']
  case fin=>
   rintro⟨b1,b2⟩ s' ⟨hb',rfl,vs,ws,ns',ms',hz,hvi,hwi,hsm,hlen,hR⟩;simp only at hb';subst hb'
   have hv:Bu ns' ms'=decide (items.size<items2.size):=by
    cases ns' with
    | nil=>
     cases ms' with
     |nil=>
      simp only[j_]at hlen;exact(decide_eq_false^by lk).symm
     |cons c u=>
      simp only[j_,f8]at hlen;exact(decide_eq_true^by lk).symm
    | cons a t=>
     cases ms' with
     |nil=>
      simp only[j_,f8]at hlen;exact(decide_eq_false^by lk).symm
     |cons c u=>
      rw[jy]at hvi hwi;cases hvi;cases hwi;rw[lP]at hz;cases hz
   rw[hv]at hR
   wp_walk
   exact#[_,rfl,by simpa [pX]using hR]
  case h=>
   exact#[rfl,rfl,items.toList,items2.toList,ns,ms,rfl,hi,hj,hsame,by lk,h]
end
section

def eP(K:Frag):R2:=λx y H Q=>∃a b c d,x=.ref a/\y=.ref b/\SqT K H a^c.map kOf/\SqT K H b^d.map kOf/\BI c d=t_/\Q (.bl^Bu c d) H
def bP(m:X.A.units<cLine):OpR X (compareOp .Lt)^eP X.K:=by
 intro T s U H x y v u Q I o p h;let#[a,b,r,t,rfl,rfl,w,z,d,q]:=h;cases o;cases p;let#[B,C,D,_]:=I.tuple w;let#[i,E,G,_]:=I.tuple z;let#[#[J,L,j,M],k,N,n,O]:=id D;let#[#[l,P,e,R],c,f,S,g]:=id G;subst N O f g
 exact pF (op:=.Lt) #[_,k,rfl] #[_,c,rfl] PySem.F.slot_tuple_lt PySem.F.entry_tuple_lt (PySem.F.args_tuple_lt_2 _ _) (FO a b _ _ n S L _ M _ r t C E d)
  #[k,c,#[(λx=>nomatch x),#[.bl _,H,I,rfl,q]]] m
end
def vZ(b:Bool)(h:jq)(a l:Ch)(k:Nat):Prop:=match b with
 |true=>h.IsListIter a l k
 |false=>h.IsTupleIter a l k
def vY(b:Bool)(h:jq)(l:Ch)(a:Array Db):Prop:=match b with
 |true=>h.IsList l a
 |false=>h.IsTuple l a
section

def vZ.mv(x:vZ κ h it l k)(e:∀o,h.get? it=P3 o->h'.get? it=P3 o):vZ κ h' it l k:=by
 cases κ with
 |true=>let#[o,a,r]:=x;exact#[o,e o a,r]
 |false=>let#[o,a,r]:=x;exact#[o,e o a,r]
def vY.mv(x:vY κ h l items)(e:∀o,h.get? l=P3 o->h'.get? l=P3 o):vY κ h' l items:=by
 cases κ with
 |true=>let#[o,a,r]:=x;exact#[o,e o a,r]
 |false=>let#[o,a,r]:=x;exact#[o,e o a,r]
def vZ.eb(x:vZ κ h it l k)(a:rN b h h')(n:it≠b):vZ κ h' it l k:=x.mv λo e=>a it o n e
def vY.eb(x:vY κ h l items)(a:rN b h h')(n:l≠b):vY κ h' l items:=x.mv λo e=>a l o n e
def vZ.lies(x:vZ κ h it l k):∃o,h.get? it=P3 o/\∀v,o.data≠.cell v:=by
 cases κ with
 |true=>let#[o,a,_,d]:=x;simp_all
 |false=>let#[o,a,_,d]:=x;simp_all
theorem vY.lies(x:vY κ h l items):∃o,h.get? l=P3 o:=by
 cases κ with
 |true=>let#[o,a,_]:=x;grind
 |false=>let#[o,a,_]:=x;grind
end
section

def FE(d:vZ f s.heap c l i)(n:vY f s.heap l a)(p:a[i]?=P3 x)
  (q:∀h,vZ f h c l (i+1)->mC c s.heap h->Q x {s with heap:=h}):wpAny (model prog w) A (lK^.ref c) Q E s:=by
 cases f with
 |true=>exact wpAny_nextOf_list_item d n p q
 |false=>
  have b:s.heap.IsTupleIter c l i:=d;have j:s.heap.IsTuple l a:=n;let#[o,g,t,e]:=id b;let#[u,k,_,v,m]:=j
  unfold lK;refine Cn^lA (name:=kU "__next__") b.typeIs m6^lQ m6 b.typeIs qL ?_^qC _;show wpAny (model prog w) _ (field (.ref c) 0 >>=_) _ _ s;refine Cn (lD g e (x:=.ref l) rfl ?_)
  show wpAny (model prog w) _ (if(Uf l==kE)=t_ then _ else _) _ _ s;rw[if_neg (show ¬((Uf l==kE)=t_)from jt)]
  show wpAny (model prog w) _ (field (.ref c) 1 >>=_) _ _ s;refine Cn (lD g e (x:=.int i 0) rfl ?_)
  show wpAny (model prog w) _ (seqItems?^.ref l >>=_) _ _ s;refine Cn^lS k m ?_;simp only[m_,p]
  refine Cn^nI g e (by simp)^On #[x,rfl,On^q _ (show Heap.IsTupleIter _ c l (i+1)from ?_) (ma ..)];exact#[_,kY _ g^pQ^mq e _,(Obj.cls_mapFields ..).trans t,by(rw[mq e];simp[rawInt])]
def GP(r:A.handled=s_)(d:vZ g s.heap f l i)(t:vY g s.heap l b)(u:b[i]?=s_)
  (v:∀h e,rN f s.heap h->(∃o,h.get? e=P3 o/\o.cls=.type "StopIteration")->E (.ref e) {s with heap:=h}):wpAny (model prog w) A (lK^.ref f) Q E s:=by
 cases g with
 |true=>exact wpAny_nextOf_list_end r d t u v
 |false=>
  have c:=d;have j:s.heap.IsTuple l b:=t;let#[o,k,z,n]:=id c;let#[B,p,_,C,q]:=j
  refine Cn^lA c.typeIs m6^lQ m6 c.typeIs qL ?_^qC _;show wpAny (model prog w) _ (field (.ref f) 0 >>=_) _ _ s;refine Cn (lD k n (x:=.ref l) rfl ?_)
  refine Cn (lD k n (x:=.int i 0) rfl ?_);refine Cn^lS p q ?_;simp only[m_,u]
  refine Cn^ou^Cn^nI k n (by simp) ?_;refine Cn ?_;refine Cn (m:=firstArgMember _ _)^qG (a:=kE) (by first|rfl|omega) ?_;refine lH ?_^by size_fits
  simp only[raiseNew];refine Cn^wpAny_handled ?_;first|grind|rw[r]
  refine Cn^On^wpAny_throw ?_;exact v _ _ (((ma ..).extBut.push _).push _) #[_,TW _ rfl,rfl]
structure dB (z TI TO i1 i2 l1 l2:Ch):Prop where
 TIz:TI≠z
 TOz:TO≠z
 i1z:i1≠z
 i2z:i2≠z
 TOi1:TO≠i1
 TOi2:TO≠i2
 i12:i1≠i2
 l1z:l1≠z
 l1TO:l1≠TO
 l1i1:l1≠i1
 l1i2:l1≠i2
 l2z:l2≠z
 l2TO:l2≠TO
 l2i1:l2≠i1
 l2i2:l2≠i2
theorem Tt{z TI TO p q J K:Ch}{Q:Db->Go->Prop}(D:dB z TI TO p q J K)
  (L:oA s.heap z TI TO .none) (W:li s.heap TI (.ref p)^.ref q) (X:li s.heap TO a b) (h1:vZ S s.heap p J k) (h2:vZ T s.heap q K k) (Y:vY S s.heap J xs) (Z:vY T s.heap K ys) (hx:xs[k]?=P3 x) (hy:ys[k]?=P3 y)
  (hQ:∀r,oA r z TI TO^rawInt s.heap.objs.size->li r TO x y->vZ S r p J (k+1)->vZ T r q K (k+1)->li r s.heap.objs.size x y->r.objs.size=s.heap.objs.size+1->(∀c o,c≠z->c≠TO->c≠p->c≠q->s.heap.get? c=P3 o->r.get? c=P3 o)->Q (.ref s.heap.objs.size) {s with heap:=r}):
  wpAny (model prog w) A (lm.«zip.__next__» #[[.ref z],[]]) (λa0 s'=>∃v,a0=.done^.ret v/\Q v s') E s:=by
 show wpAny (model prog w) A (field (.ref z) 2 >>=_) _ _ _;refine Cn (lD L rfl (x:=.bool u_) rfl ?_)
 show wpAny (model prog w) A (field (.ref z) 3 >>=_) _ _ _;refine Cn (lD L rfl (x:=.ref TI) rfl ?_);refine Cn (lS W rfl ?_)
 show wpAny (model prog w) A (lr^.ref z >>=_) _ _ _;refine Cn ?_;unfold lr
 refine Cn (lD L rfl (x:=.none) rfl (On ?_));simp only[if_true];refine Cn^ou ?_;refine Cn (lD L rfl (x:=.ref TO) rfl ?_)
 refine Cn^mr L (by simp) λha C d=>?_;replace C:oA ha z TI TO .ellipsis:=C;refine Cn ?_;simp only[List.zipIdx_cons,List.zipIdx_nil,pf,rR]
 refine Cn^Cn^pI ?_;show wpAny (model prog w) _ (lK^.ref p >>=_) _ _ _
 refine Cn^FE (h1.eb d.extBut D.i1z) (Y.eb d.extBut D.l1z) hx λhb a1 h=>On ?_;have t:li hb TO a b:=h.extBut _ _ D.TOi1^d.extBut _ _ D.TOz X;refine Cn (lS t rfl ?_);refine Cn (pj t λhc j i=>?_)
 replace j:li hc TO x b:=j;refine Cn^mn^On ?_;refine Cn^Cn^pI ?_;show wpAny (model prog w) _ (lK^.ref q >>=_) _ _ _
 refine Cn^FE (((h2.eb d.extBut D.i2z).eb h.extBut D.i12.symm).eb i.extBut D.TOi2.symm) (((Z.eb d.extBut D.l2z).eb h.extBut D.l2i1).eb i.extBut D.l2TO) hy λhd a2 l=>On ?_;have u:li hd TO x b:=l.extBut _ _ D.TOi2 j;refine Cn (lS u rfl ?_);refine Cn (pj u λf g m=>?_)
 replace g:li f TO x y:=g;refine Cn^mn^On^On ?_;refine Cn (lS g rfl ?_);refine Cn^wpAny_newTuple ?_
 have M:f.objs.size=s.heap.objs.size:=by rw[m.1,l.1,i.1,h.1,d.1]
 have N:oA f z TI TO .ellipsis:=m.extBut _ _ D.TOz.symm^l.extBut _ _ D.i2z.symm^i.extBut _ _ D.TOz.symm^h.extBut _ _ D.i1z.symm C;have a3:∀c o,c≠z->c≠TO->c≠p->c≠q->s.heap.get? c=P3 o->f.get? c=P3 o:=λc o F U c3 c4 e=>m.extBut _ _ U^l.extBut _ _ c4^i.extBut _ _ U^h.extBut _ _ c3^d.extBut _ _ F e;have a4:vZ S f p J (k+1):=((a1.eb i.extBut D.TOi1.symm).eb l.extBut D.i12).eb m.extBut D.TOi1.symm;have a5:vZ T f q K (k+1):=a2.eb m.extBut D.TOi2.symm;have B:z<f.objs.size:=Tk N;show wpAny (model prog w) _ (oo (.ref z)^.ref f.objs.size >>=_) _ _ _;refine Cn ?_;unfold oo
 have a6:oA (f.push {cls:=.type "tuple",data:=.seq #[ x,y]}) z TI TO .ellipsis:=FM _ N;refine Cn^mr a6 (by simp) λhg G H=>?_;replace G:oA hg z TI TO^rawInt f.objs.size:=G;refine mr G (by simp) λO n I=>?_;replace n:oA O z TI TO^rawInt f.objs.size:=n;have V:∀c o,c≠z->f.get? c=P3 o->O.get? c=P3 o:=λc o F e=>I.extBut _ _ F^H.extBut _ _ F^FM _ e;have P:li O f.objs.size x y:=I.extBut _ _ (mQ B)^H.extBut _ _ (mQ B) (TW _ rfl);have R:O.objs.size=f.objs.size+1:=by rw[I.1,H.1,kh]
 rw[M]at n P R;refine On #[_,rfl,?_];show Q (.ref f.objs.size) _;rw[M]
 exact hQ O n (V _ _ D.TOz g) (a4.mv λo e=>V _ o D.i1z e) (a5.mv λo e=>V _ o D.i2z e) P R λc o F U c3 c4 e=>V c o F^a3 c o F U c3 c4 e
def W5{U V:Bool}{z TI TO p q G H:Ch}(W:A.handled=s_)(D:dB z TI TO p q G H)
  (r:oA s.heap z TI TO .none) (K:li s.heap TI (.ref p)^.ref q) (L:li s.heap TO a b) (h1:vZ U s.heap p G k) (h2:vZ V s.heap q H k) (t:vY U s.heap G I) (M:vY V s.heap H J) (u:I[k]?=s_\/J[k]?=s_)
  (X:∀N e,(∀c o,c≠z->c≠TO->c≠p->c≠q->s.heap.get? c=P3 o->N.get? c=P3 o)->(∃o,N.get? e=P3 o/\o.cls=.type "StopIteration")->E (.ref e) {s with heap:=N}):
  wpAny (model prog w) A (lm.«zip.__next__» #[[.ref z],[]]) Q E s:=by
 show wpAny (model prog w) A (field (.ref z) 2 >>=_) _ _ _;refine Cn (lD r rfl (x:=.bool u_) rfl ?_)
 show wpAny (model prog w) A (field (.ref z) 3 >>=_) _ _ _;refine Cn (lD r rfl (x:=.ref TI) rfl ?_);refine Cn (lS K rfl ?_)
 show wpAny (model prog w) A (lr^.ref z >>=_) _ _ _;refine Cn ?_;unfold lr
 refine Cn (lD r rfl (x:=.none) rfl (On ?_));simp only[if_true];refine Cn^ou ?_;refine Cn (lD r rfl (x:=.ref TO) rfl ?_)
 refine Cn^mr r (by simp) λha l d=>?_;replace l:oA ha z TI TO .ellipsis:=l;refine Cn ?_;simp only[List.zipIdx_cons,List.zipIdx_nil,pf,rR]
 refine Cn^Cn^pI ?_;show wpAny (model prog w) _ (lK^.ref p >>=_) _ _ _
 cases O:I[k]? with
 |none=>
  refine Cn^GP W (h1.eb d.extBut D.i1z) (t.eb d.extBut D.l1z) O λP e f R=>?_;let#[S,g,j]:=R;have v:oA P z TI TO .ellipsis:=f _ _ D.i1z.symm l;have n:e≠z:=λx=>by subst x;rw[v]at g;cases g;simp at j
  exact mr v (by simp) λY _ i=>X Y e (λc o y _ T _ x=>i.extBut _ _ y^f _ _ T^d.extBut _ _ y x) #[S,i.extBut _ _ n g,j]
 | some x=>
  have hy:J[k]?=s_:=by
   rcases u with h|h
   .rw[O]at h;cases h
   .exact h
  refine Cn^FE (h1.eb d.extBut D.i1z) (t.eb d.extBut D.l1z) O λP a0 f=>On ?_;have m:li P TO a b:=f.extBut _ _ D.TOi1^d.extBut _ _ D.TOz L;refine Cn (lS m rfl ?_);refine Cn^pj m λY Z i=>?_
  refine Cn^mn^On ?_;refine Cn^Cn^pI ?_;show wpAny (model prog w) _ (lK^.ref q >>=_) _ _ _
  refine Cn^GP W (((h2.eb d.extBut D.i2z).eb f.extBut D.i12.symm).eb i.extBut D.TOi2.symm) (((M.eb d.extBut D.l2z).eb f.extBut D.l2i1).eb i.extBut D.l2TO) hy λhd e B R=>?_;let#[S,g,j]:=R;have C:oA hd z TI TO .ellipsis:=B _ _ D.i2z.symm^i.extBut _ _ D.TOz.symm^f.extBut _ _ D.i1z.symm l;have n:e≠z:=λx=>by subst x;rw[C]at g;cases g;simp at j
  exact mr C (by simp) λhf _ F=>X hf e (λc o y c2 T c4 x=>F.extBut _ _ y^B _ _ c4^i.extBut _ _ c2^f.extBut _ _ T^d.extBut _ _ y x) #[S,F.extBut _ _ n g,j]
end
def bn(a:Bool):String:=match a with
 |true=>"list_iterator"
 |false=>"tuple_iterator"
def Hg(a:Bool)(l:Ch):Obj:={cls:=.type^bn a,data:=.fields #[ .ref l,.int 0 0]}
abbrev zA(a:Bool)(h:jq)(b:Ch):jq:=h.push^Hg a b
abbrev zB(a b:Bool)(h:jq)(c d:Ch):jq:=(zA a h c).push^Hg b d
abbrev zC(a c:Bool)(h:jq)(b d:Ch):jq:=(zB a c h b d).push {cls:=.type "tuple",data:=.seq #[ .ref h.objs.size,.ref (zA a h b).objs.size]}
abbrev zD(a b:Bool)(h:jq)(c d:Ch):jq:=(zC a b h c d).push {cls:=.type "tuple",data:=.seq #[ .none,.none]}
abbrev zE(a b:Bool)(h:jq)(c d:Ch):jq:=(zD a b h c d).push {cls:=.type "zip",data:=.fields #[ .none,.bool u_,.bool u_,.ref (zB a b h c d).objs.size,.ref (zC a b h c d).objs.size]}
def Xu(zX zW:Bool)(l1 l2:Ch)(xs ys:Array Db):Meets (lm.«zip.__new__» #[[.type "zip",.ref l1,.ref l2],[]])
  (λ_ R s=>vY zX s.heap l1 xs/\vY zW s.heap l2 ys/\R (.ok^.ret^.ref (zD zX zW s.heap l1 l2).objs.size) {s with heap:=zE zX zW s.heap l1 l2}):=
 .of_wp λprog w A R s h=>by
  let#[hp,g,d,tk,os]:=s;let#[hl1,hl2,h]:=h
  have hsub:=sub_zip;have hL2:vY zW (zA zX hp l1) l2 ys:=hl2.mv λo e=>FM _ e;cases zX with
  | true=>
   have g1:rO (n9 #[hp,g,d,tk,os]) l1 xs:=hl1;cases zW with
   |true=>
    have g2:rO (n9 #[hp.push {cls:=.type "list_iterator",data:=.fields #[ .ref l1,.int 0 0]},g,d,tk,os]) l2 ys:=hL2
    wp_walk using lU g1,lU g2
    exact#[_,rfl,h]
   |false=>
    have g2:qu (n9 #[hp.push {cls:=.type "list_iterator",data:=.fields #[ .ref l1,.int 0 0]},g,d,tk,os]) l2 ys:=hL2
    wp_walk using lU g1,lI g2
    exact#[_,rfl,h]
  | false=>
   have g1:qu (n9 #[hp,g,d,tk,os]) l1 xs:=hl1;cases zW with
   |true=>
    have g2:rO (n9 #[hp.push {cls:=.type "tuple_iterator",data:=.fields #[ .ref l1,.int 0 0]},g,d,tk,os]) l2 ys:=hL2
    wp_walk using lI g1,lU g2
    exact#[_,rfl,h]
   |false=>
    have g2:qu (n9 #[hp.push {cls:=.type "tuple_iterator",data:=.fields #[ .ref l1,.int 0 0]},g,d,tk,os]) l2 ys:=hL2
    wp_walk using lI g1,lI g2
    exact#[_,rfl,h]
def Ja(a:Bool)(h:jq)(l:Ch):vZ a (h.push^Hg a l) h.objs.size l 0:=by
 cases a with
 |true=>exact#[_,TW _ rfl,rfl,rfl]
 |false=>exact#[_,TW _ rfl,rfl,rfl]
section

def Mv(i:vY b s.heap a t)(j:vY f s.heap d u)
  (h:∀g,oA g (s.heap.objs.size+4) (s.heap.objs.size+2) (s.heap.objs.size+3) .none->li g (s.heap.objs.size+2) (.ref s.heap.objs.size)^.ref (s.heap.objs.size+1)->li g (s.heap.objs.size+3) .none .none->
   vZ b g s.heap.objs.size a 0->vZ f g (s.heap.objs.size+1) d 0->(∀c o,s.heap.get? c=P3 o->g.get? c=P3 o)->Q (.ref (s.heap.objs.size+4)) {s with heap:=g}):
  wpAny (model prog w) A (call (.type "zip") [.ref a,.ref d]) Q E s:=by
 refine callType_new F.called_zip (by cbv) (F.typeCall_zip_2 _ _) (F.newCall_zip_2 _ _) (λk=>F.args_object_init_3 k _ _) F.entry_zip_new (Xu b f a d t u) #[i,j,?_];have l:(zA b s.heap a).objs.size=s.heap.objs.size+1:=kh ..;have m:(zB b f s.heap a d).objs.size=s.heap.objs.size+2:=by rw[kh,l]
 have n:(zC b f s.heap a d).objs.size=s.heap.objs.size+3:=by rw[kh,m]
 have p:(zD b f s.heap a d).objs.size=s.heap.objs.size+4:=by rw[kh,n]
 have q:(zE b f s.heap a d).get? (zD b f s.heap a d).objs.size=P3 _:=TW _ rfl;have v:(zE b f s.heap a d).get? (zC b f s.heap a d).objs.size=P3 _:=FM _ (TW _ rfl);have x:(zE b f s.heap a d).get? (zB b f s.heap a d).objs.size=P3 _:=FM _^FM _ (TW _ rfl);have y:vZ f (zE b f s.heap a d) (zA b s.heap a).objs.size d 0:=(Ja f (zA b s.heap a) d).mv λo e=>FM _^FM _^FM _ e;have z:vZ b (zE b f s.heap a d) s.heap.objs.size a 0:=(Ja b s.heap a).mv λo e=>FM _^FM _^FM _^FM _ e;rw[p]at q;rw[n]at v;rw[m]at x;rw[l]at y;have r:=h (zE b f s.heap a d) (by rw[oA,q,m,n]) (by rw[li,x,l]) v z y λc o e=>FM _^FM _^FM _^FM _^FM _ e;exists#[_,by rw[p];exact q,rfl];rw[p];exact r
def Ku{z TI TO e f g h:Ch}(D:dB z TI TO e f g h)
  (t:oA s.heap z TI TO .none) (l:li s.heap TI (.ref e)^.ref f) (m:li s.heap TO a b) (h1:vZ i s.heap e g k) (v:vZ j s.heap f h k) (n:vY i s.heap g q) (p:vY j s.heap h r) (B:q[k]?=P3 x) (C:r[k]?=P3 y)
  (G:∀d,oA d z TI TO^rawInt s.heap.objs.size->li d TO x y->vZ i d e g (k+1)->vZ j d f h (k+1)->li d s.heap.objs.size x y->d.objs.size=s.heap.objs.size+1->(∀c o,c≠z->c≠TO->c≠e->c≠f->s.heap.get? c=P3 o->d.get? c=P3 o)->Q (P3^.ref s.heap.objs.size) {s with heap:=d}):
  wpAny (model prog w) A (pyNext^.ref z) Q E s:=by
 have u:s.TypeIs (.ref z) "zip":=#[_,t,rfl];unfold pyNext
 exact Cn (nU (lA (name:=kU "__next__") u pk (lQ pk u F.entry_zip_next
  (Tt D t l m h1 v n p B C λd H I J K L M N=>On^G d H I J K L M N) (F.args_zip_next_1 _))))
def MZ{z TI TO g h i j:Ch}(B:A.handled=s_)(D:dB z TI TO g h i j)
  (x:oA s.heap z TI TO .none) (l:li s.heap TI (.ref g)^.ref h) (m:li s.heap TO a b) (h1:vZ r s.heap g i k) (C:vZ t s.heap h j k) (n:vY r s.heap i u) (p:vY t s.heap j v) (f:u[k]?=s_\/v[k]?=s_)
  (G:∀q,(∀c o,c≠z->c≠TO->c≠g->c≠h->s.heap.get? c=P3 o->q.get? c=P3 o)->Q s_ {s with heap:=q}):wpAny (model prog w) A (pyNext^.ref z) Q E s:=by
 have y:s.TypeIs (.ref z) "zip":=#[_,x,rfl];unfold pyNext;refine Cn^nU^lA (name:=kU "__next__") y pk^lQ pk y F.entry_zip_next (W5 B D x l m h1 C n p f λq e H I=>?_)^F.args_zip_next_1 _;let#[o,J,K]:=I;exact Cn^pM (T:="StopIteration") (b:=t_) #[o,J,K] isSubtype_stop^On^G _ H
end
section

theorem Inv.yX{ch:v_ Ch}(I:Inv X zF σ H s)(d:∀b∈ch,Gg X zF H b)(k:∀b o,b∉ch->s.heap.get? b=P3 o->h'.get? b=P3 o):Inv X zF σ H {s with heap:=h',toks:=t'}:=by
 have f:∀b u,H b=P3 u->b∉ch:=λb u e z=>by rw[(d b z).1]at e;cases e
 refine I.step (λb g=>?_) (λb o _ _ a e _=>k b o a e) (λb o _ _ a e _=>#[_,k b o a e]) (λ_ _ _ _ n=>n) (λb o a e=>#[o,k b o a e]) (λ_ _ e=>e) (λ_ _ _ e=>e) (λb y e=>#[#[],by rw[e];simp]) (λm h=>?_) (λb u e=>(I.hok b u e).J6 (λc v a q=>k c v (a.elim (λz=>by grind) λz=>f c _ z) q) (λ_ q=>q) λ_ _ q=>q) I.bare
 .let#[A,i,B,j,l,p]:=d b g
  exact#[j,i,l,p]
 .let#[o,t,w,x,r]:=h
  exact#[o,t,w,k _ o (λz=>(d _ z).2.1 rfl) x,r]
def Inv.yU{ch:v_ Ch}(I:Inv X zF σ H s)(h:∀b∈ch,Gg X zF H b)(k:∀b o,b∉ch->s.heap.get? b=P3 o->h'.get? b=P3 o)(j:s.heap.objs.size<=a)(new:zh X.prog X.w (AX H a o) h' a o):
  Inv X zF σ (AX H a o) {s with heap:=h',toks:=t'}:=by
 have i:∀b u,H b=P3 u->b∉ch:=λb u e z=>by rw[(h b z).1]at e;cases e
 have l:H a=s_:=I.hok.fresh j;have f:∀b u,H b=P3 u->AX H a o b=P3 u:=λb u e=>by rw[AG^Aa e l];exact e
 refine I.step (g':=s.gens) (d':=s.drawn) (ch:=ch) (λb g=>?_) (λb o _ _ d e _=>k b o d e) (λb o _ _ d e _=>#[o.slots,k b o d e]) (λb u _ e n=>?_) (λb o d e=>#[o,k b o d e]) (λb p e=>f _ _ e) (λb o u e=>f _ _ e) (λb F e=>#[#[],by rw[f _ _ e];simp]) (λm t=>?_) (λb u e=>?_) I.bare
 .let#[G,x,J,y,A,B]:=h b g
  exact#[y,x,A,B]
 .rw[AG^jo^jz (Tk e) j];exact n
 .let#[o,C,D,E,r]:=t
  exact#[o,C,D,k _ o (λz=>(h _ z).2.1 rfl) E,r]
 .by_cases g:b=a
  .subst g;rw[AI]at e;cases e;exact new
  .rw[AG g]at e
   exact(I.hok b u e).J6 (λc v d q=>k c v (d.elim (λz=>by grind) λz=>i c _ z) q) (λc q=>f _ _ q) λc p q=>f _ _ q
end
def SqK(c:Bool)(K:Frag)(H:Hp)(a:Ch)(b:v_ V):Prop:=match c with
 |true=>SqL K H a b
 |false=>SqT K H a b
def SqK.at(I:Inv X e f H s)(h:SqK c X.K H a d):∃b:v_ Db,zv d b/\vY c s.heap a b.toArray:=by
 cases c with
 |true=>let#[b,r,pl,_]:=I.list h;exact#[_,r,pl.isList]
 |false=>let#[b,r,p,_]:=I.tuple h;exact#[_,r,p]
def dD (K:Frag) (e f:Bool) (a b:Ch) (c d:v_ V):It:=
  #[λi H=>SqK e K H a c ∧ SqK f K H b d ∧ i < c.length ∧ i < d.length,λi H x g=>∃ T p q,x=.ref T ∧ H T=s_ ∧ g=AX H T^.tup [p,q] ∧ c[i]?=P3 p ∧ d[i]?=P3 q,
   λi H=>SqK e K H a c ∧ SqK f K H b d ∧ (c.length ≤ i ∨ d.length ≤ i)]
structure gD (zX zW:Bool) (z TI TO i1 i2 a b:Ch) (k:Nat) (h:jq):Prop where
 z:oA h z TI TO .none
 ti:li h TI (.ref i1) (.ref i2)
 to:∃a b,li h TO a b
 i1:vZ zX h i1 a k
 i2:vZ zW h i2 b k
theorem UE{K:Frag}(Z zW:Bool)(z TI TO g l a b:Ch)(xs ys:v_ V)(D:dB z TI TO g l a b)(B:TI∉[z,TO,g,l]):
  Turn P w K (.Tuple es j pos) (dD K Z zW a b xs ys) [z,TI,TO,g,l] z (gD Z zW z TI TO g l a b) where
 mem:=by simp
 obj:=λi h d c f=>by
  simp only[UF,jw,or_false]at f
  rcases f with rfl|rfl|rfl|rfl|rfl
  .exact#[_,d.z,λv q=>by cases q]
  .exact#[_,d.ti,λv q=>by cases q]
  .let#[a,b,e]:=d.to
   exact#[_,e,λv q=>by cases q]
  .exact d.i1.lies
  .exact d.i2.lies
 keep:=λi h h' d k=>by
  let#[p,q,e]:=d.to;exact#[k z (by simp) _ d.z,k TI (by simp) _ d.ti,#[p,q,k TO (by simp) _ e],d.i1.mv λo e=>k g (by simp) o e,d.i2.mv λo e=>k l (by simp) o e]
 item:=by
  intro X C F G f i zF s σ H E I r d J;subst C F G;let#[L,M,m,hj]:=J;let#[us,N,O]:=L.at I;let#[ws,R,S]:=M.at I;let#[u,hu,ru]:=N.get^Op m;let#[v,hv,rv]:=R.get^Op hj;let#[p,q,e]:=d.to;refine Ku D d.z d.ti e d.i1 d.i2 O S (x:=u) (y:=v) (by simpa using hu) (by simpa using hv) λh' a1 a2 a3 a4 a5 a6 a7=>#[_,rfl,?_];refine wpAny_letOwnedTupleGo_zip a1 λT b1 n=>?_;have hT:H s.heap.objs.size=s_:=I.hok.fresh^Sc _
  have t:∀c o,c∉[z,TO,g,l]->s.heap.get? c=P3 o->T.get? c=P3 o:=λc o f e=>by
   simp only[UF,jw,or_false,not_or]at f;exact n.extBut _ _ f.1^a7 c o f.1 f.2.1 f.2.2.1 f.2.2.2 e
  have I2:Inv X zF σ (AX H s.heap.objs.size^.tup [xs[i],ys[i]]) {s with heap:=T}:=by
   refine I.yU (t':=s.toks) (ch:=[z,TO,g,l]) (λc f=>r c ?_) t (Sc _) ?_
   .simp only[UF,jw,or_false]at f ⊢
    rcases f with rfl|rfl|rfl|rfl <;>simp
   .have nT:s.heap.objs.size≠z:=mQ^Tk d.z
    exact#[by show 2<=sizeLine;decide,[u,v],.cons ru^.cons rv .nil,#[_,n.extBut _ _ nT a5,rfl,_,rfl,rfl,rfl]]
  have U:li T TI (.ref g)^.ref l:=t _ _ B d.ti;refine#[.ref s.heap.objs.size,_,I2,rfl,#[_,_,_,rfl,hT,rfl,Op m,Op hj],#[b1,U,#[_,_,n.extBut _ _ D.TOz a2],a3.eb n.extBut D.i1z,a4.eb n.extBut D.i2z],λc f=>?_];have W:H c=s_:=(r c f).1
  have Y:c≠s.heap.objs.size:=λz=>by
   obtain⟨o,ho,_⟩:∃o,s.heap.get? c=P3 o/\True:=by
    simp only[UF,jw,or_false]at f
    rcases f with rfl|rfl|rfl|rfl|rfl
    .exact#[_,d.z,trivial]
    .exact#[_,d.ti,trivial]
    .exact#[_,e,trivial]
    .let#[o,q,_]:=d.i1.lies;exact#[o,q,trivial]
    .let#[o,q,_]:=d.i2.lies;exact#[o,q,trivial]
   rw[z]at ho;exact ko _^Tk ho
  rw[AG Y];exact W
 done:=by
  intro X C F G f i zF s σ H E I r d J;subst C F G;let#[L,M,m]:=J;let#[us,N,O]:=L.at I;let#[ws,R,S]:=M.at I;let#[p,q,e]:=d.to;have l1:=N.length;have l2:=R.length;refine MZ (I.ok.hd f) D d.z d.ti e d.i1 d.i2 O S (m.imp (λm=>by simp;lk) λm=>by simp;lk) λh' t=>#[rfl,?_];refine I.yX (t':=s.toks) (ch:=[z,TO,g,l]) (λc f=>r c ?_) λc o f e=>?_
  .simp only[UF,jw,or_false]at f ⊢
   rcases f with rfl|rfl|rfl|rfl <;>simp
  .simp only[UF,jw,or_false,not_or]at f
   exact t c o f.1 f.2.1 f.2.2.1 f.2.2.2 e
 self:=λA i s Q E d h=>wpAny_pyIter_zip d.z h
section

theorem Z4(n a b:Nat)(h1:a<n)(c:b<n):dB (n+4) (n+2) (n+3) n (n+1) a b:=by
 constructor <;>(grind)
theorem Z3(n:Nat):(n+2)∉[n+4,n+3,n,n+1]:=by
 grind
theorem Z5(n c:Nat)(h:c∈[n+4,n+2,n+3,n,n+1]):n<=c:=by
 grind
def iP(K:Frag)(g:TA):TI:=λh H R=>g h H λi H1=>∃c d a b e f,i=[.ref a,.ref b]/\SqK c K H1 a e/\SqK d K H1 b f/\R (dD K c d a b e f) H1
def bC(J:Gl X "zip")(L:X.mg "zip"=s_)(M:PA X [m,f] y)(N:starEach [m,f] X.env=[(u_,eval m X.env),(u_,eval f X.env)]:=by rfl)(i:starEach [f] X.env=[(u_,eval f X.env)]:=by rfl):
  PI X (.Tuple G j g) (.Call (.Name "zip" p) [m,f] [] pos) (iP X.K y):=by
 intro O s P H R I h;refine Call_ (EI I J L boot_zip^lO (Ao (M pos O s P H _ I h) λQ d zz=>?_) (by rw[N,i])^by rw[i];rfl);let#[vs,H1,k,S,n]:=zz;let#[z,A,a,b,B,C,e,T,U,q]:=n;subst e;let#[u,v,rfl,V,W]:=vals2 S;cases V;cases W;let#[Q,Y,n]:=T.at k;let#[ws,Z,E]:=U.at k;have la:a<d.heap.objs.size:=by let#[o,e]:=n.lies;exact Tk e
 have lb:b<d.heap.objs.size:=by let#[o,e]:=E.lies;exact Tk e
 refine Mv n E λh' F r t w x hk=>?_;refine wpAny_pyIter_zip F ?_;have D:=Z4 d.heap.objs.size a b la lb;refine#[d.heap.objs.size+4,[d.heap.objs.size+4,d.heap.objs.size+2,d.heap.objs.size+3,d.heap.objs.size,d.heap.objs.size+1],_,dD X.K z A a b B C,H1,rfl,k.kept (t':=d.toks) hk,UE z A _ _ _ _ _ a b B C D^Z3 d.heap.objs.size,#[F,r,#[_,_,t],w,x],λc hc=>?_,q];have l:d.heap.objs.size<=c:=Z5 d.heap.objs.size c hc;exact k.fpOk l^k.hok.fresh l
end
end L2
namespace Dp
open L2
def Hv(a b:v_ D):v_ D:=mF (λd e=>.tup [d,e]) a b
section
variable {K:Frag}
def UT(h:AtT K g M H d v)(e:Iw d=P3 l)(m:∀a,U a->g a)(s:∀a,g a->M a):∃p a c,v=.ref a/\Ats K M H l c/\∀i f,zg M H i f->Ext U H f->SqK p K f a c:=by
 cases d with
 |lst q=>
  cases e;let#[a,c,j,n,b,k]:=h;refine#[t_,a,c,j,k,λi f _ ex=>?_]
  rcases b with b|⟨o,b⟩
  .exact .inl^.inl^ex.keep b λz=>n^m a z
  .exact .inl^.inr #[o,ex.keep b λz=>n^m a z]
 |tup q=>
  cases e;let#[a,c,j,b,k]:=h;exact#[u_,a,c,j,k,λi f r _=>(b.q4 r).sq]
 |_=>cases e
def UU(h:At K M H d v)(e:Iw d=P3 l):∃m a b,v=.ref a/\Ats K M H l b/\∀f c,zg M H f c->SqK m K c a b:=by
 cases d with
 |lst n=>
  cases e;let#[a,b,g,i,j]:=h;exact#[t_,a,b,g,j,λf c k=>(i.q4 k).sq]
 |tup n=>
  cases e;let#[a,b,g,i,j]:=h;exact#[u_,a,b,g,j,λf c k=>(i.q4 k).sq]
 |_=>cases e
theorem Ox(u:Ats K M H h f)(v:Ats K M H j g)(w:zg M H r c)(h1:SqK l K c a f)(z:SqK m K c b g)(s:∀a,r a->∃o,c a=P3 o):
  (∀d,(Hv h j)[i]?=P3 d->(dD K l m a b f g).go i c/\∀x H2,(dD K l m a b f g).yld i c x H2->vJ c H2/\At K r H2 d x)/\((Hv h j).length<=i->(dD K l m a b f g).stop i c):=by
 have O:=u.length;have P:=v.length;refine#[λd e=>?_,λE=>#[h1,z,?_]]
 .unfold Hv at e
  rw[rS]at e;cases k:h[i]? with
  |none=>rw[k]at e;simp at e
  | some F=>
   cases n:j[i]? with
   |none=>rw[k,n]at e;simp at e
   |some G=>
    rw[k,n]at e;have t:D.tup [F,G]=d:=ZB e;have Q:i<h.length:=(XV.mp k).1;have R:i<j.length:=(XV.mp n).1;refine#[#[h1,z,by lk,by lk],λx H2 y=>?_];let#[T,p,q,rfl,A,rfl,I,J]:=y;let#[S,B,L]:=(u.q4 w).get k;let#[U,C,N]:=(v.q4 w).get n;rw[I]at B;rw[J]at C;cases B;cases C;subst t;exact#[AV A,DL s A #[p,[q],rfl,L,q,[],rfl,N,rfl]]
 .unfold Hv at E
  grind
end
section
variable {X:Cx}
def gz(ws:Di):Di:=λn c P=>ws n c λf g=>∃d e a b,f=[d,e]/\Iw d=P3 a/\Iw e=P3 b/\P (Hv a b) g
def cD(u:Gl X "zip")(x:X.mg "zip"=s_)(y:W3 X [e1,e2] ws)(z:starEach [e1,e2] X.env=[(u_,eval e1 X.env),(u_,eval e2 X.env)]:=by rfl)(c:starEach [e2] X.env=[(u_,eval e2 X.env)]:=by rfl):
  DI X (.Tuple es j tpos) (.Call (.Name "zip" p) [e1,e2] [] pos) (gz ws):=by
 let#[t,A,B]:=y;refine#[_,bC u x A z c,λC M H n D E P W R w q=>?_];refine B C M H n D E _ _ R w λY H1 Z F G I f p=>?_;let#[d,e,xs,ys,rfl,J,K,p]:=p;let#[v,r,rfl,f,v',L,rfl,N,O]:=f;cases(show L=[]from O);let#[Q,a,S,rfl,T,l]:=UU f J;let#[U,b,g,rfl,V,m]:=UU N K;exact#[Q,U,a,b,S,g,rfl,l M H1^zg.refl _ _,m M H1^zg.refl _ _,q _ H1 _ F G I (λi o s h k=>Ox T V h (l o s h) (m o s h) k) p]
def iN:D->w_ Key
 |.int i=>P3^.inl i
 |.str x=>P3^.inr x
 |_=>s_
def He:v_ D->w_^v_ Key
 |[]=>P3 []
 |d::a=>match iN d,He a with
  |some k,P3 b=>P3 (k::b)
  |_,_=>s_
set_option tactic.hygienic true in
theorem Dr{K:Frag}:∀{c:v_ D}{a:v_ V}{b:v_ Key},He c=P3 b->Ats K M H c a->a=b.map kOf
 |[],a,b,e,h=>by cases e;exact h
 | d::c,a,b,e,h=>by
  let#[v,r,e1,l,m]:=h;unfold He at e
  split at e
  .rename_i k n f g
   cases e;rw[e1,Dr g m]
   congr 1
   cases d with
   |int i=>cases f;exact l
   |str x=>cases f;exact l.1
   |_=>cases f
  .cases e
def P7(d e:D)(P:D->Prop):Prop:=match d,e with
 |.int i,.int j=>P^.bl (decide (i<j))
 |.str i,.str j=>P^.bl (decide (i.cps.toList<j.cps.toList))
 |.tup c,.tup f=>∃a b,He c=P3 a/\He f=P3 b/\BI a b=t_/\P^.bl^Bu a b
 |_,_=>False
def eQ(K:Frag):R2:=λx y H Q=>ao x y H Q\/eP K x y H Q
def EC(a:zy k X.A):OpR X (compareOp .Lt)^eQ X.K:=op_ltU.or^bP a.yh
theorem GY:Dg X.K .sh (eQ X.K) P7:=λU M H d e x y P Q c h f g w q=>by
 unfold P7 at w
 split at w
 .exact .inl^Zu U M H _ _ x y P Q c h f g w q
 .exact .inl^Zu U M H _ _ x y P Q c h f g w q
 .let#[i,k,l,m,n,w]:=w
  let#[a,u,rfl,o,r]:=f.tup;let#[b,v,rfl,s,t]:=g.tup;have e1:=Dr l r;have e2:=Dr m t;subst e1 e2;exact .inr #[a,b,i,k,rfl,rfl,o.sq,s.sq,n,q _ H (.bl _) .refl rfl w]
 grind
end
end Dp
namespace L2
section

def NO{lo hi:w_ Int}(b:IsTup s.heap t a)(k:s.heap.IsSliceOf d i j .none)(pl:pd i lo)(n:pd j hi)
  (l:HT.sIx a.size 0 lo=0/\HT.sIx a.size a.size hi=a.size) (h:Q (.ref t) s):wpAny (model prog w) A (getItem (.ref t)^.ref d) Q E s:=by
 let#[o,e,f,p]:=id k;have g:s.TypeIs (.ref d) "slice":=#[o,e,f];unfold getItem
 (try with_reducible refine kQ ?_);(first|refine Cn^On ?_|skip)
 refine Cn^wpAny_sequenceKey b.typeIs (by cbv)^Cn^lA (name:=kU "__getitem__") b.typeIs lB^lQ lB b.typeIs entry_tuple_getitem ?_^args_tuple_getitem _ _;show wpAny (model prog w) _ (qS^.ref t >>=_) _ _ s;refine Cn^tupleItemsOf_ b^Cn^oj g ?_;rw[if_pos^by cbv]
 refine Cn^HT.vK k pl n ?_;have c:(((HT.sIx a.size 0 lo:Nat):Int)==0&&(1:Int)==1&&(HT.sIx a.size a.size hi - HT.sIx a.size 0 lo)==a.size)=t_:=by rw[l.1,l.2];simp
 show wpAny (model prog w) _ (if(((HT.sIx a.size 0 lo:Nat):Int)==0&&(1:Int)==1&&(HT.sIx a.size a.size hi - HT.sIx a.size 0 lo)==a.size)=t_ then _ else _) _ _ s;rw[if_pos c];refine Cn (m:=qU _) ?_;unfold qU;refine Cn^oj b.typeIs^On ?_;show wpAny (model prog w) _ (if((kZ "tuple"==kZ "tuple")=t_)then _ else _) _ _ s;rw[if_pos^by cbv]
 first
  |grind
  |exact Cn^ou^On #[_,rfl,On h]
  |grind
end
section

def ZC(K:Frag):V->w_ Int->w_ Int->Hp->VK->Prop:=λx c d H Q=>∃a b,x=.ref a/\SqT K H a b/\(HT.sIx b.length 0 c=0/\HT.sIx b.length b.length d=b.length)/\Q (.ref a) H
theorem XM:SlR X^ZC X.K:=by
 intro j s k H x v l m n o p Q I d e pl f h;let#[a,t,rfl,g,u,q]:=h;cases d;let#[i,r,b,w]:=I.tuple g;have c:=r.length.symm;exact#[_,_,lB.lookup,b.typeIs,NO b e pl f (by grind) #[.ref a,H,I,rfl,q]]
end
section

def Uu(K:Frag):R2:=λx y H Q=>∃a b c,x=.ref a/\y=.ref b/\SqT K H a []/\SqT K H b c/\Q (.ref b) H
def VS:OpR X (binaryOp .Add)^Uu X.K:=by
 intro M s N H x y v u Q I l m h;let#[a,b,O,rfl,rfl,o,p,q]:=h;cases l;cases m;let#[r,t,w,_]:=I.tuple o;let#[g,P,z,_]:=I.tuple p;cases t;let#[#[A,B,i,C],j,D,n,E]:=id w;let#[#[k,G,d,J],c,e,L,f]:=id z;subst D E e f;exact concat_meets #[_,j,rfl] #[_,c,rfl] qp seq_tuple_add PySem.F.slot_tuple_add PySem.F.entry_tuple_add (PySem.F.args_tuple_add_2 _ _) (tuple_addW0 a b _ _ n L B _ C _^by simp) #[j,c,#[.ref b,H,I,rfl,q]]
def bI(b:Bool):Int:=if b=t_ then 1 else 0
def gh(g:Int->Int->Int):R2:=λx y H Q=>∃k j,x=.bl k/\y=.int j/\Q (.int^g (bI k) j) H
def jD(g:Int->Int->Int):R2:=λx y H Q=>∃i k,x=.int i/\y=.bl k/\Q (.int^g i^bI k) H
def op_add_bi:OpR X (binaryOp .Add) (gh λi j=>i+j):=by
 intro c s d H x y v u Q I a b h;let#[k,j,rfl,rfl,q]:=h;cases a;let#[t,rfl]:=b;exact PySem.IntBool.add_bool_int #[.int _,H,I.tok _,#[_,rfl],q]
def op_sub_bi:OpR X (binaryOp .Sub) (gh λi j=>i - j):=by
 intro c s d H x y v u Q I a b h;let#[k,j,rfl,rfl,q]:=h;cases a;let#[t,rfl]:=b;exact PySem.IntBool.sub_bool_int #[.int _,H,I.tok _,#[_,rfl],q]
def SS:OpR X (binaryOp .Sub) (jD λi j=>i - j):=by
 intro c s d H x y v u Q I a b h;let#[i,k,rfl,rfl,q]:=h;let#[t,rfl]:=a;cases b;exact PySem.IntBool.sub_int_bool #[.int _,H,I.tok _,#[_,rfl],q]
def ZA:v_ V->Hp->VK->Prop:=λa H Q=>(∃i,a=[.int i]/\i.natAbs.log2<1920/\Q (.str^toString i) H)\/∃b,a=[.bl b]/\Q (.str (if b then "True" else "False")) H
def Lm:zS X (.type "str") ZA:=by
 intro f s a H c d Q I r h
 rcases h with h|⟨b,rfl,q⟩
 .exact Mw _ s a H c d Q I r h
 .let#[u,rfl,e]:=vals1 r
  cases e;exact PySem.P.str_of_bool #[.str _,H,I.tok _,#[_,rfl],q]
end
end L2
namespace Dp
open L2
section
variable {K:Frag}{X:Cx}
def CL(d e:D)(P:D->Prop):Prop:=match d,e with
 |.int i,.int j=>P^.int (i+j)
 |.bl k,.int j=>P^.int (bI k+j)
 |.str i,.str j=>i.length+j.length<=sizeLine/\P^.str (i++j)
 |.tup i,.tup j=>i.length+j.length<=sizeLine/\P^.tup (i++j)
 |.lst i,.lst j=>i.length+j.length<=sizeLine/\P^.lst (i++j)
 |_,_=>False
def ZO(K:Frag):R2:=λx y H Q=>Uw K x y H Q\/(gh λi j=>i+j) x y H Q\/Uu K x y H Q
def Ap:OpR X (binaryOp .Add)^ZO X.K:=op_addU.or^op_add_bi.or VS
set_option tactic.hygienic true in
theorem BB:Dg X.K .sh (ZO X.K) CL:=λU M H d e x y P Q c h f g w q=>by
 unfold CL at w
 split at w
 .exact .inl^M5 U M H (.int _) (.int _) x y P Q c h f g w q
 .rename_i k j
  exact .inr^.inl #[k,j,f,g,q _ H (.int _) .refl rfl w]
 .exact .inl^M5 U M H _ (.str _) x y P Q c h f g w q
 .rename_i i j
  cases i with
  |nil=>
   let#[a,r,rfl,n,o]:=f.tup;let#[b,l,rfl,m,p]:=g.tup;cases(o);exact .inr^.inr #[a,b,l,rfl,rfl,n.sq,m.sq,q _ H (.tup j) .refl #[b,l,rfl,m,p]^by grind]
  |cons s i=>exact .inl^M5 U M H _ (.tup j) x y P Q c h f g #[(by grind),w] q
 .exact .inl^M5 U M H (.lst _) (.lst _) x y P Q c h f g w q
 grind
def OG(d e:D)(P:D->Prop):Prop:=match d,e with
 |.int i,.int j=>P^.int (i - j)
 |.bl k,.int j=>P^.int (bI k - j)
 |.int i,.bl k=>P^.int (i - bI k)
 |_,_=>False
def Y_:R2:=λx y H Q=>(Hw λi j=>.int (i - j)) x y H Q\/(gh λi j=>i - j) x y H Q\/(jD λi j=>i - j) x y H Q
def MI:OpR X (binaryOp .Sub) Y_:=op_sub.or^op_sub_bi.or SS
set_option tactic.hygienic true in
theorem QL:Dg K .sh Y_ OG:=λU M H d e x y P Q a f b c w q=>by
 unfold OG at w
 split at w
 .exact .inl^Wj U M H _ _ x y P Q a f b c w q
 .rename_i k j
  exact .inr^.inl #[k,j,b,c,q _ H (.int _) .refl rfl w]
 .rename_i i k
  exact .inr^.inr #[i,k,b,c,q _ H (.int _) .refl rfl w]
 grind
def Zb(a:v_ D)(P:D->Prop):Prop:=match a with
 |[.int i]=>i.natAbs.log2<1920/\(kU^toString i).length<=sizeLine/\P^.str^toString i
 |[.bl b]=>P^.str (if b then "True" else "False")
 |_=>False
set_option tactic.hygienic true in
theorem Wf:Bw K .sh ZA Zb:=by
 intro U M H e f P Q d g c w q;unfold Zb at w
 split at w
 .rename_i i
  let#[v,rfl,a]:=CJ c;rw[a.int];exact .inl #[i,rfl,w.1,q _ H (.str _) .refl #[rfl,w.2.1] w.2.2]
 .rename_i b
  let#[v,rfl,a]:=CJ c;rw[a.bl];refine .inr #[b,rfl,q _ H (.str _) .refl #[rfl,?_] w];cases b <;>(decide)
 grind
def OH(d:D)(lo hi:w_ Int)(P:D->Prop):Prop:=match d with
 |.str z=>P^.str^Txt.slice z lo hi
 |.lst a=>P^.lst^cutD a lo hi
 |.tup a=>P^.tup^cutD a lo hi
 |_=>False
def eM(K:Frag):V->w_ Int->w_ Int->Hp->VK->Prop:=λx a b H Q=>eI x a b H Q\/eK K x a b H Q\/eJ K x a b H Q\/ZC K x a b H Q
def MA:SlR X^eM X.K:=sl_U.or^sl_list.or^sl_tup.or XM
def RZ(lo hi:w_ Int)(h:Ats K M H a b):Ats K M H (cutD a lo hi)^OU b lo hi:=by
 unfold cutD OU;rw[h.length];exact(h.drop _).take _
set_option tactic.hygienic true in
theorem GX:jJ K .sh (eM K) OH:=by
 intro U M H d x c f P Q h n i w q;unfold OH at w
 split at w
 .rename_i z
  exact .inl #[z,i.str.1,i.str.2,q _ H (.str^Txt.slice z c f) .refl #[rfl,jr (Txt.slice_le z c f) i.str.2] w]
 .rename_i l
  let#[a,b,rfl,_,j,g]:=i;exact .inr^.inl #[a,b,rfl,.inl j,λp k=>q _ _ (.lst _) (AV k) ((Bg (U:=U) k^RZ c f g).vD h^by grind) w]
 .rename_i l
  let#[a,b,rfl,j,g]:=i.tup
  by_cases m:HT.sIx b.length 0 c=0/\HT.sIx b.length b.length f=b.length
  .refine .inr^.inr^.inr #[a,b,rfl,j.sq,m,?_]
   have e:cutD l c f=l:=by
    unfold cutD;rw[←g.length,m.1,m.2,List.drop_zero,Nat.sub_zero,g.length,qv]
   rw[e]at w;exact q _ H (.tup l) .refl #[a,b,rfl,j,g] w
  .exact .inr^.inr^.inl #[a,b,rfl,j.sq,m,λp k=>q _ _ (.tup _) (AV k) (DL h k^RZ c f g) w]
 grind
end
end Dp
namespace Nt
open L2 Dp
def Cu:W2:=λa n P=>∃m:Int,a=[.fd,.sh^.int m]/\1<=m/\m<1073741824/\1<=n.n/\∀r:Int,0<=r->r<m->P (.int r) (n - 1)
end Nt
namespace L2
def bW{K:Frag}:PySem.W.specialIn K (.builtin "object.__class__") "__get__"=P3^P3^.builtin "getset_descriptor.__get__":=by kernel_rfl
def VU{K:Frag}:PySem.W.takesIn K^.builtin "object.__class__"=P3 t_:=by kernel_rfl
section
variable {K:Frag}
theorem XC.hd(c:XC K nm C U):PySem.W.hasDictIn K C=t_:=by
 let#[a,b,_,d,_]:=c.cls;unfold PySem.W.hasDictIn
 grind
def XC.mro(c:XC K nm C U)(v:Db):PySem.W.mroIn K C v=P3^(Uf C::Uf U::CV).contains v:=by
 let#[d,a,b,_]:=c.cls;unfold PySem.W.mroIn;rw[a,Option.bind_some,b];rfl
theorem XC.name(c:XC K n1 C U)(d:XC K n2 C U'):n1=n2:=by
 let#[f,g,_,_,h]:=c.cls;let#[a,b,_,_,e]:=d.cls
 grind
theorem XC.nameU(c:XC K n1 C U)(d:XC K n2 U U'):n2="ThinError":=by
 let#[q,N,i,j,b,k,f,l,m,n,o,p,r,s,e]:=c.up;let#[g,a,_,_,h]:=d.cls;unfold PySem.W.clsIn at a;rw[e]at a
 grind
def XC.ty(c:XC K nm C U):(PySem.W.clsIn K C).isSome=t_/\PySem.W.typeIn K^.ref C=P3^.type "type":=by
 let#[q,N,d,f,a,g,b,h,i,j,k,l,m,e]:=c.obj;refine#[by unfold PySem.W.clsIn;rw[e];rfl,?_];unfold PySem.W.typeIn
 simp_all
theorem XC.kit(c:XC K n1 C U)(d:XC K n2 D U')(h:n2 ≠ "ThinError"):PySem.W.kitOne K (.ref C)^.ref D=P3 (decide (n1=n2)):=by
 unfold PySem.W.kitOne
 by_cases e:C=D
 .subst e
  rw[c.name d];simp
 .have a:n1≠n2:=λz=>by
   subst z;have q:=c.at_.symm.trans d.at_
   grind
  have b:U≠D:=λz=>by subst z;exact h^c.nameU d
  rw[if_neg^by simp[e]];show(if((PySem.W.clsIn K D).isSome&&PySem.W.typeIn K _==P3 _)=t_ then PySem.W.subIn K _ _ else s_)=_;rw[if_pos^by rw[d.ty.1,d.ty.2];rfl];show PySem.W.mroIn K C^.ref D=_;rw[c.mro,Hq]
  grind
def XC.kitV(c:XC K n1 C U):PySem.W.kitOne K (.ref C)^.type "ValueError"=P3 t_:=by
 show PySem.W.mroIn K C _=_;rw[c.mro];simp[CV]
end
section
variable {K:Frag}{fill expr:Bool}
theorem Yz(X:K.In s.heap)(c:XC K nm C U)(I:PySem.W.InstAt s.heap x ox C od)
  (h:wpAny (model prog w) A.in1 (lm.«object.__getattribute__» #[[.ref x,.str name tk],[]]) (λa d=>match a with|.done (.ret v)=>wpAny (model prog w) A (handedOut v) Q E d|_=>False) (λ_ _=>False) s):
  wpAny (model prog w) A (getAttrBy (.ref x) (.str name tk) fill expr) Q E s:=by
 have e:=PySem.F.excAttr_ValueError;have f:(nW "BaseException.__getattribute__"==nW "object.__getattribute__")=u_:=by decide +kernel
 have i:(onTheHeap^Uf C&&nW "BaseException.__getattribute__"==nW "object.__getattribute__")=u_:=by rw[f];rfl
 have g:(expr&&onTheHeap^nW "BaseException.__getattribute__")=u_:=by cases expr <;>rfl
 have b:PySem.W.Looks (model prog w) s.heap (isInstance (.ref x)^.type "BaseException") t_:=by
  refine I.type.andThen^PySem.W.looks_mroIn X ?_;rw[c.mro];simp[CV]
 refine kQ^Cn^I.type.here^Cn^(PySem.W.looks_findIn X c.ga).here ?_;show wpAny _ _ (if(onTheHeap^Uf C&&nW _==nW _)=t_ then _ else getAttrByItsOwn _ _ _ _ _ _) _ _ _;refine Cn^(PySem.W.looks_findIn X c.gt).here^Cn^nU^kQ ?_;unfold callGetattribute boundAndCalled;rw[g,e.ga.bind^.ref x];refine Cn^On^mj^oQ e.ga.plain PySem.F.entry_bexc_ga^@PySem.W.check_slot (model prog w) _ _ s _ "BaseException" "__getattribute__" (.ref x) [.str name tk] [] _ (by decide +kernel) (by decide +kernel) b (PySem.F.args_bexc_ga _ _)^kP h (λa d z=>?_) λ_ _ z=>z.elim
 rcases a with(_|_|_|_)|_ <;>first|exact z|exact z.elim
def Z6(X:K.In s.heap)(c:XC K nm C U)(I:PySem.W.InstAt s.heap x ox C od)(a:PySem.W.findObj K C od name=P3^.value v)(b:PySem.W.handedIn v=t_)(h:Q v {s with toks:=s.toks+1}):
  wpAny (model prog w) A (getAttr (.ref x) name expr) Q E s:=by
 refine Cn^wpAny_mkText^Yz X c I ?_;refine Cn^On^Cn^On^Cn^PySem.W.Looks.here I.type^Cn^PySem.W.Looks.here (PySem.W.looks_find X I a)^On ?_;show wpAny _ _ _ _ _ _;rw[PySem.W.handedOut_of b];exact On h
def Tu(X:K.In s.heap)(c:XC K nm C U)(I:PySem.W.InstAt s.heap x ox C od)(b:PySem.W.findObj K C od name=P3^.bind g a)(d:PySem.W.handedIn v=t_)
  (h:∀{A:kA}{R:Db->Go->Prop},R v {s with toks:=s.toks+1}->wpAny (model prog w) A (call g [a,.ref x,.ref C]) R (λ_ _=>False) {s with toks:=s.toks+1}) (q:Q (P3 v) {s with toks:=s.toks+1}):
  wpAny (model prog w) A (getAttr? (.ref x) name) Q E s:=by
 refine Cn^wpAny_mkText^Cn^nU^Yz X c I ?_;unfold lm.«object.__getattribute__»;refine Cn^On^Cn^On^Cn^PySem.W.Looks.here I.type^Cn^PySem.W.Looks.here (PySem.W.looks_find X I b) ?_;refine Cn^kQ^h^On ?_;show wpAny _ _ _ _ _ _;rw[PySem.W.handedOut_of d];exact On^On q
end
section
variable {K:Frag}
theorem XC.kitX(c:XC K nm C U):PySem.W.KitX K (.ref a) (.ref C) (λh=>∃i b,PySem.W.InstAt h a i C b) where
 ty:=λ_ _ _ #[_,_,I]=>I.type
 it:=λ_ _ X _=>by
  let#[q,N,l,m,d,o,f,p,t,u,v,x,y,e]:=c.obj;intro L M O P k q;exact Cn (qB (k _ _^X _ _ e)^On q)
 ne:=λh tp B D n R X g=>by
  let#[q,N,l,m,d,o,f,p,t,u,v,x,y,e]:=c.obj;refine lC.mpr λz=>?_;have F:C=tp:=Value.ref.inj^beq_iff_eq.mp z;subst F;have S:=congrArg Obj.data^ZB^(X _ _ e).symm.trans g
  grind
 ca:=λ{j w A E Q s} X J k=>by
  let#[i,b,I]:=J
  have G:PySem.W.findObj K C b "__class__"=P3^.bind (.builtin "getset_descriptor.__get__")^.builtin "object.__class__":=by
   let#[T,H,_]:=c.cls;unfold PySem.W.findObj;rw[H,c.ca];simp[bW,VU]
  exact Tu X c I G rfl (λr=>mj^PySem.W.class_get X I (c.mro _) r) k
end
section

def XT.inst(e:XT C dx a u)(I:Inv X zF σ H s)(g:H a=P3 u)(hd:∀d,dx=P3 d->∃o,s.heap.get? d=P3 o):∃h b,PySem.W.InstAt s.heap a h C b:=by
 let#[j,k,rfl,l]:=e;let#[c,_]:=(I.hok a _ g);cases dx with
 |none=>exact#[_,s_,c,rfl,rfl,trivial]
 |some d=>
  let#[o,i]:=hd d rfl;exact#[_,P3 o,c,rfl,rfl,i]
def X7(I:Inv X zF σ H s)(i:H a=P3 u)(j:XT C (P3 d) a u)(k:H d=P3^.ext^XF d m)(c:XC X.K nm C U)(n:vz X.K C f)(l:m.lookup f=P3 v)
  (h:∀u e,Inv X zF σ H e->RelV v u->Q u e):wpAny (model X.prog X.w) A (getAttr (.ref a) f b) Q E s:=by
 let#[z,B,rfl,D]:=j;let#[o,_]:=(I.hok a _ i);let#[#[F,p,r,G,_],_]:=(I.hok d _ k);let#[J,q,t]:=LR p;let#[x,y,g]:=vH.some_of (by rw[←l];exact r f);exact Z6 I.kIn c #[o,rfl,rfl,q] (PySem.W.findObj_own c.hd n rfl (by rw[t,y])) (La g)^h x _ (I.tok _) g
end
def jS(K:Frag)(c:TE)(f:Str):TE:=λe H Q=>c e H λx H1=>∃a C U d u g b v,x=.ref a/\H1 a=P3 u/\XT C (P3 d) a u/\H1 d=P3^.ext^XF d b/\XC K g C U/\vz K C f/\b.lookup f=P3 v/\Q v H1
section

def e8(b:PE X e ta)(g:attributeBase e f X.env^eval e X.env=eval e X.env):PE X (.Attribute e f pos)^jS X.K ta f:=by
 intro w s i H Q I h;refine Rg g^Ao (b _ s i H _ I h) λu y zz=>?_;let#[x,H1,j,k,a,C,U,d,z,A,B,v,ex,m,o,p,c,n,l,q]:=zz;subst ex;obtain rfl:u=Uf a:=k;exact X7 j m o p c n l λD E r t=>#[v,H1,r,t,q]
theorem Oa:zS X (.builtin "isinstance") (λi H Q=>∃a C U g u j y c b,i=[.ref a,y]/\H a=P3 u/\XT C g a u/\(∀d,g=P3 d->∃k,H d=P3^.ext^XF d k)/\XC X.K j C U/\(y=.ty c/\PySem.W.kitOne X.K (.ref C)^.type c=P3 b\/∃D,y=.ref D/\PySem.W.kitOne X.K (.ref C)^.ref D=P3 b)/\Q (.bl b) H):=by
 intro F s G H i L Q I r h;let#[a,C,U,g,u,j,y,c,b,rfl,p,t,v,l,x,q]:=h;let#[z,m,rfl,A,n]:=vals2 r;cases(show z=Uf a from A)
 have J:=t.inst I p λd e=>by
  let#[k,B]:=v d e;let#[#[M,#[o,_,_,N,_],_],_]:=(show zh X.prog X.w H s.heap d _ from I.hok d _ B)
  grind
 rcases x with⟨rfl,e⟩|⟨D,rfl,e⟩
 .cases(show m=kZ c from n)
  exact PySem.W.kia_one l.kitX I.kIn J e (by grind) λE=>#[.bl b,H,I.tok _,rfl,q]
 .cases(show m=Uf D from n)
  exact PySem.W.kia_one l.kitX I.kIn J e (by grind) λE=>#[.bl b,H,I.tok _,rfl,q]
end
end L2
namespace Dp
open L2
def jI(M:Ch->Prop)(H:Hp)(a:w_ Ch)(b:v_ Str)(c:v_ V):Prop:=a=s_/\b=[]/\c=[]\/∃d,a=P3 d/\¬M d/\H d=P3^.ext^XF d^b.zip c
abbrev PX:=Str->v_ Str->v_ D->Sg->Prop
abbrev WX:=v_ Slot->Sg->(D->Sg->Prop)->PX->Prop
def kS(K:Frag)(F:w_ (Ch×Ch))(U M:Ch->Prop)(H:Hp)(h:PX)(E:XK):Prop:=∀d C i b c e f a g,Ext U H a->zk K F M a g->XC K d C i->jI M a f b e->b.length=c.length->Ats K M a c e->h d b c g->E (.ref C) f a
def eE(K:Frag)(h:Kd)(W:WX)(i:Nat):Sp:=λb H Q E=>b.length=i/\∃(F:w_ (Ch×Ch)) (U c M:Ch->Prop) (n:Sg) (e:v_ Slot) (P:D->Sg->Prop) (f:PX),cj K F U c M H n e b/\W e n P f /\
 (∀v a d g,Ext U H a->zk K F M a g->VR K c M H a h v d->P d g->Q v a)/\kS K F U M H f E
section
variable {K:Frag}
def Rel.setS(R:Rel K C M H n ρ σ)(x:s.yj=u_)(y:∀d,s≠.br d)(h:vP K C.F C.V M H s o):Rel K C M H n (ρ.set i s)^σ.set i o:=by
 have b:∀(j:Nat) (t:Slot),(ρ.set i s)[j]?=P3 t->t.yj=t_->ρ[j]?=P3 t/\((σ.set i o)[j]?).getD s_=(σ[j]?).getD s_:=λj t q w=>by
  rcases Ec q with⟨_,_,rfl⟩|⟨f,q⟩
  .rw[x]at w;cases w
  .exact#[q,Fa f]
 refine#[by rw[my,my];exact R.len,R.sub,R.dom,R.ext,R.fU,R.uV,R.vM,R.feed,λj s q=>?_,R.pin,λj e a q c=>?_,λj s a q o c=>?_,λj k s t a g m c r u v=>?_,λp z=>?_]
 .rcases Ec q with⟨rfl,A,rfl⟩|⟨f,q⟩
  .rw[PM^by rw[←R.len];exact A]
   exact h
  .rw[Fa f]
   exact R.sl j s q
 .rcases Ec q with⟨_,_,e⟩|⟨f,q⟩
  .exact absurd e.symm^y _
  .rw[Fa f]at c
   exact R.br0 j e a q c
 .let#[g,e]:=b j s q o
  rw[e]at c;exact R.new j s a g o c
 .let#[B,D]:=b j s g m
  let#[E,l]:=b k t c r;rw[D]at u;rw[l]at v;exact R.two j k s t a B m E r u v
 .let#[G,I,J,L]:=R.kept p z
  refine#[G,I,J,λj e q=>?_];let#[g,l]:=b j _ q rfl;rw[l];exact L j e g
end
def c0(d:Fm->Prop)(X:Cx)(e:Kd)(f:kn)(w:AY):Prop:=∃t,PS X f t/\∀(C:Fm) (M:Ch->Prop) (H:Hp) (n:Sg) (a:v_ Slot) (b:L2.St) (c:E2) (E:Ends),d C->Rel X.K C M H n a b->Ge X.K C e c E->w c n a->t E b H
def Ka(d:Fm->Prop)(X:Cx)(e:Kd)(f:v_ kn)(w:AY):Prop:=∃t,PSs X f t/\∀(C:Fm) (M:Ch->Prop) (H:Hp) (n:Sg) (a:v_ Slot) (b:L2.St) (c:E2) (E:Ends),d C->Rel X.K C M H n a b->Ge X.K C e c E->w c n a->t E b H
section
variable {st:Stmt}
def Jm(h:DS X κ st u):c0 Φ X κ st u:=let #[t,a,b]:=h;#[t,a,λC M H n c d e E _=>b C M H n c d e E]
def IQ(h:Ou X κ rest u):Ka Φ X κ rest u:=let #[t,a,b]:=h;#[t,a,λC M H n c d e E _=>b C M H n c d e E]
def B7(h1:c0 Φ X κ st u)(e:Ka Φ X κ rest v):Ka Φ X κ (st::rest)^Au u v:=by
 let#[t,f,g]:=h1;let#[j,h,i]:=e;exact#[_,Az f h,λC M H n a b c E d R L w=>g C M H n a b {c with nx:=v c} _ d R #[λM H n a b R w=>i C M H n a b c E d R L w,L.rt,L.bk,L.ct] w]
def WE(h1:c0 Φ X κ st u):Ka Φ X κ [st] u:=by
 let#[t,a,b]:=h1;exact#[t,CY a,b]
def b9(k:DT X c wA)(l:Ka Φ X κ a u)(m:Ka Φ X κ b v):c0 Φ X κ (.If c a b pos)^Cv wA u v:=by
 let#[t,o,q]:=k;let#[A,r,s]:=l;let#[x,y,z]:=m;refine#[_,Qs o r y,λC M H n d e f E g R L w=>?_];refine q C M H n d e _ _ R w λb H1 h i j p=>?_;cases b with
 |true=>exact s C M H1 h d e f E g (R.step i j) L p
 |false=>exact z C M H1 h d e f E g (R.step i j) L p
end
def cv(P:ju)(w:j4)(K:Frag)(b:Str->w_ Db)(a:jq)(c:Str)(d:v_ Str)(k:Nat):Prop:=∃C U,XC K c C U/\b c=P3^.ref C /\
 ((d=[]/\PySem.W.findIn K (.ref C) "__init__"=P3^P3^.builtin "ValueError.__init__")\/∃e g f fd h i j,d=[e,g]/\PySem.W.findIn K (.ref C) "__init__"=P3^P3^.ref f/\PySem.W.typeIn K^.ref f=P3^.type "function"/\zL P w K b a EW k f fd [h,i,j]^Iq C e g/\Binds K fd [h,i,j] [])
def O0(d:Str)(a:v_ Str)(b:Di):E2->PX->Sg->v_ Slot->Prop:=λ_ e n g=>b n g λc f=>(a=[]/\c.length<=100/\e d [] [] f)\/(a.length=2/\c.length=2/\e d a c f)
abbrev Zy:=E2->PX->Sg->v_ Slot->Prop
def gw(X:Cx)(e:Kd)(f:kn)(w:Zy):Prop:=∃t,cm X f t/\∀(C:Fm) (M:Ch->Prop) (H:Hp) (n:Sg) (a:v_ Slot) (b:L2.St) (c:E2) (E:Ends) (R:XK) (d:PX),Rel X.K C M H n a b->Ge X.K C e c E->kS X.K C.F C.U M H d R->w c d n a->t E R b H
def Yv(X:Cx)(e:Kd)(f:v_ kn)(w:Zy):Prop:=∃t,Ws X f t/\∀(C:Fm) (M:Ch->Prop) (H:Hp) (n:Sg) (a:v_ Slot) (b:L2.St) (c:E2) (E:Ends) (R:XK) (d:PX),Rel X.K C M H n a b->Ge X.K C e c E->kS X.K C.F C.U M H d R->w c d n a->t E R b H
def kS.step{K:Frag}(h:kS K F U M H a E)(e:Ext U H H1):kS K F U M H1 a E:=λb C c d f g i j k l=>h b C c d f g i j k^e.trans l
section
variable {st:Stmt}
def hG(t:Fv)(u v:Zy):Zy:=λb d n a=>t n a λc e=>if c=t_ then u b d e a else v b d e a
def Jl(h1:gw X κ st u):Yv X κ [st] u:=by
 let#[t,a,b]:=h1;exact#[t,U4 a,b]
def b8(k:DT X c wA)(m:Yv X κ a u)(o:Yv X κ b v):gw X κ (.If c a b pos)^hG wA u v:=by
 let#[t,q,s]:=k;let#[D,x,y]:=m;let#[z,A,B]:=o;refine#[_,az q x A,λC M H n e f g E R h r L l w=>?_];refine s C M H n e f _ _ r w λb H1 i d j p=>?_;cases b with
 |true=>exact y C M H1 i e f g E R h (r.step d j) L (l.step d) p
 |false=>exact B C M H1 i e f g E R h (r.step d j) L (l.step d) p
theorem TJ(G:cv X.prog X.w X.K X.mg X.base nm ks k)(I:zy (k+1) X.A)(J:Gl X nm)(ha:W3 X (e::es) was)(a:dbN nm:=by decide)(N:X.sE e es:=by rfl)(b:(backTo cpos^starEach es X.env).any (·.1)=u_:=by rfl)
  (c:(e::es).length<=sizeLine:=by decide):gw X κ (.Raise (P3^.Call (.Name nm p) (e::es) [] cpos) s_ pos)^O0 nm ks was:=by
 let#[C,U,h,O,G]:=G;let#[t,P,Q]:=ha
 rcases G with⟨rfl,s⟩|⟨S,T,f,fd,p0,p1,p2,rfl,s,hf,F,hb⟩
 .refine#[_,PZ h s I.hd J O P a N b,λC0 M H n u x D2 E R Pr r L l w=>?_]
  refine Q C0 M H n u x _ _ r w λV H1 W y i j m p=>?_
  rcases p with⟨_,c,p⟩|⟨z,_⟩
  .exact#[by rw[m.length,PySem.sizeLine_eq];lk,l nm C U [] [] [] s_ H1 y i j h (.inl #[rfl,rfl,rfl]) rfl rfl p]
  .cases z
 .refine#[_,PY h s hf F hb I J O P a N b,λC0 M H n u x D2 E R Pr r L l w=>?_]
  refine Q C0 M H n u x _ _ r w λV H1 W y i j m p=>?_
  rcases p with⟨z,_⟩|⟨_,c,p⟩
  .cases z
  .have Y:=m.length
   rw[c]at Y
   match V,Y with
   | [B,D],_=>
    refine#[B,D,rfl,λd Z=>?_];have g:=AV (o:=.ext^XF d [(S,B),(T,D)]) Z
    have nd:¬M d:=λz=>by
     let#[o,q]:=(r.step i j).dom d z;rw[Z]at q;cases q
    exact l nm C U [S,T] W [B,D] (P3 d) _ y (i.trans g.ext) (j.grow g) h (.inr #[d,rfl,nd,AI]) c.symm (m.q4 g.q4) p
def jN(X:Cx)(e:jx)(κ:Kd)(w:Sg->v_ Slot->(D->Sg->Prop)->PX->Prop):Prop:=∃t,iu X e t/\∀(C:Fm) (M:Ch->Prop) (H:Hp) (n:Sg) (b:v_ Slot) (c:L2.St) (P:D->Sg->Prop) (Q:VK) (R:XK) (f:PX),Rel X.K C M H n b c->kS X.K C.F C.U M H f R->w n b P f->
 (∀v a d g,Ext C.U H a->zk X.K C.F M a g->VR X.K C.V M H a κ v d->P d g->Q v a)->t R c H Q
def QS(P:ju)(w:j4)(K:Frag)(c:Str->w_ Db)(a:jq)(x:Str)(k:Nat)(b:v_ Str)(κ:Kd)(W:WX):Prop:=
 ∃f fd,zL P w K c a (Kb P w) k f fd b^eE K κ W b.length/\c x=P3^.ref f/\keepIn K^.ref f=t_/\Binds K fd b []/\∀d n P e,W d n P e->d.length=b.length
def aF(W:WX)(was:NC):Sg->v_ Slot->(D->Sg->Prop)->PX->Prop:=λn a P b=>was n a λc d=>W c d P b
def OP{was:NC}(G:QS X.prog X.w X.K X.mg X.base x k m h W)(o:zy k X.A)(s:Gl X x)(u:Ow X (e::es) was)
  (c:dbN x:=by decide) (y:X.sE e es:=by rfl) (g:(backTo pos^starEach es X.env).any (·.1)=u_:=by rfl):
  jN X (.Call (.Name x p) (e::es) [] pos) h (aF W was):=by
 let#[f,fd,G,z,B,D,E]:=G;let#[t,F,I]:=u;refine#[_,VB G o s z B D F c y g,λC M H n J L P Q R N r l w q=>?_];refine I C M H n J L _ _ r w λvs H1 O S a i j p=>?_;have b:=r.step a i;exact#[(Paired.length j).trans^E _ _ _ _ p,_,_,_,M,S,O,P,N,#[b.dom,b.fU,b.uV,b.vM,i,j],p,λv H2 d T U V Y Z=>q v H2 d T (a.trans U) V (VR.back a Y) Z,l.step a]
def aB(w:Sg->v_ Slot->(D->Sg->Prop)->PX->Prop):Zy:=λb c n a=>w n a (λ_ d=>b.nx d a) c
def OM(h:jN X e f a)(g:swapsWith e s_ pos.line X.env=pure u_:=by rfl):gw X κ (.Expr e pos)^aB a:=by
 let#[t,i,j]:=h;exact#[_,U3 i g,λC M H n b c u E R k r L l w=>j C M H n b c _ _ R k r l w λv m d o q s x p=>L.nx M m o b c (r.step q s) p]
abbrev cz:=E2->Str->v_ Str->v_ D->Sg->v_ Slot->Prop
def DH(X:Cx)(κ:Kd)(h:v_ oW)(w:cz):Prop:=∃t,PH X h t/\∀(C:Fm) (M:Ch->Prop) (H:Hp) (n:Sg) (b:v_ Slot) (c:L2.St) (d:E2) (E:Ends) (nm:Str) (e i:Ch) (ks:v_ Str) (a:v_ D) (f:v_ V) (g:w_ Ch),
 Rel X.K C M H n b c->Ge X.K C κ d E->XC X.K nm e i->jI M H g ks f->ks.length=a.length->Ats X.K M H a f->w d nm ks a n b->t E e g c H
def g0(c:Zy)(d:cz):AY:=λa n b=>c a (λnm ks e f=>d a nm ks e f b) n b
def b_{c:v_ oW}(d:X.stack=X.env::X.outer)(g:X.env.frame=P3 X.env.locals)(o:∀e s,X.xe e s->False)(q:Yv X κ a h)(u:DH X κ (b::c) i):
  DS X κ (.Try a (b::c) [] [] pos) (g0 h i):=by
 let#[t,x,y]:=q;let#[O,z,A]:=u;exact#[_,a9 d g o x z,λC M H n j k l E r L w=>y C M H n j k l E _ _ r L (λnm m B ks D F G I J e f K xd N c p=>#[m,rfl,A C M I J j k l E nm m B ks D F G (r.step e f) L K xd N c p]) w]
def aA:cz:=λ_ _ _ _ _ _=>False
def cE:DH X κ [] aA:=#[_,bD,λ_ _ _ _ _ _ _ _ _ _ _ _ _ _ _ _ _ _ _ _ _ w=>w.elim]
def Y4(e:Str)(i:Nat)(h:Ch->AY)(j:cz):cz:=λb nm ks f n g=>if nm=e\/e="ThinError" then ∀a,h a {nx:=λc d=>b.nx c^d.set i .no,rt:=b.rt,bk:=λc d=>b.bk c^d.set i .no,ct:=λc d=>b.ct c^d.set i .no} n^g.set i^.ex a nm ks f else j b nm ks f n g
def YJ(hN:X.N.Nodup)(hi:X.N[i]?=P3 y)(hl:X.env.scope.names.lookup y=P3 .local)(hg:Gl X f)(hm:X.mg f=P3^.ref J)(hK:nsIn X.K mainGlobals f=P3^P3^.ref J)
  (Q:f="ThinError"/\dG X.K J\/f ≠ "ThinError"/\∃U,XC X.K f J U) (R:X.stack=X.env::X.outer) (S:X.env.frame=P3 X.env.locals)
  (T:∀a,Ou (X.yy^X.A.mark^P3^.ref a) κ (h::b)^P a) (hr:DH X κ x Z) (hd:dbN f:=by decide):
  DH X κ (.ExceptHandler (P3^.Name f np) (P3 y) (h::b) pos::x) (Y4 f i P Z):=by
 let#[th,b1,b2]:=hr;have V:∀a,∃t,PSs (X.yy^X.A.mark^P3^.ref a) (h::b) t/\∀(C:Fm) (M:Ch->Prop) (H:Hp) (n:Sg) (B:v_ Slot) (O:L2.St) (k:E2) (E:Ends),Rel X.K C M H n B O->Ge X.K C κ k E->P a k n B->t E O H:=T;refine#[_,Xd (ts:=λa=>(V a).choose) hN hi hl hg hm (Q.elim (λz=>z.2) fun#[_,U,c]=>c.isX) R S (λa=>(V a).choose_spec.1) b1 hd,λC M H n B O k E nm Cc W ks ds vs dx r L m xd D x w=>#[nm,W,m,?_]];unfold Y4 at w
 by_cases e:nm=f\/f="ThinError"
 .rw [if_pos e]at w
  refine .inl #[?_,λa u fa xt=>?_]
  .rcases Q with⟨z,_⟩|⟨z,U,c⟩
   .subst z
    have q:=m.atU.symm.trans hK;cases q;exact .inr rfl
   .rcases e with e|e
    .subst e
     have q:=m.at_.symm.trans hK;cases q;exact .inl rfl
    .exact absurd e z
  .have g:vJ H^AX H a u:=AV fa
   have r1:=r.step (g.ext)^r.feed.grow g;have na:¬M a:=λz=>by let#[o,q]:=r.dom a z;rw[fa]at q;cases q
   have nd:∀{d:Ch}{o:HO},H d=P3 o->AX H a u d=P3 o:=λ{d o} q=>g.all d o q;refine(V a).choose_spec.2 C M (AX H a u) n (B.set i^.ex a nm ks ds) _ {nx:=λj l=>k.nx j^l.set i .no,rt:=k.rt,bk:=λj l=>k.bk j^l.set i .no,ct:=λj l=>k.ct j^l.set i .no} _ (r1.setS rfl (λ_ z=>by cases z) #[rfl,Cc,W,dx,u,vs,m,#[na,AI],xt,?_,D,x.q4 g.q4]) #[λF G j l zZ I q=>?_,L.rt,λF G j l zZ I q=>?_,λF G j l zZ I q=>?_]^w a
   .rcases xd with z|⟨d,Y,n1,h1⟩
    .exact .inl z
    .exact .inr #[d,Y,n1,nd h1]
   .exact L.nx F G j _ _ (I.setS (s:=.no) rfl (λ_ z=>by cases z) trivial) q
   .exact L.bk F G j _ _ (I.setS (s:=.no) rfl (λ_ z=>by cases z) trivial) q
   .exact L.ct F G j _ _ (I.setS (s:=.no) rfl (λ_ z=>by cases z) trivial) q
 .rw[if_neg e]at w
  have Y:nm≠f:=λz=>e^.inl z;have e2:f ≠ "ThinError":=λz=>e^.inr z
  rcases Q with⟨z,_⟩|⟨_,U,c⟩
  .exact absurd z e2
  .refine .inr #[λz=>?_,λz=>?_,b2 C M H n B O k E nm Cc W ks ds vs dx r L m xd D x w]
   .subst z
    exact Y^m.name c
   .subst z
    exact e2^m.nameU c
end
end Dp
namespace K75
open L2 Dp Nt
def top(i:Nat):kn:=PySem.Challenge.pw_thinnet_k75_laid_down_and_taken_up.main.body.getD i^.Pass #[0,0,0,0]
def DU(j:Nat)(s:kn):kn:=match s with
 |.ClassDef _ _ _ b _ _ _ _ _ _ _=>b.getD j^.Pass #[0,0,0,0]
 |_=>.Pass #[0,0,0,0]
abbrev Fc:kn:=top 19
abbrev Iz:kn:=top 31
abbrev Aq:kn:=DU 0^top 44
abbrev Ee:kn:=top 47
abbrev DP:kn:=top 48
abbrev I_:kn:=top 67
abbrev CW:kn:=DU 0^top 3
structure Txt (K:Frag) (mg:Str->Option Db):Prop where
 Gam:mg "ValueError"=s_
 Gap:mg "all"=s_
 Gat:mg "bool"=s_
 Gao:mg "enumerate"=s_
 Gaq:mg "int"=s_
 Gab:mg "isinstance"=s_
 Gaa:mg "len"=s_
 Gan:mg "list"=s_
 Gar:mg "max"=s_
 Gak:mg "min"=s_
 Gaj:mg "range"=s_
 Gah:mg "repr"=s_
 Gas:mg "reversed"=s_
 Gaf:mg "sorted"=s_
 Gal:mg "str"=s_
 Gac:mg "tuple"=s_
 Gau:mg "zip"=s_
 Gai:∃t,mg "MOST_SIGNS"=P3 (.int 8 t)
 Gad:∃t,mg "MOST_NUMBER"=P3 (.int 1000000 t)
 Gae:∃t,mg "MOST_PLACES"=P3 (.int 24 t)
 Gag:∃t,mg "MOST_TIES"=P3 (.int 60 t)
 x_NoLine:∃C U,XC K "NoLine" C U/\mg "NoLine"=P3 (.ref C)
 x_NoPaper:∃C U,XC K "NoPaper" C U/\mg "NoPaper"=P3 (.ref C)
 x_TooMany:∃C U,XC K "TooMany" C U/\mg "TooMany"=P3 (.ref C)
 x_Twice:∃C U,XC K "Twice" C U/\mg "Twice"=P3 (.ref C)
 x_NoPlace:∃C U,XC K "NoPlace" C U/\mg "NoPlace"=P3 (.ref C)
 x_NoTie:∃C U,XC K "NoTie" C U/\mg "NoTie"=P3 (.ref C)
 x_NoRow:∃C U,XC K "NoRow" C U/\mg "NoRow"=P3 (.ref C)
 x_ThinError:∃U,dG K U/\mg "ThinError"=P3^.ref U/\nsIn K mainGlobals "ThinError"=P3^P3^.ref U
section
variable {K:Frag}
theorem sA:A8 ["_law_feed_here","_law_many","_law_digit","_law_at","_law_cell","_law_first"] ["_law_feed_here","_law_many"]^AK DP:=#[rfl,rfl,rfl,by decide +kernel,rfl,by decide +kernel,by decide +kernel]
theorem Xp(F:Fun K "_law_next" "_law_next" DP f fd)(ml:mg "len"=s_):zL P w K mg base EW 1 f fd ["_law_feed_here","_law_many"]^SG K .sh Cu 2:=by
 refine F.ok sA (λvs H Q E h=>h.1) λa1 A a2 s H vs Q E hr h=>?_;let#[hl,F0,U,V',M,n,ss,Pd,ra,#[m,rfl,a8,X,hn,hP],q]:=h;let#[a9,fU,uV,vM,Y,Z]:=ra;cases Z with
 |cons r1 Z=>
 cases Z with
 |cons r2 Z=>
 cases Z;let#[#[d,c],e0,hF]:=r1.1;cases e0;let#[v2,e2,h2]:=r2.1;cases e2;cases(show _=V.int m from h2);let#[a,r,v,D,O,hc,a3,a4,b0]:=Y.1 (d,c) hF
 have R:∀(a' r' z:Int) (B:Hp),(∀b o,H b=P3 o->b≠d->B b=P3 o)->B d=P3^.lst [.ref c,.int a',.int r']->0<=a'->a'<=a+1->0<=z->z<m->Q (.int z) B:=by
  intro a' r' z B C S h0 h1 a5 a6;refine q (.int z) B (.int z) (n - 1) (λb o e=>?_) #[λg hg=>?_,λb k hk=>(Y.2 b k hk).to (λ_ _ z=>z) (λb vs e=>C b _ e λz=>by rw[z,D]at e;cases e) (λb o e=>if z:b=d then#[_,z▸S]else#[o,C b o e z]) λu e=>C b _ e λz=>by rw[z,D]at e;cases e] rfl (hP z a5 a6)
  .by_cases y:b=d
   .subst y
    exact#[_,S,λnu _=>absurd (fU (b,c) hF) nu,λvs z=>by rw[z,D]at e;cases e]
   .exact#[o,C b o e y,λ_ _=>rfl,λ_ _=>rfl]
  .have:g=(d,c):=ZB^hg.symm.trans hF
   subst this;exact#[a',r',v,S,O,#[hc.1,C c _ hc.2 O],a3,h0,by have e:(n - 1:Sg).n=n.n - 1:=rfl;lk]
 have hu:(A.deeper^envOfC "_law_next" (AK DP) s.heap.objs.size f a1).units<cLine:=hr.yh;have l:∀{B:Hp}{xs:v_ V},B d=P3^.lst xs->SqL K B d xs:=λh=>SqL.of h;have W:∀z:Int,0<=z % m/\z % m<m:=λz=>#[rG _^by lk,qM _^by lk]
 exists _,Az (Qs (E5 ZR (EQ vU (pv 0) An λ_ _=>rfl) An^Cp _)
   (Az (EA (i:=2) sA.nd rfl (kF rfl) (Bo EB (EQ vU (pv 0) An λ_ _=>rfl)^pv 1))
   (Az (Pa (Bo MM (EQ vU (pv 0) An λ_ _=>rfl)^pv 1)^Pf (pv 0) An set_list)
   (CY^Fd^pv 2))) MG)
  (Az (EA (i:=3) sA.nd rfl (kF rfl) (EQ vU (pv 0) An λ_ _=>rfl))
  (Az (Pa (Bo yz (pv 3) An)^Pf (pv 0) An set_list)
  (Az (EA (i:=4) sA.nd rfl (kF rfl) (Nk (E5 (SU hu) (EQ vU (pv 0) An λ_ _=>rfl) (Ph B6)^Cp _)
   (EQ vU (EQ vU (pv 0) An λ_ _=>rfl) (Bo EB (pv 3) (Cf J_ rfl ml PySem.boot_len (Ax (EQ vU (pv 0) An λ_ _=>rfl) B6))) λ_ _=>rfl) An))
  (Az (Qs (PW.pt^Ux (E5 fE (pv 4) (Bo MJ An An)^Cp _)^Qo^E5 op_lt (pv 3) (Cf J_ rfl ml PySem.boot_len (Ax (EQ vU (pv 0) An λ_ _=>rfl) B6))^Cp _)
   (Az (Pa (Bo MM (pv 4)^pv 1)^Pf (pv 0) An set_list)
   (CY^Fd^Bo EB (pv 4)^pv 1)) MG)
  (Az (EA (i:=5) sA.nd rfl (kF rfl) (Bo EB (Bo XP (Bo yz (Bo yz (Bo yz (Bo EB (pv 4) An)^Bo XP (Bo XP An^pv 3)^pv 3)^Bo XP An^pv 3) An) An) An))
  (CY^Fd^Bo EB (Bo MM (Bo EB (Bo XP (Bo yz (pv 5)^Bo XP An^pv 3) An) An) An)^pv 1))))))
 exists _,rfl,d,_,2,_,rfl,rfl,l D,rfl,_,_,rfl,rfl,_,rfl;refine Eo (λc1=>?_) λc1=>?_
 .exists _,rfl,d,_,2,_,rfl,rfl,l D,rfl,_,rfl,_,_,rfl,rfl,(by show(0:Int)<m;lk)
  exists _,rfl,d,_,2,_,rfl,rfl,l D,rfl,_,rfl,_,_,rfl,rfl,#[(by show(0:Int)<m;lk),X],_,rfl,d,_,2,2,rfl,rfl,D,rfl;exists _,rfl;exact R a _ _ _ (λb o e y=>by rw[AG y];exact e) AI a4 (by lk) (W _).1 (W _).2
 ·-- at=feed[1];feed[1]=at+1
  exists _,rfl,d,_,1,_,rfl,rfl,l D,rfl;exists _,rfl,_,_,rfl,rfl,_,rfl,d,_,1,1,rfl,rfl,D,rfl;generalize a0:AX H d^.lst^[V.ref c,V.int a,V.int r].set 1^V.int (a+1)=H1;have f1:H1 d=P3^.lst [.ref c,.int (a+1),.int r]:=by rw[←a0];exact AI
  have k1:∀b o,H b=P3 o->b≠d->H1 b=P3 o:=λb o e y=>by rw[←a0,AG y];exact e
  have G:H1 c=P3^.lst^v.map V.int:=k1 c _ hc.2 O
  have J:∀(z:Int) (H2:Hp),(∀b o,H1 b=P3 o->H2 b=P3 o)->
    (R9 (dq (eB (Qd^Dh (Hw λi j=>V.bl (decide (j<=i))) (Bs 4)^Dh (rI Wv λi j=>V.int (i ^ j.toNat)) (tC^V.int 10)^tC^V.int 18)^Qd^Dh (Hw λi j=>V.bl (decide (i<j))) (Bs 3)^d_ (λxs H Q=>∃x n,xs=[x]/\cr K x H n/\Q (V.int n) H)^Qe (Dh (aq K) (Bs 0)^tC^V.int 0) R_) (R9 (NU (Dh (rI Yy λi j=>V.int (i / j)) (Bs 4)^Bs 1)^fV (Bs 0) (tC^V.int 2) ZD)^XD^Dh (rI (λ_ j=>0<j) λi j=>V.int (i % j)) (Bs 4)^Bs 1) Y7)^R9 (NU (Dh (rI (λ_ j=>0<j) λi j=>V.int (i % j)) (Dh (rI vL λi j=>V.int (i*j)) (Dh (Hw λi j=>V.int (i+j)) (Dh (Hw λi j=>V.int (i+j)) (Dh (Hw λi j=>V.int (i+j)) (Dh (rI (λ_ j=>0<j) λi j=>V.int (i % j)) (Bs 4)^tC^V.int 1000003)^Dh (rI vL λi j=>V.int (i*j)) (Dh (rI vL λi j=>V.int (i*j)) (tC^V.int 41)^Bs 3)^Bs 3)^Dh (rI vL λi j=>V.int (i*j)) (tC^V.int 17)^Bs 3)^tC^V.int 3)^tC^V.int 51749)^tC^V.int 999917)^Hj 5)^XD^Dh (rI (λ_ j=>0<j) λi j=>V.int (i % j)) (Dh (rI Yy λi j=>V.int (i / j)) (Dh (rI (λ_ j=>0<j) λi j=>V.int (i % j)) (Dh (rI vL λi j=>V.int (i*j)) (Dh (Hw λi j=>V.int (i+j)) (Bs 5)^Dh (rI vL λi j=>V.int (i*j)) (tC^V.int 8111)^Bs 3)^tC^V.int 39373)^tC^V.int 2097143)^tC^V.int 3)^Bs 1)
     {nx:=λ_ B=>Q .non B,rt:=Q} [P3^.ref d,P3^.int m,s_,P3^.int a,P3^.int z,s_] H2:=by
   intro z H2 k2;have f2:=k2 _ _ f1;have c2:=k2 _ _ G
   have t:∀H3:Hp,H3=H2->(R9 (NU (Dh (rI (λ_ j=>0<j) λi j=>V.int (i % j)) (Dh (rI vL λi j=>V.int (i*j)) (Dh (Hw λi j=>V.int (i+j)) (Dh (Hw λi j=>V.int (i+j)) (Dh (Hw λi j=>V.int (i+j)) (Dh (rI (λ_ j=>0<j) λi j=>V.int (i % j)) (Bs 4)^tC^V.int 1000003)^Dh (rI vL λi j=>V.int (i*j)) (Dh (rI vL λi j=>V.int (i*j)) (tC^V.int 41)^Bs 3)^Bs 3)^Dh (rI vL λi j=>V.int (i*j)) (tC^V.int 17)^Bs 3)^tC^V.int 3)^tC^V.int 51749)^tC^V.int 999917)^Hj 5)^XD^Dh (rI (λ_ j=>0<j) λi j=>V.int (i % j)) (Dh (rI Yy λi j=>V.int (i / j)) (Dh (rI (λ_ j=>0<j) λi j=>V.int (i % j)) (Dh (rI vL λi j=>V.int (i*j)) (Dh (Hw λi j=>V.int (i+j)) (Bs 5)^Dh (rI vL λi j=>V.int (i*j)) (tC^V.int 8111)^Bs 3)^tC^V.int 39373)^tC^V.int 2097143)^tC^V.int 3)^Bs 1)
     {nx:=λ_ B=>Q .non B,rt:=Q} [P3^.ref d,P3^.int m,s_,P3^.int a,P3^.int z,s_] H3:=by
    intro H3 e3;subst e3;have y:vL (41*a) a:=.inr #[by lk,by lk];exists _,rfl,_,_,rfl,rfl,(by show(0:Int)<1000003;decide),_,rfl,_,_,rfl,rfl,.inl #[by cbv,by cbv],_,rfl,_,_,rfl,rfl,y,_,_,rfl,rfl,_,rfl,_,_,rfl,rfl,.inl #[by cbv,by cbv],_,_,rfl,rfl,_,_,rfl,rfl,_,_,rfl,rfl,.inr #[by cbv,by cbv],_,_,rfl,rfl,(by show(0:Int)<999917;decide);exists _,rfl,_,rfl,_,_,rfl,rfl,.inl #[by cbv,by cbv],_,_,rfl,rfl,_,_,rfl,rfl,.inr #[by cbv,by cbv],_,_,rfl,rfl,(by show(0:Int)<2097143;decide),_,_,rfl,rfl,#[by cbv,by cbv],_,rfl,_,_,rfl,rfl,(by show(0:Int)<m;lk);exact R (a+1) r _ _ (λb o e y=>k2 b o^k1 b o e y) f2 (by lk) (by lk) (W _).1 (W _).2
   exists _,rfl,_,_,rfl,rfl,#[by cbv,by cbv,by cbv],_,_,rfl,rfl,_,rfl;refine Eo (λc3=>?_) λc3=>?_
   .exists _,rfl,_,rfl,d,_,0,_,rfl,rfl,l f2,rfl,_,_,rfl,.inl #[_,SqL.of c2,rfl],_,_,rfl,rfl,_,rfl
    refine Eo (λc4=>?_) λc4=>t H2 rfl;exists _,rfl,_,rfl,_,_,rfl,rfl,#[(by show(0:Int)<m;lk),X],_,rfl,d,_,2,2,rfl,rfl,f2,rfl;exists _,rfl,_,rfl,_,_,rfl,rfl,(by show(0:Int)<m;lk);exact R (a+1) _ _ _ (λb o e y=>by rw[AG y];exact k2 b o^k1 b o e y) AI (by lk) (by lk) (W _).1 (W _).2
   .refine Eo (λc4=>absurd c4^by simp) λ_=>t H2 rfl
  refine#[_,rfl,d,_,0,_,rfl,rfl,l f1,rfl,(by show 0<=sizeLine;decide),λp hp=>?_];have T:∀b o,H1 b=P3 o->AX H1 p (.lst []) b=P3 o:=λb o e=>by rw[AG^Aa e hp];exact e
  exists c,p,_,rfl,rfl,SqL.of^T _ _ G,SqL.of AI,_,rfl;cases v with
  |nil=>exact Ay^J 0 _ T
  | cons L I=>
   refine BE ?_;have a7:(((L::I).map V.int).length:Int)=(I.length:Int)+1:=by simp
   have N:(0:Int)<(((L::I).map V.int).length:Int):=by lk
   obtain⟨z,hz⟩:∃z,atI ((L::I).map V.int) (a % (((L::I).map V.int).length:Int))=P3^.int z:=by
    have h1:=rG a (show(((L::I).map V.int).length:Int)≠0 by lk);have h2:=qM a N;generalize a % (((L::I).map V.int).length:Int)=j at h1 h2;obtain⟨k,rfl⟩:∃k:Nat,j=(k:Int):=#[j.toNat,by lk];have hk:k<(L::I).length:=by rw[Ev]at h2;lk
    refine#[(L::I)[k],AE ?_];rw[ji,Op hk];rfl
   exists _,rfl,d,_,0,_,rfl,rfl,l^T _ _ f1,rfl,_,rfl,_,rfl,d,_,0,_,rfl,rfl,l^T _ _ f1,rfl,_,_,rfl,.inl #[_,SqL.of^T _ _ G,rfl],_,_,rfl,rfl,N,c,_,_,_,rfl,rfl,SqL.of^T _ _ G,hz;exact J z _ T
end
end K75
namespace Nt
open L2 Dp
def cs(x:Str):v_ Nat:=x.cps.toList
def cL(h:cs x=cs y):x=y:=by
 let#[a]:=x;unfold cs at h
 simp_all
def Du(x:Str):Prop:=1<=x.length/\x.length<=8/\∀c∈cs x,97<=c/\c<=122
def rising(a:v_ Str):Prop:=a.Pairwise λx y=>cs x<cs y
def Vi(a b:v_ Nat):ltCps a b=decide (a<b):=ltCps_eq a b
theorem Hb:∀(l:v_ Str) (p:Str),risingS p l=t_->(p::l).Pairwise λa b=>¬cs b<cs a
 |[],p,_=>nS _ _
 |x::r,p,h=>by
  have c:(!ltCps _ _&&risingS x r)=t_:=h;rw[jv,mU,Vi,decide_eq_false_iff_not]at c;have e:=Hb r x c.2;refine k7.mpr #[λy d=>?_,e]
  rcases UF.mp d with rfl|d
  .exact c.1
  .exact List.le_trans c.1^(k7.mp e).1 y d
def DV(h:sortedS l=t_)(nd:l.Nodup):rising l:=by
 have c:l.Pairwise λa b=>¬cs b<cs a:=by
  cases l with
  |nil=>simp_all
  |cons x r=>exact Hb r x h
 exact(c.and nd).imp λ{a b} #[d,e]=>Classical.byContradiction λf=>e^cL^List.le_antisymm d f
theorem Ce(lo:Int)(n:Nat):(Gs lo n).length=n:=by unfold Gs;grind
def UX{lo:Int}(h:d∈Gs lo n):∃k:Nat,k<n/\d=.int (lo+k):=by
 let#[k,a,rfl]:=TM.mp h;exact#[k,lR.mp a,rfl]
end Nt
namespace Dp
open L2
section

def TV(G:Got X.prog X.w X.K X.mg X.base x k c a W)
  (e:zy k X.A) (g:Gl X x) (b:dbN x:=by decide):DE X (.Call (.Name x p) [] [] pos) a^Ae W AW:=by
 let#[f,fd,G,h,i,j,l]:=G;refine#[_,VL G e g h i j .nil HU b,λC M H n u y P Q R w q=>?_];show SG X.K a W c.length ([]++[]) H Q E0;rw[j5];refine#[l _ _ _ w,C.F,C.U,C.V,M,n,[],P,#[R.dom,R.fU,R.uV,R.vM,R.feed,.nil],w,λv H2 d m o r s t=>?_];exact q v H2 d m o r s t
end
end Dp
namespace L2
section

def Qr(hc:X.calm=t_)(N':v_ Str)(js:v_^w_ Nat)(hi:PI X tg iter wi)
  (hB:FT sc X.env.scope X.N N' js=t_) (hN:X.N.Nodup) (a0:X.N[i]?=P3 x) (hx:Loc X.env.scope x)
  (a1:swapsWith (.ListComp elt [#[tg,iter,ifs,0]] sc pos) (P3^.Name x pos') spos.line X.env=pure t_)
  (hs:∀x,foldedSetIterable iter X.env x=pure x:=by intro _;rfl)
  (hf:X.lO x:=by first|exact .inl rfl|exact .inr rfl|assumption):
  PS X (.Assign [.Name x pos'] (.ListComp elt [#[tg,iter,ifs,0]] sc pos) spos) (NU (UJ X sc N' js tg elt ifs wi)^Hj i):=by
 intro M s Z H D I h;have O:vT X sc N' js:=vT.of hB;let#[P,t,a2,R]:=J0 (scope:=sc) (env:=X.env) λx hx=>I.ok.has x^O.free x hx;rw[exec_Assign_Name_used _ _ _ _ a1];refine Cn^pG^Cn ?_;show wpAny _ _ (do let _ ←comprehension (.ListComp elt [#[tg,iter,ifs,0]] sc pos) sc X.env _ (newList []) u_ (eval iter X.env)^P3^assign (.Name x pos') X.env) _ _ s
 refine Cn (kP (wpAny_comprehension_free (Q:=λ_ p=>SP X M D .next p) (use:=P3^assign (.Name x pos') X.env) rfl hs t O.kind O.names (Ao (hi M s Z H _ I h) λv s1 h1=>Ao h1 λa5 c h2=>?_))
  (λ_ p hq=>On^On hq) λ_ _ e=>e)
 let#[it,fp,tn,J,H2,e,G,T,u,f2,hq]:=h2;subst e
 have B:X.K.lookup c.heap.objs.size=s_:=by
  cases q:X.K.lookup c.heap.objs.size with
  |none=>rfl
  |some o=>exact absurd (Tk^G.kIn _ _ q)^ko _
 let#[g,tt,te,W,hg,ht,he,#[m0,w0],hW]:=hq c.heap.objs.size (G.hok.fresh^Sc _) B P (c.heap.objs.size+1) c H2 fp;refine lH^wpAny_newFunctionEnv O.cell (by intro y hy;simp at hy) (λj f d=>?_) O.kind
 dsimp only at f d ⊢
 generalize C:c.heap.push {cls:=.type "list",dict:=s_,data:=.seq ([]:v_ Db).toArray}=Hh at f d ⊢;have k:Hh.objs.size=c.heap.objs.size+1:=by rw[←C,kh]
 have S:∀b∈fp,b<c.heap.objs.size:=λb l=>by
  let#[o,e,_]:=T.obj _ _ u b l;exact Tk e
 have U:∀b o,c.heap.get? b=P3 o->j.get? b=P3 o:=λb o e=>d.extBut b o (by rw[k];exact jo^lL^Tk e)^FM _ (C▸FM _ e);have hD:∃n,j.get? c.heap.objs.size=P3 {cls:=.type "list",data:=.seq #[] n}:=#[_,d.extBut _ _ (by rw[k];exact jo^me _)^FM _ (C▸TW _ rfl)]
 have I3:∀L,Inv (Ah X sc N' P (c.heap.objs.size+1) c H2 fp) [] (CQ js Z) (AX H2 c.heap.objs.size^.lst []) {c with heap:=j,toks:=L}:=λL=>
  OC G hc O a2 R f2 (λb l=>let #[o,e,_]:=T.obj _ _ u b l;#[o,e]) (by rw[←k];exact f) U hD
 have V:tn 0 j:=T.keep _ _ _ u λb l o e=>U b o e
 have a3:∀b∈fp,AX H2 c.heap.objs.size (.lst []) b=s_:=λb l=>by
  rw[AG^jo^S b l];exact(f2 b l).1
 have r:∀L,codeAny (model X.prog X.w) X.A (.compLoop (.ListComp elt [#[tg,iter,ifs,0]] sc pos) 0 (.ref it) (.ref c.heap.objs.size)^compEnvC sc P (c.heap.objs.size+1) X.env)
   (compPost (model X.prog X.w) X.A X.xe (P3^assign (.Name x pos') X.env) (λ_ p=>SP X M D .next p) (.ref c.heap.objs.size) (c.heap.objs.size+1)) {c with heap:=j,toks:=L}:=λL=>by
  refine Lk (W:=W) (m0:=m0) (Q:=λv H1=>Hj i v Z H1 λzN H2=>D.nx zN H2) G f2 S (kL _) T hg ht he hW (λzZ H' p J' q'=>?_) (I3 L) V a3 w0;let#[m,hn,_]:=J'.loc;have Y:H' (c.heap.objs.size+1)=s_:=J'.free;have I4:Inv X M Z H' p:=Jc (h':=p.heap) G f2 (kL _) J' λb _=>rfl;let#[g1,g2,g3,g4,g5,g6]:=G.fpOk (b:=c.heap.objs.size+1) (kL _) Y;show wpAny (model X.prog X.w) X.A (assign (.Name x pos') X.env^.ref c.heap.objs.size) (λ_ E=>∃m,E.heap.Ns (c.heap.objs.size+1) m/\∀h',mC (c.heap.objs.size+1) E.heap h'->SP X M D .next {E with heap:=h'}) X.xe p;refine wpAny_assign_Name (LF (v:=.ref c.heap.objs.size) I4 hN a0 hx rfl (λs5 I5 zz=>?_) hf);let#[a,F,ha]:=zz
  have na:c.heap.objs.size+1≠a:=by
   rcases ha with rfl|ha
   .exact g2
   .exact λz=>g5 _ _ ha z.symm
  refine#[m,hn.sameBut F na,λh' a4=>?_];exact#[_,H',I5.turned (t':=s5.toks) (it:=c.heap.objs.size+1) (λb o l e=>a4.extBut b o l e) Y g2 g4 g5 g6,q']
 rw[show(newEnv sc Hh.objs.size X.env.globals P X.env.qual s_ .none (P3 X.env) builtinsNs).locals=c.heap.objs.size+1 from k];show codeAny (model X.prog X.w) X.A (.compStart (.ListComp elt [#[tg,iter,ifs,0]] sc pos) 0 (.ref it) (.ref c.heap.objs.size)^compEnvC sc P (c.heap.objs.size+1) X.env) _ _;exact codeAny_compStart_list (r _)^T.self _ 0 _ _ _ V^r _
end
end L2
namespace Dp
open L2
section

def OV(hc:X.calm=t_)(N':v_ Str)(js:v_^w_ Nat)(hi:Z0 X tg iter src)(hg:∀O C s H S,DG (Ah X sc N' O C s H S) tg b)(ht:∀O C s H S,Zz (Ah X sc N' O C s H S) ifs tt)(he:∀O C s H S,DE (Ah X sc N' O C s H S) elt zT te)
  (hB:FT sc X.env.scope X.N N' js=t_) (hk:zT≠.tp:=by intro z;cases z)
  (hs:∀x,foldedSetIterable iter X.env x=pure x:=by intro _;rfl):∃wi,PI X tg iter wi/\∀(C:Fm) (M:Ch->Prop) (H:Hp) (n:Sg) (ρ:v_ Slot) (σ:L2.St) (P:D->Sg->Prop) (Q:VK),Rel X.K C M H n ρ σ->HN js src b tt te n ρ P->
   (∀v r d T,Ext C.U H r->zk X.K C.F M r T->VR X.K C.V M H r .fr v d->P d T->Q v r)->UJ X sc N' js tg elt ifs wi σ H Q:=by
 let#[wi,a1,a2]:=hi;refine#[wi,a1,λC M H n ρ σ P Q R w q=>?_];refine a2 C M H n ρ σ _ _ R w λJ H1 A n1 B f1 y w1=>?_;let#[b3,w1]:=w1;have R1:=R.step B f1;intro l hl b5 O Ca s0 H0 S;let#[g,g1,g2]:=hg O Ca s0 H0 S;let#[tc,c1,c2]:=ht O Ca s0 H0 S;let#[tx,x1,x2]:=he O Ca s0 H0 S
 have a4:¬C.U l:=λz=>by
  let#[o,z]:=R1.udom l z;rw[hl]at z;cases z
 generalize W:(λb=>M b\/b=l)=M';have a6:M' l:=by rw[←W];exact .inr rfl
 have M'of:∀b,M b->M' b:=λb z=>by rw[←W];exact .inl z
 have a3:∀b,M' b->M b\/b=l:=λb z=>by rw[←W]at z;exact z
 have b0:∀b,C.V b\/b=l->M' b:=λb z=>z.elim (λz=>M'of b^R1.vM b z) λz=>by rw[z];exact a6
 have b4:js.length=N'.length:=Eu (vT.of hB).cap
 exists g,tc,tx,λi m zZ r=>m=A.length - i/\i<=A.length/\∃T zY k L,Rel X.K #[M',C.F,C.U,λb=>C.V b\/b=l,H1,[],[]] M' r T zY zZ/\r l=P3^.lst L/\Ats X.K M' r k L/\k.length<=i/\zg M H1 M' r /\
   JW b tt te (λk n2=>P (.lst k) n2) (A.drop i) k T zY,g1,c1,x1,#[A.length,by simp,jp _,n1,GH js ρ,[],[],?_]
 .have G:vJ H1^AX H1 l^.lst []:=AV hl
  have Y:zg M H1 M'^AX H1 l^.lst []:=#[λb o e _ _=>G.all b o e,λb z=>(a3 b z).elim .inl λz=>.inr (by rw[z];exact hl),λb L e=>G.all b _ e,λb o e=>#[o,G.all b o e]];refine#[#[?_,λa z=>z,λa z=>?_,G.ext,R1.fU,λa z=>.inl^R1.uV a z,b0,f1.q4 Y (λf o _ e=>G.all f.1 o e) λa u e=>G.all a _ e,?_,λp hp=>absurd hp^by simp,λi d a q z=>RB R1.sl q z,λi s a q o _=>absurd o (by rw[EH q];decide),λi j s t a q o _ _ _ _=>absurd o (by rw[EH q];decide),λp hp=>absurd hp^by simp],AI,rfl,jp _,Y,w1]
  .unfold GH CQ
   rw[Ev,Ev]
  .rcases a3 a z with z|z
   .let#[o,z]:=R1.dom a z
    exact#[o,G.all a o z]
   .subst z
    exact#[_,AI]
  .refine N3 R1.sl Y λd v h=>h.same Y (λa o _ e=>G.all a o e) λa e n1 z=>z.elim n1 λz=>?_
   subst e;let#[o,w]:=h.lies;rw[z,hl]at w;cases w
 .rintro i m zZ r ⟨rfl,hi,T,zY,k,L,R',a7,Z,a8,Y,w'⟩
  by_cases a0:i<A.length
  .have ed:A.drop i=A[i]::A.drop (i+1):=lX a0
   rw[ed]at w';let#[go,yl]:=(y i M' r Y R'.ext R'.dom).1 A[i] (Op a0);refine .inr #[go,λx H2 hy=>?_];let#[G,hx]:=yl x H2 hy;have b1:=R'.step G.ext^R'.feed.grow G;refine g2 _ M' H2 T zY zZ A[i] x _ _ b1 hx w' λzP zV R3 w3=>?_;refine c2 _ M' H2 T zP zV _ _ R3 w3 λc H4 n4 e4 f4 w4=>?_;have R4:=R3.step e4 f4;have p4:zg M' r M' H4:=G.q4.trans^R3.q4 e4;have l4:H4 l=P3^.lst L:=e4.keep (G.all _ _ a7) a4;cases c with
   |false=>exact#[A.length - (i+1),by lk,rfl,a0,n4,zP,k,L,R4,l4,Z.q4 p4,by lk,Y.trans p4,w4]
   | true=>
    refine x2 _ M' H4 n4 zP zV _ _ R4 w4 λyv H5 d5 n5 e5 f5 r5 w5=>?_;have E:=R4.step e5 f5;have p5:zg M' H4 M' H5:=R4.q4 e5;have l5:H5 l=P3^.lst L:=e5.keep l4 a4;have b2:=r5.vD R4.dom hk;have a5:=(Z.q4 p4).q4 p5;have pu:zg M' H5 M'^AX H5 l^.lst (L++[yv]):=CZ a6 l5;have b6:L.length=k.length:=Z.length;refine#[L,l5,by rw[kJ];lk,A.length - (i+1),by lk,rfl,a0,n5,zP,k++[d5],L++[yv],?_,AI,(a5.append^Ats.one b2).q4 pu,by rw[eq,kN];lk,(Y.trans p4).trans^p5.trans pu,w5];refine#[E.len,E.sub,λa z=>?_,λb o e=>?_,E.fU,E.uV,E.vM,?_,λj s hs=>?_,λp hp=>absurd hp^by simp,E.br0,E.new,E.two,λp hp=>absurd hp^by simp]
    .by_cases ha:a=l
     .subst ha;exact#[_,AI]
     .rw[AG ha];exact E.dom a z
    .let#[o',q1,q2]:=E.ext b o e
     by_cases hb:b=l
     .subst hb
      have e':H1 b=P3 o:=e;rw[hl]at e';cases e'
     .exact#[o',by rw[AG hb];exact q1,q2]
    .refine f5.q4 pu (λf o hf e=>?_) λa u e=>by rw[AG λz=>by rw[z,l5]at e;cases e];exact e
     rw[AG λz=>a4^by rw[←z];exact R1.fU f hf];exact e
    .have I:=E.sl j s hs
     cases s with
     |no=>trivial
     |sh d=>let#[v,B,h2]:=I;exact#[v,B,h2.q4 pu]
     |ex a nm ks A=>let#[B,h2]:=I;exact#[B,h2.q4 pu]
     | br d=>
      let#[v,B,h2]:=I;refine#[v,B,h2.same pu (λa o z e=>?_) λ_ _ z=>z];subst z;let#[o3,w]:=E.br0 j d a hs B
      have a8:a≠l:=λz=>by
       have w':H1 a=P3 o3:=w;rw[z,hl]at w';cases w'
      rw[AG a8];exact e
     |ow d=>
      let#[a,B,h2,_]:=I;exact absurd h2 (E.new j _ a hs rfl B).1
     |lt a d=>
      let#[B,h2,_]:=I;exact absurd h2 (E.new j _ a hs rfl B).1
     |fd=>exact I
  .have e:i=A.length:=by lk
   subst e;rw[oR]at w';refine .inl #[(y _ M' r Y R'.ext R'.dom).2 (Sc _),?_];have eb:Ext C.U H1 r:=R'.ext;have a9:zg M' r M r:=zg.less M'of;refine q _ r (.lst k) T (B.trans eb) (R'.feed.q4 a9 (λ_ _ _ z=>z) λ_ _ z=>z) (VR.back B ?_) w';exact#[l,rfl,hl,L,a7,by rw[W];exact Z]
def Mn(r:X.N.Nodup)(j:X.N[i]?=P3 x)(t:Loc X.env.scope x)(l:X.calm=t_)(e:v_ Str)(h:v_^w_ Nat)(hi:Z0 X tg iter src)(u:∀f C s H g,DG (Ah X sc e f C s H g) tg b)(y:∀f C s H g,Zz (Ah X sc e f C s H g) ifs tt)(A:∀f C s H g,DE (Ah X sc e f C s H g) elt zT te)
  (m:FT sc X.env.scope X.N e h=t_) (k:swapsWith (.ListComp elt [#[tg,iter,ifs,0]] sc pos) (P3^.Name x a) c.line X.env=pure t_:=by rfl) (B:zT≠.tp:=by intro z;cases z)
  (o:∀x,foldedSetIterable iter X.env x=pure x:=by intro _;rfl)
  (D:X.lO x:=by first|exact .inl rfl|exact .inr rfl|assumption):DS X q (.Assign [.Name x a] (.ListComp elt [#[tg,iter,ifs,0]] sc pos) c)^Bj i^HN h src b tt te:=by
 let#[T,F,G]:=OV l e h hi u y A m B o;exact#[_,Qr l e h F m r j t k o D,λC M H n I J U E R L w=>G C M H n I J _ _ R w λv K d O P Q S p=>L.nx M K O _ _ ((R.step P Q).set^S.vD R.dom^by grind) p]
end
section

def WH(t:X.N.Nodup)(k:X.N[i]?=P3 x)(u:Loc X.env.scope x)(m:X.calm=t_)(f:v_ Str)(j:v_^w_ Nat)(hi:Z0 X tg iter src)(y:∀g C s H h,DG (Ah X sc f g C s H h) tg b)(A:∀g C s H h,Zz (Ah X sc f g C s H h) ifs tt)(B:∀g C s H h,DE (Ah X sc f g C s H h) elt zT te)
  (o:FT sc X.env.scope X.N f j=t_) (l:swapsWith (.ListComp elt [#[tg,iter,ifs,0]] sc pos) (P3^.Name x c) e.line X.env=pure t_:=by rfl) (D:zT≠.tp:=by intro z;cases z)
  (q:∀x,foldedSetIterable iter X.env x=pure x:=by intro _;rfl)
  (F:X.lO x:=by first|exact .inl rfl|exact .inr rfl|assumption):DS X r (.Assign [.Name x c] (.ListComp elt [#[tg,iter,ifs,0]] sc pos) e)^Ic i^HN j src b tt te:=by
 let#[W,G,I]:=OV m f j hi y A B o D q;refine#[_,Qr m f j G o t k u l q F,λC M H n J K Y E R L w=>?_];refine I C M H n J K _ _ R w λv O d P Q S T p=>?_;let#[a,rfl,U,V]:=T;exact L.nx _ O P _ _ (R.setOw Q S U V) p
end
abbrev Fu(K:Frag)(x:Str)(a:kn)(f:Ch)(fd:kX):Prop:=Fun K x x a f fd
def jd{K:Frag}(F:Fu K x c f fd)(S:A8 N d^AK c)
  (m:∀{e:Db}{A:kA}{b:v_ Env}{s:Go}{H:Hp}{E:XK},zy k^A.deeper^envOfC x (AK c) s.heap.objs.size f e->Ou (C5 EW P w K j a N x (AK c) f e A b s H E).nox g (Aj c) l)
  (o:∀{ss n Pd},W ss n Pd->l {nx:=λn _=>g=.sh/\Pd .non n,rt:=Pd} n (ss++jk (N.length - d.length) .no)) (i:d.length<=N.length:=by decide):
  zL P w K j a EW (k+1) f fd d (SG K g W d.length):=jG F S i (λ_ _ _ _ _ _ h=>m h) λ_ _ _ _ h=>o h
section

def cg(g:zy m X.A)(G:Got X.prog X.w X.K X.mg X.base x k h f W)(i:Ow X (e::a) b)(j:k<=m:=by decide)(l:Gl X x:=by rfl)
  (c:dbN x:=by decide) (n:X.sE e a:=by rfl) (d:(backTo pos^starEach a X.env).any (·.1)=u_:=by rfl):DE X (.Call (.Name x p) (e::a) [] pos) f^Ae W b:=Jy G (g.mono j) l i c n d

def je(a:v_ Str)(c:v_^w_ Nat)(hi:Z0 X tg iter src)(d:∀{cl C s H fp},DG (Ah X sc a cl C s H fp) tg b)(e:∀{cl C s H fp},Zz (Ah X sc a cl C s H fp) ifs tt)(f:∀{cl C s H fp},DE (Ah X sc a cl C s H fp) elt zT te)
  (g:FT sc X.env.scope X.N a c=t_) (h:X.calm=t_:=by rfl) (i:zT≠.tp:=by intro z;cases z) (j:∀x,foldedSetIterable iter X.env x=pure x:=by intro _;rfl):DE X (.ListComp elt [#[tg,iter,ifs,0]] sc pos) .fr^HN c src b tt te:=YV h a c hi (λ_ _ _ _ _=>d) (λ_ _ _ _ _=>e) (λ_ _ _ _ _=>f) g i j
end
section

def C7(i:Nat)(c:X.N.Nodup)(d:DE X e zT wa)(hi:X.N[i]?=P3 x:=by rfl)(f:Loc X.env.scope x:=by first|exact .inl rfl|exact .inr rfl)(g:zT≠.tp:=by intro z;cases z)(h:swapsWith e (P3^.Name x pos') pos.line X.env=pure u_:=by rfl)
  (j:X.lO x:=by first|exact .inl rfl|exact .inr rfl|assumption):DS X κ (.Assign [.Name x pos'] e pos)^Bj i wa:=QA c hi f d g h j
def Zm(i:Nat)(c:X.N.Nodup)(d:DE X e .fr wa)(hi:X.N[i]?=P3 x:=by rfl)(f:Loc X.env.scope x:=by first|exact .inl rfl|exact .inr rfl)(g:swapsWith e (P3^.Name x pos') pos.line X.env=pure u_:=by rfl)
  (h:X.lO x:=by first|exact .inl rfl|exact .inr rfl|assumption):DS X κ (.Assign [.Name x pos'] e pos)^Ic i wa:=Mm c hi f d g h
def FN(i:Nat)(c:X.N.Nodup)(hi:X.N[i]?=P3 x:=by rfl)(d:Loc X.env.scope x:=by first|exact .inl rfl|exact .inr rfl)(e:X.lO x:=by first|exact .inl rfl|exact .inr rfl|assumption):DG X (.Name x pos)^Bm i:=EM c hi d e
def dA(h:gX X es bs)(d:X.calm=t_:=by rfl)(e:(assignEach es X.env).length=es.length:=by rfl)(c:(assignEach es X.env).findIdx? (·.1)=s_:=by rfl):DG X (.Tuple es j pos)^Od es.length bs:=WM d h e c
def Bv(h:DE X e κ wa)(c:Ow X es was)(d:κ≠.tp:=by intro z;cases z)(f:X.sE e es:=by rfl):Ow X (e::es)^AH (AS wa) was:=AQ (Zp h d) c f
def Bl(i:Nat)(d:Ow X es was)(e:X.N[i]?=P3 x:=by rfl)(f:Ov X.env.scope x:=by first|exact kF rfl|exact k6 (kF rfl)|exact k6 (k6 rfl))(hd:dbN x:=by decide)(c:(x==("__classdict__":Str))=u_:=by decide)
  (g:starEach (.Name x pos::es) X.env=(u_,eval (.Name x pos) X.env)::starEach es X.env:=by rfl):Ow X (.Name x pos::es)^AH (AS^AJ i) was:=Bv (dv i e f hd c) d (by intro z;cases z) g
def BA(c:DE X a zU wa)(d:DE X b zR wb)(e:NA b:=by intro _ _;rfl):DE X (.Subscript a b pos) .sh^Ak CI wa wb:=Lh G7 Th c d e
def TX(c:v_ Str)(d:v_^w_ Nat)(hi:Z0 X tg iter src)(e:∀{cl C s H fp},c.Nodup->DG (Ah X sc c cl C s H fp) tg bb)(f:∀{cl C s H fp},Zz (Ah X sc c cl C s H fp) ifs tt)(g:∀{cl C s H fp},DE (Ah X sc c cl C s H fp) elt zT te)
  (h:FT sc X.env.scope X.N c d=t_:=by kernel_rfl) (i:c.Nodup:=by decide +kernel) (j:X.calm=t_:=by rfl) (k:zT≠.tp:=by intro z;cases z) (l:∀x,foldedSetIterable iter X.env x=pure x:=by intro _;rfl):DE X (.ListComp elt [#[tg,iter,ifs,0]] sc pos) .fr^HN d src bb tt te:=je c d hi (e i) f g h j k l
def B3(d:OpR X (compareOp c) r)(e:Dg X.K .sh r f)(g:DE X a zU wa)(h:DE X b zR wb)(i:behindInMarks c b=u_:=by first|exact Cp _|with_unfolding_all rfl):DT X (.Compare a [c] [b] j)^Am^Ak f wa wb:=P9 d e g h i
def Ky(c:X.mg "len"=s_)(d:DE X e κ wa)(f:Gl X "len":=by rfl)(he:starEach [e] X.env=[(u_,eval e X.env)]:=by rfl):DE X (.Call (.Name "len" pos') [e] [] pos) .sh^EZ IB^AM wa Ag:=Ac J_ f9 f c PySem.boot_len (AR d AU he) (he:=he)
def Zk(c:X.mg "tuple"=s_)(d:DE X e κ wa)(f:Gl X "tuple":=by rfl)(he:starEach [e] X.env=[(u_,eval e X.env)]:=by rfl):DE X (.Call (.Name "tuple" pos') [e] [] pos) .sh^EZ Cb^AM wa Ag:=B8 Df KP f c boot_tuple (AR d AU he) (he:=he)
def Wx:=PySem.F.plainAttrs_list
def c8:=PySem.F.slot_list_append
def c7:=PySem.F.type_list_append
end
def jF{K:Frag}(F:Fun K x q c f fd)(S:A8 N d^AK c)
  (m:∀{e:Db}{A:kA}{b:v_ Env}{s:Go}{H:Hp}{E:XK},zy k^A.deeper^envOfC q (AK c) s.heap.objs.size f e->Ou (C5 EW P w K j a N q (AK c) f e A b s H E).nox g (Aj c) l)
  (o:∀{ss n Pd},W ss n Pd->l {nx:=λn _=>g=.sh/\Pd .non n,rt:=Pd} n (ss++jk (N.length - d.length) .no)) (i:d.length<=N.length:=by decide):
  zL P w K j a EW (k+1) f fd d (SG K g W d.length):=jG F S i (λ_ _ _ _ _ _ h=>m h) λ_ _ _ _ h=>o h
end Dp
namespace So
open PySem.W
section

def KN(O:KeyOrd)(key:Nat->O.α)(p:Array Nat)(i:Nat):O.α:=key^p.getD i 0
def Srt(O:KeyOrd)(key:Nat->O.α)(p:Array Nat)(k:Nat):Prop:=∀i j,i<=j->j<k->O.kle (KN O key p i)^KN O key p j
def gR(O:KeyOrd)(key:Nat->O.α)(p:Array Nat)(k:Nat):Prop:=∀i j,i<=j->j<k->O.kle (KN O key p j)^KN O key p i
def Z2(O:KeyOrd)(key:Nat->O.α)(N:Nat)(cmp:Nat->Nat->(Bool->Go->Prop)->Go->Prop)(s:Go):Prop:=∀(i j:Nat) (C:Bool->Go->Prop),i<N->j<N->C (O.blt (key i)^key j) s->cmp i j C s
def Bd(N:Nat)(p:Array Nat):Prop:=0<N/\∀x∈p,x<N
def X_(p:Array Nat)(i:Nat):p.getD i 0=(p[i]?).getD 0:=by
 simp
def Bd.get(h:Bd N p)(i:Nat):p.getD i 0<N:=by
 rw[X_];cases e:p[i]? with
 |none=>exact h.1
 |some x=>exact h.2 x^Array.mem_of_getElem? e
def Bd.perm(h:Bd N p)(b:a.Perm p):Bd N a:=#[h.1,λx c=>h.2 x^b.mem_iff.mp c]
def Ey(h:p[i]?=q[j]?):KN O key p i=KN O key q j:=by
 unfold KN
 simp_all
def Ly(f:a<p.size)(hd:d<=a)(k:Nat):
  KN O key (bubble p a d) k=if k=a - d then KN O key p a else if a - d<k/\k<=a then KN O key p (k - 1)else KN O key p k:=by
 have e:=getElem?_bubble f d hd k
 by_cases b:k=a - d
 .rw[if_pos b]at e ⊢;exact Ey e
 .rw[if_neg b]at e ⊢
  by_cases c:a - d<k/\k<=a
  .rw[if_pos c]at e ⊢;exact Ey e
  .rw[if_neg c]at e ⊢;exact Ey e
def HK(b:j<=p.size)(k:Nat):KN O key (kas_rev p i j) k=if i<=k/\k<j then KN O key p (i+j - 1 - k)else KN O key p k:=by
 have e:=getElem?_mirror_all (i:=i) b k
 by_cases a:i<=k/\k<j
 .rw[if_pos a]at e ⊢;exact Ey e
 .rw[if_neg a]at e ⊢;exact Ey e
theorem Bi(a:j<=p.size)(b:∀k,i<=k->k<j->KN O key p k=KN O key p (j - 1))(k:Nat):KN O key (kas_rev p i j) k=KN O key p k:=by
 rw[HK a]
 grind
def CA(p:Array Nat)(i j:Nat):(kas_rev p i j).Perm p:=mirror_perm _ _ _ _
theorem yes{a b:KasT c}(h:a.kasWp cmp Q s):(if t_=t_ then a else b).kasWp cmp Q s:=by grind
theorem no{b a:KasT c}(h:a.kasWp cmp Q s):(if u_=t_ then b else a).kasWp cmp Q s:=by grind
theorem QI(q:Z2 O key N cmp s)(d:Bd N p):∀(f n:Nat),1<=n->n+f=nrem->Srt O key p n->
  (∀m,n<=m->m<=nrem->Srt O key p m->(m=nrem\/O.klt (KN O key p m)^KN O key p (m - 1))->G m s)->(kas_asc p f n).kasWp cmp G s
 |0,n,_,e,b,h=>h n (Sc _) (by lk) b^.inl^by lk
 | f+1,n,w,e,b,h=>by
  show cmp (p.getD n 0) (p.getD (n - 1) 0) (λc r=>(if c=t_ then KasT.ret n else kas_asc p f (n+1)).kasWp cmp G r) s;refine q _ _ _ (d.get n) (d.get _) ?_;cases a:O.blt (key^p.getD n 0)^key^p.getD (n - 1) 0 with
  |true=>exact yes^h n (Sc _) (by lk) b^.inr a
  | false=>
   refine no^QI q d f (n+1) (by lk) (by lk) (λi j g x=>?_) λm y t u v=>h m (by lk) t u v
   by_cases k:j<n
   .exact b i j g k
   .have l:j=n:=by lk
    subst l
    by_cases o:i=j
    .subst o;exact lY _
    .exact pN (b i (j - 1) (by lk)^by lk) a
theorem IT(D:Z2 O key N cmp s):∀(f:Nat) (p:Array Nat) (n q:Nat),p.Perm p0->Bd N p->l<=p.size->1<=n->n+f=l->gR O key p n->q+1<=n->
  (∀i,n - (q+1)<=i->i<n->KN O key p i=KN O key p (n - 1))->
  (∀g m v,g.Perm p0->Bd N g->g.size=p.size->n<=m->m<=l->gR O key g m->v+1<=m->(∀i,m - (v+1)<=i->i<m->KN O key g i=KN O key g (m - 1))->G (g,m,v) s)->(kas_desc f p n q).kasWp cmp G s
 |0,p,n,q,C,u,Q,Y,e,x,R,E,h=>h p n q C u rfl (Sc _) (by lk) x R E
 | f+1,p,n,q,C,u,Q,Y,e,x,R,E,h=>by
  show cmp (p.getD n 0) (p.getD (n - 1) 0) (λc S=>(if c=t_ then(if q > 0 then kas_desc f (kas_rev p (n - (q+1)) n) (n+1) 0 else kas_desc f p (n+1) 0)
   else .ask (p.getD (n - 1) 0) (p.getD n 0) λd=>if d=t_ then .ret (p,n,q)else kas_desc f p (n+1) (q+1)).kasWp cmp G S) s
  refine D _ _ _ (u.get n) (u.get _) ?_;cases o:O.blt (key^p.getD n 0)^key^p.getD (n - 1) 0 with
  | true=>
   have Z:O.klt (KN O key p n)^KN O key p (n - 1):=o
   have r:∀T:Array Nat,(∀k,KN O key T k=KN O key p k)->gR O key T (n+1):=by
    intro T W i j y hj;rw[W,W]
    by_cases z:j<n
    .exact x i j y z
    .have A:j=n:=by lk
     subst A
     by_cases B:i=j
     .subst B;exact lY _
     .exact pN (pA Z)^x i (j - 1) (by lk)^by lk
   refine yes ?_;have U:n<=p.size:=by lk
   by_cases F:q > 0
   .rw[if_pos F]
    refine IT D f _ (n+1) 0 ((CA _ _ _).trans C) (u.perm^CA _ _ _) (by rw[kas_rev_size];exact Q) (by lk) (by lk) (r _^Bi U E) (by lk) (λi a b=>by congr 1;lk) λg m v H I J X K L M P=>h g m v H I (J.trans^kas_rev_size _ _) (by lk) K L M P
   .rw[if_neg F]
    exact IT D f _ (n+1) 0 C u Q (by lk) (by lk) (r _ λ_=>rfl) (by lk) (λi a b=>by congr 1;lk) λg m v H I J X K L M P=>h g m v H I J (by lk) K L M P
  | false=>
   refine no ?_;show cmp (p.getD (n - 1) 0) (p.getD n 0) (λd S=>(if d=t_ then KasT.ret (p,n,q)else kas_desc f p (n+1) (q+1)).kasWp cmp G S) s;refine D _ _ _ (u.get _) (u.get n) ?_;cases t:O.blt (key^p.getD (n - 1) 0)^key^p.getD n 0 with
   |true=>exact yes (h p n q C u rfl (Sc _) (by lk) x R E)
   | false=>
    have w:KN O key p n=KN O key p (n - 1):=rl (O:=O) t o;refine no^IT D f p (n+1) (q+1) C u Q (by lk) (by lk) (λi j y hj=>?_) (by lk) (λi a b=>?_) λg m v H I J X K L M P=>h g m v H I J (by lk) K L M P
    .by_cases z:j<n
     .exact x i j y z
     .have A:j=n:=by lk
      subst A
      by_cases B:i=j
      .subst B;exact lY _
      .rw[w];exact x i (j - 1) (by lk)^by lk
    .rw[show n+1 - 1=n by lk]
     by_cases V:i=n
     .subst V;rfl
     .rw[w];exact E i (by lk)^by lk
theorem NT(e:Z2 O key N cmp s)(f:p.Perm p0)(d:Bd N p)(q:a<=p.size)(h1:1<=n)(r:n<=a)(g:gR O key p n)
  (h:∀m b,b.Perm p0->Bd N b->b.size=p.size->1<=m->m<=a->Srt O key b m->G (m,b) s):(kas_tail3 n a p).kasWp cmp G s:=by
 unfold kas_tail3;rw[KasT.kasWp_bind];have c:n<=p.size:=by lk
 refine QI e (d.perm^CA _ _ _) _ n h1 (by lk) (λi j k t=>?_) λm u l o _=>h m _ ((CA _ _ _).trans f) (d.perm^CA _ _ _) (kas_rev_size _ _) (by lk) l o;rw[HK c,HK c,if_pos^by lk,if_pos^by lk];exact g _ _ (by lk)^by lk
theorem Hl(k:Z2 O key N cmp s)(E:p.Perm p0)(F:Bd N p)(H:c<=p.size)(K:n+1<=c)(I:gR O key p (n+1))
  (h:∀m d,d.Perm p0->Bd N d->d.size=p.size->1<=m->m<=c->Srt O key d m->G (m,d) s):(kas_descPart n c p).kasWp cmp G s:=by
 unfold kas_descPart;rw[KasT.kasWp_bind];refine IT (p0:=p0) k (c - (n+1)) p (n+1) 0 E F H (by lk) (by lk) I (by lk) (λi a b=>by grind) λd m l y z A L B C M D=>?_;have f:m<=d.size:=by lk
 show(if l > 0 then kas_tail3 m c^kas_rev d (m - (l+1)) m else kas_tail3 m c d).kasWp cmp G s
 by_cases g:l > 0
 .rw[if_pos g]
  refine NT k ((CA _ _ _).trans y) (z.perm^CA _ _ _) (by rw[kas_rev_size];lk) (by lk) B (λi j o J=>?_) λq e r t u v w x=>h q e r t (u.trans^(kas_rev_size _ _).trans A) v w x;rw[Bi f D,Bi f D];exact C i j o J
 .rw[if_neg g]
  exact NT k y z (by lk) (by lk) B C λq e r t u v w x=>h q e r t (u.trans A) v w x
theorem WV(y:Z2 O key N cmp s)(z:p.Perm p0)(e:Bd N p)(H:nrem<=p.size)(h1:1<=nrem)
  (h:∀m o,o.Perm p0->Bd N o->o.size=p.size->1<=m->m<=nrem->Srt O key o m->G (m,o) s):(kas_count nrem p).kasWp cmp G s:=by
 unfold kas_count;rw[KasT.kasWp_bind];refine QI (nrem:=nrem) y e (nrem - 1) 1 (Sc _) (by lk) (λi j q I=>by have:i=j:=(by lk);subst this;exact lY _) λn r t b A=>?_
 by_cases f:n=nrem
 .rw[if_pos^by simpa using f]
  exact h n p z e rfl r t b
 .rw [if_neg^by simpa using f]
  have u:O.klt (KN O key p n)^KN O key p (n - 1):=A.resolve_left f
  by_cases v:n > 1
  .rw[if_pos v]
   show cmp (p.getD 0 0) (p.getD (n - 1) 0) (λc J=>(if c=t_ then KasT.ret (n,p)else kas_descPart n nrem^kas_rev p 0 n).kasWp cmp G J) s;refine y _ _ _ (e.get _) (e.get _) ?_;cases g:O.blt (key^p.getD 0 0)^key^p.getD (n - 1) 0 with
   |true=>exact yes (h n p z e rfl r t b)
   | false=>
    have d:O.kle (KN O key p (n - 1))^KN O key p 0:=g;have w:n<=p.size:=by lk
    have a:∀k,0<=k->k<n->KN O key p k=KN O key p (n - 1):=by
     intro k _ K;have L:=b 0 k (by lk) K;have M:=b k (n - 1) (by lk) (by lk);exact rl M^pN d L
    refine no^Hl y ((CA _ _ _).trans z) (e.perm^CA _ _ _) (by rw[kas_rev_size];exact H) (by lk) (λi j q I=>?_) λP B Q R S T U V=>h P B Q R (S.trans^kas_rev_size _ _) T U V;rw[Bi w a,Bi w a]
    by_cases C:j<n
    .rw[a i (by lk)^by lk,a j (by lk) C];exact lY _
    .have D:j=n:=by lk
     subst D
     by_cases l:i=j
     .subst l;exact lY _
     .rw[a i (by lk)^by lk];exact pA u
  .rw[if_neg v]
   have x:n=1:=by lk
   subst x;refine Hl y z e H (by lk) (λi j q I=>?_) h
   by_cases l:i=j
   .subst l;exact lY _
   .have E:i=0:=by lk
    have F:j=1:=by lk
    subst E;subst F
    exact pA u
theorem JF(m:Z2 O key N cmp s)(g:Bd N p)(j:Srt O key p k)
  (h:∀l,l<=k->(∀i,i<l->O.kle (KN O key p i)^KN O key p k)->(∀i,l<=i->i<k->O.klt (KN O key p k)^KN O key p i)->G l s):∀(f l r:Nat),l<=r->r<=k->r - l<=f->
  (∀i,i<l->O.kle (KN O key p i)^KN O key p k)->(∀i,r<=i->i<k->O.klt (KN O key p k)^KN O key p i)->(kas_place p k f l r).kasWp cmp G s
 |0,l,r,n,d,t,b,c=>by
  have:l=r:=by lk
  subst this;exact h l d b c
 | f+1,l,r,n,d,t,b,c=>by
  unfold kas_place
  by_cases e:l≥r
  .rw[if_pos e]
   have:l=r:=by lk
   subst this;exact h l d b c
  .rw[if_neg e]
   refine m _ _ _ (g.get _) (g.get _) ?_;cases a:O.blt (key^p.getD k 0)^key^p.getD ((l+r) / 2) 0 with
   |true=>
    have o:O.klt (KN O key p k)^KN O key p ((l+r) / 2):=a;exact yes^JF m g j h f l ((l+r) / 2) (by lk) (by lk) (by lk) b λi q u=>KeyOrd.klt_of_klt_of_kle o^j _ _ q u
   |false=>
    have o:O.kle (KN O key p ((l+r) / 2))^KN O key p k:=a;exact no^JF m g j h f ((l+r) / 2+1) r (by lk) (by lk) (by lk) (λi q=>pN (j i ((l+r) / 2) (by lk)^by lk) o) c
theorem EO(y:Z2 O key N cmp s)(h:∀r,r.Perm p0->Srt O key r n->G r s):∀(f:Nat) (p:Array Nat) (k:Nat),p.Perm p0->Bd N p->n<=p.size->k+f=n->Srt O key p k->(kas_bin f p k).kasWp cmp G s
 |0,p,k,t,u,z,e,d=>h p t^by rw[←e];exact d
 | f+1,p,k,t,u,z,e,d=>by
  rw[show kas_bin (f+1) p k=(kas_place p k k 0 k).bind λl=>kas_bin f (bubble p k (k - l)) (k+1)from rfl,KasT.kasWp_bind];refine JF y u d (λl A v w=>?_) k 0 k (jp _) (Sc _) (by lk) (λi B=>by lk) λi a b=>by lk
  have g:k<p.size:=by lk
  refine EO y h f _ (k+1) ((bubble_perm _ _ _).trans t) (u.perm^bubble_perm _ _ _) (by rw[bubble_size];exact z) (by lk) λi j x C=>?_;rw[Ly g^by lk,Ly g^by lk,show k - (k - l)=l by lk]
  by_cases m:i=l
  .rw[if_pos m]
   by_cases c:j=l
   .rw[if_pos c];exact lY _
   .rw[if_neg c,if_pos^by lk]
    exact pA^w (j - 1) (by lk)^by lk
  .rw [if_neg m]
   by_cases o:l<i/\i<=k
   .rw[if_pos o,if_neg^by lk,if_pos^by lk]
    exact d (i - 1) (j - 1) (by lk)^by lk
   .rw[if_neg o]
    by_cases c:j=l
    .rw[if_pos c];exact v i^by lk
    .rw[if_neg c]
     by_cases q:l<j/\j<=k
     .rw[if_pos q]
      exact d i (j - 1) (by lk)^by lk
     .rw[if_neg q]
      exact d i j x^by lk
theorem sort_ok(h1:1<=n)(b:Z2 O key n cmp s)(h:∀p,p.Perm^kC^kH n->Srt O key p n->G p s):(kas_sort n).kasWp cmp G s:=by
 unfold kas_sort;rw[KasT.kasWp_bind];have e:Bd n^kC^kH n:=#[h1,λx j=>by grind];have f:(kC^kH n).size=n:=by simp
 refine WV b (rH _) e (by lk) h1 λm c d g k l o i=>?_
 by_cases a:m<n
 .rw[if_pos a,show max m 1=m by lk]
  exact EO b h _ c m d g (by lk) (by lk) i
 .rw[if_neg a]
  exact h c d^by grind
end
end So
namespace L2
open PySem.W
def bX:Key->Key->Bool
 |.inl i,.inl j=>decide (i<j)
 |.inr x,.inr y=>decide (x.cps.toList<y.cps.toList)
 |.inl _,.inr _=>t_
 |.inr _,.inl _=>u_
def Be:v_ Key->v_ Key->Bool
 |[],[]=>u_
 |[],_::_=>t_
 |_::_,[]=>u_
 |x::a,y::b=>if x=y then Be a b else bX x y
theorem Py:∀x:Key,bX x x=u_
 |.inl i=>decide_eq_false^Int.lt_irrefl i
 |.inr x=>decide_eq_false^nJ _
theorem Sn:∀x y z:Key,bX x y=t_->bX y z=t_->bX x z=t_
 |.inl i,.inl j,.inl k,a,b=>decide_eq_true^Int.lt_trans (of_decide_eq_true a)^of_decide_eq_true b
 |.inr i,.inr j,.inr k,a,b=>decide_eq_true^nX (of_decide_eq_true a)^of_decide_eq_true b
 |.inl i,.inl j,.inr k,_,_=>rfl
 |.inl i,.inr j,.inr k,_,_=>rfl
 |.inl i,.inr j,.inl k,_,h=>by cases h
 |.inr i,.inl j,_,h,_=>by cases h
 |.inr i,.inr j,.inl k,_,h=>by cases h
theorem LP:∀x y:Key,bX x y=u_->bX y x=u_->x=y
 |.inl i,.inl j,c,d=>congrArg _^by have a:=of_decide_eq_false c;have b:=of_decide_eq_false d;lk
 |.inr x,.inr y,c,d=>by
  have e:=List.le_antisymm (of_decide_eq_false d)^of_decide_eq_false c;let#[u]:=x
  simp_all
 |.inl i,.inr j,h,_=>by cases h
 |.inr i,.inl j,_,h=>by cases h
theorem Ci:∀x:v_ Key,Be x x=u_
 |[]=>rfl
 |x::a=>by unfold Be;rw[if_pos rfl];exact Ci a
theorem DF:∀x y z:v_ Key,Be x y=t_->Be y z=t_->Be x z=t_
 |[],[],_,h,_=>by cases h
 |[],_::_,[],_,h=>by cases h
 |[],_::_,_::_,_,_=>rfl
 |_::_,[],_,h,_=>by cases h
 |_::_,_::_,[],_,h=>by cases h
 | x::f,y::g,z::i,a,b=>by
  unfold Be at a b ⊢
  by_cases d:x=y
  .subst d
   rw[if_pos rfl]at a
   by_cases c:x=z
   .subst c
    rw[if_pos rfl]at b ⊢;exact DF f g i a b
   grind
  .rw[if_neg d]at a
   by_cases c:y=z
   .grind
   .rw[if_neg c]at b
    have e:=Sn x y z a b
    by_cases j:x=z
    .subst j
     rw[Py]at e;cases e
    grind
theorem CS:∀x y:v_ Key,Be x y=u_->Be y x=u_->x=y
 |[],[],_,_=>rfl
 |[],_::_,h,_=>by cases h
 |_::_,[],_,h=>by cases h
 | x::c,y::d,a,b=>by
  unfold Be at a b
  by_cases e:x=y
  .subst e
   rw[if_pos rfl]at a b;rw[CS c d a b]
  .rw[if_neg e]at a
   rw[if_neg λz=>e z.symm]at b;exact absurd (LP x y a b) e
def SR:KeyOrd:=#[v_ Key,Be,Ci,DF,λa b c h=>by
 cases e:Be a b with
 |true=>exact .inl rfl
 |false=>
  cases d:Be b a with
  |true=>exact .inr^DF b a c d h
  |false=>rw[←CS a b e d];exact .inr h,CS]
theorem Mc:∀x y:v_ Key,BI x y=t_->Bu x y=Be x y
 |[],[],_=>rfl
 |[],_::_,_=>rfl
 |_::_,[],_=>rfl
 | x::b,y::c,h=>by
  have a:(HR x y&&BI b c)=t_:=h;rw[jv]at a;unfold Bu Be
  by_cases e:x=y
  .rw[if_pos e,if_pos e];exact Mc b c a.2
  .rw[if_neg e,if_neg e]
   cases x with
   |inl i=>cases y with
    |inl j=>rfl
    |inr z=>cases a.1
   |inr i=>cases y with
    |inl j=>cases a.1
    |inr z=>rfl
section

theorem Vm:∀(a c:v_ Key) (k l:v_ Db) (i:Nat),zv (a.map kOf) k->zv (c.map kOf) l->BI a c=t_->a.length+j=c.length+h->Q (Bu a c) s->
  KatLex prog w A b (decide (h<j)) Q (k.zip l) i s
 |[],[],k,l,i,o,p,_,g,q=>by
  cases o;cases p;refine kat_nil ?_;rw[show decide (h<j)=u_ from decide_eq_false^by simp only[j_]at g;lk];exact q
 |[],m::c,k,l,i,o,p,_,g,q=>by
  cases o;rw[qc];refine kat_nil ?_;rw[show decide (h<j)=t_ from decide_eq_true^by simp only[j_,f8]at g;lk];exact q
 |n::a,[],k,l,i,o,p,_,g,q=>by
  cases p;rw[qK];refine kat_nil ?_;rw[show decide (h<j)=u_ from decide_eq_false^by simp only[j_,f8]at g;lk];exact q
 | n::a,m::c,k,l,i,o,p,F,g,q=>by
  have d:(HR n m&&BI a c)=t_:=F;rw[jv]at d;have f:Q (if n=m then Bu a c else c_ n m) s:=q;cases o with
  | @cons _ u _ r t G=>
   cases p with
   | @cons _ v _ B C H=>
    rw[lP];have D:n=m->KatLex prog w A b (decide (h<j)) Q (r.zip B) (i+1) s:=λe=>Vm a c r B (i+1) G H d.2 (by simp only[f8]at g;lk) (by rw[if_pos e]at f;exact f);cases n with
    | inl x=>
     cases m with
     |inr y=>cases d.1
     | inl y=>
      let#[I,rfl]:=t;let#[J,rfl]:=C;refine kat_cons^wpAny_eqBool_int ?_
      by_cases e:x=y
      .rw[show(x==y)=t_ by simpa using e]
       exact kat_yes^D^by rw[e]
      .rw[show(x==y)=u_ by simpa using e]
       refine kat_no ?_;rw[if_neg λz=>e^Sum.inl.inj z]at f;cases K:(b&&i==0)with
       |true=>exact oneLt_int f
       |false=>exact kat_one _ _^rM (show PySem.W.BoolBack Q (.bool (decide (x<y))) s from f)
    | inr x=>
     cases m with
     |inl y=>cases d.1
     | inr y=>
      let#[I,rfl]:=t;let#[J,rfl]:=C;refine kat_cons^wpAny_eqBool_str ?_
      by_cases e:x=y
      .rw[show decide (x=y)=t_ by simpa using e]
       exact kat_yes^D^by rw[e]
      .rw[show decide (x=y)=u_ by simpa using e]
       refine kat_no ?_;rw[if_neg λz=>e^mG z]at f;cases K:(b&&i==0)with
       |true=>exact oneLt_str f
       |false=>exact kat_one _ _^PySem.P.lt_str (show PySem.W.BoolBack Q (.bool (decide (x.cps.toList<y.cps.toList))) s from f)
structure Ry (h:jq) (ks:List Db) (keys:List^List Key):Prop where
 at_:∀(i:Nat) (ns:List Key),keys[i]?=P3 ns->∃a o its n,ks[i]?=P3^.ref a/\h.get? a=P3 o/\o.cls=.type "tuple"/\o.data=.seq its n/\zv (ns.map kOf) its.toList
 len:ks.length=keys.length
 same:∀x∈keys,∀y∈keys,BI x y=t_
 ne:∀x∈keys,x≠[]
def gf:Key->String
 |.inl _=>"int"
 |.inr _=>"str"
theorem firsts:∀(g:v_ Db) (b:v_^v_ Key) (T:String),g.length=b.length->(∀(i:Nat) (u:v_ Key),b[i]?=P3 u->∃a o c n,g[i]?=P3^.ref a/\h.get? a=P3 o/\o.cls=.type "tuple"/\o.data=.seq c n/\zv (u.map kOf) c.toList)->
  (∀x∈b,∃k r,x=k::r/\gf k=T)->∃j:v_ Db,KatTups h g j/\j.length=b.length/\∀v∈j,typeOf v=pure^.type T
 |[],[],T,_,_,_=>#[[],trivial,rfl,λv l=>by cases l]
 |[],_::_,T,m,_,_=>by cases m
 |_::_,[],T,m,_,_=>by cases m
 | k::g,x::b,T,m,z,B=>by
  let#[j,F,G,H]:=firsts g b T (by simpa using m) (λi u e=>by
   let#[a,o,c,n,p,r]:=z (i+1) u (by simpa using e);exact#[a,o,c,n,by simpa using p,r]) λy I=>B y^Rs _ I
  let#[a,o,c,n,p,J,K,L,q]:=z 0 x rfl;have p:k=.ref a:=by simpa using p
  subst p;let#[k,r,rfl,C]:=B x No;rw[jy]at q;cases d:c.toList with
  |nil=>rw[d]at q;cases q
  | cons f M=>
   rw[d]at q;cases q with
   | cons D N=>
    refine#[f::j,KatTups.cons J K L (by rw[←oH,d];rfl) F,by rw[f8,f8,G],λv l=>?_]
    rcases UF.mp l with rfl|l
    .cases k with
     |inl i=>let#[t,rfl]:=D;subst C;rfl
     |inr i=>let#[t,rfl]:=D;subst C;rfl
    .exact H v l
theorem LB(K:Ry s.heap c keys)(h2:2<=c.length)(h:∀p,p.Perm^kC^kH c.length->So.Srt SR (λi=>keys.getD i []) p c.length->G p s):
  wpAny (model prog w) A (keyKind' c.toArray) (λN P=>(kas_sort c.length).kasWp (kas_ask prog w A N c) G P) (λ_ _=>False) s:=by
 obtain⟨f,I,Q⟩:∃f I,keys=f::I:=by
  cases e:keys with
  |nil=>have:=K.len;rw[e]at this;simp only[j_]at this;lk
  |cons x r=>exact#[x,r,rfl]
 have J:f∈keys:=by rw[Q];exact No
 obtain⟨m,R,S⟩:∃k r,f=k::r:=by
  cases e:f with
  |nil=>exact absurd e^K.ne f J
  |cons k r=>exact#[k,r,rfl]
 have y:∀x∈keys,∃k r,x=k::r/\gf k=gf m:=λx L=>by
  cases e:x with
  |nil=>exact absurd e^K.ne x L
  | cons k r=>
   exists k,r,rfl;have b:=K.same x L f J;rw[e,S]at b;have b:(HR k m&&BI r R)=t_:=b;rw[jv]at b;cases k with
   |inl i=>cases m with
    |inl j=>rfl
    |inr j=>cases b.1
   |inr i=>cases m with
    |inl j=>cases b.1
    |inr j=>rfl
 let#[fs,z,B,T]:=firsts c keys (gf m) K.len K.at_ y;refine kat_kind z (by rw[B,←K.len];lk) (λv U=>by rw[T v U];exact Looks.now) (by simp) ?_;refine So.sort_ok (O:=SR) (key:=λi=>keys.getD i []) (by lk) (λi j C V W X=>?_) h;have g:i<keys.length:=by rw[←K.len];exact V
 have l:j<keys.length:=by rw[←K.len];exact W
 let#[a,o,q,n,Y,Z,e3,e4,M]:=K.at_ i keys[i] (Op g);let#[a',o',d,n',D,F,a0,H,t]:=K.at_ j keys[j] (Op l);unfold kas_ask;rw[show c.getD i kE=.ref a by rw[j9,Y];rfl,show c.getD j kE=.ref a' by rw[j9,D];rfl];have b:=K.same _ (lJ g) _^lJ l;refine kat_lt Z e4 F H (Vm keys[i] keys[j] _ _ 0 M t b ?_ ?_)
 .have l1:=M.length
  have l2:=t.length;have l3:(keys[i].map kOf).length=keys[i].length:=Ev ..;have l4:(keys[j].map kOf).length=keys[j].length:=Ev ..;have l5:q.toList.length=q.size:=kT;have l6:d.toList.length=d.size:=kT;lk
 .rw[Mc _ _ b]
  have z:keys.getD i []=keys[i]:=by rw[j9,Op g];rfl
  have B:keys.getD j []=keys[j]:=by rw[j9,Op l];rfl
  have u:C (Be (keys.getD i [])^keys.getD j []) s:=X;rw[z,B]at u;exact u
def Cy(d:argsOk "sorted" #[[v],kw])(e:∀x,argsOk "list.sort" #[[.ref x],kw])
  (j:wpAny (model prog w) A.in1 (collect v) (λf a=>f.length<=sizeLine/\wpAny (model prog w) A.in1.in1 (lm.«list.sort» #[[.ref a.heap.objs.size],kw]) (λb g=>b=.done^.ret .none/\Q (.ref a.heap.objs.size) g) E {a with heap:=a.heap.push^seqObj "list" f.toArray 0}) E s):
  wpAny (model prog w) A (call (.builtin "sorted") [v] kw) Q E s:=call_function_entry_kw kind_sorted plain_sorted entry_sorted d^Cn^On^Cn^kP j (λf a h=>Cn^qV (Cn^kQ^wpAny_call_entry_kw PyProof.Rows.slot_list_sort #[_,TW _ rfl,rfl] PyProof.Rows.entry_list_sort (kP h.2 (λb g i=>#[_,i.1,On #[_,rfl,i.2]]) λ_ _ x=>x)^e _) h.1) λ_ _ x=>x
def DN(h:jq)(D:Ch)(a:v_ Db):jq:=((h.update D^km λ_=>(#[]:Array Db)).push^seqObj "tuple" a.toArray 0).push^seqObj "list" #[] 0
def Gp(c:b≠D)(e:h.get? b=P3 o):(DN h D a).get? b=P3 o:=
 FM _ (FM _^(jl _ _^kM c).trans e)
def Ir(d:h.get? D=P3^seqObj "list" c.toArray n):∃a,(DN h D c).get? D=P3^seqObj "list" #[] a/\(h.update D^km λ_=>(#[]:Array Db)).get? D=P3^seqObj "list" #[] a:=by
 obtain⟨a,b⟩:∃a,(h.update D _).get? D=P3^seqObj _ _ a:=#[_,n6 d _];exact#[a,FM _^FM _ b,b]
theorem Nx{G:Array Nat->Prop}(r:s.heap.get? D=P3^seqObj "list" a.toArray n)(t:a.length<64)
  (u:2<=a.length->wpAny (model prog w) A (keyKind' a.toArray) (λJ k=>(kas_sort a.length).kasWp (kas_ask prog w A J a) (λp v=>v={s with heap:=DN s.heap D a}/\G p) k) (λ_ _=>False) {s with heap:=DN s.heap D a})
  (h1:a.length<2->G^kC^kH a.length) (l:∀(p:Array Nat) (y:jq) (c:Nat),p.size=a.length->G p->(∀b o,b≠D->s.heap.get? b=P3 o->y.get? b=P3 o)->y.get? D=P3^seqObj "list" (kC^p.toList.map λi=>a.getD i kE) c->P (.done^.ret .none) {s with heap:=y}):
  wpAny (model prog w) A (lm.«list.sort» #[[.ref D],[]]) P E s:=by
 let#[U,d,z]:=Ir r
 have m:∀(p:Array Nat),p.size=a.length->G p->P (.done^.ret .none) {s with heap:=(DN s.heap D a).update D^km λ_=>kC^p.toList.map λi=>a.getD i kE}:=λp q B=>by
  obtain⟨C,F⟩:∃C,((DN s.heap D a).update D^km λ_=>kC^p.toList.map λi=>a.getD i kE).get? D=P3^seqObj "list" (kC^p.toList.map λi=>a.getD i kE) C:=#[_,n6 d λ_=>kC^p.toList.map λi=>a.getD i kE];exact l p _ C q B (λb o K e=>(jl _ _^kM K).trans^Gp K e) F
 rw[list_sort_plain];refine Cn (pq r rfl ?_);refine Cn (m7 r rfl ?_ (by rw[jn,kJ];lk) (jp _));refine Cn (qH z rfl ?_);refine Cn (wpAny_newTuple ?_^by show a.length<=_;rw[kJ];lk);refine Cn^qV ?_^jp _;refine kQ ?_;show wpAny (model prog w) A _ P E {s with heap:=DN s.heap D a}
 dsimp only
 by_cases H:a.length<2
 .have f:a.toArray.size<2:=by rw[jn];exact H
  rw[if_pos f,if_pos f];refine Cn^On ?_;rw[StateT.run_pure];refine Cn^On ?_
  dsimp only
  refine Cn (qH d rfl ?_);have h:(kC^kH a.length).size=a.length:=by simp
  have g:(arrOf^SortSt.mk' general' (a.toArray.zip a.toArray) #[] 7 s_).map (·.2)=kC ((kC^kH a.length).toList.map λi=>a.getD i kE):=by
   refine kat_snds rfl ?_;have e:=kas_range^a.toArray.zip a.toArray;rw[show(a.toArray.zip a.toArray).size=a.length by simp]at e;exact e.symm
  rw[g];refine Cn (m7 d rfl ?_ (jp _) (by rw[jn,Ev,kT,h,kJ];lk));simp only[bne_self_eq_false,kG,if_false];exact On^m _ h^h1 H
 .have f:¬a.toArray.size<2:=by rw[jn];exact H
  rw[if_neg f,if_neg f];refine Cn^kP (u^by lk) (λJ V u=>?_) λ_ _ x=>x.elim
  refine Cn (kP (kat_run (Q:=λj k=>∃p:Array Nat,p.size=a.length/\arrOf j=p.map^kas_item^a.toArray.zip a.toArray/\failedOf j=s_/\k={s with heap:=DN s.heap D a}/\G p)
   rfl (by lk) t (λM j k N O R S=>#[M,N,O,R,S]) u) ?_ λ_ _ e=>e)
  rintro⟨⟨⟩,j⟩ k ⟨p,q,I,T,rfl,B⟩
  dsimp only
  have g:=kat_snds rfl I;have h:(kC^p.toList.map λi=>a.getD i kE).size=a.length:=by rw[jn,Ev,kT,q]
  rw[g];refine Cn (qH d rfl ?_);refine Cn (m7 d rfl ?_ (jp _) (jr (pc h)^by rw[kJ];lk));rw[T];simp only[bne_self_eq_false,kG,if_false];exact On^m p q B
theorem Sq(U:s.heap.get? D=P3^seqObj "list" a.toArray n)(Y:a.length<64)(J:v_ Db->Go->Prop)(h:Ch)(M:h=s.heap.objs.size+1)
  (h0:∀r,(DN s.heap D a).get? D=P3^seqObj "list" #[] r->J [] {s with heap:=DN s.heap D a})
  (z:∀(d:v_ Db) (g:Go) (e:Nat) (v:Db),J d g->g.heap.get? h=P3^seqObj "list" d.toArray e->a[d.length]?=P3 v->wpAny (model prog w) A (call f [v]) (λk l=>l.heap.get? h=P3^seqObj "list" d.toArray e/\J (d++[k]) {l with heap:=l.heap.update h (km (·.push k))}) (λ_ _=>False) g)
  (N:∀(r:Nat),(DN s.heap D a).get? D=P3^seqObj "list" #[] r->∀(d:v_ Db) (g:Go),J d g->d.length=a.length->g.heap.get? D=P3^seqObj "list" #[] r/\∃G:Array Nat->Prop,
   (2<=a.length->wpAny (model prog w) A (keyKind' d.toArray) (λκ O=>(kas_sort a.length).kasWp (kas_ask prog w A κ d) (λp l=>l=g/\G p) O) (λ_ _=>False) g)/\(a.length<2->G^kC^kH a.length) /\
   ∀(p:Array Nat) (V:jq) (c:Nat),p.size=a.length->G p->(∀b o,b≠D->b≠h->g.heap.get? b=P3 o->V.get? b=P3 o)->V.get? D=P3^seqObj "list" (kC^p.toList.map λi=>a.getD i kE) c->(∃o,V.get? h=P3 o)->P (.done^.ret .none) {g with heap:=V}):
  wpAny (model prog w) A (ksk_tree D f u_) P E s:=by
 let#[r,R,Z]:=Ir U;have u:((s.heap.update D^km λ_=>(#[]:Array Db)).push^seqObj "tuple" a.toArray 0).objs.size=h:=by rw[size_push',Heap.size_update,M]
 have hD:D<s.heap.objs.size:=Tk U;have S:D≠h:=by rw[M];exact jo^lL hD
 have a0:(DN s.heap D a).get? h=P3^seqObj "list" #[] 0:=by rw[←u];exact TW _ rfl
 unfold ksk_tree;refine Cn (pq U rfl ?_);refine Cn (m7 U rfl ?_ (by rw[jn,kJ];lk) (jp _));refine Cn (qH Z rfl ?_);refine Cn (wpAny_newTuple ?_^by show a.length<=_;rw[kJ];lk);refine Cn^qV ?_^jp _;refine kQ ?_;show wpAny (model prog w) A (ksk_rest D f u_ a.toArray r^.ref ((s.heap.update D^km λ_=>(#[]:Array Db)).push^seqObj "tuple" a.toArray 0).objs.size) P E {s with heap:=DN s.heap D a};rw[u];unfold ksk_rest;refine Cn^ou ?_
 first
  |rw[List.forIn_toArray]
  |(rw[←Array.forIn_toList];simp only[List.toList_toArray])
  |rw[←Array.forIn_toList]
 refine Cn^ksk_fold (I:=λi g=>∃d e,pE d=i/\J d g/\g.heap.get? h=P3^seqObj "list" d.toArray e) a 0 _ #[[],0,rfl,h0 r R,a0] (λj x g hx hI=>?_) λg hI=>?_
 .let#[d,e,t,hJ,C]:=hI
  have hj:j<a.length:=(XV.mp hx).1;have t:d.length=j:=by lk
  refine Cn^nU^kP (z d g e x hJ C^by rw[t];exact hx) (λk l F=>?_) λ_ _ hF=>hF.elim;have ea:(kC d).push k=kC (d++[k]):=by simp
  obtain⟨H,K⟩:∃H,(l.heap.update h (km (·.push k))).get? h=P3^seqObj "list" (kC (d++[k])) H:=#[_,by rw[←ea];exact n6 F.1 (·.push k)]
  try dsimp only
  refine Cn (m7 F.1 rfl ?_ (by rw[jn,kJ];lk) (jr (pc (Array.size_push ..))^by rw[jn,kJ];lk));exact On #[rfl,d++[k],H,by rw[eq,kN];lk,F.2,K]
 .let#[d,e,t,hJ,C]:=hI
  have t:d.length=a.length:=by lk
  let#[a5,G,g2,g1,g3]:=N r R d g hJ t
  try dsimp only
  refine Cn (pq C rfl ?_)
  have y:∀(W:SortSt) (p:Array Nat),p.size=a.length->G p->(arrOf W).map (·.2)=kC (p.toList.map λi=>a.getD i kE)->failedOf W=s_->wpAny (model prog w) A (ksk_tail D u_ r (.ref h) W) P E g:=λW p X hg T hf=>by
   have a6:(kC^p.toList.map λi=>a.getD i kE).size=a.length:=by rw[jn,Ev,kT,X]
   obtain⟨ck,a7⟩:∃ck,(g.heap.update h^km λ_=>(#[]:Array Db)).get? h=P3^seqObj "list" #[] ck:=#[_,n6 C λ_=>#[]];have L:(g.heap.update h^km λ_=>(#[]:Array Db)).get? D=P3^seqObj "list" #[] r:=(jl _ _^kM S).trans a5;obtain⟨H,K⟩:∃H,((g.heap.update h^km λ_=>(#[]:Array Db)).update D^km λ_=>kC^p.toList.map λi=>a.getD i kE).get? D=P3^seqObj "list" (kC^p.toList.map λi=>a.getD i kE) H:=#[_,n6 L λ_=>kC^p.toList.map λi=>a.getD i kE];unfold ksk_tail
   try dsimp only
   rw[T];refine Cn (m7 C rfl ?_ (by rw[jn,kJ];lk) (jp _));refine Cn^mn ?_;refine Cn (qH L rfl ?_);refine Cn (m7 L rfl ?_ (jp _) (jr (pc a6)^by rw[kJ];lk));rw[hf];simp only[bne_self_eq_false,kG,if_false];refine On^g3 p _ H X hg (λb o a8 a9 e=>(jl _ _^kM a8).trans^(jl _ _^kM a9).trans e) K #[_,(jl _ _ S).trans a7]
  unfold ksk_end
  try dsimp only
  simp only[kG,if_false]
  by_cases h2:a.length<2
  .have m:a.toArray.size<2:=by rw[jn];exact h2
   rw[if_pos m,if_pos m];refine Cn^On ?_;rw[StateT.run_pure];refine Cn^On ?_
   try dsimp only
   refine y _ (kC^kH a.length) (by simp) (g1 h2) (kat_snds t ?_) rfl;have er:=kas_range^d.toArray.zip a.toArray;rw[show(d.toArray.zip a.toArray).size=a.length by simp[t]]at er;exact er.symm
  .have m:¬a.toArray.size<2:=by rw[jn];exact h2
   rw[if_neg m,if_neg m];refine Cn^kP (g2^by lk) (λκ s0 C=>?_) λ_ _ x=>x.elim
   refine Cn (kP (kat_run (Q:=λq O=>∃p:Array Nat,p.size=a.length/\arrOf q=p.map^kas_item^d.toArray.zip a.toArray/\failedOf q=s_/\O=g/\G p)
    t (by lk) Y (λp' q O a1 a2 a3 a4=>#[p',a1,a2,a3,a4]) C) ?_ λ_ _ e=>e)
   rintro⟨⟨⟩,q⟩ O ⟨p,X,b0,hf,rfl,hg⟩
   try dsimp only
   exact y q p X hg (kat_snds t b0) hf
end
section

structure To (X:Cx) (zF:List (Ch×Obj)) (D:Ch):Prop where
 new:X.s₀.heap.objs.size<=D
 loc:D≠X.env.locals
 cell:∀x c,X.env.cells.lookup x=P3 c->c≠D
 pin:∀p∈X.pn++zF,p.1≠D
 fs:D∉X.fs
def Inv.mine(I:Inv X zF σ H s)(h:s.heap.objs.size<=D):To X zF D:=by
 refine#[jr I.sz h,λz=>?_,λx c e z=>?_,λp a z=>?_,I.nofs h]
 .have:=I.lt
  rw[←z]at this;exact absurd this^nj.mpr h
 .let#[v,o,b,_]:=I.cell x c e
  have:=Tk b
  rw[z]at this;exact absurd this^nj.mpr h
 .let#[e,_]:=I.pin p a
  have:=Tk e
  rw[z]at this;exact absurd this^nj.mpr h
structure v8 (K:Frag) (H:Hp) (vs:List V) (keys:List^List Key):Prop where
 len:vs.length=keys.length
 at_:∀(i:Nat) (ns:List Key),keys[i]?=P3 ns->∃a,vs[i]?=P3^.ref a/\SqT K H a (ns.map kOf)
 same:∀x∈keys,∀y∈keys,BI x y=t_
 ne:∀x∈keys,x≠[]
def Hs(a:v_^v_ Key)(b:v_ Nat):Prop:=b.Perm^kH a.length/\∀i j,i<=j->j<a.length->Be (a.getD (b.getD j 0) [])^a.getD (b.getD i 0) []=u_
theorem v8.vy(I:Inv X zF σ H s)(r:zv d f)(k:v8 X.K H d c)(g:∀b o,s.heap.get? b=P3 o->h'.get? b=P3 o):Ry h' f c:=by
 refine#[λi h e=>?_,r.length.symm.trans k.len,k.same,k.ne];let#[a,j,l]:=k.at_ i h e;let#[u,m,p]:=r.get j;cases p;let#[q,x,#[o,t,v,n,w],_]:=I.tuple l;exact#[a,o,_,n,m,g a o t,v,w,by grind]
theorem Gk:∀{a:v_ V}{b:v_ Db},zv a b->∀i:Nat,RelV (a.getD i .non)^b.getD i kE
 |_,_,.nil,i=>by simp[RelV]
 |_,_,.cons r t,0=>by simpa using r
 |_,_,.cons r t,i+1=>by simpa using Gk t i
theorem Ig(h:∀i,RelV (f i)^g i):∀a:v_ Nat,zv (a.map f)^a.map g
 |[]=>.nil
 |i::a=>.cons (h i)^Ig h a
def getD_list(p:Array Nat)(i:Nat):p.getD i 0=p.toList.getD i 0:=by simp
def VO(c:a.length=n)(h1:p.Perm^kC^kH n)(d:So.Srt SR (λi=>a.getD i []) p n):Hs a p.toList:=by
 subst c;refine#[Array.perm_iff_toList_perm.mp h1,λi j b e=>?_];have h:=d i j b e;unfold So.KN at h;rw[getD_list,getD_list]at h;exact h
theorem LG(I:Inv X zF σ H s)(r:zv d f)(B:d.length<64)(k:v8 X.K H d keys)
  (q:∀(v:v_ Nat) (l:Ch),Hs keys v->H l=s_->Q (.ref l)^AX H l^.lst^v.map λi=>d.getD i .non):
  wpAny (model X.prog X.w) z (lm.«list.sort» #[[.ref s.heap.objs.size],[]]) (λm C=>m=.done^.ret .none/\EP X zF σ Q (.ref s.heap.objs.size) C) A {s with heap:=s.heap.push^seqObj "list" f.toArray 0}:=by
 have x:=r.length;have t:keys.length=f.length:=k.len.symm.trans x;refine Nx (G:=λp=>p.Perm _/\So.Srt SR (λi=>keys.getD i []) p f.length) (n:=0) (TW _ rfl) (by lk) (λD=>?_) (λL=>#[rH _,λi j E M=>?_]) λp h' c N y g F=>#[rfl,?_]
 .refine LB (keys:=keys) (k.vy I r λb o e=>?_) D λp a b=>#[rfl,a,b]
  exact Gp (jo^Tk e)^FM _ e
 .have:i=j:=by lk
  subst this;exact lY _
 .have J:H s.heap.objs.size=s_:=I.fresh
  have u:(p.toList.map λi=>d.getD i .non).length=f.length:=by grind
  refine#[.ref s.heap.objs.size,AX H s.heap.objs.size^.lst _,I.laid (t':=s.toks) (λb o e=>g b o (jo^Tk e)^FM _ e) (Sc _) #[by rw[u,←x,kJ];lk,_,c,Ig (Gk r) p.toList,F],rfl,q _ _ (VO t y.1 y.2) J]
theorem OW(e:IsTup s.heap l b.toArray)
  (h:Q b {s with heap:=(s.heap.push^seqObj "list" #[] 0).update s.heap.objs.size (km (·++b.toArray))}) (g:b.length<=sizeLine):
  wpAny (model c w) A (collect^.ref l) Q E s:=by
 let#[o,i,j,n,k]:=id e;unfold collect;refine Cn^wpAny_runValue^lZ entry_proto_collect' ?_;show wpAny _ _ (do again (.builtin "list.__iadd__" #[[←newList [],.ref l],[]])) _ _ s;refine Cn^qV^On #[nk _ (by decide +kernel),lZ entry_list_iadd' ?_];show wpAny _ _ (mw (.ref s.heap.objs.size) (.ref l)^.ref s.heap.objs.size) _ _ {s with heap:=s.heap.push^seqObj "list" #[] 0};unfold mw;have d:(s.heap.push^seqObj "list" #[] 0).get? l=P3 o:=FM _ i;refine Cn^oj (T:="tuple") #[o,d,j] ?_;have m:(kZ "tuple"==kZ "tuple")=t_:=by rfl
 rw[if_pos^by rw[m];simp];refine Cn^pq d k ?_;refine Cn (pq (xs:=#[]) (n:=0) (TW _ rfl) rfl ?_);rw[if_neg^by simp];refine Cn (m7 (xs:=#[]) (n:=0) (TW _ rfl) rfl ?_ (jp _) (by show(#[]++b.toArray).size<=sizeLine+1;simp only[Array.size_append,jn,j_];lk));refine On ?_
 show wpAny (model c w) A (do
   let o ←load s.heap.objs.size
   match o.data with
   |.seq xs _=>pure xs.toList
   |_=>unsupported "internal:collect") Q E {s with heap:=(s.heap.push^seqObj "list" #[] 0).update s.heap.objs.size (km (·++b.toArray))}
 refine Cn^wpAny_load (n6 (TW _ rfl) _) ?_;show wpAny _ _ (pure ((#[]:Array Db)++b.toArray).toList) Q E _;rw[show((#[]:Array Db)++b.toArray).toList=b by simp];exact On h
def OX{h:jq}(e:h.get? b=P3 o):((h.push^seqObj "list" #[] 0).update h.objs.size^km g).get? b=P3 o:=
 (jl _ _^kM^jo^Tk e).trans (FM _ e)
def Jz(I:Inv X zF σ H s)(h:SqK κ X.K H p c)(q:∀f g,zv c f->c.length<=sizeLine->Inv X zF σ H g->Q f g):
  wpAny (model X.prog X.w) i (collect^.ref p) Q j s:=by
 cases κ with
 |true=>
  let#[d,r,pl,a]:=I.list h;exact collect_list pl.isList (q _ _ r a^I.kept λb o e=>OX e)^by rw[←r.length];exact a
 |false=>
  let#[d,r,pl,a]:=I.tuple h;exact OW pl (q _ _ r a^I.kept λb o e=>OX e)^by rw[←r.length];exact a
def Up(K:Frag):v_ V->Hp->VK->Prop:=λd H Q=>∃(e:Bool) (p:Ch) (b:v_ V) (a:v_^v_ Key),d=[.ref p]/\SqK e K H p b/\b.length<64/\v8 K H b a /\
 ∀(c:v_ Nat) (l:Ch),Hs a c->H l=s_->Q (.ref l)^AX H l^.lst^c.map λi=>b.getD i .non
def J8:zS X (.builtin "sorted")^Up X.K:=by
 intro zF s σ H k d Q I r h;let#[l,p,m,b,rfl,e,a,f,q]:=h;let#[u,rfl,g]:=vals1 r;cases g;exact Cy (args_sorted1 _) (λx=>args_list_sort _)^Jz I e λd n c i j=>#[by rw[←c.length];exact i,LG j c a f q]
end
def eY:R2:=λy x H Q=>∃a o,x=.ref a/\vS H a y o/\Q (.bl o.isSome) H
def ZN:R2:=λy x H Q=>∃a o,x=.ref a/\vS H a y o/\Q (.bl (!o.isSome)) H
def Us:R2:=λx y H Q=>∃a v,x=.ref a/\vS H a y^P3 v/\Q v H
def VQ(b:zy k X.A):OpR X (compareOp .In) eY:=by
 intro f s h H y x i u Q I c d #[a,j,ex,g,q];subst ex;obtain rfl:u=Uf a:=d;exact ie (GI b) I g c λl e=>#[.bl _,H,e,rfl,q]
def E7(b:zy k X.A):OpR X (compareOp .NotIn) ZN:=by
 intro f s h H y x i u Q I c d #[a,j,ex,g,q];subst ex;obtain rfl:u=Uf a:=d;exact YZ (GI b) I g c λl e=>#[.bl _,H,e,rfl,q]
end L2
namespace Dp
open L2
def BO:v_ Key->v_ D->Key->w_ D
 |a::b,d::c,k=>if a=k then P3 d else BO b c k
 |_,_,_=>s_
section
variable {K:Frag}
theorem Fw:∀{ks:v_ Key}{b:v_ D}{a:v_ V},Ats K M H b a->
  match BO ks b k with
  |some z=>∃v,Cw (ks.zip a) k=P3 v/\At K M H z v
  |none=>Cw (ks.zip a) k=s_
 |[],b,a,h=>by exact rfl
 |c::ks,[],a,h=>by cases h;exact rfl
 | c::ks,d::b,a,h=>by
  let#[v,r,rfl,f,g]:=h;have i:=Fw (k:=k) (ks:=ks) g;unfold BO
  by_cases e:c=k
  .rw[if_pos e]
   refine#[v,?_,f];show Cw ((c,v)::ks.zip r) k=P3 v;rw[Dk e]
  .have:Cw ((c,v)::ks.zip r) k=Cw _ k:=Dl e
   simp_all
def keyOf:D->w_ Key
 |.int i=>P3^.inl i
 |.str x=>P3^.inr x
 |_=>s_
def DK(e:keyOf d=P3 k)(h:AtT K U M H d v):v=kV k:=by
 cases d with
 |int i=>cases e;exact h
 |str x=>cases e;exact h.str.1
 |_=>cases e
def Jr:D->w_ (v_ Key×v_ D)
 |.dic a b=>P3 (a,b)
 |.fdi a b=>P3 (a,b)
 |_=>s_
def Jq(e:Jr d=P3 (g,i))(h:AtT K U M H d x):∃a b,x=.ref a/\Rd H a^.dK^g.zip b/\Ats K M H i b:=by
 cases d with
 |dic j k=>cases e;let#[a,b,rfl,_,c,_,f]:=h;exact#[a,b,rfl,.inl c,f]
 |fdi j k=>cases e;let#[a,b,rfl,#[o,_,c],_,f]:=h;exact#[a,b,rfl,.inr #[o,c],f]
 |_=>cases e
def IS(e:Rd H a^.dK b):vS H a (kV k)^Cw b k:=.inl #[_,k,e,rfl,rfl]
def TB(a:Bool)(e d:D)(P:D->Prop):Prop:=∃b c k,Jr d=P3 (b,c)/\keyOf e=P3 k/\P^.bl (if a then !(BO b c k).isSome else(BO b c k).isSome)
def CK(d e:D)(P:D->Prop):Prop:=∃a b k z,Jr d=P3 (a,b)/\keyOf e=P3 k/\BO a b k=P3 z/\P z
def Zv:Dg K .sh eY^TB u_:=λU M H e d y x P Q b o f g w q=>by
 let#[ks,i,k,j,l,w]:=w;let#[a,p,rfl,m,n]:=Jq j g;refine#[a,_,rfl,by rw[DK l f];exact IS m,q _ H (.bl _) .refl rfl ?_];have h:=Fw (k:=k) (ks:=ks) n;cases c:BO ks i k with
 |none=>simp_all
 |some z=>rw[c]at h w;let#[v,r,_]:=h;simp_all
def Ga:Dg K .sh ZN^TB t_:=λU M H e d y x P Q b o f g w q=>by
 let#[ks,i,k,j,l,w]:=w;let#[a,p,rfl,m,n]:=Jq j g;refine#[a,_,rfl,by rw[DK l f];exact IS m,q _ H (.bl _) .refl rfl ?_];have h:=Fw (k:=k) (ks:=ks) n;cases c:BO ks i k with
 |none=>simp_all
 |some z=>rw[c]at h w;let#[v,r,_]:=h;simp_all
def cV:Dg K .sh Us CK:=λU M H d e x y P Q b p c f w q=>by
 let#[ks,r,k,z,g,i,j,w]:=w;let#[a,s,rfl,l,m]:=Jq g c;have h:=Fw (k:=k) (ks:=ks) m;rw[j]at h;let#[v,n,o]:=h;exact#[a,v,rfl,by rw[DK i f,←n];exact IS l,q v H z .refl o w]

def As(g:zy k X.A)(h:DE X a zU wa)(i:DE X b zR wb)(j:Yt b:=by intro _ _;rfl):DE X (.Subscript a b pos) .sh^Ak CK wa wb:=by
 let#[o,c,d]:=h;let#[p,e,f]:=i;exact#[_,IH (GI g) c e j,λC M H n l m P Q R w q=>EO cV d f C M H n l m P Q R w q]
end
def Y5(i:Nat)(w:DW):AY:=λe n c=>∃a:Int,c[i]?=P3^.sh^.int a/\w n c λd f=>∃b:Int,d=.int b/\e.nx f^c.set i^.sh^.int (a+b)
def YI(k:X.N.Nodup)(hi:X.N[i]?=P3 x)(l:Loc X.env.scope x)(m:DE X e j g)
  (o:X.lO x:=by first|exact .inl rfl|exact .inr rfl|assumption):DS X h (.AugAssign (.Name x c) .Add e pos)^Y5 i g:=by
 let#[t,q,r]:=m;refine#[_,bA k hi l q bo o,λC M H n s u G E R L w=>?_];let#[a,y,w]:=w;let#[v,f,z]:=R.sl i _ y;cases(z);refine#[_,getD_some f,r C M H n s u _ _ R w λv A d B f D F p=>?_];let#[b,rfl,p]:=p;exact#[a,b,rfl,P4 F,L.nx M A B _ _ ((R.step f D).set (d:=.int _) rfl) p]
end Dp
namespace L2
open PySem.W
section

theorem Inv.adopt2(I:Inv X zF σ H s)(m:To X zF D)(h:H D=s_)(i:To X zF e)(j:H e=s_)(l:D≠e)(k:∀b u,b≠D->b≠e->s.heap.get? b=P3 u->h'.get? b=P3 u)(new:zh X.prog X.w (AX H D o) h' D o):Inv X zF σ (AX H D o) {s with heap:=h'}:=by
 have a:∀b,b∉[D,e]->b≠D/\b≠e:=λb d=>#[λz=>d (by rw[z];exact No),λz=>d^by rw[z];exact Rs _ (Re.mpr rfl)]
 refine I.step (g':=s.gens) (d':=s.drawn) (t':=s.toks) (ch:=[D,e]) (λb g=>?_) (λb u _ _ d q _=>k b u (a b d).1 (a b d).2 q) (λb u _ _ d q _=>#[u.slots,k b u (a b d).1 (a b d).2 q]) (λb u d q n=>?_)
  (λb u d q=>#[u,k b u (a b d).1 (a b d).2 q]) (λb p q=>?_) (λb u v q=>?_) (λb B q=>#[#[],?_]) (λC t=>?_) (λb u q=>?_) I.bare
 .rcases UF.mp g with rfl|g
  .exact#[.inr m.new,m.loc,m.cell,m.pin]
  .rw[Re.mp g]
   exact#[.inr i.new,i.loc,i.cell,i.pin]
 .rw[AG (a b d).1];exact n
 .rw[AG^Aa q h];exact q
 .rw[AG^Aa q h];exact q
 .rw[AG^Aa q h,q];simp
 .let#[u,x,y,A,r]:=t
  exact#[u,x,y,k _ u (kM m.loc) (kM i.loc) A,r]
 .by_cases g:b=D
  .subst g;rw[AI]at q;cases q;exact new
  .rw[AG g]at q
   refine(I.hok b u q).J6 (λc v d f=>k c v ?_ ?_ f) (λc f=>by rw[AG^Aa f h];exact f) λc p f=>by rw[AG^Aa f h];exact f
   .grind
   grind
def aP(K:Frag)(sp:Sp)(e:TE):TE:=λσ H Q=>e σ H λx H1=>∃(f:Bool) (l:Ch) (c:v_ V) (a:v_^v_ Key) (J:v_ V->Hp->Prop),x=.ref l/\SqK f K H1 l c/\c.length<64/\J [] H1 /\
 (∀b H2 v,J b H2->c[b.length]?=P3 v->sp [v] H2 (λk g=>J (b++[k]) g) E0) /\
 ∀b H2,J b H2->b.length=c.length->v8 K H2 b a/\∀(d:v_ Nat) (l:Ch),Hs a d->H2 l=s_->Q (.ref l)^AX H2 l^.lst^d.map λi=>c.getD i .non
theorem VD(F:zL X.prog X.w X.K X.mg X.base EW k f fd [pn] sp)(hr:zy (k+2) X.A)(hg:Gl X "sorted")(hm:X.mg "sorted"=s_)
  (a9:Gl X fn) (b0:X.mg fn=P3^.ref f) (hb:Binds X.K fd [pn] []) (he:PE X e te) (hs:starEach [e] X.env=[(u_,eval e X.env)]:=by rfl) (b1:dbN fn:=by decide):
  PE X (.Call (.Name "sorted" p) [e] [#[P3 "key",.Name fn fp,kp]] pos) (aP X.K sp te):=by
 intro zF s σ H Q I h;refine kz^EI I hg hm n_ ?_
 refine callWith_kw (Ao (Ax he B6 hs pos zF s σ H (λC H1=>∃x,C=[x]/\∃(κ:Bool) (l:Ch) (C:v_ V) (keys:v_^v_ Key) (J:v_ V->Hp->Prop),x=.ref l/\SqK κ X.K H1 l C/\C.length<64/\J [] H1 /\
   (∀B H2 v,J B H2->C[B.length]?=P3 v->sp [v] H2 (λk Z=>J (B++[k]) Z) E0) /\
   ∀B H2,J B H2->B.length=C.length->v8 X.K H2 B keys/\∀(ix:v_ Nat) (l:Ch),Hs keys ix->H2 l=s_->Q (.ref l)^AX H2 l^.lst^ix.map λi=>C.getD i .non) I ?first) λt s1 #[xs,H1,I1,r1,q1]=>kws_cons^C2 I1 a9 b0 (kws_nil ?_) b1) (by rw[hs];rfl)^by rw[hs];rfl
 case first=>
  show te σ H _;refine cast (congrArg (te σ H) ?_) h
  funext x H1
  refine propext #[λz=>#[x,rfl,z],fun#[y,e,z]=>?_];cases e;exact z
 let#[x,rfl,κ,l,C,keys,J,rfl,hq,b2,j0,T,a0]:=q1;let#[u,rfl,ru]:=vals1 r1;cases ru;show wpAny (model X.prog X.w) X.A (call (.builtin "sorted") [.ref l] [(kU "key",.ref f)]) _ _ s1;refine Cy (ksk_s1 _ _) (λx=>ksk_l1 _ _)^Jz I1 hq λt R r2 hz I2=>#[by rw[←r2.length];exact hz,?_];rw[ksk_t1];have hl:=r2.length;generalize U:R.heap.objs.size=D;have a1:(R.heap.push^seqObj "list" t.toArray 0).objs.size=D+1:=by rw[size_push',U]
 have a2:(R.heap.push^seqObj "list" t.toArray 0).get? D=P3^seqObj "list" t.toArray 0:=by rw[←U];exact TW _ rfl
 have mD:To X zF D:=I2.mine (by rw[U];exact Sc _);have mK:To X zF (D+2):=I2.mine (by rw[U];exact qw _ _);have nD:H1 D=s_:=I2.hok.fresh (by rw[U];exact Sc _);have nK:H1 (D+2)=s_:=I2.hok.fresh (by rw[U];exact qw _ _);have a3:D≠D+2:=jo^lL^me D;have S:∀b,To X zF b->b∉Lb X.stack:=λb m z=>(UF.mp^I2.yV b z).elim m.loc m.fs
 refine Sq (s:={R with heap:=R.heap.push^seqObj "list" t.toArray 0}) (n:=0) a2 (by rw[←hl];exact b2)
  (λB N=>∃O E,zv O B/\J O E/\Inv X zF σ E N/\E D=s_/\E (D+2)=s_/\N.heap.get? D=(DN (R.heap.push^seqObj "list" t.toArray 0) D t).get? D) (D+2) (by show D+2=(R.heap.push _).objs.size+1;rw[a1]) (λe1 a4=>?_) (λB N e v W hk hv=>?_) λe1 a4 B N W L=>?_
 .refine#[[],H1,.nil,j0,?_,nD,nK,rfl]
  exact I2.kept (t':=R.toks) λb o q=>Gp (by rw[←U];exact jo^Tk q)^FM _ q
 .let#[O,E,Y,W,I',n1,n2,P]:=W
  have hi:B.length<t.length:=(XV.mp hv).1;have a5:C[O.length]?=P3 (C[O.length]'(by rw[Y.length];lk)):=Op _;let#[u',e2,ru]:=r2.get a5;rw[Y.length,hv]at e2;cases e2;have b3:=T O E _ W a5;have E1:yk X.prog X.w X.K X.mg X.base X.A.in1.in1 X.stack N E:=I'.env0.in1.in1;refine mj^mR (F.run X.A.in1.in1 X.stack N E #[[v],[]] [v] _ _ E0 (hr.in1).in1 E1 (by simpa using hb N [v] I'.kIn rfl) (.cons ru .nil) b3) λr g M=>?_;cases r with
  |error e=>exact kd M
  | ok fl=>
   cases fl with
   |next=>exact kd M
   |brk=>exact kd M
   |cont=>exact kd M
   | ret u=>
    let#[w',Z,os,a6,un,b4,b5,q3]:=id M
    obtain⟨oD,eD⟩:∃o,N.heap.get? D=P3 o:=by
     let#[c,hc,_]:=Ir a2;exact#[_,P.trans hc]
    have kD:g.heap.get? D=P3 oD:=un.keep D oD eD n1 (S D mD) (by simp);have kK:g.heap.get? (D+2)=P3^seqObj "list" B.toArray e:=un.keep _ _ hk n2 (S _ mK) (by simp);have f1:Z D=s_:=un.free D oD eD n1 (by simp);have f2:Z (D+2)=s_:=un.free _ _ hk n2 (by simp);have I3:Inv X zF σ Z g:=I'.call' os un b4 a6 (λb z=>absurd z^by simp);exists kK,O++[w'],Z,Y.append^.cons b5 .nil,q3,?_,f1,f2
    .exact I3.turned (t':=g.toks) (λb o hb q=>(jl _ _^kM hb).trans q) f2 mK.loc (.inr mK.new) mK.cell mK.pin
    .show(g.heap.update (D+2) _).get? D=_
     rw[jl _ _^kM a3,kD,←eD,P]
 .let#[O,E,Y,W,I',n1,n2,P]:=W
  let#[a7,q]:=a0 O E W (by rw[Y.length,L,hl]);have b6:keys.length=t.length:=by rw[←a7.len,Y.length,L]
  refine#[P.trans a4,λp=>p.Perm^kC^kH t.length/\So.Srt SR (λi=>keys.getD i []) p t.length,λh2=>?_,λh1=>#[rH _,λi j b9 hj=>?_],λp h' c hp hg a8 b7 _=>#[rfl,?_]]
  .have ts:=LB (prog:=X.prog) (w:=X.w) (A:=X.A.in1.in1) (keys:=keys) (a7.vy I' Y λb o e=>e) (by lk) (G:=λp g=>g=N/\p.Perm^kC^kH t.length/\So.Srt SR (λi=>keys.getD i []) p t.length) λp a b=>#[rfl,by rw[←L];exact a,by rw[←L];exact b]
   rw[L]at ts;exact ts
  .have:i=j:=by lk
   subst this;exact lY _
  .have b8:(p.toList.map λi=>C.getD i .non).length=t.length:=by rw[Ev,kT,hp]
   refine#[.ref D,AX E D^.lst^p.toList.map λi=>C.getD i .non,I'.adopt2 mD n1 mK n2 a3 a8 #[by rw[b8,←hl,kJ];lk,_,c,Ig (Gk r2) p.toList,b7],rfl,q _ _ (VO b6 hg.1 hg.2) n1]
theorem JI:∀{c:v_ e}{d:v_ f}{j:Nat}{a:e}{b:f},Paired F c d->c[j]?=P3 a->d[j]?=P3 b->F a b
 |_,_,_,_,_,.nil,h,_=>by simp at h
 |_,_,0,_,_,.cons r t,g,i=>by
  grind
 |_,_,j+1,_,_,.cons r t,g,i=>JI (j:=j) t (by simp_all)^by simp_all
theorem Gj:∀b:v_ Ch,zv (b.map V.ref)^b.map Uf
 |[]=>.nil
 |a::b=>.cons rfl (Gj b)
end
end L2
namespace Dp
open L2
end Dp
namespace L2
def Fj(H:Hp)(L:v_ Ch)(f:Ch->Obj):Hp:=λb=>if b∈L then(H b).map^HO.frz^f b else H b
def Dw(h:b∉L):Fj H L f b=H b:=by unfold Fj;rw[if_neg h]
theorem RJ(h:b∈L)(e:H b=P3 o):Fj H L f b=P3^.frz (f b) o:=by unfold Fj;grind
section

theorem Inv.frz{L:v_ Ch}(I:Inv X zF σ H s)(k:∀b∈L,∃d,H b=P3^.dK d):∃f,Inv X zF σ (Fj H L f) s:=by
 have a:∀(f:Ch->Obj) b o,H b=P3 o->(∀d,o≠.dK d)->Fj H L f b=P3 o:=λf b o e n=>by
  rw[Dw λv=>by grind];exact e
 exists λb=>(s.heap.get? b).getD {cls:=.none,data:=.fields #[]};refine I.step (g':=s.gens) (d':=s.drawn) (t':=s.toks) (h':=s.heap) (ch:=[]) (λ_ z=>nomatch z) (λ_ _ _ _ _ e _=>e) (λb o _ _ _ e _=>#[o.slots,e]) (λb o _ e n=>?_) (λb o _ e=>#[o,e]) (λb l e=>a _ b _ e λ_ z=>by cases z) (λb o u e=>a _ b _ e λ_ z=>by cases z) (λb x e=>#[#[],by grind]) (λ_ h=>h) (λb u e=>?_) I.bare
 .unfold Fj
  simp_all
 .by_cases g:b∈L
  .let#[d,i]:=k b g
   rw[RJ g i]at e;cases e;let#[z,y,m,r,ob,p,t,j,c]:=(show zh X.prog X.w H s.heap b^.dK d from I.hok b _ i);exact#[by rw[j];rfl,z,y,m,r,ob,p,t,j,c]
  .rw[Dw g]at e
   exact(I.hok b u e).J6 (λ_ _ _ q=>q) (λc q=>a _ c _ q λ_ z=>by cases z) λc l q=>a _ c _ q λ_ z=>by cases z
def iC(t:TE):TE:=λσ H Q=>t σ H λv H1=>∃L:v_ Ch,(∀b∈L,∃a,H1 b=P3^.dK a)/\∀f:Ch->Obj,Q v^Fj H1 L f
def bF(h:PE X e t):PE X e^iC t:=by
 intro zF s σ H Q I a;refine Ao (h _ s σ H _ I a) λu g zz=>?_;let#[v,H1,b,r,L,c,q]:=zz;let#[f,d]:=b.frz c;exact#[v,_,d,r,q f]
end
end L2
namespace Dp
open L2
def CU:D->w_^v_ Key
 |.tup a=>He a
 |_=>s_
def Hu(c:D->w_^v_ Key)(f:v_ D):Prop:=f.Pairwise λa b=>∀d e,c a=P3 d->c b=P3 e->Be e d=u_
def Keyed(a:D->w_^v_ Key)(b:v_ D):Prop:=(∀x∈b,∃k,a x=P3 k/\k≠[])/\∀x∈b,∀y∈b,∀c d,a x=P3 c->a y=P3 d->BI c d=t_
def range_getD(a:v_ D):(kH a.length).map (λi=>a.getD i .non)=a:=by
 apply qz
 .simp
 simp_all
def Q4(m:a.length=c.length)(r:∀(i:Nat) (x:D),c[i]?=P3 x->∃k,a[i]?=P3 k/\kf x=P3 k)(h:Hs a b):
  (b.map λi=>c.getD i .non).Perm c/\Hu kf (b.map λi=>c.getD i .non):=by
 let#[d,s]:=h;constructor
 .have:=d.map λi=>c.getD i D.non
  rw[m,range_getD]at this;exact this
 .unfold Hu
  rw[qg];intro i j n f l t u o p;rw[q_]at o p;rw[Ev]at n f;have v:b.length=a.length:=by rw[d.length_eq,pB]
  have g:∀i (h:i<b.length) k,kf (c.getD b[i] .non)=P3 k->a.getD (b.getD i 0) []=k:=λi h k e=>by
   have w:b[i]<a.length:=lR.mp^d.mem_iff.mp^lJ h;have q:b[i]<c.length:=by rw[←m];exact w
   let#[C,y,z]:=r b[i] c[b[i]] (Op q);have A:c.getD b[i] .non=c[b[i]]:=by rw[j9,Op q];rfl
   rw[A,z]at e;have B:b.getD i 0=b[i]:=by rw[j9,Op h];rfl
   rw[B,j9,y];exact ZB e
  have:=s i j (pY l)^by rw[←v];exact f
  rw[g i n t o,g j f u p]at this;exact this
theorem FC{b:D->w_^v_ Key}:∀{xs:v_ D},(∀x∈xs,∃k,b x=P3 k/\k≠[])->∃a:v_^v_ Key,a.length=xs.length/\(∀(i:Nat) (x:D),xs[i]?=P3 x->∃k,a[i]?=P3 k/\b x=P3 k/\k≠[])
 |[],_=>#[[],rfl,λi x e=>by simp at e]
 | x::xs,h=>by
  let#[k,d,f]:=h x No;let#[a,l,g]:=FC (xs:=xs) λy c=>h y^Rs _ c;refine#[k::a,by simp_all,λi y e=>?_];cases i with
  |zero=>
   simp_all
  |succ i=>
   simp_all
section
variable {K:Frag}
theorem Ats.getD:∀{b:v_ D}{a:v_ V},Ats K M H b a->∀i:Nat,At K M H (b.getD i .non)^a.getD i .non
 |[],a,h,i=>by cases(h);simp[At]
 |d::b,a,h,0=>by
  let#[v,r,e,f,c]:=h
  grind
 |d::b,a,h,i+1=>by
  let#[v,r,e,f,c]:=h;subst e
  simpa using Ats.getD c i
theorem Ats.pick(h:Ats K M H b c):∀a:v_ Nat,Ats K M H (a.map λi=>b.getD i .non)^a.map λi=>c.getD i .non
 |[]=>rfl
 |i::a=>#[_,_,rfl,h.getD i,Ats.pick h a]
def G5(p:∀d k v,d∈f->o d=P3 k->At K M H d v->∃a,v=.ref a/\SqT K H a^k.map kOf)(u:Ats K M H f t)(z:Keyed o f)(w:c.length=f.length)(A:∀(i:Nat) (x:D),f[i]?=P3 x->∃k,c[i]?=P3 k/\o x=P3 k/\k≠[]):v8 K H t c:=by
 have b:∀(i:Nat) (h:v_ Key),c[i]?=P3 h->∃x,f[i]?=P3 x/\o x=P3 h/\h≠[]:=λi h e=>by
  have l:i<f.length:=by rw[←w];exact(XV.mp e).1
  let#[k,g,m,n]:=A i f[i] (Op l);rw[e]at g;cases g;exact#[f[i],Op l,m,n]
 refine#[u.length.trans w.symm,λi h e=>?_,λx q y B=>?_,λx q=>?_]
 .let#[d,g,m,_]:=b i h e
  let#[v,n,C]:=u.get g;let#[a,rfl,E]:=p d h v (oN g) m C;exact#[a,n,E]
 .let#[i,l]:=oI.mp q
  let#[j,F]:=oI.mp B;let#[d,g,m,_]:=b i x l;let#[G,r,s,_]:=b j y F;exact z.2 d (oN g) G (oN r) x y m s
 .let#[i,l]:=oI.mp q
  let#[d,g,m,n]:=b i x l;exact n
def G6(e:CU d=P3 k)(h:At K M H d v):∃a,v=.ref a/\SqT K H a^k.map kOf:=by
 cases d with
 |tup g=>
  let#[a,i,b,c,f]:=h
  have:=Dr (e) f
  subst this;exact#[a,b,c.sq]
 |_=>cases e
def Mi(c:v_ D)(P:D->Prop):Prop:=∃d b,c=[d]/\Iw d=P3 b/\b.length<64/\Keyed CU b/\∀a:v_ D,a.Perm b->Hu CU a->P^.lst a
def Rm:Bw K .fr (Up K) Mi:=by
 intro U M H E F P Q o p r w q;let#[d,G,rfl,e,c,g,w]:=w;let#[v,rfl,s]:=CJ r;let#[t,a,u,rfl,f,y]:=UT s e (λ_ z=>z) p;let#[h,j,m]:=FC g.1;refine#[t,a,u,_,rfl,y M H (zg.refl _ _)^Ext.refl _ _,by rw[f.length];exact c,G5 (λd k v _=>G6) f g j m,λA l B n=>?_];let#[C,D]:=Q4 (kf:=CU) j (λi x e=>by let#[k,a,b,_]:=m i x e;simp_all) B;exact q _ _ _ (AV n) (Bg n^f.pick A)^w _ C D
end
section

def Tz(W:W2)(wa:DW):DW:=λn h P=>wa n h λd e=>∃(c:v_ D) (f:D->D),Iw d=P3 c/\c.length<64/\(∀x∈c,∀g:D->Sg->Prop,g (f x) e->W [.sh x] e g)/\Keyed (λx=>CU^f x) c /\
 ∀b:v_ D,b.Perm c->Hu (λx=>CU^f x) b->P (.lst b) e
theorem OQ(G:Got X.prog X.w X.K X.mg X.base fn k [pn] .sh W)(hr:zy (k+2) X.A)(hg:Gl X "sorted")(hm:X.mg "sorted"=s_)(Z:Gl X fn)(he:DE X e zU wa)
  (J:starEach [e] X.env=[(u_,eval e X.env)]:=by rfl) (a0:dbN fn:=by decide):DE X (.Call (.Name "sorted" p) [e] [#[P3 "key",.Name fn fp,kp]] pos) .fr^Tz W wa:=by
 let#[f,fd,F,a1,b0,hb,hW]:=G;let#[t,h1,h2]:=he;refine#[_,VD F hr hg hm Z a1 hb h1 J a0,λC M H n ρ σ P Q R w q=>?_];refine h2 C M H n ρ σ _ _ R w λv H1 d Y e1 f1 r1 p=>?_;let#[j,B,hd,a2,hw,hK,w]:=p;have L:=R.step e1 f1;let#[κ,l,us,rfl,J,sq]:=UT (U:=C.U) (r1.vv R.dom R.vM) hd R.uV L.vM;let#[N,hl,hk]:=FC hK.1;have s:=J.length;refine#[κ,l,us,N,λc H2=>Ext C.U H1 H2/\zk X.K C.F M H2 Y/\c.length<=j.length/\∀(i:Nat) (k:V),c[i]?=P3 k->∃x,j[i]?=P3 x/\At X.K M H2 (B x) k,rfl,sq M H1 (zg.refl _ _)^Ext.refl _ _,by rw[s];exact a2,#[Ext.refl _ _,f1,jp _,λi k z=>absurd (show(s_:w_ V)=P3 k from z) λh=>nomatch h],λc H2 v hJ hv=>?_,λc H2 hJ a3=>?_]
 .let#[ex,u,a4,E]:=hJ
  have m:=L.step ex u;have hi:c.length<j.length:=by rw[←s];exact(XV.mp hv).1
  have O:j[c.length]?=P3 j[c.length]:=Op hi;let#[v',e2,hA]:=(J.q4^L.q4 ex).get O;rw[hv]at e2;cases e2;refine#[rfl,C.F,C.U,C.V,M,Y,[.sh j[c.length]],λd n=>d=B j[c.length]/\n=Y,#[m.dom,m.fU,m.uV,m.vM,u,.cons #[#[v,rfl,hA],rfl] .nil],hw _ (lJ hi) _ #[rfl,rfl],λr H3 d n' S f3 vr hd=>?_];let#[rfl,rfl]:=hd;refine#[ex.trans S,f3,by rw[eq,kN];lk,λi k o=>?_]
  by_cases a5:i<c.length
  .rw[nB a5]at o
   let#[x,h3,h4]:=E i k o;exact#[x,h3,h4.q4^m.q4 S]
  .rw[mz^by lk]at o
   have a6:i=c.length:=by
    have:=(XV.mp o).1
    rw[kN]at this;lk
   subst a6;rw[Nat.sub_self]at o;cases(show P3 r=P3 k from o);exact#[_,O,vr]
 .let#[ex,u,a4,E]:=hJ
  have m:=L.step ex u;have a7:c.length=j.length:=by rw[a3,s]
  have a8:Ats X.K M H2 (j.map B) c:=by
   have go:∀(j:v_ D) (c:v_ V),c.length=j.length->(∀(i:Nat) (k:V),c[i]?=P3 k->∃x,j[i]?=P3 x/\At X.K M H2 (B x) k)->Ats X.K M H2 (j.map B) c:=by
    intro j
    induction j with
    |nil=>intro c h _;exact o6.mp h
    | cons x j ih=>
     intro c h hh;cases c with
     |nil=>cases h
     | cons k c=>
      let#[T,e3,h3]:=hh 0 k rfl;cases(show P3 x=P3 T from e3)
      exact#[k,c,rfl,h3,ih c (by simpa using h) λi k' e4=>by
       let#[y,e5,h5]:=hh (i+1) k' (by simpa using e4);exact#[y,by simpa using e5,h5]]
   exact go j c a7 E
  have a9:Keyed CU^j.map B:=by
   refine#[λy hy=>?_,λy hy z hz ka kb ea eb=>?_]
   .let#[x,hx,rfl]:=TM.mp hy
    exact hK.1 x hx
   .let#[x,hx,rfl]:=TM.mp hy
    let#[T,I,rfl]:=TM.mp hz;exact hK.2 x hx T I ka kb ea eb
  refine#[G5 (λd k v _=>G6) a8 a9 (by rw[hl,Ev]) λi x e=>?_,λix l ho hn=>?_]
  .rw[ji]at e
   let#[T,I,rfl]:=kO.mp e;exact hk i T I
  .let#[o1,o2]:=Q4 (kf:=λx=>CU^B x) hl (λi x e=>by let#[k,a,b,_]:=hk i x e;exact#[k,a,b]) ho
   have g:vJ H2 (AX H2 l^.lst^ix.map λi=>us.getD i .non):=AV hn;refine q _ _ (.lst^ix.map λi=>j.getD i .non) Y ((e1.trans ex).trans g.ext) (u.grow g) (VR.back (e1.trans ex) ?_)^w _ o1 o2;exact Bg hn^(J.q4^L.q4 ex).pick ix
def Zq:Key->D
 |.inl i=>.int i
 |.inr x=>.str x
def EJ:Key->Prop
 |.inl _=>True
 |.inr x=>x.length<=sizeLine
def WT{K:Frag}(h:EJ k):At K M H (Zq k)^kOf k:=by
 cases k with
 |inl i=>exact rfl
 |inr x=>exact#[rfl,h]
end
end Dp
namespace L2
section
open PySem.MeetsSeq
open PySem.AutoSeq1 (wpAny_loadPart')
theorem Ua(l:Ch)(items:Array Db)(n:Nat)(x:Db)(e:Db->Bool)(j:Nat)(hj:j<items.size)(hit:e items[j]=t_)(hs1:items.size<=sizeLine)(prog:ju)(w:j4)(A:kA)(R:Result->Go->Prop)(hp:jq)(g:Array GenState)(d:Drawn)(tk:Nat)(os:_)
  (hl:hp.get? l=P3 {cls:=.type "list",dict:=s_,data:=.seq items n,slots:=#[]}) (he:∀y,y∈items->PySem.SeqAt.EqAt A.in1 #[hp,g,d,tk,os] y x^e y) (h:R (.ok^.ret .none) #[hp.update l^km λxs=>xs.eraseIdxIfInBounds j,g,d,tk,os]):
  ∀k i:Nat,j - i=k->i<=j->(∀m (hm:m<items.size),i<=m->m<j->e items[m]=u_)->
   wpAny (model prog w) A.in1 (lm.«list.remove.loop» #[[.ref l,x,rawInt i],[]]) (λfin s'=>match fin with|.done f=>R (.ok f) s'|.again c'=>c'.quiet=t_/\codeAny (model prog w) A c' R s') (λe s'=>R (.error e) s') #[hp,g,d,tk,os]:=by
 intro k
 induction k with
 |zero=>
  intro i hk hij hno;have hij':i=j:=by lk
  subst hij'
  wp_walk using k8 hl
  have hi:items[((i:Nat):Int).toNat]?=P3 items[i]:=by simp[hj]
  rw[hi];refine Cn^he _ (Array.getElem_mem hj) prog w _ _ ?_;rw[hit];have hz':(items.eraseIdxIfInBounds i).size<=sizeLine+1:=jr (size_erased items _)^pC hs1
  wp_walk using (n8 hl rfl (hz:=hs1) (_hz':=hz')),k8 hl
  simpa using h
 | succ k ih=>
  intro i hk hij hno;have hlt:i<items.size:=by lk
  wp_walk using k8 hl
  have hi:items[((i:Nat):Int).toNat]?=P3 items[i]:=by simp[hlt]
  have hc:((i:Int)+1)=((i+1:Nat):Int):=by push_cast;rfl
  rw[hi];refine Cn^he _ (Array.getElem_mem hlt) prog w _ _ ?_;rw[hno i hlt (Sc _)^by lk]
  wp_walk
  rw[hc]
  exact#[mI plain_remove_loop _,lZ entry_remove_loop (by
   rw[mS plain_remove_loop _];exact ih (i+1) (by lk) (by lk) λm hm h1 h2=>hno m hm (by lk) h2)]
def Ub(l:Ch)(items:Array Db)(n:Nat)(x:Db)(e:Db->Bool)(j:Nat)(hj:j<items.size)(hit:e items[j]=t_)(hno:∀m (hm:m<items.size),m<j->e items[m]=u_)
  (hs1:items.size<=sizeLine) (hl:s.heap.get? l=P3 {cls:=.type "list",dict:=s_,data:=.seq items n,slots:=#[]}) (he:∀y,y∈items->PySem.SeqAt.EqAt A.in1 s y x^e y)
  (h:Q .none {s with heap:=s.heap.update l^km λxs=>xs.eraseIdxIfInBounds j}):wpAny (model prog w) A (call (.builtin "list.remove") [.ref l,x]) Q E s:=by
 have key:wpAny (model prog w) A.in1 (lm.«list.remove» #[[.ref l,x],[]]) (λfin s'=>match fin with|.done f=>wants Q E (.ok f) s'|.again c'=>c'.quiet=t_/\codeAny (model prog w) A c' (wants Q E) s') (λe s'=>wants Q E (.error e) s') s:=by
  let#[hp,g,d,tk,os]:=s
  wp_walk using k8 hl
  exact#[mI plain_remove_loop _,lZ entry_remove_loop (Ua l _ n x e j hj hit hs1 _ w A _ hp g d tk os hl he h _ 0 rfl (jp _) (λm hm _ h2=>hno m hm h2))]
 exact mj^oQ PySem.F.slot_list_remove.plain PySem.F.entry_list_remove^PySem.F.slot_list_remove.check _ _ _ _ _ _ _ _ #[_,hl,rfl] (PySem.F.args_list_remove_2 _ _) key
end
section

def Ql:V->v_ V->Hp->VK->Prop:=λx f H Q=>∃(l:Ch) (b:v_ V) (y:V) (a:v_ on) (d:on) (j:Nat),x=.ref l/\f=[y]/\H l=P3^.lst b/\RVs H a b/\RV H d y/\nA a=t_/\d.canLay0=t_/\d.depth<=100 /\
 (∃c,a[j]?=P3 c/\oS c d=t_)/\(∀m e,m<j->a[m]?=P3 e->oS e d=u_)/\Q .non^AX H l^.lst^b.eraseIdx j
theorem LO(L:zy k X.A):W1 X "list.remove" Ql:=by
 intro Y s Z H x vs v us Q I M N h;let#[l,O,y,c,d,j,rfl,rfl,D,o,P,E,R,dd,#[S,F,p],t,q]:=h;cases M;let#[u,rfl,T]:=N.one;let#[z,a,n,r,hl,e]:=I.lstM D;let#[U,G]:=RVs.reads I o r;let#[bs,V]:=RV.reads I P T;have J:=PySem.SeqAt.readsAll_map c a U E G;have b:c.length=a.length:=by rw[←J,Ev]
 have hu:=L.un;have K:min (l9 c) d.depth<=d.depth:=qr _ _
 have f:∀m w,c[m]?=P3 w->∀(h:m<a.toArray.size),PySem.SeqAt.readOf s.heap a.toArray[m]=w:=λm w e h=>by
  rw[←J,ji]at e;have W:m<a.length:=by simpa using h
  rw[Op W]at e;have e:=ZB e
  simpa using e
 have B:j<a.length:=by rw[←b];exact(XV.mp F).1
 refine Ub l a.toArray n u (λy=>oS (PySem.SeqAt.readOf s.heap y) d) j (by rw[jn];exact B) (by rw[f j S F];exact p) (λm g C=>?_) (by rw[jn];lk) e (PySem.SeqAt.items_eqAt (vs:=a.toArray) (by rw[List.toList_toArray];exact G) V E R^by lk) ?_
 .have i:m<c.length:=by rw[b];simpa using g
  rw[f m c[m] (Op i) g];exact t m c[m] C (Op i)
 .refine#[.non,_,I.lset (t':=s.toks) (its':=a.eraseIdx j) D e ?_ (r.eraseIdx j) ?_,rfl,q]
  .show a.toArray.eraseIdxIfInBounds j=(a.eraseIdx j).toArray
   rw[List.eraseIdxIfInBounds_toArray]
  .have:=LW O j
   lk
end
end L2
namespace Dp
open L2
def iX(d:D)(b:v_ D)(P:D->D->Prop):Prop:=∃(a:v_ D) (y:D) (j:Nat),d=.lst a/\b=[y]/\CT^.lst a/\CT y/\(∃x,a[j]?=P3 x/\Fn x y=t_)/\(∀m x,m<j->a[m]?=P3 x->Fn x y=u_)/\P (.lst^a.eraseIdx j) .non
theorem Zs{K:Frag}:NB K Ql iX:=by
 intro M H a d G I P Q m t n w q;let#[b,y,j,rfl,rfl,#[o,s,_],#[v,z,A],#[x,B,c],f,w]:=w;let#[h,i,k]:=t;let#[u,r,rfl,C,D]:=n;cases(show r=[]from D)
 have g:∀(m:Nat) (p:on),(BR b)[m]?=P3 p->∃x,b[m]?=P3 x/\p=toPy x:=λm p e=>by
  rw[Ez,ji]at e;let#[x,l,rfl]:=kO.mp e
  grind
 refine#[a,h,u,BR b,toPy y,j,rfl,rfl,i,k.rv o,C.rv v,s,z,A,#[toPy x,by rw[Ez,ji,B];rfl,c],λm p E e=>?_,q _ (.lst^b.eraseIdx j) .non _ #[h.eraseIdx j,AI,?_] rfl w]
 .let#[F,l,rfl]:=g m p e
  exact f m F E l
 .exact(k.eraseIdx j).q4^CZ m i
def Tx(c:Fv)(i:AY):AY:=λd n a=>∃W:Nat->Sg->v_ Slot->Prop,(∃m,W m n a)/\∀m n a,W m n a->
 c n a λb e=>if b=t_ then ∃N:Sg->v_ Slot->Prop,(∀f g,N f g->∃h,h<m/\W h f g)/\i {d with nx:=N,ct:=N,bk:=d.nx} e a else d.nx e a
section

def Jn(G:pP (model X.prog X.w) X.A X.env X.xe)(I:DT X c wc)(J:Ou X κ body wb):DS X κ (.While c body [] pos)^Tx wc wb:=by
 let#[tc,O,P]:=I;let#[tb,Q,S]:=J;refine#[_,U5 G O Q,λC M H n T σ y E R L w=>?_];let#[W,#[U,V],g]:=w;exists λm h t=>∃i j a,Rel X.K C i t j a h/\W m j a,#[U,M,n,T,R,V];rintro m h t ⟨i,j,a,z,Y⟩;refine P C i t j a h _ _ z (g m j a Y) λb H2 B e f p=>?_;have R2:=z.step e f;cases b with
 | true=>
  rw[if_pos rfl]at p ⊢;let#[N,Z,p]:=p;exists λD F=>∃u k l,Rel X.K C u F k l D/\N k l,λD F #[u,k,l,R3,w3]=>?_
  .let#[m',hm,d]:=Z k l w3
   exact#[m',hm,u,k,l,R3,d]
  .exact S C i H2 B a h {y with nx:=N,ct:=N,bk:=y.nx} _ R2 #[λo v q r x s d=>#[o,q,r,s,d],L.rt,λo v q r x s d=>L.nx o v q r x s d,λo v q r x s d=>#[o,q,r,s,d]] p
 |false=>
  rw[if_neg^by cbv]at p ⊢;exact L.nx i H2 B a h R2 p
def Gi(I:Nat->Sg->v_ Slot->Prop)(i:Nat)(j:I i n a)
  (k:∀m n a (N:Sg->v_ Slot->Prop),I m n a->(∀c e g,c<m->I c e g->N e g)->wc n a λb d=>if b=t_ then wb {f with nx:=N,ct:=N,bk:=f.nx} d a else f.nx d a)
  (mono:∀n a (P Q:Bool->Sg->Prop),(∀b d,P b d->Q b d)->wc n a P->wc n a Q):Tx wc wb f n a:=by
 refine#[I,#[i,j],λm n a h=>?_];refine mono n a _ _ (λb d p=>?_)^k m n a (λe g=>∃c,c<m/\I c e _) h λc e g l o=>#[c,l,o];cases b with
 |true=>exact#[_,λ_ _ z=>z,p]
 |false=>exact p
end
end Dp
namespace L2
open PySem.W
section
variable {St:Nat->Heap->Prop}
def Z1(prog:ju)(w:j4)(A:kA)(c:CmpOp)(P:Nat->Db->Prop)(d:jq->Prop)(e:Nat->Nat->Bool):Prop:=
 ∀i j a b (s:Go) (Q:Db->Go->Prop) (E:Db->Go->Prop),d s.heap->P i a->P j b->Q (.bool^e i j) s->wpAny (model prog w) A (richCompare c a b) Q E s
theorem Sl(W:Walks prog w A.in1 I fp wr n P St)(D:Nat->Nat->Bool)(G:jq->Prop)(H:Z1 prog w A.in1 .Lt P G D)(S:Ch)(J:S∉fp)(g:∀h u:jq,G h->(∀b o,b∉wr->b≠S->h.get? b=P3 o->u.get? b=P3 o)->G u):
  ∀(k j:Nat) (s:Go) (r:Db) (c:Nat),n - (j+1)=k->j+1<=n->St (j+1) s.heap->G s.heap->P (argBest D j) r->
  s.heap.get? S=P3 {cls:=.type "list",dict:=s_,data:=.seq #[ r,r] c,slots:=#[]}->
  (∀v u O,P (argBest D (n - 1)) v->(∀b o,b∉wr->b≠S->s.heap.get? b=P3 o->u.get? b=P3 o)->R (.ok^.ret v) {s with heap:=u,toks:=O})->
  codeAny (model prog w) A (.builtin "min.loop" #[[.ref I,.none,.ref S],[]]) R s:=by
 have K:S∉wr:=λh=>J^W.sub _ h;have i:(toString "min"++toString ".loop":String)="min.loop":=by cbv
 intro k
 induction k with
 |zero=>
  intro j s r c Z hj y L t M Q;have N:j+1=n:=by lk
  refine lZ PySem.F.entry_min_loop ?_;rw[mS PySem.F.plain_min_loop _];show wpAny _ A.in1 (seqItems?^.ref S >>=_) _ _ s;refine Cn (lS M rfl ?_);show wpAny _ A.in1 (tryCatch (pyNext^.ref I) _ >>=_) _ _ s;refine Cn^qD^W.done s _ _ (N▸y) λu O a=>?_;have l:=a S _ K M;show wpAny _ A.in1 (updateSeq S (λ_=>#[]) >>=_) _ _ _;refine Cn ?_;refine n8 l rfl (Cn^mn^On ?_);refine Q r _ O (by rw[←N];exact t) λb o d f e=>(jl _ _^kM f).trans^a b o d e
 | succ k V=>
  intro j s r c Z hj y L t M Q;have z:j+1<n:=by lk
  refine lZ PySem.F.entry_min_loop ?_;rw[mS PySem.F.plain_min_loop _];show wpAny _ A.in1 (seqItems?^.ref S >>=_) _ _ s;refine Cn (lS M rfl ?_);show wpAny _ A.in1 (tryCatch (pyNext^.ref I) _ >>=_) _ _ s;refine Cn^qD^W.item (j+1) s _ _ z y λv u O X x a=>?_;have l:=a S _ K M;have m:G u:=g _ _ L λb o h1 _ e=>a b o h1 e;show wpAny _ A.in1 (tryCatch (holding [v,v] (richCompare .Lt v r >>=_)) _ >>=_) _ _ _;refine Cn^qD^kQ^Cn^H (j+1) (argBest D j) v r _ _ _ m X t ?_;refine Cn^kQ^lG ?_;refine Cn^mn^On ?_;cases Y:D (j+1)^argBest D j with
  | true=>
   simp only[if_true];refine Cn ?_;refine n8 l rfl (Cn^mn ?_);rw[i]
   refine On #[mI PySem.F.plain_min_loop _,V (j+1) _ v _ (by lk) z (W.frame _ _ _ x λb T o e=>?_) (g _ _ m λb o _ h2 e=>(jl _ _^kM h2).trans e) (by simp only[argBest,Y,if_true];exact X) (kY _ l rfl)
    λU B p C q=>?_]
   .exact(jl _ _ λh:S=b=>J^by rw[h];exact T).trans e
   .exact Q U B p C λb o d f e=>q b o d f^(jl _ _^kM f).trans^a b o d e
  |false=>
   simp only[kG,if_false];refine Cn^mn ?_;rw[i];refine On #[mI PySem.F.plain_min_loop _,V (j+1) _ r c (by lk) z x m (by simp only[argBest,Y,kG,if_false];exact t) l λU B p C q=>?_];exact Q U B p C λb o d f e=>q b o d f^a b o d e
theorem Pt(W:Walks prog w A.in1 I fp wr n P St)(x:Nat->Nat->Bool)(j:jq->Prop)(k:Z1 prog w A.in1 .Lt P j x)(S:Ch)(d:S∉fp)(a:∀h f:jq,j h->(∀b o,b∉wr->b≠S->h.get? b=P3 o->f.get? b=P3 o)->j f)(G:0<n)(y:St 0 s.heap)(z:j s.heap)
  (H:s.heap.get? S=P3 {cls:=.type "list",dict:=s_,data:=.seq #[] c,slots:=#[]})
  (K:∀v f J,P (argBest x (n - 1)) v->(∀b o,b∉wr->b≠S->s.heap.get? b=P3 o->f.get? b=P3 o)->R (.ok^.ret v) {s with heap:=f,toks:=J}):
  codeAny (model prog w) A (.builtin "min.loop" #[[.ref I,.none,.ref S],[]]) R s:=by
 have B:S∉wr:=λh=>d^W.sub _ h;have g:(toString "min"++toString ".loop":String)="min.loop":=by cbv
 refine lZ PySem.F.entry_min_loop ?_;refine Cn (lS H rfl ?_);refine Cn^qD^W.item 0 s _ _ G y λv f J L l i=>?_;have m:=i S _ B H;have p:j f:=a _ _ z λb o M _ e=>i b o M e;show wpAny _ A.in1 (updateSeq S (λ_=>#[ v,v]) >>=_) _ _ _;refine Cn ?_;refine n8 m rfl ?_;rw[g];refine On #[mI PySem.F.plain_min_loop _,Sl W x j k S d a _ 0 _ v _ rfl G (W.frame _ _ _ l λb N o e=>?_) (a _ _ p λb o _ O e=>(jl _ _^kM O).trans e) L (kY _ m rfl) λQ C q D r=>?_]
 .exact(jl _ _ λh:S=b=>d^by grind).trans e
 .exact K Q C q D λb o t u e=>r b o t u^(jl _ _^kM u).trans^i b o t e
theorem min_list(u:Nat->Nat->Bool)(G:A.handled=s_)(x:s.heap.IsList l a)(H:0<a.size)
  (m:∀i j r t (p:Go) (Q:Db->Go->Prop) (E:Db->Go->Prop),(∀b o,s.heap.get? b=P3 o->p.heap.get? b=P3 o)->a[i]?=P3 r->a[j]?=P3 t->Q (.bool^u i j) p->wpAny (model prog w) A.in1 (richCompare .Lt r t) Q E p)
  (h:∀v k y,a[argBest u (a.size - 1)]?=P3 v->(∀b o,s.heap.get? b=P3 o->k.get? b=P3 o)->Q v {s with heap:=k,toks:=y}):wpAny (model prog w) A (call (.builtin "min") [.ref l]) Q E s:=by
 have d:(toString "min"++toString ".loop":String)="min.loop":=by cbv
 have f:l<s.heap.objs.size:=by let#[_,e,_]:=x;exact Tk e
 refine call_function_tree PySem.F.kind_min PySem.F.plain_min PySem.F.entry_min (PySem.F.args_min1 _) ?_;show wpAny _ A.in1 (qN "min" ["key","default"] 0 #[[],[]] >>=_) _ _ s;refine Cn^qG (show qN "min" ["key","default"] 0 #[[],[]]=pure [s_,s_]from rfl) ?_;refine Cn^On ?_;refine Cn^lU x ?_;refine Cn^lH ?_;rw[d];have W:=Walks.list (prog:=prog) (w:=w) (A:=A.in1) G s.heap.objs.size l (jo f) a;have g:(s.heap.push {cls:=.type "list_iterator",data:=.fields #[ .ref l,.int 0 0]}).objs.size=s.heap.objs.size+1:=kh _ _;refine On #[mI PySem.F.plain_min_loop _,Pt W u (λk=>∀b o,s.heap.get? b=P3 o->k.get? b=P3 o) (λi j r t p Q E z C D q=>m i j r t p Q E z C D q) (s.heap.push {cls:=.type "list_iterator",data:=.fields #[ .ref l,.int 0 0]}).objs.size (λc=>?_) (λC D z B b o e=>B b o (λc=>?_) ?_^z b o e) H #[#[_,FM _ (TW _ rfl),rfl,rfl],(x.push _).push _] (λb o e=>FM _^FM _ e) (TW _ rfl) λv k y J B=>?_]
 .rw[g]at c
  rcases UF.mp c with e|c
  .exact absurd e^Nat.succ_ne_self _
  .rw[←Re.mp c]at f
   exact absurd f^nj.mpr^kL _
 .rw[Re.mp c]at e
  exact absurd (Tk e)^ko _
 .rw[g]
  exact jo^lL^Tk e
 .refine h v k y J λb o e=>B b o (λc=>?_) ?_^FM _^FM _ e
  .rw[Re.mp c]at e
   exact absurd (Tk e)^ko _
  .rw[g]
   exact jo^lL^Tk e
end
theorem KH(a:v_^v_ Key):∀m:Nat,argBest (λi j=>Be (a.getD i [])^a.getD j []) m<=m/\∀i,i<=m->Be (a.getD i [])^a.getD (argBest (λi j=>Be (a.getD i [])^a.getD j []) m) []=u_
 |0=>#[Sc _,λi b=>by
  have:i=0:=by lk
  subst this;exact Ci _]
 | m+1=>by
  let#[f,d]:=KH a m;unfold argBest
  by_cases c:Be (a.getD (m+1) [])^a.getD (argBest (λi j=>Be (a.getD i [])^a.getD j []) m) []=t_
  .rw[if_pos c]
   refine#[Sc _,λi b=>?_]
   by_cases e:i=m+1
   .subst e;exact Ci _
   .cases z:Be (a.getD i [])^a.getD (m+1) [] with
    |false=>rfl
    |true=>
     have:=DF _ _ _ z c
     rw[d i^by lk]at this;cases this
  grind
section

def ZK(K:Frag):v_ V->Hp->VK->Prop:=λc H Q=>∃(p:Ch) (b:v_ V) (a:v_^v_ Key),c=[.ref p]/\SqL K H p b/\0<b.length/\v8 K H b a /\
 ∀j v,b[j]?=P3 v->(∀i,i<b.length->Be (a.getD i [])^a.getD j []=u_)->Q v H
theorem Tb(U:zy k X.A):zS X (.builtin "min")^ZK X.K:=by
 intro zF s σ H V us Q I r h;let#[p,vs,c,rfl,hq,hn,B,q]:=h;let#[u,rfl,rx]:=vals1 r;cases rx;let#[f,E,pl,hz]:=I.list hq;have W:=E.length;have Y:=B.vy I E λb o e=>e;have hu:=U.un;refine min_list (λi j=>Be (c.getD i [])^c.getD j []) U.hd pl.isList (by rw[jn];lk) (λi j vi vj s' Q' E' d G J L=>?_) λv h' M N d=>?_
 .have C:i<c.length:=by rw[←B.len,W];have:=(oV.mp G).1;simpa using this
  have l:j<c.length:=by rw[←B.len,W];have:=(oV.mp J).1;simpa using this
  let#[a,#[a1,dd,Z,sl],V,n,m,D,e3,e4,e5]:=Y.at_ i c[i] (Op C);let#[a',#[a0,O,P,R],S,n',g,t,w,y,T]:=Y.at_ j c[j] (Op l);simp only at e3 e4 w y;subst e3 e4 w y;have m:f.toArray[i]?=P3^.ref a:=by rw[←m];simp
  have g:f.toArray[j]?=P3^.ref a':=by rw[←g];simp
  rw[m]at G;rw[g]at J;cases G;cases J;have z:=B.same _ (lJ C) _^lJ l;have g1:c.getD i []=c[i]:=by rw[j9,Op C];rfl
  have g2:c.getD j []=c[j]:=by rw[j9,Op l];rfl
  simp only[g1,g2]at L;rw[←Mc _ _ z]at L
  exact pF (op:=.Lt) #[_,d _ _ D,rfl] #[_,d _ _ t,rfl] PySem.F.slot_tuple_lt PySem.F.entry_tuple_lt (PySem.F.args_tuple_lt_2 _ _) (FO a a' V S n n' dd O sl R c[i] c[j] e5 T z)
   #[d _ _ D,d _ _ t,show nY (Bu c[i] c[j])≠rZ/\Q' (.bool (Bu c[i] c[j])) s' from#[(λx=>nomatch x),L]] (by show X.A.units+1<cLine;lk)
 .let#[b1,b2]:=KH c (f.toArray.size - 1)
  rw[jn]at N b1 b2;have l:argBest (λi j=>Be (c.getD i [])^c.getD j []) (f.length - 1)<vs.length:=by lk
  let#[u,m,ru]:=E.get^Op l;have D:f.toArray[argBest (λi j=>Be (c.getD i [])^c.getD j []) (f.length - 1)]?=P3 u:=by rw[←m];simp
  rw[D]at N;cases N;exact#[_,H,I.kept (t':=M) d,ru,q _ _ (Op l) λi C=>b2 i^by lk]
end
end L2
namespace Dp
open L2
def fh(d:v_ D)(P:D->Prop):Prop:=∃a,d=[.lst a]/\0<a.length/\Keyed CU a/\∀x∈a,(∀y∈a,∀b c,CU x=P3 b->CU y=P3 c->Be c b=u_)->P x
theorem cT{K:Frag}:Bw K .sh (ZK K) fh:=by
 intro U M H D E P Q p F r w q;let#[e,rfl,G,l,w]:=w;let#[v,rfl,s]:=CJ r;let#[a,t,rfl,_,u,f]:=s;let#[b,x,g]:=FC l.1;have c:=f.length;refine#[a,t,b,rfl,.inl u,by lk,G5 (λd k v _=>G6) f l x g,λj v m z=>?_];have h:j<e.length:=by rw[←c];exact(XV.mp m).1
 let#[I,n,A]:=f.get^Op h;rw[m]at n;cases n;refine q v H e[j] .refl A (w _ (lJ h) λy B J L ex N=>?_);let#[i,o]:=oI.mp B;have C:i<e.length:=(XV.mp o).1;let#[O,R,S,_]:=g i y o;let#[T,V,W,_]:=g j e[j] (Op h)
 grind
end Dp
namespace Nt
open L2 Dp
theorem LN:∀{l:v_ c},l.Nodup->(∀a∈l,∀b∈l,f a=f b->a=b)->(l.map f).Nodup
 |[],_,_=>ki
 |a::l,h,d=>by
  rw[j6]at h;rw[jy,j6];refine#[λj=>?_,LN h.2 λx k y m=>d x (Rs _ k) y^Rs _ m];let#[b,g,e]:=TM.mp j;exact h.1 (d a No b (Rs _ g) e.symm▸g)
theorem KI(a:v_ Str):QJ^a.map .str=P3 a:=by
 induction a with
 |nil=>rfl
 |cons y r b=>
  rw[jy];unfold QJ
  grind
structure Af where
 a:Str
 b:Str
 len:Int
structure Net where
 ps:List Str
 ts:List Af
def AZ(t:Af):D:=.tup [.str t.a,.str t.b,.int t.len]
def enc(N:Net):D:=.tup [.tup^N.ps.map .str,.tup^N.ts.map AZ]
def BU(s t:Af):Prop:=cs s.a<cs t.a\/(s.a=t.a/\cs s.b<cs t.b)
structure Net.Ok (N:Net):Prop where
 names:∀x∈N.ps,Du x
 rise:rising N.ps
 tin:∀t∈N.ts,t.a∈N.ps/\t.b∈N.ps/\cs t.a<cs t.b/\1<=t.len/\t.len<=1000000
 vQ:N.ts.Pairwise BU
structure Ix where
 i:Nat
 j:Nat
 len:Int
def Do(c:v_ Af)(p:Str):v_ (Str×Int):=c.flatMap λt=>(if t.a=p then [(t.b,t.len)]else [])++(if t.b=p then [(t.a,t.len)]else [])
def Wy(a:v_ Af)(p:Str):D:=.fdi ((Do a p).map λx=>.inr x.1)^(Do a p).map λx=>.int x.2
def Eb(N:Net):D:=.dic (N.ps.map .inr)^N.ps.map^Wy N.ts
def Wo:W2:=λa n P=>∃N:Net,a=[.sh^enc N]/\N.Ok/\N.ps.length<=1000/\N.ts.length<=1000/\P (Eb N) n
def kv(x:Str×Int):Key×V:=(.inr x.1,.int x.2)
structure Stp (H:Hp) (d:Ch) (as:List (Str×Ch)) (tb:Str->List (Key×V)) (H':Hp):Prop where
 old:∀b o,H b=P3 o->H' b=P3 o
 new:H d=s_
 top:H' d=P3 (.dK^as.map λx=>(.inr x.1,.ref x.2))
 inn:∀x∈as,H x.2=s_/\x.2≠d/\H' x.2=P3 (.dK^tb x.1)
 ads:(as.map (·.2)).Nodup
 nms:(as.map (·.1)).Nodup
def ID{b:v_ (Str×Ch)}(c:(b.map (·.1)).Nodup)(h:(p,a)∈b):Cw (b.map λx=>((.inr x.1:Key),V.ref x.2))^.inr p=P3^.ref a:=by
 induction b with
 |nil=>cases h
 | cons x r d=>
  rw[jy,j6]at c
  rcases UF.mp h with e|h
  .rw[←e]
   exact Dk rfl
  .exact(Dl λe=>c.1^by rw[mG e];exact TM.mpr #[_,h,rfl]).trans^d c.2 h
def PV{a:v_ (Str×Ch)}(h:p∉a.map (·.1)):putK (a.map λx=>((.inr x.1:Key),V.ref x.2)) (.inr p) v=(a.map λx=>((.inr x.1:Key),V.ref x.2))++[(.inr p,v)]:=by
 unfold putK
 simp_all
def Qq(h:p∉a.map (·.1)):putK (a.map kv) (.inr p)^.int l=(a++[(p,l)]).map kv:=by
 unfold putK;rw[if_neg,j8]
 .rfl
 .rw[nO]
  rintro⟨y,b,e⟩;let#[x,c,rfl]:=TM.mp b;exact h^TM.mpr #[x,c,mG^of_decide_eq_true e]
def Stp.more(s:Stp H d l n m)(i:m q=s_)(v:p∉l.map (·.1))(A:n p=[]):
  Stp H d (l++[(p,q)]) n (AX (AX m q^.dK []) d^.dK^putK (l.map λx=>((.inr x.1:Key),V.ref x.2)) (.inr p)^.ref q):=by
 have w:q≠d:=λe=>by rw[e,s.top]at i;cases i
 have k:H q=s_:=by
  cases c:H q with
  |none=>rfl
  |some o=>rw[s.old q o c]at i;cases i
 exists λb o e=>?_,s.new,?_,λx f=>?_,?_
 .have B:b≠d:=λz=>by rw[z,s.new]at e;cases e
  have r:b≠q:=λz=>by rw[z,k]at e;cases e
  rw[AG B,AG r];exact s.old b o e
 .rw[AI,PV v,j8];rfl
 .rcases jj.mp f with f|f
  .let#[y,t,j]:=s.inn x f
   have r:x.2≠q:=λz=>by rw[z,i]at j;cases j
   exact#[y,t,by rw[AG t,AG r];exact j]
  .rw[Re.mp f]
   exact#[k,w,by rw[AG w,AI,A]]
 .rw[j8,lM]
  refine#[s.ads,j6.mpr #[(λh=>by cases h),ki],λa u b g e=>?_];let#[x,f,rfl]:=TM.mp u;have g:b=q:=Re.mp g;let#[y,t,j]:=s.inn x f;rw[e,g,i]at j;cases j
 .rw[j8,lM]
  refine#[s.nms,j6.mpr #[(λh=>by cases h),ki],λa u b g e=>?_];have g:b=p:=Re.mp g;exact v^by rw[←g,←e];exact u
theorem Se{c:v_ (Str×Ch)}(d:(c.map (·.1)).Nodup)(h1:(p,a)∈c)(e:(p,b)∈c):a=b:=by
 have:=(ID d h1).symm.trans^ID d e
 grind
theorem Sd{b:v_ (Str×Ch)}(c:(b.map (·.2)).Nodup)(h1:(p,a)∈b)(e:(q,a)∈b):p=q:=by
 induction b with
 |nil=>cases h1
 | cons x r h=>
  rw[jy,j6]at c
  rcases UF.mp h1 with i|f
  .rcases UF.mp e with g|d
   .grind
   .exact absurd (TM.mpr #[_,d,by rw[←i]]) c.1
  .rcases UF.mp e with g|d
   .exact absurd (TM.mpr #[_,f,by rw[←g]]) c.1
   .exact h c.2 f d
theorem Stp.put(s:Stp H d c h g)(f:(p,a)∈c)(h1:tb2 p=kvs)(i:∀q,q≠p->tb2 q=h q):
  Stp H d c tb2 (AX g a^.dK kvs):=by
 let#[t,j,u]:=s.inn _ f;refine#[λb o e=>?_,s.new,?_,λx k=>?_,s.ads,s.nms]
 .have l:b≠a:=λz=>by grind
  rw[AG l];exact s.old b o e
 .rw[AG^kM j]
  exact s.top
 .let#[m,n,r]:=s.inn x k
  exists m,n
  by_cases e:x.2=a
  .have:=Sd s.ads (show(x.1,a)∈c by grind) f
   rw[e,AI,this,h1]
  .have:x.1≠p:=λz=>e^Se s.nms (show(p,x.2)∈c by grind) f
   rw[AG e,i _ this];exact r
def Nu(c:v_ Af)(t:Af)(p:Str):Do (c++[t]) p=Do c p++((if t.a=p then [(t.b,t.len)]else [])++(if t.b=p then [(t.a,t.len)]else [])):=by
 unfold Do
 simp_all
def Ma(h:q∈(Do d p).map (·.1)):∃t∈d,(t.a=p/\t.b=q)\/(t.b=p/\t.a=q):=by
 let#[x,c,rfl]:=TM.mp h;let#[t,e,c]:=mJ.mp c;exists t,e
 rcases jj.mp c with c|c
 .simp_all
 simp_all
theorem Q_(c:v_ Af)(p:Str):(Do c p).length<=2*c.length:=by
 induction c with
 |nil=>exact jp _
 |cons t r d=>
  unfold Do at d ⊢;rw[mV,eq,eq];have e:(if t.a=p then [(t.b,t.len)]else []).length<=1:=by grind
  grind
theorem WB(i:(d++[t]).Pairwise BU)(f:∀s∈d++[t],cs s.a<cs s.b):t.b∉(Do d t.a).map (·.1)/\t.a∉(Do d t.b).map (·.1):=by
 rw[lw]at i
 have g:∀s∈d,¬((s.a=t.a/\s.b=t.b)\/(s.b=t.a/\s.a=t.b)):=λs c e=>by
  have j:=i.2.2 s c t (Re.mpr rfl);have m:=f s^kW _ c;have n:=f t^jm _ (Re.mpr rfl)
  rcases e with⟨k,l⟩|⟨k,l⟩
  .unfold BU at j
   grind
  grind
 refine#[λh=>?_,λh=>?_]
 .let#[s,c,e]:=Ma h
  exact g s c e
 .let#[s,c,e]:=Ma h
  exact g s c^e.elim (λz=>.inr #[z.2,z.1]) λz=>.inl #[z.2,z.1]
theorem MD(h:rising c):c.Nodup:=h.imp λ{a b} d e=>by grind
def Pq{a:v_ Str}(h:a.Nodup)(hi:i<a.length):a[i]∉a.take i:=by
 have e:a=a.take i++a[i]::a.drop (i+1):=by
  simp_all
 intro b;rw[e,lM]at h;exact h.2.2 _ b _ No rfl
theorem Stp.at_{K:Frag}(t:∀a,M a->∃o,H a=P3 o)(s:Stp H d c (λp=>(Do N.ts p).map kv) q)(u:c.map (·.1)=N.ps)(f:Ch->Obj):At K M (Fj q (c.map (·.2)) f) (Eb N)^.ref d:=by
 have v:∀b,H b=s_->¬M b:=λb e m=>by let#[o,h]:=t b m;rw[h]at e;cases e
 have i:∀c:v_ (Str×Ch),(c.map λx=>((.inr x.1:Key),V.ref x.2))=((c.map (·.1)).map (.inr:Str->Key)).zip (c.map λx=>V.ref x.2):=λc=>by
  grind
 refine#[d,c.map λx=>.ref x.2,rfl,#[v d s.new,by rw[Dw (λw=>by let#[x,j,e]:=TM.mp w;exact(s.inn x j).2.1 e),s.top,i,u]],by rw[Ev,Ev],?_];rw[←u]
 have go:∀k:v_ (Str×Ch),(∀x∈k,x∈c)->Ats K M (Fj q (c.map (·.2)) f) ((k.map (·.1)).map^Wy N.ts) (k.map λx=>V.ref x.2):=λk=>by
  induction k with
  |nil=>intro _;rfl
  | cons x r l=>
   intro j;refine#[.ref x.2,r.map λx=>V.ref x.2,rfl,?_,l λy z=>j y^Rs _ z];let#[A,C,B]:=s.inn x^j x No
   have n:∀g:v_ (Str×Int),g.map kv=(g.map λx=>(.inr x.1:Key)).zip (g.map λx=>V.int x.2):=λg=>by
    induction g with
    |nil=>rfl
    |cons x r l=>rw[jy,l];rfl
   refine#[x.2,(Do N.ts x.1).map λx=>V.int x.2,rfl,#[f x.2,v _ A,by rw[RJ (TM.mpr #[x,j x No,rfl]) B,n]],by rw[Ev,Ev],?_];generalize Do N.ts x.1=g
   induction g with
   |nil=>rfl
   |cons x r l=>exact#[.int x.2,_,rfl,rfl,l]
 exact go c λ_ h=>h
end Nt
namespace L2
def i6(d:Ch)(o:Obj)(a:v_ (Key×V)):It:=
 #[λi H=>H d=P3^.frz o^.dK a/\i<a.length,λi H x b=>∃T p,x=.ref T/\H T=s_/\a[i]?=P3 p/\b=AX H T^.tup [kV p.1,p.2],λi H=>H d=P3^.frz o^.dK a/\a.length<=i]
def bh(h:(Av P w).is k u=t_):RelV (kV k) u:=by
 rcases BD h with⟨i,t,rfl,rfl⟩|⟨x,t,rfl,rfl⟩
 .exact#[t,rfl]
 .exact#[t,rfl]
def Mp(I:Inv X j k H s)(h:H d=P3^.frz o^.dK a)(hd:o.data=.dict c e):
  ∃b,KV a b/\s.heap.DictAt (Av X.prog X.w) d b e:=by
 let#[f,_,_,b,l,r,m,n,g,p,i,q]:=(I.hok d _ h);rw[f]at g;cases g;rw[hd]at i;cases i;exact#[b,l,o,c,f,p,hd,q]
theorem O6{K:Frag}(d l:Ch)(o:Obj)(f:v_ (Key×V))(es:Array ng)(Z:Nat)(m:o.data=.dict es Z):
  Turn P w K (.Tuple L j pos) (i6 d o f) [l] l (λi h=>∃ok n,IsItemIter h l d i f.length Z ok n) where
 mem:=by simp
 obj:=λi h #[ok,n,b] c a=>by
  rw[Re.mp a];exact#[_,b,λv q=>by cases q]
 keep:=λi h h' #[ok,n,b] k=>#[ok,n,k l (by simp) _ b]
 item:=by
  intro X M N O a i zF s σ H E I C b R;subst M N O;let#[S,hi]:=R;let#[ok,n,b]:=b;let#[F,G,D]:=Mp I S m
  have J:=G.length;have T:i<F.length:=by lk
  rw[J]at b;obtain⟨k,v,U⟩:∃k v,F[i]=(k,v):=#[_,_,rfl];have hx:F[i]?=P3 (k,v):=by rw[Op T,U]
  have hp:f[i]?=P3 f[i]:=Op hi;let#[Y,rv]:=JI G hp hx;have Y:f[i].1=k:=Y;refine wpAny_pyNext_items_item b D hx λp h' r t u a0 x=>#[_,rfl,?_];refine wpAny_letOwnedTupleGo_items t λh2 y g=>?_;have hT:H s.heap.objs.size=s_:=I.hok.fresh^Sc _;have B:s.heap.objs.size≠l:=mQ^Tk b
  have kk:∀c o,c∉[l]->s.heap.get? c=P3 o->h2.get? c=P3 o:=λc o a e=>by
   have a:c≠l:=λz=>a (by rw[z];exact Re.mpr rfl);exact(g.2 c a).trans^x c o a e
  have I2:Inv X zF σ (AX H s.heap.objs.size^.tup [kV f[i].1,f[i].2]) {s with heap:=h2}:=by
   refine I.yU (t':=s.toks) (ch:=[l]) (λc a=>C c a) kk (Sc _) ?_;exact#[by show 2<=sizeLine;decide,[p,v],.cons (bh^by rw[Y];exact r)^.cons rv .nil,#[_,(g.2 _ B).trans u,rfl,_,rfl,rfl,rfl]]
  refine#[.ref s.heap.objs.size,_,I2,rfl,#[_,_,rfl,hT,hp,rfl],#[p,v,by rw[J];exact y],λc a=>?_];rw[Re.mp a,AG^kM B];exact(C l^by simp).1
 done:=by
  intro X M N O a i zF s σ H E I C b R;subst M N O;let#[S,hi]:=R;let#[ok,n,b]:=b;let#[F,G,D]:=Mp I S m
  have J:=G.length;rw[J]at b;refine wpAny_pyNext_items_end (I.ok.hd a) b D (oJ^by lk) λh' ext=>#[rfl,?_];exact I.yX (t':=s.toks) (ch:=[l]) (λc a=>C c a) λc o a e=>ext c o (λz=>a^by rw[z];exact Re.mpr rfl) e
 self:=λA i s Q E #[ok,n,b] h=>PySem.W.kcp_self b h
def bq(to:TE):TI:=λb H R=>to b H λx H1=>∃d o a,x=.ref d/\H1 d=P3^.frz o^.dK a/\∀r,H1 r=s_->R (i6 d o a)^AX H1 r^.ext λh=>h.IsItemsView r d
theorem U_(O:PE X e to)(m:attributeBase e "items" X.env^eval e X.env=eval e X.env:=by rfl)(n:(g.endLine==i.line)=t_:=by rfl):
  PI X (.Tuple y j p) (.Call (.Attribute e "items" g) [] [] i) (bq to):=by
 intro E s G H R I h;refine wpAny_Call_method0_late m n^Ao (O E s G H _ I h) λv a zz=>?_;let#[x,H1,r,P,d,o,f,ex,t,q]:=zz;subst ex;cases P;let#[J,K,Q]:=P1 r^.inl #[f,.inr #[o,t]];let#[_,_,L,S,D]:=FS r.hok^.inr #[o,t];refine#["dict","dict.items",PySem.F.plainAttrs_dict,PySem.F.slot_dict_items,PySem.F.type_dict_items,J,K,mE rfl (PySem.evalArgs_none ?_)];refine oE PySem.F.slot_dict_items D.typeIs PySem.F.entry_dict_items (PySem.F.args_dict_items_1 _) (meets_dict_items (Av X.prog X.w) d Q) #[#[L,D],?_];have M:H1 a.heap.objs.size=s_:=r.fresh;have N:(a.heap.push {cls:=.type "dict_items",data:=.fields #[ .ref d]}).IsItemsView a.heap.objs.size d:=#[_,TW _ rfl,rfl,rfl]
 have u:Inv X E G (AX H1 a.heap.objs.size^.ext λh=>h.IsItemsView a.heap.objs.size d) {a with heap:=a.heap.push {cls:=.type "dict_items",data:=.fields #[ .ref d]}}:=
  r.laid (t':=a.toks) (λb o e=>FM _ e) (Sc _) #[N,#[_,TW _ rfl],λJ K #[o,e,c] k=>#[o,k o e,c]]
 have z:(AX H1 a.heap.objs.size^.ext λh=>h.IsItemsView a.heap.objs.size d) d=P3^.frz o^.dK f:=by rw[AG^Aa t M];exact t
 obtain⟨A,B,l⟩:∃A B,o.data=.dict A B:=by
  let#[e0,_,_,L,S,o',T,U,e1,e2,e3,e4]:=(show zh X.prog X.w H1 a.heap d^.frz o^.dK f from r.hok d _ t)
  grind
 let#[V,C,W]:=Mp u z l
 have Y:=C.length;refine wpAny_pyIter_items (s:={a with heap:=a.heap.push {cls:=.type "dict_items",data:=.fields #[ .ref d]}}) N W ?_;refine#[_,[(a.heap.push {cls:=.type "dict_items",data:=.fields #[ .ref d]}).objs.size],_,i6 d o f,_,rfl,u.kept (t':=a.toks) λb o e=>FM _ e,O6 d _ o f A B l,#[.none,.none,by rw[Y];exact TW _ rfl],λc Z=>?_,q _ M];rw[Re.mp Z];exact u.fpOk (Sc _) u.fresh
end L2
namespace Dp
open L2
def wItems(c:DW):Di:=λn e P=>c n e λd f=>∃a b,d=.fdi a b/\(∀k∈a,EJ k)/\P (Hv (a.map Zq) b) f
def bi(k:Key):kV k=kOf k:=by cases k <;>rfl
section

theorem WL(U:DE X a zU wa)(c:attributeBase a "items" X.env^eval a X.env=eval a X.env:=by rfl)(f:(apos.endLine==cpos.line)=t_:=by rfl):DI X (.Tuple els j tpos) (.Call (.Attribute a "items" apos) [] [] cpos)^wItems wa:=by
 let#[t,V,W]:=U;refine#[_,U_ V c f,λC M H n Y Z P Rr R w q=>?_];refine W C M H n Y Z _ _ R w λv H1 d n1 G I r1 p=>?_;let#[b,l,rfl,m,p]:=p;have R1:=R.step G I;obtain⟨B,k,rfl,⟨o,nM,J⟩,L,N⟩:∃a k,v=.ref a/\NdF M H1 a b k/\b.length=l.length/\Ats X.K M H1 l k:=r1.vv R.dom R.vM;have hl:=N.length;refine#[B,o,_,rfl,J,λr hr=>?_];have g:vJ H1 (AX H1 r^.ext λh=>h.IsItemsView r B):=AV hr;refine q _ _ _ n1 (G.trans g.ext) (I.grow g) (λi O D pr E=>?_) p;have s:zg M H1 O D:=g.q4.trans pr;have u:D B=P3^.frz o^.dK^b.zip k:=(s.nd nM J).2;have zl:(b.zip k).length=b.length:=by rw[l_];lk
 have zd:(Hv (b.map Zq) l).length=b.length:=by unfold Hv;rw[List.length_zipWith,Ev];lk
 refine#[λe A=>?_,λa0=>#[u,by lk]];have F:i<b.length:=by rw[←zd];exact(XV.mp A).1
 have z:i<l.length:=by lk
 refine#[#[u,by lk],λx H2 y=>?_];let#[T,pp,rfl,Q,S,rfl]:=y;let#[v',e1,h1]:=(N.q4 s).get^Op z
 have e2:(b.zip k)[i]?=P3 (b[i],v'):=by
  rw[og];exact#[Op F,e1]
 rw[e2]at S;cases S
 have e3:e=.tup [Zq b[i],l[i]]:=by
  unfold Hv at A;rw[rS,ji,Op F,Op z]at A;exact(ZB A).symm
 subst e3;refine#[AV Q,DL E Q #[_,_,rfl,?_,_,_,rfl,h1,rfl]];show At X.K O D (Zq b[i]) (kV b[i]);rw[bi];exact WT^m _^lJ F
end
section
variable {K:Frag}
theorem Rel.hold(R:Rel K C M H n ρ σ)(h:H p=s_)(l:¬Tl o:=by rintro⟨_,z⟩;cases z):Rel K C (λb=>M b\/b=p) (AX H p o) n ρ σ:=by
 have g:vJ H^AX H p o:=AV h;have j:zg M H _^AX H p o:=Fk h;refine#[R.len,λa z=>.inl^R.sub a z,λa z=>?_,R.ext.trans g.ext,R.fU,R.uV,λa z=>.inl^R.vM a z,(R.feed.grow g).more p (λf m q=>?_) λu z=>l #[u,by rw[AI]at z;exact ZB z],λi s q=>(R.sl i s q).q4 j (λ_ z=>.inl z) g.ext R.uV,λq c=>(R.pin q c).trans j,R.br0,R.new,R.two,λq c=>?_]
 .rcases z with z|z
  .let#[u,d]:=R.dom a z
   exact#[u,g.all a u d]
  .rw[z];exact#[o,AI]
 .let#[_,_,_,_,_,e,_]:=R.feed.1 f m
  have:=e.2
  grind
 .let#[d,k,e,r]:=R.kept q c
  exact#[g.all _ _ d,#[.inl k.1,k.2],e,r]
end
def Je(a:v_ Key)(k:Key):Bool:=a.any λb=>decide (b=k)
def vF:Je a k=t_↔k∈a:=by
 unfold Je
 simp_all
def Cr(a:v_ Key)(k:Key):v_ Key:=if Je a k=t_ then a else a++[k]
def DA(b:v_ Key)(c:v_ a)(k:Key)(d:a):v_ a:=if Je b k=t_ then mF (λe f=>if e=k then d else f) b c else c++[d]
theorem Yc(j:c.length=d.length)(k:Key):((c.zip d).any λf=>decide (f.1=k))=Je c k:=by
 rw[kR,nO,vF];constructor
 .rintro⟨⟨a,b⟩,g,e⟩
  have e:=of_decide_eq_true e;rw[←e];exact(oY g).1
 .intro h
  let#[i,l,e]:=oU.mp h;exact#[(c[i],d[i]'(by lk)),oU.mpr #[i,by grind,by grind],by grind]
def Uz(f:c.length=d.length)(k:Key)(v:V):putK (c.zip d) k v=(Cr c k).zip^DA c d k v:=by
 unfold putK Cr DA;rw[Yc f]
 by_cases h:Je c k=t_
 .have go:∀(c:v_ _) (d:v_ V),((c.zip d).map λe=>if e.1=k then(e.1,v)else e)=c.zip^mF (λg i=>if g=k then v else i) c d:=by
   intro c
   induction c with
   |nil=>intro d;rfl
   | cons a c j=>
    intro d;cases d with
    |nil=>rfl
    |cons b d=>
     show(if a=k then(a,v)else(a,b))::_=(a,if a=k then v else b)::_;exact List.cons_eq_cons.mpr #[by split <;>rfl,j d]
  simp_all
 .rw[if_neg h,if_neg h,if_neg h,List.zip_append f]
  rfl
theorem Ats.put{K:Frag}(hd:At K M H d v):∀{c:v_ Key}{f:v_ D}{b:v_ V},Ats K M H f b->Ats K M H (mF (λg i=>if g=k then d else i) c f)^mF (λg i=>if g=k then v else i) c b
 |[],f,b,h=>rfl
 |a::c,[],b,h=>by cases(h);rfl
 |a::c,e::f,b,h=>by
  let#[u,r,rfl,l,j]:=h;refine#[_,_,rfl,?_,Ats.put hd j]
  grind
def Ats.vO{K:Frag}(hd:At K M H d v)(h:Ats K M H b c):Ats K M H (DA a b k d)^DA a c k v:=by
 unfold DA
 split
 .exact Ats.put hd h
 .exact h.append^Ats.one hd
theorem Qp(e:a.length=c.length):(Cr a k).length=(DA a c k d).length:=by
 unfold Cr DA
 grind
theorem LA:∀{b:v_ Key}{ds:v_ D}{k:Key},k∉b->BO b ds k=s_
 |[],ds,k,_=>by rfl
 |a::b,[],k,_=>rfl
 |a::b,d::ds,k,h=>by
  unfold BO;rw[if_neg λe=>h^by grind];exact LA λz=>h^Rs _ z
theorem K_:∀{b:v_ Key}{c:v_ D}{k:Key},b.length=c.length->k∈b->∃z,BO b c k=P3 z
 |[],c,k,_,h=>by cases h
 |a::b,[],k,h,_=>by cases h
 | a::b,d::c,k,f,h=>by
  unfold BO
  by_cases e:a=k
  .simp_all
  .rw[if_neg e]
   exact K_ (by simp_all)^(UF.mp h).resolve_left λz=>e z.symm
def UB(g:b.length=c.length)(j:Key):BO (Cr b k) (DA b c k d) j=if j=k then P3 d else BO b c j:=by
 unfold Cr DA
 by_cases i:Je b k=t_
 .have h:=vF.mp i
  rw[if_pos i,if_pos i]
  have go:∀(b:v_ Key) (c:v_ D),b.length=c.length->(j=k->k∈b)->BO b (mF (λo p=>if o=k then d else p) b c) j=if j=k then P3 d else BO b c j:=by
   intro b
   induction b with
   |nil=>
    intro c _ l
    by_cases e:j=k
    .exact absurd (l e) jw
    .rw[if_neg e];cases c <;>rfl
   | cons a b n=>
    intro c g l;cases c with
    |nil=>cases g
    | cons e c=>
     show(if a=j then P3 (if a=k then d else e)else BO b _ j)=if j=k then P3 d else if a=j then P3 e else BO b c j
     by_cases f:a=j
     .rw[if_pos f,if_pos f]
      by_cases m:j=k
      .rw[if_pos m,if_pos^f.trans m]
      .rw[if_neg m,if_neg λz=>m^f.symm.trans z]
     .rw[if_neg f,if_neg f]
      refine n c (by simpa using g) λz=>(UF.mp^l z).resolve_left λw=>f^w.symm.trans z.symm
  exact go b c g λ_=>h
 .have h:k∉b:=λz=>i^vF.mpr z
  rw[if_neg i,if_neg i]
  have go:∀(b:v_ Key) (c:v_ D),b.length=c.length->k∉b->BO (b++[k]) (c++[d]) j=if j=k then P3 d else BO b c j:=by
   intro b
   induction b with
   | nil=>
    intro c g _;cases c with
    |nil=>
     show(if k=j then P3 d else s_)=if j=k then P3 d else s_
     by_cases e:j=k
     .rw[if_pos e,if_pos e.symm]
     .rw[if_neg e,if_neg λz=>e z.symm]
    |cons e c=>cases g
   | cons a b n=>
    intro c g l;cases c with
    |nil=>cases g
    |cons e c=>
     show(if a=j then P3 e else BO (b++[k]) (c++[d]) j)=if j=k then P3 d else if a=j then P3 e else BO b c j
     rw[n c (by simpa using g) λz=>l^Rs _ z]
     by_cases f:a=j
     .rw[if_pos f,if_pos f,if_neg λz=>l^by rw[←z,←f];exact No]
     .rw[if_neg f,if_neg f]
  exact go b c g h
section

def aE(f g:DW):DW:=λn e P=>f n e λk h=>g h e λd i=>∃c,keyOf k=P3 c/\P (.dic [c] [d]) i
def OS(O:DE X a zU wa)(S:DE X b zR wb)(T:zR≠.tp:=by intro z;cases z):DE X (.Dict [P3 a] [b] pos) .fr^aE wa wb:=by
 let#[t,V,W]:=O;let#[u,Y,Z]:=S;refine#[_,Qz (JE V Y Qt) rfl rfl (k_ _ _) (by show 1<=15;decide),λC M H n G I P Q R w q=>λp i=>?_];have j:=R.hold (o:=.dK []) i
 have r:¬C.U p:=λz=>by
  let#[o,w]:=R.dom p^R.vM p^R.uV p z;rw[i]at w;cases w
 refine W C _ _ n G I _ _ j w λx H2 k n1 s f1 r1 p1=>?_;have R2:=j.step s f1;refine Z C _ _ n1 G I _ _ R2 p1 λy v d n2 A J r2 B=>?_;let#[e,h,B]:=B;have R3:=R2.step A J;have D:At X.K (λb=>M b\/b=p) v d y:=r2.vD R2.dom T;have g:v p=P3^.dK []:=A.keep (s.keep AI r) r;have hx:x=kV e:=DK h^r1.vv j.dom j.vM;refine#[g,[(e,y)],by rw[hx];rfl,by show 1<=15;decide,?_];show Q (.ref p)^AX v p^.dK [(e,y)];refine q _ _ (.dic [e] [d]) n2 (λb o c=>?_) ?_ #[p,rfl,i,[y],AI,rfl,?_] B
 .have l:b≠p:=Aa c i
  let#[o1,z1,L,N]:=s b o (by rw[AG l];exact c);let#[o2,z2,k2,t2]:=A b o1 z1;exact#[o2,by rw[AG l];exact z2,λE F=>(k2 E^by rw[L E F];exact F).trans^L E F,λm z=>(t2 m^(N m z).trans z).trans^N m z]
 .refine J.q4 #[λb o c l _=>by rw[AG λz=>l^.inr z];exact c,λb z=>.inl^.inl z,λb m c=>by rw[AG λz=>by rw[z,g]at c;cases c];exact c,λb o c=>(oF (b=p)).elim (λz=>by rw[z];exact#[_,AI]) λz=>#[o,by rw[AG z];exact c]] (λf o hf c=>?_) λb u c=>by rw[AG λz=>by rw[z,g]at c;cases c];exact c
  rw[AG λz=>r^by rw[←z];exact R.fU f hf];exact c
 .exact#[y,[],rfl,D.q4^CZ (.inr rfl) g,rfl]
def K7(i:Nat)(h j:DW):AY:=λl n e=>∃f g,e[i]?=P3^.ow^.dic f g/\j n e λd m=>h m e λk o=>∃c,keyOf k=P3 c/\f.length<sizeLine/\l.nx o^e.set i^.ow^.dic (Cr f c)^DA f g c d
theorem Mo(P:zy k X.A)(Q:PE X x^Bs i)(S:DE X a zU wa)(T:DE X b zR wb)(U:zR≠.tp:=by intro z;cases z)
  (V:swapsWith b (P3^.Subscript x a pos') pos.line X.env=pure u_:=by rfl):DS X κ (.Assign [.Subscript x a pos'] b pos)^K7 i wa wb:=by
 let#[t,W,Y]:=S;let#[u,Z,g2]:=T;refine#[_,IG (GI P) Q W Z V,λC M H n F o D2 E R L w=>?_];let#[l,ds,q,w]:=w;refine g2 C M H n F o _ _ R w λv H1 d n1 e1 f1 r1 p=>?_;have f:=R.step e1 f1;let#[G,r,m,nv,tt]:=f.sl i _ q;exists .ref G,getD_some r;refine Y C M H1 n1 F o _ _ f p λy H2 kk n2 I f2 r2 p=>?_;let#[c,g,a0,p]:=p;have R2:=f.step I f2;let#[a1,h,m',a2,s]:=R2.sl i _ q;rw[r]at h;cases h;let#[J,N,O,j]:=s;have B:At X.K M H2 d v:=(r1.vD R.dom U).q4^f.q4 I;have D:l.length=J.length:=by rw[O,j.length]
 refine#[G,_,rfl,by rw[DK g^r2.vv f.dom f.vM];exact yJ.k N (by rw[l_];lk),L.nx M _ n2 _ o (R2.mut (e:=.dic (Cr l c)^DA l ds c d) q r #[DA l J c v,by rw[AI,Uz D],Qp O,(j.vO B).q4^CZ m' N]) p]
def aK:D->w_ Bool
 |.lst c=>P3 (!c.isEmpty)
 |.tup c=>P3 (!c.isEmpty)
 |.bl b=>P3 b
 |.non=>P3 u_
 |_=>s_
def dL(wa:DW):Fv:=λn e P=>wa n e λd f=>∃c,aK d=P3 c/\P c f
def Lu{K:Frag}(h:Ats K M H c d):d.isEmpty=c.isEmpty:=by
 have:=h.length
 cases d <;>cases c <;>first|rfl|cases this
def UH{K:Frag}(h:AtT K U M H d x)(e:aK d=P3 c):Ys K x H c:=by
 cases d with
 |lst j=>cases e;let#[a,f,rfl,_,g,i]:=h;exact .inl #[f,.inl g,by rw[Lu i]]
 |tup j=>cases e;let#[a,f,rfl,g,i]:=h;exact .inr^.inl #[f,.inl^.inl g,by rw[Lu i]]
 |bl b=>cases e;rw[h.bl];exact rfl
 |non=>cases e;rw[h];exact rfl
 |_=>cases e
def Jk(h:DE X e κ wa)(g:∀f,isTrue e X.env f=(do let v ←f;standAt e.pos;holding [v]^truthy v):=by intro _;rfl):DT X e^dL wa:=by
 let#[t,i,j]:=h;refine#[_,U1 i g,λC M H n k l P Q R w q=>?_];refine j C M H n k l _ _ R w λv m d o r s u p=>?_;let#[c,x,p]:=p;exact#[c,UH (u.vv R.dom R.vM) x,q c m o r s p]
def OI(c:Bool)(d e:D)(P:D->Prop):Prop:=e=.non/\P^.bl (if c then !Vt d else Vt d)
def Wi{K:Frag}:Dg K .sh (λx y H Q=>y=.non/\Q (.bl (decide (x=.non))) H)^OI u_:=λU M H d e x y P Q c h f g w q=>by
 let#[rfl,w]:=w;exact#[g,q _ H _ .refl (by rw[OB f];rfl) w]
def Wh{K:Frag}:Dg K .sh (λx y H Q=>y=.non/\Q (.bl (!decide (x=.non))) H)^OI t_:=λU M H d e x y P Q c h f g w q=>by
 let#[rfl,w]:=w;exact#[g,q _ H _ .refl (by rw[OB f];rfl) w]

def QV(wa i:DW):DW:=λn e P=>wa n e λd j=>∃g h,Jr d=P3 (g,h)/\i j e λk l=>∃c,keyOf k=P3 c/\P ((BO g h c).getD .non) l
def T5(wa i j:DW):DW:=λn e P=>wa n e λd l=>∃g h,Jr d=P3 (g,h)/\i l e λk m=>j m e λz o=>∃c,keyOf k=P3 c/\P ((BO g h c).getD z) o
theorem UA{K:Frag}(e:Jr d=P3 (ks,g))(h:AtT K U M H d x)(l:At K M H z v):∃a o,x=.ref a/\vS H a (kV key) o/\At K M H ((BO ks g key).getD z)^o.getD v:=by
 let#[a,m,rfl,i,j]:=Jq e h;exists a,_,rfl,IS i;have h:=Fw (k:=key) (ks:=ks) j;cases c:BO ks g _ with
 |none=>simp_all
 |some y=>rw[c]at h;let#[u,n,p]:=h;grind
def Vy{K:Frag}(e:Jr d=P3 (c,g))(h:AtT K U M H d x):∃a,x=.ref a/\gu H a:=by
 let#[a,j,rfl,i,k]:=Jq e h;exact#[a,rfl,.inl #[_,i]]
def YU(D:zy k X.A)(E:DE X a zU wa)(F:DE X b zR wb)(m:M1 X a "get" apos b cpos:=by exact#[rfl,rfl,rfl,rfl]):DE X (.Call (.Attribute a "get" apos) [b] [] cpos) .sh^QV wa wb:=by
 let#[t,G,I]:=E;let#[u,J,K]:=F;refine#[_,VI (GI D) G J m,λC M H n j l P Q R w q=>?_];refine I C M H n j l _ _ R w λv H1 d L r N s p=>?_;let#[Y,Z,x,p]:=p;have c:=R.step r N;let#[O,rfl,S]:=Vy x^s.vv R.dom R.vM;exists O,rfl,S;refine K C M H1 L j l _ _ c p λy H2 kk T h B U p=>?_;let#[key,e,p]:=p;have R2:=c.step h B;have i:=(s.vv R.dom R.vM).q4 (c.q4 h) h R.uV;let#[V,o,ex,g,W]:=UA (key:=key) x i (z:=.non) (v:=.non) rfl;cases ex;exact#[o,by rw[DK e^U.vv c.dom c.vM];exact g,q _ H2 _ T (r.trans h) B W p]
def YT(E:zy k X.A)(F:DE X a zU wa)(G:DE X b zR wb)(I:DE X f κf wf)(J:κf≠.tp:=by intro z;cases z)(m:M2 X a "get" apos b f cpos:=by exact#[rfl,rfl,rfl,rfl]):DE X (.Call (.Attribute a "get" apos) [b,f] [] cpos) .sh^T5 wa wb wf:=by
 let#[t,K,L]:=F;let#[u,N,O]:=G;let#[u2,S,T]:=I;refine#[_,VH (GI E) K N S m,λC M H n j l P Q R w q=>?_];refine L C M H n j l _ _ R w λv H1 d U s V x p=>?_;let#[ks,ds,B,p]:=p;have e:=R.step s V;let#[W,rfl,Y]:=Vy B^x.vv R.dom R.vM;exists W,rfl,Y;refine O C M H1 U j l _ _ e p λy H2 kk Z i f2 r2 p=>?_;have R2:=e.step i f2;refine T C M H2 Z j l _ _ R2 p λz H3 dz n3 c D r3 p=>?_;let#[key,h,p]:=p;have R3:=R2.step c D;have r:=((x.vv R.dom R.vM).q4 (e.q4 i) i R.uV).q4 (R2.q4 c) c R.uV;have hy:=(r2.vv e.dom e.vM).q4 (R2.q4 c) c R.uV;let#[a0,o,ex,g,hz]:=UA (key:=key) B r^r3.vD R2.dom J;cases ex;exact#[o,by rw[DK h hy];exact g,q _ H3 _ n3 ((s.trans i).trans c) D hz p]
end
section

def T9:DW:=λn _ P=>P (.dic [] []) n
def WS:DE X (.Dict [] [] pos) .fr T9:=by
 refine#[_,JH,λC M H n b c P Q R w q=>λp a=>?_];have g:vJ H^AX H p^.dK []:=AV a;exact q _ _ (.dic [] []) n g.ext (R.feed.grow g) #[p,rfl,a,[],AI,rfl,rfl] w
end
end Dp
namespace L2
end L2
namespace Dp
open L2
section

mutual
theorem At.frz{K:Frag}{M:Ch->Prop}{H:Hp}{a:Ch}{f:Ch->Obj}{kvs:v_ (Key×V)}(ha:H a=P3^.dK kvs):∀{d:D}{v:V},FQ d=t_->At K M H d v->At K M (Fj H [a] f) d v
 |.non,v,_,h=>h
 |.bl b,v,_,h=>h
 |.int i,v,_,h=>h
 |.str x,v,_,h=>h
 |.tup ds,v,hn,h=>by
  let#[b,vs,e,n2,hs]:=h;refine#[b,vs,e,?_,Ats.frz ha hn hs];unfold NdT at n2 ⊢;rw[Dw λz=>by rw[Re.mp z,ha]at n2;cases n2];exact n2
 |.lst ds,v,hn,h=>by
  let#[b,vs,e,#[n1,n2],hs]:=h;refine#[b,vs,e,#[n1,?_],Ats.frz ha hn hs];rw[Dw λz=>by rw[Re.mp z,ha]at n2;cases n2];exact n2
 |.dic _ _,v,hn,h=>by cases hn
 |.fdi _ _,v,hn,h=>by cases hn
 |.dit _ _,v,hn,h=>by cases hn
 |.ob _,v,hn,h=>by cases hn
theorem Ats.frz{K:Frag}{M:Ch->Prop}{H:Hp}{a:Ch}{f:Ch->Obj}{kvs:v_ (Key×V)}(ha:H a=P3^.dK kvs):∀{ds:v_ D}{vs:v_ V},DY ds=t_->Ats K M H ds vs->Ats K M (Fj H [a] f) ds vs
 |[],vs,_,h=>h
 |d::ds,vs,hn,h=>by
  let#[v,r,e,h1,h2]:=h;have hn:(FQ d&&DY ds)=t_:=hn;rw[jv]at hn;exact#[v,r,e,At.frz ha hn.1 h1,Ats.frz ha hn.2 h2]
end
end
def Ea:v_^v_ Key->v_ D->v_ Key->w_ D
 |a::b,d::c,k=>if a=k then P3 d else Ea b c k
 |_,_,_=>s_
def N9:v_ D->w_^v_ Key
 |[]=>P3 []
 |d::a=>match keyOf d,N9 a with
  |some k,P3 b=>P3 (k::b)
  |_,_=>s_
def keysOf:D->w_^v_ Key
 |.tup a=>N9 a
 |_=>s_
section
variable {K:Frag}
theorem NK:∀{ks:v_^v_ Key}{c:v_ D}{a:v_ V},Ats K M H c a->
  match Ea ks c k with
  |some z=>∃v,Cw (ks.zip a) k=P3 v/\At K M H z v
  |none=>Cw (ks.zip a) k=s_
 |[],c,a,h=>by unfold Ea;exact rfl
 |b::ks,[],a,h=>by cases h;exact rfl
 | b::ks,d::c,a,h=>by
  let#[v,r,rfl,f,g]:=h;have i:=NK (k:=k) (ks:=ks) g;unfold Ea
  by_cases e:b=k
  .rw[if_pos e]
   refine#[v,?_,f];show Cw ((b,v)::ks.zip r) k=P3 v;rw[Dk e]
  .rw[if_neg e]
   have:Cw ((b,v)::ks.zip r) k=Cw (ks.zip r) k:=Dl e
   rw[show(b::ks).zip (v::r)=(b,v)::ks.zip r from rfl,this];exact i
def Vr(e:keyOf d=P3 k)(h:At K M H d v):v=kV k:=by
 cases d with
 |int i=>cases e;exact h
 |str x=>cases e;exact h.1
 |_=>cases e
theorem N8:∀{a:v_ D}{b:v_ V}{c:v_ Key},N9 a=P3 c->Ats K M H a b->b=c.map kV
 |[],b,c,e,h=>by cases e;exact h
 | d::a,b,c,e,h=>by
  let#[v,r,rfl,i,j]:=h;unfold N9 at e;cases f:keyOf d with
  |none=>rw[f]at e;cases e
  | some k=>
   cases g:N9 a with
   |none=>rw[f,g]at e;cases e
   |some l=>
    rw[f,g]at e;cases e;rw[N8 g j,Vr f i];rfl
def G4(e:keysOf d=P3 k)(h:AtT K U M H d v):∃b,v=.ref b/\H b=P3^.tup^k.map kV:=by
 cases d with
 |tup g=>
  let#[a,i,rfl,c,f]:=h.tup;exists a,rfl;rw[←N8 e f];exact c
 |_=>cases e
def Jp(h:AtT K U M H (.dit c d) x):∃a b,x=.ref a/\Rd H a^.dT^c.zip b/\Ats K M H d b:=by
 let#[a,b,rfl,_,e,_,f]:=h;exact#[a,b,rfl,.inl e,f]
def YK(e:Rd H a^.dT c)(eb:H b=P3^.tup^k.map kV):vS H a (.ref b)^Cw c k:=.inr #[c,k,b,e,rfl,eb,rfl]
def Za(d e:D)(P:D->Prop):Prop:=∃a b k z,d=.dit a b/\keysOf e=P3 k/\Ea a b k=P3 z/\P z
def cR:Dg K .sh Us Za:=λU M H d e x y P Q c r f g w q=>by
 let#[ks,s,k,z,rfl,i,j,w]:=w;let#[a,t,rfl,l,m]:=Jp f;let#[b,rfl,n]:=G4 i g;have h:=NK (k:=k) (ks:=ks) m;rw[j]at h;let#[v,o,p]:=h;exact#[a,v,rfl,by rw[←o];exact YK l n,q v H z .refl p w]

def YL(g:zy k X.A)(h:DE X a zU wa)(i:DE X b zR wb)(j:Yt b:=by intro _ _;rfl):DE X (.Subscript a b pos) .sh^Ak Za wa wb:=by
 let#[l,c,d]:=h;let#[m,e,f]:=i;exact#[Dh Us l m,IH (GI g) c e j,λC M H n o p P Q R w q=>EO cR d f C M H n o p P Q R w q]
end
def Jd(a:v_^v_ Key)(k:v_ Key):Bool:=a.any λb=>decide (b=k)
def yQ:Jd a k=t_↔k∈a:=by
 unfold Jd;rw[nO];exact#[fun#[x,hx,e]=>by rw[←of_decide_eq_true e];exact hx,λh=>#[k,h,decide_eq_true rfl]]
def Eg(a:v_^v_ Key)(k:v_ Key):v_^v_ Key:=if Jd a k=t_ then a else a++[k]
def CO(b:v_^v_ Key)(c:v_ a)(k:v_ Key)(d:a):v_ a:=if Jd b k=t_ then mF (λe f=>if e=k then d else f) b c else c++[d]
theorem Wa(j:c.length=d.length)(k:v_ Key):((c.zip d).any λf=>decide (f.1=k))=Jd c k:=by
 rw[kR,nO,yQ];constructor
 .rintro⟨⟨a,b⟩,g,e⟩
  have e:a=k:=of_decide_eq_true e;rw[←e];exact(oY g).1
 .intro h
  let#[i,l,e]:=oU.mp h;refine#[(c[i],d[i]'(by lk)),?_,by rw[e];exact decide_eq_true rfl];exact oU.mpr #[i,by rw[l_];lk,by rw[List.getElem_zip]]
def SJ(f:c.length=d.length)(k:v_ Key)(v:V):putK (c.zip d) k v=(Eg c k).zip^CO c d k v:=by
 unfold putK Eg CO;rw[Wa f]
 by_cases h:Jd c k=t_
 .rw [if_pos h,if_pos h,if_pos h]
  have go:∀(c:v_^v_ Key) (d:v_ V),((c.zip d).map λe=>if e.1=k then(e.1,v)else e)=c.zip^mF (λg i=>if g=k then v else i) c d:=by
   intro c
   induction c with
   |nil=>intro d;rfl
   | cons a c j=>
    intro d;cases d with
    |nil=>rfl
    |cons b d=>
     show(if a=k then(a,v)else(a,b))::_=(a,if a=k then v else b)::_;exact List.cons_eq_cons.mpr #[by split <;>rfl,j d]
  exact go c d
 .rw[if_neg h,if_neg h,if_neg h,List.zip_append f]
  rfl
theorem Ats.putU{K:Frag}(hd:At K M H d v):∀{c:v_^v_ Key}{f:v_ D}{b:v_ V},Ats K M H f b->Ats K M H (mF (λi j=>if i=k then d else j) c f)^mF (λi j=>if i=k then v else j) c b
 |[],f,b,h=>rfl
 |a::c,[],b,h=>by cases(show b=[]from h);rfl
 |a::c,e::f,b,h=>by
  let#[u,r,rfl,l,m]:=h;refine#[_,_,rfl,?_,Ats.putU hd m];show At K M H (if a=k then d else e) (if a=k then v else u)
  by_cases g:a=k
  .rw[if_pos g,if_pos g];exact hd
  .rw[if_neg g,if_neg g];exact l
def Ats.putXU{K:Frag}(hd:At K M H d v)(h:Ats K M H b c):Ats K M H (CO a b k d)^CO a c k v:=by
 unfold CO
 split
 .exact Ats.putU hd h
 .exact h.append^Ats.one hd
theorem Uy(e:a.length=b.length):(Eg a k).length=(CO a b k d).length:=by
 unfold Eg CO
 split
 .rw[List.length_zipWith];lk
 .rw[eq,eq];show a.length+1=b.length+1;lk
section

def aC:DW:=λn _ P=>P (.dit [] []) n
def WQ:DE X (.Dict [] [] pos) .fr aC:=by
 refine#[_,VG,λC M H n b c P Q R w q=>λp a=>?_];have g:vJ H^AX H p^.dT []:=AV a;exact q _ _ (.dit [] []) n g.ext (R.feed.grow g) #[p,rfl,a,[],AI,rfl,rfl] w
end
end Dp
namespace L2
def v9(h:jq)(a:Ch)(b:Array ng)(c:Nat):Prop:=∃o,h.get? a=P3 o/\o.ExactDict/\o.data=.dict b c
section
variable {s:Shared}
def v9.ty(x:v9 s.heap d es ep):s.TypeIs (.ref d) "dict":=let #[o,a,b,_]:=x;#[o,a,b.1]
def v9.lt(x:v9 h d es ep):d<h.objs.size:=let #[_,a,_]:=x;Tk a
def v9.to(x:v9 h d es ep)(k:∀o,h.get? d=P3 o->a.get? d=P3 o):v9 a d es ep:=let #[o,b,c]:=x;#[o,k o b,c]
theorem Ug(lo:(d==sysModules)=u_)(x:v9 s.heap d es ep)
  (q:Q (.ref s.heap.objs.size) {s with heap:=s.heap.push {cls:=.type "dict_keyiterator",data:=.fields #[ .ref d,.int 0 0,.int es.size 0,.int ep 0]}}):wpAny (model P w) A (pyIter^.ref d) Q E s:=by
 have T:=x.ty;let#[o,b,e,c]:=x;refine wpAny_pyIter_slot T F.slot_dict_iter^lQ F.slot_dict_iter T F.entry_dict_iter ?_^F.args_dict_iter_1 _;unfold lm.«dict.__iter__»;refine Cn ?_
 unfold Builtin.Dict.dictSlotNone;refine Cn^pR T ?_
 show wpAny (model P w) _ (pure^Uf d) _ _ s;refine On ?_
 show wpAny (model P w) _ (pS d >>=_) _ _ s;unfold pS
 rw[if_neg^by rw[lo];decide];refine Cn^On^Cn^l8 b c^Cn^px b c ?_
 refine Cn^lH^On #[_,rfl,"dict_keyiterator",_,#[_,TW _ rfl,rfl],lz.lookup,?_];simpa [rawInt]using q
theorem Uh(x:s.heap.IsKeyIter t d i es.size ep)(y:v9 s.heap d es ep)(hi:i<es.size)
  (q:∀e,e.IsKeyIter t d (i+1) es.size ep->mC t s.heap e->Q (P3 es[i].key) {s with heap:=e}):wpAny (model P w) A (pyNext^.ref t) Q E s:=by
 have T:=x.typeIs;let#[o,f,k,c]:=x;let#[m,g,n,h]:=y;unfold pyNext;refine Cn^nU^lA (name:=kU "__next__") T lz^lQ lz T p7 ?_^p6 _
 refine Cn^On^Cn^Cn ?_
 first|refine Cn^mX T^On ?_|refine Cn^nP T^On ?_
 refine Cn^wpAny_fieldsOf f c ?_;have ow:qE "dict_keyiterator"=u_:=by cbv
 simp only[ow,kG,if_false];show wpAny (model P w) _ (if(Uf d==kE)=t_ then _ else _) _ _ s;rw[if_neg (show ¬(Uf d==kE)=t_ by intro z;cases z)];refine Cn^On^Cn^l8 g h ?_
 rw[if_neg^by simp];refine Cn^On^Cn^px g h ?_
 rw[if_neg^by simp];refine On ?_
 simp only[show ¬(i:Int)<0 by lk,if_false,m_,mO hi];refine Cn ?_
 first|refine Cn^mX T^On ?_|refine Cn^nP T^On ?_
 refine Cn^wpAny_isOneOf_keyiter T ?_;show wpAny (model P w) _ (setField (.ref t) 1^rawInt ((i:Int)+1) >>=_) _ _ s
 refine Cn^nI f c (by simp) ?_;have j:(s.heap.update t (mH (·.setIfInBounds 1^rawInt ((i:Int)+1)))).IsKeyIter t d (i+1) es.size ep:=#[_,kY _ f^pQ^mq c _,(Obj.cls_mapFields ..).trans k,by rw[mq c];simp[rawInt]];refine Cn (kQ (Cn (wpAny_isOneOf_keyiter (s:={s with heap:=s.heap.update t (mH (·.setIfInBounds 1^rawInt ((i:Int)+1)))}) j.typeIs ?_)));show wpAny (model P w) _ (pure es[i].key) _ _ _;exact On^On #[_,rfl,On^q _ j (ma ..)]
theorem XW(k:A.handled=s_)(x:s.heap.IsKeyIter t d i es.size ep)(y:v9 s.heap d es ep)(hi:es.size<=i)
  (q:∀e,rN t s.heap e->Q s_ {s with heap:=e}):wpAny (model P w) A (pyNext^.ref t) Q E s:=by
 have T:=x.typeIs;let#[o,f,l,g]:=x;let#[n,h,p,j]:=y;unfold pyNext;refine Cn^nU^lA (name:=kU "__next__") T lz^lQ lz T p7 ?_^p6 _
 refine Cn^On^Cn^Cn ?_
 first|refine Cn^mX T^On ?_|refine Cn^nP T^On ?_
 refine Cn^wpAny_fieldsOf f g ?_;have ow:qE "dict_keyiterator"=u_:=by cbv
 simp only[ow,kG,if_false];show wpAny (model P w) _ (if(Uf d==kE)=t_ then _ else _) _ _ s;rw[if_neg (show ¬(Uf d==kE)=t_ by intro z;cases z)];refine Cn^On^Cn^l8 h j ?_
 rw[if_neg^by simp];refine Cn^On^Cn^px h j ?_
 rw[if_neg^by simp];refine On ?_
 simp only[show ¬(i:Int)<0 by lk,if_false,m_,rP hi];refine Cn ?_
 first|refine Cn^mX T^On ?_|refine Cn^nP T^On ?_
 show wpAny (model P w) _ (setField (.ref t) 0 .none >>=_) _ _ s;refine Cn^nI f g (by simp) ?_
 show wpAny (model P w) _ (newExc (.type "StopIteration") [] >>=_) _ _ _;refine Cn ?_
 simp only[newExc,newTuple];refine Cn^lH ?_^by size_fits
 refine Cn (m:=firstArgMember _ _) (qG (a:=kE) (by first|rfl|(simp only[firstArgMember];rfl))^lH ?_^by size_fits);simp only[raiseNew];refine Cn^wpAny_handled ?_
 rw[show A.in1.handled=s_ from k];refine Cn^On^wpAny_throw ?_;refine Cn^pM (T:="StopIteration") (b:=t_) #[_,TW _ rfl,rfl] isSubtype_stop ?_
 exact On^q _^((ma ..).extBut.push _).push _
def SI(p:A.handled=s_)(I d:Ch)(g:d≠I)(es:Array ng)(ep:Nat):Walks P w A I [I,d] [I] es.size (λi v=>∃e,es[i]?=P3 e/\v=e.key) (λi h=>h.IsKeyIter I d i es.size ep/\v9 h d es ep) where
 sub:=λb c=>by rw[Re.mp c];exact No
 frame:=λ_ _ _ a l=>#[a.1.at λo e=>l I (by simp) o e,a.2.to λo e=>l d (by simp) o e]
 item:=λi s Q E m a f=>Uh a.1 a.2 m λj k n=>f _ j s.toks #[_,mO m,rfl] #[k,a.2.to λo e=>n.extBut d o g e] λb o c e=>n.extBut b o (λh=>c^by simp[h]) e
 done:=λs Q E a f=>XW p a.1 a.2 (Sc _) λj q=>f j s.toks λb o c e=>q b o (λh=>c^by simp[h]) e
 self:=λ_ _ _ _ a f=>wpAny_pyIter_keyiter a.1 f
def Qk(lo:(d==sysModules)=u_):PySem.W.KdlSrc P w "dict" d d es.size (λi v=>∃e,es[i]?=P3 e/\v=e.key) (λh=>v9 h d es ep) where
 type:=λ_ x=>x.ty
 there:=λ_ x=>#[x.lt,x.lt]
 keep:=λ_ _ x k=>x.to λo e=>k d (.inl rfl) o e
 notList:=by cbv
 notTuple:=by cbv
 hint:=λ_ _ _ _ x q=>PySem.W.kdl_hint_dict x.ty q
 iter:=λ_ _ a x=>#[_,_,(λ_ _ q=>Ug lo x q),SI a _ d (jo x.lt) es ep,#[#[_,TW _ rfl,rfl,rfl],x.to λo e=>FM _ e]]
end
open PySem.W
def RF(k:Key):kOf k=kV k:=by cases k <;>rfl
def X3(a:v_ Key):a.map kOf=a.map kV:=lV λk _=>RF k
section

def IP(ok:HOk P w H h)(hd:Rd H d^.dT b):
  ∃(o:Obj) (c:Array ng) (f:Nat) (g:v_ Ch),h.get? d=P3 o/\o.ExactDict/\o.data=.dict c f/\g.length=b.length/\c.size=b.length /\
   (∀(i:Nat) (e:ng),c[i]?=P3 e->∃a,g[i]?=P3 a/\e.key=.ref a)/\∀(i:Nat) (a:Ch) (p:v_ Key×V),g[i]?=P3 a->b[i]?=P3 p->H a=P3^.tup^p.1.map kV:=by
 let#[_,_,j,r,o,c,f,y,z,A,s,C,D]:=Dy ok hd
 have t:b.length=j.length:=by
  have:∀{l:v_ (v_ Key×V)}{m:v_ (v_ Key×Ch×Db)},KT H l m->l.length=m.length:=λq=>q.length
  exact this r
 have k:c.size=j.length:=by rw[←kT,s,Ev]
 refine#[o,c,f,j.map λx=>x.2.1,y,z,A,by rw[Ev,t],by rw[k,t],λi e u=>?_,λi a p v B=>?_]
 .rw[←oH,s,ji]at u
  let#[x,n,rfl]:=kO.mp u;exact#[x.2.1,by rw[ji,n];rfl,rfl]
 .rw[ji]at v
  let#[x,n,rfl]:=kO.mp v
  have:=JI r B n
  exact this.2.1
def Uo:v_ V->Hp->VK->Prop:=λf H Q=>∃(d:Ch) (b:v_ (v_ Key×V)),f=[.ref d]/\Rd H d^.dT b/\b.length<64/\(∀x∈b.map (·.1),∀y∈b.map (·.1),BI x y=t_)/\(∀x∈b.map (·.1),x≠[]) /\
 ∀(c:v_ Ch) (e:v_ Nat) (l:Ch),c.length=b.length->(∀(i:Nat) (a:Ch) (p:v_ Key×V),c[i]?=P3 a->b[i]?=P3 p->H a=P3^.tup^p.1.map kV)->Hs (b.map (·.1)) e->H l=s_->
  Q (.ref l) (AX H l^.lst^e.map λi=>(c.map V.ref).getD i .non)
theorem J7(E:X.calm=t_):zS X (.builtin "sorted") Uo:=by
 intro F s G H xs us Q I r h;let#[d,j,rfl,y,J,k,m,q]:=h;let#[u,rfl,K]:=vals1 r;cases K;let#[o,es,ep,f,L,M,N,n,g5,O,z]:=IP I.hok y;have R:=(Dy I.hok y).2.1;refine Cy (kw:=[]) (args_sorted1 _) (λx=>args_list_sort _)^PySem.W.kdu_collect (Qk (P:=X.prog) (w:=X.w) (es:=es) (ep:=ep) R) (show X.A.in1.handled=s_ from by simp[I.ok.hd E]) #[o,L,M,N] (by rw[kJ];lk) λS B c t b=>#[by rw[kT,b.1,kJ];lk,?_];have T:Inv X F G H {s with heap:=S,toks:=B}:=I.kept (t':=B) t
 have U:c.toList=f.map Uf:=by
  refine qd λi=>?_;cases C:c.toList[i]? with
  |some v=>
   let#[e,V,rfl]:=b.2 i v (by rw[←oH];exact C);let#[a,Y,Z]:=O i e V;rw[ji,Y,Z];rfl
  |none=>
   have:c.toList.length<=i:=qh.mp C
   rw[kT,b.1]at this;rw[oJ^by rw[Ev];lk]
 rw[U];refine LG T (Gj f) (by rw[Ev];lk) (keys:=j.map (·.1)) #[by rw[Ev,Ev];exact n,λi ns e=>?_,k,m] λix l ho hl=>q f ix l n z ho hl;rw[ji]at e;let#[p,D,rfl]:=kO.mp e;have g:i<f.length:=by rw[n];exact(XV.mp D).1
 refine#[f[i],by rw[ji,Op g];rfl,?_];rw[X3];exact SqT.of^z i _ p (Op g) D
end
end L2
namespace Dp
open L2
def tupK(k:v_ Key):D:=.tup^k.map Zq
theorem N7{K:Frag}:∀{k:v_ Key},(∀x∈k,EJ x)->Ats K M H (k.map Zq)^k.map kV
 |[],_=>rfl
 |x::k,h=>#[kV x,k.map kV,rfl,by rw[←RF];exact WT^h x No,N7 λy a=>h y^Rs _ a]
theorem Ii{K:Frag}:∀{b:v_^v_ Key}{c:v_ Ch},c.length=b.length->(∀k∈b,∀x∈k,EJ x)->(∀(i:Nat) (a:Ch) (k:v_ Key),c[i]?=P3 a->b[i]?=P3 k->H a=P3^.tup^k.map kV)->Ats K M H (b.map tupK)^c.map V.ref
 |[],[],_,_,_=>rfl
 |k::b,a::c,e,d,h=>#[.ref a,c.map V.ref,rfl,#[a,k.map kV,rfl,h 0 a k rfl rfl,N7^d k No],Ii (by simpa using e) (λk f=>d k^Rs _ f) λi g j l m=>h (i+1) g j (by simpa using l)^by simpa using m]
section
variable {X:Cx}
def V6(f:v_ D)(P:D->Prop):Prop:=∃(c:v_^v_ Key) (e:v_ D),f=[.dit c e]/\c.length=e.length/\c.length<64/\(∀x∈c,∀y∈c,BI x y=t_)/\(∀x∈c,x≠[])/\(∀k∈c,∀x∈k,EJ x) /\
 ∀d:v_^v_ Key,d.Perm c->d.Pairwise (λa b=>Be b a=u_)->P^.lst^d.map tupK
theorem VN(h:Hs c d):(d.map λi=>c.getD i []).Perm c/\(d.map λi=>c.getD i []).Pairwise (λa b=>Be b a=u_):=by
 let#[f,g]:=h;have o:d.length=c.length:=by rw[f.length_eq,pB]
 constructor
 .have:=f.map λi=>c.getD i []
  have e:(kH c.length).map (λi=>c.getD i [])=c:=by
   apply qz
   .simp
   .intro i f g
    simp[g]
  rw[e]at this;exact this
 .rw[qg]
  intro i j m n k;rw[Ev]at m n
  have:=g i j (pY k)^by lk
  rw[q_,q_];rw[j9 (l:=d),Op n,j9 (l:=d),Op m]at this;exact this
theorem Rl:Bw X.K .fr Uo V6:=by
 intro U M H O R P Q t S u w q;let#[c,T,rfl,W,x,e,f,y,w]:=w;let#[v,rfl,z]:=CJ u;let#[a,g,rfl,A,B]:=Jp z;have C:=B.length;have h:(c.zip g).map (·.1)=c:=List.map_fst_zip (by lk);have j:(c.zip g).length=c.length:=by rw[l_];lk
 refine#[a,_,rfl,A,by lk,by rw[h];exact e,by rw[h];exact f,λD m l E n o d=>?_];rw[h]at o;let#[F,G]:=VN o
 have I:Ats X.K M H (c.map tupK)^D.map V.ref:=Ii (by lk) y λi b k J s=>by
  have p:i<(c.zip g).length:=by rw[j];exact(XV.mp s).1
  have:=n i b _ J^Op p
  rw[List.getElem_zip]at this;let#[_,L]:=XV.mp s;rw[L]at this;exact this
 have N:(m.map λi=>(c.map tupK).getD i .non)=(m.map λi=>c.getD i []).map tupK:=by
  rw[ke];refine lV λi p=>?_;have r:i<c.length:=lR.mp^o.1.mem_iff.mp p;show(c.map tupK).getD i .non=tupK^c.getD i [];rw[j9,j9,ji,Op r];rfl
 have:=w _ F G
 rw[←N]at this;exact q _ _ (.lst _) (AV d) (Bg d^I.pick m) this
end
end Dp
namespace Nt
open L2 Dp
abbrev EE(a:D->Sg->Prop):E2:={nx:=λn _=>Kd.sh=.sh/\a .non n,rt:=a}
theorem BJ(g:D->D)(I:v_ Slot->Prop):∀(e a:v_ D) (n:Sg) (c:v_ Slot),
  (∀d∈e,∀(c:v_ Slot) (n:Sg) (l:D->Sg->v_ Slot->Prop),I c->(∀i,I i->l (g d) n i)->b d c λm=>k n m λy p=>l y p m)->I c->P (a++e.map g) n->JW b dH k P e a n c
 |[],a,n,c,_,_,h=>by rw[rq,j5]at h;exact h
 |d::e,a,n,c,o,j,h=>o d No c n _ j λi f=>
  BJ g I e _ n _ (λd q=>o d^Rs _ q) f (by simp_all)
section
theorem ig(a:v_ b):Dp.cutD a (P3 1) s_=a.drop 1:=by
 unfold Dp.cutD;rw[HT.sIx_none,show 1=((1:Nat):Int)from rfl,HT.sIx_nat]
 by_cases h:1<=a.length
 .rw[Nat.min_eq_left h]
  exact List.take_of_length_le^by simp_all
 grind
end
def strsOf(a:v_ D):v_ Str:=(QJ a).getD []
def cQ(p:a->Bool)(l:v_ a):(l.map p).all id=l.all p:=by simp_all
def Dn(h:∀c∈cs x,c<1114112):PyData.strOk x=t_:=by
 unfold PyData.strOk;rw[←Array.all_toList,lE];intro c a;exact decide_eq_true^h c a
theorem Cj(h:Du x):CT^.str x:=#[rfl,Dn λc a=>by have:=h.2.2 c a;lk,jp _]
def N6{a:v_ Str}(h:∀p∈a,Du p):DY^a.map .str=t_/\nA^BR^a.map .str=t_/\l9^BR^a.map .str=0:=by
 induction a with
 |nil=>exact#[rfl,rfl,rfl]
 | cons p r b=>
  let#[e,c,f]:=b λq d=>h q^Rs _ d;exists by assumption,?_
  .rw[jy,BR,nA,c,Bool.and_true]
   exact(Cj^h p No).2.1
  assumption
def FA{ps:v_ Str}(h:∀p∈ps,Du p):CT^.tup^ps.map .str:=by
 let#[a,b,c]:=N6 h;exists a,b;show l9 _+1<=100
 simp_all
def Io(a:v_ Str):strsOf^a.map .str=a:=by unfold strsOf;rw[KI];rfl
mutual
def G_(B:Nat):D->Prop
 |.int i=>i.natAbs<=B
 |.str x=>∀c∈cs x,c<1114112
 |.tup ds=>Ji B ds
 |.lst ds=>Ji B ds
 |.dic _ _=>False
 |.fdi _ _=>False
 |.dit _ _=>False
 |.ob _=>False
 |_=>True
def Ji(B:Nat):v_ D->Prop
 |[]=>True
 |d::ds=>G_ B d/\Ji B ds
end
mutual
def SA:D->Nat
 |.int _=>200
 |.str x=>x.length
 |.tup ds=>NV ds
 |.lst ds=>NV ds
 |_=>0
def NV:v_ D->Nat
 |[]=>0
 |d::ds=>SA d+1+NV ds
end
mutual
def TN:D->Nat
 |.tup ds=>Lg ds+1
 |.lst ds=>Lg ds+1
 |_=>0
def Lg:v_ D->Nat
 |[]=>0
 |d::ds=>max (TN d)^Lg ds
end
theorem vX{B:Nat}:∀{b:v_ D},Ji B b↔∀d∈b,G_ B d
 |[]=>#[(λ_ d h=>by cases h),λ_=>trivial]
 | d::b=>by
  have c:=@vX B b;constructor
  .rintro⟨f,g⟩ e a
   rcases UF.mp a with rfl|a
   .exact f
   .exact c.mp g e a
  .exact λh=>#[h d No,c.mpr λe a=>h e^Rs _ a]
theorem v7{k:Nat}:∀{a:v_ D},Lg a<=k↔∀d∈a,TN d<=k
 |[]=>#[(λ_ d h=>by cases h),λ_=>jp _]
 | d::a=>by
  have c:=@v7 k a;show max (TN d)^Lg a<=k↔_;rw[Nat.max_le,c];constructor
  .rintro⟨f,g⟩ e b
   rcases UF.mp b with rfl|b
   .exact f
   .exact g e b
  .exact λh=>#[h d No,λe b=>h e^Rs _ b]
theorem Qg:∀(a:v_ D),a.length<=NV a
 |[]=>jp _
 |d::a=>by
  have:=Qg a
  show a.length+1<=SA d+1+NV a;lk
mutual
theorem Mh{B:Nat}(hB:B<10 ^ 45):∀{d:D},G_ B d->FQ d=t_/\(toPy d).showable=t_/\(toPy d).canLay0=t_/\(toPy d).depth=TN d/\(toPy d).leavesShort 60=t_/\(toPy d).weight<=SA d
 |.non,_=>#[rfl,rfl,rfl,rfl,rfl,Sc _]
 |.bl b,_=>#[rfl,rfl,rfl,rfl,rfl,Sc _]
 | .int i,h=>by
  have h':i.natAbs<=B:=h;have hlt:i.natAbs<10 ^ 45:=nh h' hB;have h2:i.natAbs<2 ^ 150:=Nat.lt_trans hlt^by cbv
  have hl:i.natAbs.log2<150:=by
   by_cases h0:i.natAbs=0
   .rw[h0];decide
   .exact(Nat.log2_lt h0).mpr h2
  refine#[rfl,?_,rfl,rfl,?_,?_]
  .show decide (i.natAbs.log2<1920)=t_
   exact decide_eq_true^by lk
  .show decide ((PyData.shown^.int i).length<=60)=t_
   refine decide_eq_true ?_
   have:=int_text_length_le10 (a:=i) (k:=45) (by cbv) hlt
   show(kU^toString i).length<=60;rw[PySem.ofString_length];lk
  .show(if i==0 then 0 else i.natAbs.log2+1)<=200
   split <;>lk
 |.str x,h=>by
  have h':∀c∈cs x,c<1114112:=h;refine#[rfl,rfl,Dn h',rfl,?_,Sc _];show(x.cps.toList.all λc=>decide (c<16 ^ 8))=t_;rw[lE];intro c hc;exact decide_eq_true^Nat.lt_trans (h' c hc)^by cbv
 |.tup ds,h=>by
  let#[h1,h2,h3,h4,h5,h6]:=Jh hB (ds:=ds) h;refine#[h1,h2,h3,?_,h5,h6];show l9^BR ds+1=Lg ds+1;rw[h4]
 |.lst ds,h=>by
  let#[h1,h2,h3,h4,h5,h6]:=Jh hB (ds:=ds) h;refine#[h1,h2,h3,?_,h5,h6];show l9^BR ds+1=Lg ds+1;rw[h4]
 |.dic ks ds,h=>(show False from h).elim
 |.fdi ks ds,h=>(show False from h).elim
 |.dit ks ds,h=>(show False from h).elim
 |.ob _,h=>(show False from h).elim
theorem Jh{B:Nat}(hB:B<10 ^ 45):∀{ds:v_ D},Ji B ds->DY ds=t_/\PyData.showableAll^BR ds=t_/\nA^BR ds=t_/\l9^BR ds=Lg ds/\rT 60^BR ds=t_/\PyData.weightAll^BR ds<=NV ds
 |[],_=>#[rfl,rfl,rfl,rfl,rfl,Sc _]
 | d::ds,h=>by
  let#[h1,h2,h3,h4,h5,h6]:=Mh hB (d:=d) h.1;let#[g1,g2,g3,g4,g5,g6]:=Jh hB (ds:=ds) h.2;refine#[?_,?_,?_,?_,?_,?_]
  .show(FQ d&&DY ds)=t_
   rw[h1,g1];rfl
  .show((toPy d).showable&&PyData.showableAll^BR ds)=t_
   rw[h2,g2];rfl
  .show((toPy d).canLay0&&nA^BR ds)=t_
   rw[h3,g3];rfl
  .show max (toPy d).depth^l9^BR ds=max (TN d)^Lg ds
   rw[h4,g4]
  .show((toPy d).leavesShort 60&&rT 60^BR ds)=t_
   rw[h5,g5];rfl
  .show(toPy d).weight+1+PyData.weightAll^BR ds<=SA d+1+NV ds
   lk
end
theorem UO(a:B<10 ^ 45)(h:G_ B d)(hd:TN d<=100)(g:SA d<=270000):Iv d:=by
 let#[b,c,i,e,f,j]:=Mh a h;exists b,c,by rw[e];exact hd
 have:=PyData.shown_le 60 (by cbv) (toPy d) f
 rw[PySem.sizeLine_eq]
 have:62*(toPy d).weight<=62*270000:=Nat.mul_le_mul_left _^by lk
 lk
theorem IE(a:B<10 ^ 45)(h:G_ B d)(hd:TN d<=100)(b:SA d<=200000):Iv d:=UO a h hd^by lk
def Me(a:B<10 ^ 45)(h:G_ B d)(hd:TN d<=100):CT d:=by
 let#[b,f,c,e,g,i]:=Mh a h;exact#[b,c,by rw[e];exact hd]
def item(d:D):Prop:=G_ 1000001 d/\SA d<=450/\TN d<=1
theorem Gn:∀{ds:v_ D},(∀d∈ds,SA d+1<=k)->NV ds<=k*ds.length
 |[],_=>jp _
 |d::ds,h=>by
  have b:=Gn λe a=>h e^Rs _ a;show SA d+1+NV ds<=k*(ds.length+1)
  grind
def GJ(h:∀d∈a,G_ B d):G_ B^.tup a:=vX.mpr h
theorem item_str(h1:x.length<=8)(a:∀c∈cs x,c<1114112):item^.str x:=#[a,by show x.length<=450;lk,jp _]
def Dt(h:Du x):item^.str x:=item_str h.2.1 λc a=>by have:=h.2.2 c a;lk
theorem Vs(e:item^.str a)(f:item^.str b)(h:a.length<=8)(i:b.length<=8)(g:l.natAbs<=1000001):item^.tup [.str a,.str b,.int l]:=by
 exists GJ λd c=>?_,?_
 .simp at c
  rcases c with rfl|rfl|rfl
  .exact e.1
  .exact f.1
  .exact g
 .show a.length+1+(b.length+1+(200+1+0))<=450
  lk
 .show max 0^max 0^max 0 0+1<=1
  decide
theorem En{N:Net}(ok:N.Ok):∀d∈N.ts.map AZ,item d:=λd c=>by
 let#[t,e,rfl]:=TM.mp c;let#[f,g,_,h,i]:=ok.tin t e;have a:=ok.names _ f;have b:=ok.names _ g;exact Vs (Dt a) (Dt b) a.2.1 b.2.1^by lk
def X4{N:Net}(ok:N.Ok):∀d∈N.ps.map D.str,item d:=λd a=>by
 let#[x,b,rfl]:=TM.mp a;exact Dt^ok.names x b
theorem aI(e:∀d∈b,item d)(f:∀d∈c,item d)(g:b.length<=26)(h:c.length<=80):G_ 1000001^.tup [.tup b,.tup c]/\SA^.tup [.tup b,.tup c]<=48000/\TN^.tup [.tup b,.tup c]<=3:=by
 have i:=Gn λd a=>nL (e d a).2.1;have j:=Gn λd a=>nL (f d a).2.1;have k:=v7.mpr λd a=>(e d a).2.2;have l:=v7.mpr λd a=>(f d a).2.2;exists GJ λd a=>?_,?_
 .simp at a
  rcases a with rfl|rfl
  .exact GJ λd a=>(e d a).1
  .exact GJ λd a=>(f d a).1
 .show NV b+1+(NV c+1+0)<=48000
  lk
 .show max (Lg b+1)^max (Lg c+1) 0+1<=3
  lk
def BK(x:Str):¬cs x<cs x:=nJ _
def z2:2<=sizeLine:=by cbv
def z3:3<=sizeLine:=by cbv
def z0:0<=sizeLine:=jp _
def jH:Wv 10 6:=#[by cbv,by cbv,by cbv]
def dZ(s t:Af):Decidable (s=t):=
 if h:s.a=t.a/\s.b=t.b/\s.len=t.len then .isTrue (by let#[a,b,l]:=s;let#[g,i,j]:=t;let#[c,d,f]:=h;simp only at c d f;subst c d f;rfl)else .isFalse λe=>h^by rw[e];exact#[rfl,rfl,rfl]
instance:DecidableEq Af:=dZ
abbrev EF(a:D->Sg->Prop):E2:={nx:=λn _=>Kd.fr=.sh/\a .non n,rt:=a}
def JA(t:Af):v_ Key:=[.inl t.len,.inr t.a,.inr t.b]
def Fs(a:v_ Af):Prop:=a.Pairwise λs t=>Be (JA t)^JA s=u_
def Ui:D->D
 |.tup [x,y,z]=>.tup [z,x,y]
 |d=>d
def iO(x:Str×Int):D:=.tup [.str x.1,.int x.2]
abbrev Ru:W2:=λa n P=>∃x y z:D,a=[.sh^.tup [x,y,z]]/\P (.tup [z,x,y]) n
def M8:W2:=λc n P=>∃(d:D) (b:v_ Af),c=[.sh d]/\Iw d=P3^b.map AZ/\b.length<64/\∀a:v_ Af,a.Perm b->Fs a->P (.lst^a.map AZ) n
def Tf:AY:=(Cd^D7^AM (Ak CI (AJ 0)^wC^D.int 2)^AM (Ak CI (AJ 0)^wC^D.int 0)^AM (Ak CI (AJ 0)^wC^D.int 1) Ag)
def KD:AY:=(Cd^Tz Ru^AJ 0)
theorem UY(h:JA s=JA t):s=t:=by
 let#[a,b,l]:=s;let#[c,d,e]:=t;unfold JA at h
 grind
theorem E6{R:g->g->Prop}(c:∀a b,R a b->R b a->a=b):∀{d f:v_ g},d.Perm f->d.Pairwise R->f.Pairwise R->d=f
 |[],f,p,_,_=>(List.nil_perm.mp p).symm
 |a::d,[],p,_,_=>absurd (List.perm_nil.mp p)^k_ _ _
 | a::d,b::f,p,i,j=>by
  have e:a=b:=by
   rcases UF.mp^p.mem_iff.mp No with e|h
   .exact e
   .rcases UF.mp^p.mem_iff.mpr^No with e|k
    .exact e.symm
    .exact c a b ((k7.mp i).1 b k)^(k7.mp j).1 a h
  subst e;rw[E6 c ((List.perm_cons a).mp p) (k7.mp i).2 (k7.mp j).2]
def HS(p:c.Perm d)(h1:Fs c)(e:Fs d):c=d:=E6 (λa b x y=>UY^CS _ _ y x) p h1 e
theorem QY{g:D->b}(e:∀x,g^f x=x)(h:c.Perm^d.map f):∃a:v_ b,a.Perm d/\c=a.map f:=by
 exists c.map g,?_
 .have:=h.map g
  rw[ke,show g∘f=id from funext e,oX]at this;exact this
 .rw[ke]
  have:∀x∈c,(f∘g) x=x:=λx i=>by
   let#[t,_,rfl]:=TM.mp^h.mem_iff.mp i
   grind
  rw[lV this,List.map_id']
def TR:D->Af
 |.tup [.str a,.str b,.int l]=>#[a,b,l]
 |_=>#["","",0]
section

def PQ(h:Ru ss n Pd):Tf (EE Pd) n (ss++jk 0 .no):=by
 let#[x,y,z,rfl,p]:=h;exact#[_,AE rfl,_,AE rfl,_,AE rfl,z3,p]
def Nm(h:Hu (λx=>CU^Ui x)^a.map AZ):Fs a:=by
 unfold Hu at h;rw[pD]at h;exact h.imp λ{s t} z=>z _ _ rfl rfl
def Nc(h:M8 ss n Pd):KD (EF Pd) n (ss++jk 0 .no):=by
 let#[d,e,rfl,f,b,p]:=h;unfold KD;refine#[e.map AZ,Ui,f,by rw[Ev];exact b,λx a Q i=>?_,#[λx a=>?_,λx a y j k l m o=>?_],λq r s=>?_]
 .let#[t,_,rfl]:=TM.mp a
  exact#[_,_,_,rfl,i]
 .let#[t,_,rfl]:=TM.mp a
  exact#[JA t,rfl,k_ _ _]
 .let#[t,_,rfl]:=TM.mp a
  let#[u,_,rfl]:=TM.mp j;cases(show P3^JA t=P3 k from m);cases(show P3^JA u=P3 l from o);rfl
 .let#[c,v,rfl]:=QY (g:=TR) (λ_=>rfl) r
  exact p c v^Nm s
def Mb{N:Net}(ok:N.Ok)(h:p∈Do N.ts x):p.1∈N.ps/\1<=p.2/\p.2<=1000000/\∃t∈N.ts,t.len=p.2/\((t.a=x/\t.b=p.1)\/(t.b=x/\t.a=p.1)):=by
 let#[t,c,h]:=mJ.mp h;let#[g,i,j,d,f]:=ok.tin t c
 rcases jj.mp h with h|h
 .split at h
  .rename_i e
   rw[Re.mp h];exact#[i,d,f,t,c,rfl,.inl #[e,rfl]]
  .cases h
 .split at h
  .rename_i e
   rw[Re.mp h];exact#[g,d,f,t,c,rfl,.inr #[e,rfl]]
  .cases h
def RP(s t:Af):Fn (AZ s)^AZ t=t_↔s=t:=by
 let#[a,b,l]:=s;let#[c,d,e]:=t;show(a==c&&(b==d&&(l==e&&t_)))=t_↔_
 simp_all
theorem G3(h:∀d∈a,item d):CT^.lst a:=by
 have c:=v7.mpr λd b=>(h d b).2.2;exact Me (by cbv) (vX.mpr λd b=>(h d b).1)^by show Lg a+1<=100;lk
theorem Ld(f:a->b):∀(l:v_ a) (i:Nat),(l.map f).eraseIdx i=(l.eraseIdx i).map f
 |[],i=>rfl
 |x::l,0=>rfl
 |x::l,i+1=>by
  show f x::(l.map f).eraseIdx i=f x::(l.eraseIdx i).map f;rw[Ld f l i]
theorem YE{N:Net}(ok:N.Ok)(j:s∈N.ts)(k:t∈N.ts)(e:BU s t)(h1:(s.a=x/\s.b=o)\/(s.b=x/\s.a=o))(l:(t.a=x/\t.b=o)\/(t.b=x/\t.a=o)):False:=by
 have i:=(ok.tin s j).2.2.1;have lt:=(ok.tin t k).2.2.1;have c:∀a,¬cs a<cs a:=λa=>nJ _
 rcases h1 with⟨d,f⟩|⟨d,f⟩ <;>rcases l with⟨g,h⟩|⟨g,h⟩ <;>rw[d,f]at i <;>rw[g,h]at lt
 .rcases e with e|⟨_,e⟩
  .rw[d,g]at e;exact c _ e
  grind
 .grind
 .exact c _^nX i lt
 .rcases e with e|⟨_,e⟩
  .rw[f,h]at e;exact c _ e
  grind
def Sh{N:Net}(ok:N.Ok)(x:Str):((Do N.ts x).map (·.1)).Nodup:=by
 have go:∀c:v_ Af,(∀t∈c,t∈N.ts)->c.Pairwise BU->((Do c x).map (·.1)).Nodup:=by
  intro c
  induction c with
  |nil=>intro _ _;exact ki
  | cons t c m=>
   intro d l;have k:=m (λs i=>d s^Rs _ i) (k7.mp l).2;have lt:=(ok.tin t^d t No).2.2.1
   have f:∀y,((t.a=x/\t.b=y)\/(t.b=x/\t.a=y))->y∉(Do c x).map (·.1):=λy o p=>by
    let#[s,i,h]:=Ma p;exact YE ok (d t No) (d s^Rs _ i) ((k7.mp l).1 s i) o h
   have e:Do (t::c) x=((if t.a=x then [(t.b,t.len)]else [])++(if t.b=x then [(t.a,t.len)]else []))++Do c x:=by
    unfold Do;rw[mV]
   rw[e]
   by_cases j:t.a=x
   .have g:¬t.b=x:=λz=>by rw[j,z]at lt;exact nJ _ lt
    rw[if_pos j,if_neg g,j5,pU,jy,j6];exact#[f _^.inl #[j,rfl],k]
   .rw[if_neg j,j7]
    by_cases g:t.b=x
    .rw[if_pos g,pU,jy,j6]
     exact#[f _^.inr #[g,rfl],k]
    .rw[if_neg g,j7]
     exact k
 exact go N.ts (λ_ h=>h) ok.vQ
end
def FY(t:Af):v_ Key:=[.inr t.a,.inr t.b,.inl t.len]
def Lo(a:v_ Af):Prop:=a.Pairwise λs t=>Be (FY t)^FY s=u_
def Kx(s:Af):¬BU s s:=by
 rintro(h|⟨_,h⟩) <;>exact BK _ h
theorem W_(h:BU s t):Be (FY s)^FY t=t_:=by
 show(if mB _=.inr _ then(if mB _=.inr _ then(if pO _=.inl _ then u_ else decide _)else decide (cs _<cs _))else decide (cs _<cs _))=t_
 rcases h with h|⟨h,c⟩
 .rw[if_neg λe=>BK s.a^by simp_all,decide_eq_true h]
 .rw[if_pos (by rw[h]),if_neg λe=>BK s.b^by grind,decide_eq_true c]
def Bp{a:v_ Af}(h:a.Pairwise BU):a.Nodup:=h.imp λ{s t} h e=>by rw[e]at h;exact Kx _ h
def sub_len{l m:v_ Af}(a:l.Nodup)(b:m.Nodup)(h:∀t∈l,t∈m):l.length<=m.length:=by
 have:l.Perm (m.filter λt=>decide (t∈l)):=(qW a^b.filter _).mpr λt=>by
  simp_all
 rw[this.length_eq];exact k9 _ _
def aY{N:Net}(ok:N.Ok)(h:∀t∈a,t∈N.ts)(b:a.Pairwise BU):Net.Ok #[N.ps,a]:=#[ok.names,ok.rise,λt c=>ok.tin t^h t c,b]
end Nt
namespace L2
open PySem.W
end L2
namespace Dp
open L2
end Dp
namespace Nt
open L2 Dp
def look(a:v_ Af)(x y:Str):w_ Int:=((Do a x).find? λz=>decide (z.1=y)).map (·.2)
def Md(a:v_ Af):Str->v_ Str->Int->w_ Int
 |_,[],s=>P3 s
 |x,y::r,s=>match look a x y with
  |some l=>Md a y r (s+l)
  |none=>s_
def ET:w_ Int->D
 |some i=>.int i
 |none=>.non
def Ep:D->Bool
 |.str _=>t_
 |_=>u_
def bY(N:Net):v_ Str->D
 |x::r=>if x∈N.ps then ET^Md N.ts x r 0 else .non
 |[]=>.non
def fJ(N:Net):D->D
 |.tup a=>if a.all Ep then bY N^strsOf a else .non
 |_=>.non
def fb(d:D):Prop:=G_ (10 ^ 40) d/\SA d<=160000/\TN d<=50
abbrev ip:W2:=λa n P=>∃(N:Net) (d:D),a=[.sh^enc N,.sh d]/\N.Ok/\N.ps.length<=26/\N.ts.length<=60/\fb d/\P (fJ N d) n
theorem NW:∀{b:v_ D},b.all Ep=t_->∃a:v_ Str,b=a.map .str
 |[],_=>#[[],rfl]
 |d::r,h=>by
  rw[qT,jv]at h;let#[a,e]:=NW h.2;cases d with
  |str x=>exact#[x::a,by grind]
  |_=>cases h.1
def all_strs(a:v_ Str):(a.map D.str).all Ep=t_:=by rw[rp];exact lE.mpr λ_ _=>rfl
theorem L5:∀{a:v_ Str},BO (a.map .inr) (a.map g)^.inr x=if x∈a then P3^g x else s_
 |[]=>rfl
 |p::a=>by
  show(if mB p=.inr x then P3 _ else BO _ _ _)=_;rw[L5]
  grind
theorem L6:∀{a:v_ (Str×Int)},BO (a.map λx=>.inr x.1) (a.map λx=>.int x.2)^.inr y=((a.find? λz=>decide (z.1=y)).map (·.2)).map .int
 |[]=>rfl
 |p::b=>by
  show(if mB _=.inr y then P3 _ else BO _ _ _)=_;rw[L6]
  by_cases e:p.1=y
  .simp_all
  simp_all
theorem Vl{N:Net}(ok:N.Ok)(h:look N.ts x y=P3 l):y∈N.ps/\1<=l/\l<=1000000:=by
 unfold look at h;cases c:(Do N.ts x).find? λz=>decide (z.1=y)with
 |none=>grind
 |some z=>
  have d:=List.find?_some c;let#[t,b,a]:=mJ.mp^qi c;let#[e,f,_,g,i]:=ok.tin t b
  rcases jj.mp a with a|a
  .simp_all
  simp_all
section

theorem Ny(ok:N.Ok):∀(r:v_ Str) (x:Str) (s:Int) (a b:Slot),x∈N.ps->(match Md N.ts x r s with|some l=>∀a b,d.nx n [e,f,.sh^Eb N,.sh^.int l,a,b]|none=>d.rt .non n)->
  BF (Od 2^CG (Bm 4)^CG (Bm 5) KC) (Au (Cv (Am^Ak (TB t_) (AJ 5)^Ak CK (AJ 2)^AJ 4) (Cd^wC D.non) B0)^Y5 3^Ak CK (Ak CK (AJ 2)^AJ 4)^AJ 5) d (Hv ((x::r).map .str)^r.map .str) n [e,f,.sh^Eb N,.sh^.int s,a,b]
 |[],x,s,a,b,g,h=>h a b
 | y::r,x,s,a,b,g,h=>by
  have i:BO (N.ps.map .inr) (N.ps.map^Wy N.ts)^.inr x=P3^Wy N.ts x:=by rw[L5,if_pos g]
  exists rfl,rfl;exists _,_,.inr x,_,rfl,rfl,i,_,_,.inr y,rfl,rfl;rw[L6];unfold Md at h;have j:((Do N.ts x).find? λz=>decide (z.1=y)).map (·.2)=look N.ts x y:=rfl;rw[j];cases c:look N.ts x y with
  |none=>rw[c]at h;exact BE h
  |some l=>
   rw[c]at h;have k:BO ((Do N.ts x).map λz=>.inr z.1) ((Do N.ts x).map λz=>.int z.2)^.inr y=P3^.int l:=by rw[L6,j,c];rfl
   refine Ay #[s,rfl,_,_,.inr x,_,rfl,rfl,i,_,_,.inr y,_,rfl,rfl,k,l,rfl,?_];exact Ny ok r y (s+l) _ _ (Vl ok c).1 h
theorem Cg(c:D->Bool)(g:D->D)(I:v_ Slot->Prop):∀(j e:v_ D) (n:Sg) (f:v_ Slot),
  (∀d∈j,∀(f:v_ Slot) (n:Sg) (r:D->Sg->v_ Slot->Prop) (s:Sg->v_ Slot->Prop),I f->(∀i,I i->c d=t_->r (g d) n i)->(∀i,I i->c d=u_->s n i)->b d f λk=>p n k λc t=>if c=t_ then q t k λy u=>r y u k else s t k)->I f->P (e++(j.filter c).map g) n->JW b p q P j e n f
 |[],e,n,f,_,_,h=>by rw[rJ,rq,j5]at h;exact h
 |d::j,e,n,f,l,m,h=>l d No f n _ _ m
  (λi a v=>Cg c g I j _ n _ (λd o=>l d^Rs _ o) a^by simp_all)
  (λi a v=>Cg c g I j _ n _ (λd o=>l d^Rs _ o) a^by grind)
end
def Q3(h:Hu CU^a.map AZ):Lo a:=by
 unfold Hu at h;rw[pD]at h;exact h.imp λ{s t} z=>z _ _ rfl rfl
theorem N5{N:Net}(ok:N.Ok){a:v_ Af}(h:∀t∈a,t∈N.ts):CT^.tup^a.map AZ/\CT^.lst^a.map AZ:=by
 have c:∀d∈a.map AZ,item d:=λd b=>by
  let#[t,e,rfl]:=TM.mp b;exact En ok _^TM.mpr #[t,h t e,rfl]
 have f:Lg^a.map AZ<=1:=v7.mpr λd b=>(c d b).2.2;exact#[Me (B:=1000001) (by cbv) (vX.mpr λd b=>(c d b).1) (by show Lg^a.map AZ+1<=100;lk),G3 c]
theorem RC{N:Net}(ok:N.Ok)(h:t∈N.ts):CT^AZ t:=by
 have a:=En ok _^TM.mpr #[t,h,rfl];exact Me (B:=1000001) (by cbv) a.1^by have:=a.2.2;lk
def Yd{a:v_ Af}:((a.map AZ).any λy=>Fn y^AZ t)=decide (t∈a):=by
 rw[kR,nO,decide_eq_true_eq];constructor
 .rintro⟨d,b,e⟩
  let#[s,c,rfl]:=TM.mp b;rw[←(RP s t).mp e];exact c
 .intro h
  exact#[AZ t,TM.mpr #[t,h,rfl],(RP t t).mpr rfl]
def UI(h:FY s=FY t):s=t:=by
 let#[a,b,l]:=s;let#[c,d,e]:=t;unfold FY at h;simp only[List.cons.injEq,Sum.inl.injEq,Sum.inr.injEq,and_true]at h;let#[rfl,rfl,rfl]:=h;rfl
def FZ(p:c.Perm d)(h1:Lo c)(e:Lo d):c=d:=E6 (λa b x y=>UI^CS _ _ y x) p h1 e
def Fq(h:a.Pairwise BU):Lo a:=h.imp λ{s t} z=>by
 cases e:Be (FY t)^FY s with
 |false=>rfl
 |true=>
  have:=DF _ _ _ (W_ z) e
  rw[Ci]at this;cases this
def Yj:W2:=λa n P=>∃l t b x:Int,a=[.sh^.int l,.sh^.tup [.int t,.int b],.sh^.int x]/\1<=b/\b<=1000000/\1<=t/\t<=1000000/\P (.bl (decide (l*b<=x*t))) n
section
theorem ij(a:0<=j)(h1:j<=1000000):vL i j:=.inr #[by lk,by lk]
end
end Nt
namespace L2
open AutoSeq1 (wpAny_loadPart')
def Sb:typeLookup (.type "list_reverseiterator") "__len__"=pure s_:=by kernel_rfl
def Vz:typeLookup (.type "list_reverseiterator") "__length_hint__"=pure^P3^.builtin "list_reverseiterator.__length_hint__":=by kernel_rfl
theorem boot_reversed:bootBuiltins "reversed"=P3^.type "reversed":=by decide +kernel
def gW(a:ju)(w:j4)(St:Nat->Go->Prop)(I:Ch):Prop:=∀(A:kA) (E:Db->Go->Prop) (c:Go) (Q:Bool->Go->Prop),St 0 c->(∀b d,c.toks<=d->Q b {c with toks:=d})->wpAny (model a w) A (qO^.ref I) Q E c
section
variable {St:Nat->Shared->Prop}
theorem QE(S:(kZ c==kZ "list")=u_/\(kZ c==kZ "tuple")=u_)(T:gW prog w St I)
  (W:WalksS prog w A.in1 I fp wr G n P St) (U:∀i s,St i s->s.TypeIs (.ref I) c) (J:St 0 s) (K:∀b∈fp,b<s.heap.objs.size) (V:I∈fp)
  (X:∀g d,Moved wr G s g->ItemsOf P d n->Q d.toList g) (hn:n<=sizeLine):wpAny (model prog w) A (collect^.ref I) Q E s:=by
 have r:s.heap.objs.size∉fp:=λt=>ko _^K _ t;have L:s.heap.objs.size≠I:=λe=>r (e▸V);unfold collect;refine Cn^wpAny_runValue^lZ F.entry_proto_collect ?_;rw[mS F.plain_proto_collect _];show wpAny _ A.in1 (newList [] >>=λl=>again^.builtin "list.__iadd__" #[[l,.ref I],[]]) _ _ s;refine Cn^lH ?_;refine On #[mI F.plain_list_iadd _,lZ F.entry_list_iadd ?_];rw[mS F.plain_list_iadd _];have a:=W.frame 0 s (s.heap.push {cls:=.type "list",data:=.seq ([]:v_ Db).toArray}) s.toks J (Sc _) λb _ o e=>FM _ e;have f:(s.heap.push {cls:=.type "list",data:=.seq ([]:v_ Db).toArray}).get? s.heap.objs.size=P3 {cls:=.type "list",data:=.seq ([]:v_ Db).toArray}:=TW _ rfl;have M:rA (.ref s.heap.objs.size)^.ref I=u_:=by simp[rA,L]
 show wpAny _ A.in1 (mw (.ref s.heap.objs.size) (.ref I)^.ref s.heap.objs.size) _ _ _;unfold mw;refine Cn^oj (U 0 _ a) ?_;rw[if_neg^by rw[M,S.1,S.2];decide];refine Cn^W.self 0 _ _ _ a ?_;refine Cn^kQ ?_;refine T _ _ _ _ a λb y u=>?_
 have z:∀(h:jq) (p m:Nat),s.toks<=m->St 0 {s with heap:=h,toks:=m}->h.get? s.heap.objs.size=P3 {cls:=.type "list",data:=.seq #[] p}->(∀b o,b≠s.heap.objs.size->s.heap.get? b=P3 o->h.get? b=P3 o)->
   ∀R:Result->Go->Prop,(∀g d c,g.heap.get? s.heap.objs.size=P3 {cls:=.type "list",dict:=s_,data:=.seq d c,slots:=#[]}->Moved wr G s g->ItemsOf P d n->R (.ok^.ret^.ref s.heap.objs.size) g)->
   codeAny (model prog w) A (.builtin "list.extend.loop" #[[.ref s.heap.objs.size,.ref I,.ref s.heap.objs.size],[]]) R {s with heap:=h,toks:=m}:=by
  intro h p m Y N Z hk R hR;refine codeAny_extend_loopS W hn _ r _ n 0 _ _ _ rfl (jp _) N Z (ItemsOf.nil P) λg B c' t O C=>hR g B c' O #[λb o x e=>t.heap b o (λj=>?_)^hk b o (jo^Tk e) e,t.gens,t.drawn,t.os,jr Y t.toks] C
  rcases UF.mp j with e'|j
  .exact absurd (Tk e)^by rw[e'];exact ko _
  .exact x j
 have q:∀g d c,g.heap.get? s.heap.objs.size=P3 {cls:=.type "list",dict:=s_,data:=.seq d c,slots:=#[]}->Moved wr G s g->ItemsOf P d n->wpAny (model prog w) A (load s.heap.objs.size >>=λo=>match o.data with
   |.seq xs _=>pure xs.toList
   |_=>unsupported "internal:collect") Q E g:=λg d c M h2 h3=>Cn^wpAny_load M^On^X g d h2 h3
 have D:=W.frame 0 _ (s.heap.push {cls:=.type "list",data:=.seq ([]:v_ Db).toArray}) y a u λb _ o e=>e;refine wpAny_ite_split (λ_=>?_) λ_=>On #[mI F.plain_extend_loop _,z _ 0 y u D f (λb o _ e=>FM _ e) _ q];refine Cn^ou ?_;refine Cn ?_;show wpAny _ _ (updateSeq s.heap.objs.size (·.push .none) >>=λ_=>updateSeq s.heap.objs.size (·.pop)) _ _ _;refine Cn (n8 f rfl ?_);have k:=kY (km (·.push kE)) f rfl;refine n8 (hz:=by seq_fits) k rfl ?_;have v:=kY (km (·.pop)) k rfl;refine On #[mI F.plain_extend_loop _,z _ _ y u ?_ v (λb o x e=>?_) _ q]
 .refine W.frame 0 {s with heap:=s.heap.push {cls:=.type "list",data:=.seq ([]:v_ Db).toArray},toks:=y} _ y D (Sc _) λb x o e=>?_
  have H:b≠s.heap.objs.size:=λh=>r (h▸x);exact(jl _ _^kM H).trans^(jl _ _^kM H).trans e
 .exact(jl _ _^kM x).trans^(jl _ _^kM x).trans^FM _ e
def Kz(nc:(kZ c==kZ "list")=u_/\(kZ c==kZ "tuple")=u_)(hH:gW prog w St I)(W:WalksS prog w A.in1.in1 I fp wr G n P St)(hT:∀i s,St i s->s.TypeIs (.ref I) c)(hst:St 0 s)(hfp:∀b∈fp,b<s.heap.objs.size)(hI:I∈fp)
  (h:∀s' acc,Moved wr G s s'->ItemsOf P acc n->Q₁ (.ref s'.heap.objs.size) {s' with heap:=s'.heap.push {cls:=.type "tuple",data:=.seq acc}}) (hsz:n<=sizeLine):
  codeAny (model prog w) A (.call (.builtin "tuple.__new__") #[[.type "tuple",.ref I],[]]) (wants Q₁ E) s:=by
 refine rF ?_;show wpAny _ A.in1 (do checkBuiltinCall "tuple.__new__" #[[.type "tuple",.ref I],[]];again^.builtin "tuple.__new__" #[[.type "tuple",.ref I],[]]) _ _ s;refine Cn^qG (F.newCall_tuple_1 _)^On #[mI F.plain_tuple_new _,lZ F.entry_tuple_new ?_];rw[mS F.plain_tuple_new _];have hsub:=sub_tuple_self;have hinit:=init_tuple_lookup;have hmh:=madeHere_tuple;have hTI:=hT 0 s hst;have nc2:=nc.2
 wp_walk using oj hTI,QE (hn:=hsz) nc hH W hT hst hfp hI
 intro s' acc hm hacc;show wpAny _ _ (om acc.toList.toArray >>=λv=>ret v) _ _ _;unfold om;refine Cn (lH ?_^by show acc.toList.toArray.size<=sizeLine;simp only[Array.toArray_toList];rw[hacc.1];exact hsz);refine On ?_;have e:acc.toList.toArray=acc:=by simp
 rw[e];exact h s' acc hm hacc
def K0(l:(kZ c==kZ "list")=u_/\(kZ c==kZ "tuple")=u_)(m:gW prog w St I)(W:WalksS prog w A.in1.in1.in1 I fp wr G n P St)(o:∀i s,St i s->s.TypeIs (.ref I) c)(j:St 0 s)(k:∀b∈fp,b<s.heap.objs.size)(p:I∈fp)
  (q:∀g e,Moved wr G s g->ItemsOf P e n->Q (.ref g.heap.objs.size) {g with heap:=g.heap.push {cls:=.type "tuple",data:=.seq e}}) (hsz:n<=sizeLine):
  wpAny (model prog w) A (call (.type "tuple") [.ref I]) Q E s:=by
 refine callType_codes (Q₁:=λf a=>a.TypeIs f "tuple"/\Q f a) rV (F.typeCall_tuple_1 _) F.entry_object_init
  (Kz (hsz:=hsz) l m W o j k p λg e r h=>#[#[_,TW _ rfl,rfl],q g e r h]) λf a d=>?_
 exact#[d.1,F.args_object_init_2 f _,object_init_meets rV.init.lookup rV.made (by cbv) prog w A.in1 _ a #[d.1,rfl,d.2]]
theorem Vj(e:∀i s,St i s->s.TypeIs (.ref I) "list_reverseiterator"):gW prog w St I:=by
 intro A E s Q c h;have d:=e 0 _ c;unfold qO;refine Cn^rE d Sb ?_;show wpAny _ A (specialOf (Uf I)^kU "__length_hint__" >>=_) _ _ _;refine Cn (rE d Vz ?_)
 (generalize a:("list_reverseiterator.__length_hint__":String)=id0;wp_delta;rw[show splitId id0=P3 ("list_reverseiterator","__length_hint__")from by subst a;decide +kernel];subst a)
 refine Cn^pM (b:=t_) d (by rw[isSubtype_type];kernel_rfl) ?_;exact On^h _ _^Sc _
end
section

def gN(X:Cx)(R:Ch->v_ V->Hp->Prop):Prop:=∀{j:v_ (Ch×Obj)}{k:St}{H1:Hp}{d:Go}{l:Ch}{h:v_ V},Inv X j k H1 d->R l h H1->∃e:v_ Db,zv h e/\h.length<=sizeLine/\l<d.heap.objs.size /\
 ∀{A:kA}{E:Db->Go->Prop}{Q:Db->Go->Prop},(∀(o:Obj) (g:Nat) (c:String) (f:Nat->Go->Prop),o.isFreed=u_->(kZ c==kZ "list")=u_/\(kZ c==kZ "tuple")=u_->WalksS X.prog X.w X.A.in1.in1.in1 d.heap.objs.size [d.heap.objs.size,l] [d.heap.objs.size] (λa b=>b=a) e.toArray.size (λi v=>e.toArray[e.toArray.size - 1 - i]?=P3 v) f->
  (∀i s,f i s->s.TypeIs (.ref d.heap.objs.size) c)->gW X.prog X.w f d.heap.objs.size->f 0 {d with heap:=d.heap.push o,toks:=g}->Q (.ref d.heap.objs.size) {d with heap:=d.heap.push o,toks:=g})->wpAny (model X.prog X.w) A (call (.type "reversed") [.ref l]) Q E d
def Y6(R:Ch->v_ V->Hp->Prop)(te:TE):TE:=λb H Q=>te b H λx H1=>∃l a,x=.ref l/\R l a H1/\∀r,H1 r=s_->Q (.ref r)^AX H1 r^.tup a.reverse
theorem Xf(ok:gN X R)(U:PE X e te)(y:Gl X "tuple")(z:X.mg "tuple"=s_)(A:Gl X "reversed")(B:X.mg "reversed"=s_)(h1:starEach [qP (.Name "reversed" p2) [e] [] q2] X.env=[(u_,eval (qP (.Name "reversed" p2) [e] [] q2) X.env)])
  (M:starEach [e] X.env=[(u_,eval e X.env)]):PE X (.Call (.Name "tuple" p1) [.Call (.Name "reversed" p2) [e] [] q2] [] q1)^Y6 R te:=by
 intro r s C H Q I h;refine kz^EI I y z boot_tuple ?_;refine lO ?_ h1 rfl;rw[h1];refine mM ?_;refine kz^EI I A B boot_reversed ?_;refine lO ?_ M rfl;rw[M];refine mM^Ao (U r s C H _ I h) λu d zz=>?_;let#[x,H1,t,Y,l,D,ex,Z,q]:=zz;refine m9 ?_;subst ex;cases Y;let#[f,N,O,E,go]:=ok t Z;have j:=N.length;refine go λo k c a0 fr nc W hT hH h0=>m9 ?_;have F:H1 d.heap.objs.size=s_:=t.fresh;have I2:Inv X r C H1 {d with heap:=d.heap.push o,toks:=k}:=t.kept (t':=k) λb o e=>FM _ e;have G:Gg X r H1 d.heap.objs.size:=t.fpOk (Sc _) F;refine K0 nc hH W hT h0 (λb m=>?_) No (λs' a v n=>?_)^by rw[jn,←j];exact O
 .rcases UF.mp m with rfl|m
  .exact Tk^TW _ fr
  .obtain rfl:=Re.mp m
   exact jz E^by show d.heap.objs.size<=(d.heap.push _).objs.size;rw[size_push'];exact kL _
 .let#[h',g',d',g,J]:=s'
  have e1:g'=d.gens:=v.gens;have e2:d'=d.drawn:=v.drawn;have e3:J=d.os:=v.os;subst e1 e2 e3;have K:=I2.yX (h':=h') (t':=g) (ch:=[d.heap.objs.size]) (λc hc=>by rw[Re.mp hc];exact G) λb o m e=>v.heap b o m e;have P:Inv X r C H1 {d with heap:=h',toks:=g}:=K
  have hv:a.toList=f.reverse:=by
   refine qd λi=>?_;let#[S,a2]:=n;have e0:a.toList[i]?=a[i]?:=by simp
   rw[e0]
   by_cases T:i<f.length
   .have p:i<a.size:=by rw[S,jn];exact T
    have a3:=a2 i a[i] (mO p);rw[List.getElem?_reverse T,mO p,←a3,jn];simp
   .rw[oJ^by rw[p_];lk]
    exact rP^by rw[S,jn];lk
  have L:a=f.reverse.toArray:=by rw[←hv]
  have rr:zv D.reverse f.reverse:=N.reverse;refine#[.ref h'.objs.size,AX H1 h'.objs.size^.tup D.reverse,P.laid (t':=g) (λb o e=>FM _ e) (Sc _) (show zh X.prog X.w _ _ _^.tup D.reverse from#[by rw[p_];exact O,f.reverse,rr,by rw[L];exact vw.new _ _]),rfl,q _^P.hok.fresh^Sc _]
def XB(K:Frag)(te:TE):TE:=Y6 (λl a H=>SqL K H l a) te
def SO(o:X.calm=t_)(p:PE X e te)(d:Gl X "tuple")(f:X.mg "tuple"=s_)(g:Gl X "reversed")(h:X.mg "reversed"=s_)(h1:starEach [qP (.Name "reversed" p2) [e] [] q2] X.env=[(u_,eval (qP (.Name "reversed" p2) [e] [] q2) X.env)]:=by rfl)
  (q:starEach [e] X.env=[(u_,eval e X.env)]:=by rfl):PE X (.Call (.Name "tuple" p1) [.Call (.Name "reversed" p2) [e] [] q2] [] q1)^XB X.K te:=by
 refine Xf (λ{v w H1 c l x} n r=>?_) p d f g h h1 q;let#[a,s,pl,t]:=n.list r;have j:c.heap.IsList l a.toArray:=pl.isList;have b:l<c.heap.objs.size:=by let#[_,e,_]:=id j;exact Tk e
 refine#[a,s,t,b,λ{A E Q} k=>call_reversed_list j (k (revObj l ((a.toArray.size:Int) - 1)) c.toks "list_reverseiterator" _ rfl (by cbv) (Walks.listRev (A:=X.A.in1.in1.in1) (n.ok.hd o) c.heap.objs.size l (jo b) a.toArray).toS (λi u m=>m.2.1.typeIs) (Vj λi u m=>m.2.1.typeIs) #[jp _,#[_,TW _ rfl,rfl,by show Data.fields _=_;simp[revObj]],j.push _])]
end
end L2
namespace Dp
open L2
def W6(b:DW):DW:=λn c P=>b n c λd e=>∃a,d=.lst a/\P (.tup a.reverse) e
section

def TU(l:X.calm=t_)(m:DE X a zU wa)(b:Gl X "tuple")(c:X.mg "tuple"=s_)(e:Gl X "reversed")(f:X.mg "reversed"=s_)(h1:starEach [qP (.Name "reversed" p2) [a] [] q2] X.env=[(u_,eval (qP (.Name "reversed" p2) [a] [] q2) X.env)]:=by rfl)
  (o:starEach [a] X.env=[(u_,eval a X.env)]:=by rfl):DE X (.Call (.Name "tuple" p1) [.Call (.Name "reversed" p2) [a] [] q2] [] q1) .sh^W6 wa:=by
 let#[t,s,u]:=m;refine#[_,SO l s b c e f h1 o,λC M H n x y P Q R w q=>?_];refine u C M H n x y _ _ R w λv H1 d z h i A p=>?_;let#[G,rfl,p]:=p;have B:=R.step h i;let#[D,j,rfl,I,E,F]:=A.vv R.dom R.vM;refine#[D,j,rfl,.inl E,λr k=>?_];have g:vJ H1^AX H1 r^.tup j.reverse:=AV k;exact q _ _ (.tup _) z (h.trans g.ext) (i.grow g) (DL B.dom k^F.reverse) p
end
end Dp
namespace Nt
open L2 Dp
def Ed(N:Net)(x y:Str)(l:Int):Prop:=(y,l)∈Do N.ts x
inductive Wk (N:Net) (s:Str):Str->Int->Prop
 |nil:Wk N s s 0
 |snoc {x y:Str}{d l:Int}:Wk N s x d->Ed N x y l->Wk N s y (d+l)
def vC(N:Net)(s x:Str)(d:Int):Prop:=Wk N s x d/\∀a,Wk N s x a->d<=a
def Ed.pos(ok:N.Ok)(h:Ed N x y l):1<=l/\l<=1000000:=by
 let#[_,a,b,_]:=Mb ok h
 simp_all
def Ed.ins{N:Net}(ok:N.Ok){x y:Str}{l:Int}(h:Ed N x y l):y∈N.ps:=(Mb ok h).1
theorem Wk.pos(ok:N.Ok)(h:Wk N s x d):0<=d:=by
 induction h with
 |nil=>lk
 |snoc _ a b=>have:=a.pos ok;lk
theorem vC.unique(h:vC N s x d)(b:vC N s x a):d=a:=by
 have:=h.2 a b.1
 have:=b.2 d h.1
 lk
theorem GU{F:Str->w_ Int}(c:∃d,F s=P3 d/\d<=0)(f:∀x d,F x=P3 d->Wk N s x d)(j:∀x d y l,F x=P3 d->Ed N x y l->∃b,F y=P3 b/\b<=d+l):
  (∀x d,F x=P3 d->vC N s x d)/\∀x d,Wk N s x d->F x≠s_:=by
 have a:∀x d,Wk N s x d->∃b,F x=P3 b/\b<=d:=by
  intro x d h
  induction h with
  |nil=>exact c
  |snoc _ k m=>
   grind
 refine#[λx d e=>#[f x d e,λb h=>?_],λx d h e=>?_]
 .let#[g,i,n]:=a x b h
  simp_all
 .let#[g,i,_]:=a x d h
  grind
def YF(c:t∈N.ts):Ed N t.a t.b t.len/\Ed N t.b t.a t.len:=by
 constructor
 .exact mJ.mpr #[t,c,kW _^by simp_all]
 .exact mJ.mpr #[t,c,jm _^by simp_all]
def Ed.tie(ok:N.Ok)(h:Ed N x y l):∃t∈N.ts,t.len=l/\((t.a=x/\t.b=y)\/(t.b=x/\t.a=y)):=by
 let#[_,_,_,t,c,e,h]:=Mb ok h;exact#[t,c,e,h]
structure vg (ks:List Key) (ds:List D) (enc:α->D) (F:Str->Option α):Prop where
 len:ks.length=ds.length
 at_:∀x:Str,BO ks ds^.inr x=(F x).map enc
 dom:∀k∈ks,∃x:Str,k=.inr x
 nd:ks.Nodup
def vg.mem{c:Type}{b:v_ Key}{ds:v_ D}{enc:c->D}{F:Str->w_ c}(h:vg b ds enc F)(x:Str):(.inr x∈b)↔F x≠s_:=by
 constructor
 .intro a e
  let#[z,d]:=K_ h.len a;rw[h.at_,e]at d;cases d
 .intro f
  by_cases a:mB x∈b
  .exact a
  .have:=LA (ds:=ds) a
   rw[h.at_]at this
   simp_all
def vg.one{b:Type}{enc:b->D}{s:Str}{a:b}:vg [.inr s] [enc a] enc (λx=>if x=s then P3 a else s_):=by
 refine#[rfl,λx=>?_,λk c=>#[s,Re.mp c],j6.mpr #[jw,ki]];show(if mB s=.inr x then P3 _ else s_)=(if x=s then P3 a else s_).map _
 by_cases e:x=s
 .simp_all
 .rw[if_neg e,if_neg λz=>e (mG z).symm];rfl
def Gq(F:Str->w_ b)(x:Str)(a:b):Str->w_ b:=λy=>if y=x then P3 a else F y
def BS:Gq F x a x=P3 a:=if_pos rfl
def BP(h:y≠x):Gq F x a y=F y:=if_neg h
theorem vg.put{enc:d->D}(h:vg f g enc F)(x:Str)(a:d):vg (Cr f^.inr x) (DA f g (.inr x)^enc a) enc^Gq F x a:=by
 exists Qp h.len,λy=>?_,λk c=>?_
 .rw[UB h.len]
  unfold Gq
  by_cases e:y=x
  .rw[if_pos e,if_pos^by rw[e]];rfl
  .rw[if_neg e,if_neg λz=>e^mG z,h.at_]
 .unfold Cr at c
  split at c
  .exact h.dom k c
  .rcases jj.mp c with c|c
   .exact h.dom k c
   simp_all
 .unfold Cr
  split
  .exact h.nd
  .rename_i i
   rw[lM];refine#[h.nd,j6.mpr #[jw,ki],λa j b l e=>i^vF.mpr ?_]
   grind
theorem vg.le{d:Type}{enc:d->D}{F:Str->w_ d}(h:vg a g enc F){b:v_ Str}(i:∀x,F x≠s_->x∈b):a.length<=b.length:=by
 have:∀(a:v_ Key) (b:v_ Str),a.Nodup->(∀k∈a,∃x:Str,k=.inr x/\x∈b)->a.length<=b.length:=by
  intro a
  induction a with
  |nil=>simp_all
  | cons k a l=>
   intro b c e;let#[x,rfl,n]:=e k No;have c:=j6.mp c
   have o:=l (b.erase x) c.2 λj m=>by
    let#[y,rfl,p]:=e j^Rs _ m
    grind
   grind
 refine this a b h.nd λk f=>?_;let#[x,rfl]:=h.dom k f;exact#[x,rfl,i x^(h.mem x).mp f]
abbrev Ot:=Str->w_ (Int×w_ Str)
structure Dj (N:Net) (s:Str) (F:Ot) (Wt:List Str):Prop where
 start:F s=P3 (0,s_)
 ins:∀x,F x≠s_->x∈N.ps
 wk:∀x d p,F x=P3 (d,p)->Wk N s x d
 prev:∀x d p,F x=P3 (d,p)->(p=s_/\x=s)\/∃y dy q l,p=P3 y/\F y=P3 (dy,q)/\y∉Wt/\Ed N y x l/\d=dy+l
 vW:∀x∈Wt,F x≠s_
 nd:Wt.Nodup
 done:∀x d p y l,F x=P3 (d,p)->x∉Wt->Ed N x y l->∃dy q,F y=P3 (dy,q)/\dy<=d+l
 near:∀x d p y dy q,F x=P3 (d,p)->x∉Wt->F y=P3 (dy,q)->y∈Wt->d<=dy
theorem Dj.init(c:s∈N.ps):Dj N s (λx=>if x=s then P3 (0,s_)else s_) [s]:=by
 have a:∀x d p,(if x=s then P3 ((0:Int),(s_:w_ Str))else s_)=P3 (d,p)->x=s/\d=0/\p=s_:=λx d p e=>by
  grind
 refine#[if_pos rfl,λx e=>?_,λx d p e=>?_,λx d p e=>?_,λx b=>?_,j6.mpr #[jw,ki],λx d p y l e b=>?_,λx d p y f q e b=>?_]
 .grind
 .let#[rfl,rfl,rfl]:=a x d p e
  exact .nil
 .let#[rfl,rfl,rfl]:=a x d p e
  exact .inl #[rfl,rfl]
 .simp_all
 .exact absurd (Re.mpr (a x d p e).1) b
 .exact absurd (Re.mpr (a x d p e).1) b
structure Dm (N:Net) (s:Str) (F:Ot) (Wt:List Str) (v:Str) (dv:Int) (seen:List (Str×Int)):Prop where
 start:F s=P3 (0,s_)
 ins:∀x,F x≠s_->x∈N.ps
 wk:∀x d p,F x=P3 (d,p)->Wk N s x d
 prev:∀x d p,F x=P3 (d,p)->(p=s_/\x=s)\/∃y dy q l,p=P3 y/\F y=P3 (dy,q)/\y∉Wt/\Ed N y x l/\d=dy+l
 vW:∀x∈Wt,F x≠s_
 nd:Wt.Nodup
 done:∀x d p y l,F x=P3 (d,p)->x∉Wt->x≠v->Ed N x y l->∃dy q,F y=P3 (dy,q)/\dy<=d+l
 near:∀x d p y dy q,F x=P3 (d,p)->x∉Wt->F y=P3 (dy,q)->y∈Wt->d<=dy
 here:∃p,F v=P3 (dv,p)
 out:v∉Wt
 least:∀x d p,F x=P3 (d,p)->x∉Wt->d<=dv
 gone:∀y l,(y,l)∈seen->∃dy q,F y=P3 (dy,q)/\dy<=dv+l
theorem Dj.take(h:Dj N s F c){dv:Int}(o:v∈c)(e:F v=P3 (dv,p))(i:∀y∈c,∀g q,F y=P3 (g,q)->dv<=g):Dm N s F (c.erase v) v dv []:=by
 have f:∀x,x∈c.erase v->x∈c:=λx b=>List.mem_of_mem_erase b;have m:v∉c.erase v:=λz=>(h.nd.mem_erase_iff.mp z).1 rfl
 have a:∀x,x∉c.erase v->x=v\/x∉c:=λx b=>by
  grind
 refine#[h.start,h.ins,h.wk,λx d q ex=>?_,λx b=>h.vW x^f x b,h.nd.erase v,λx d q y l ex b r t=>?_,λx d q y g j ex b n k=>?_,#[p,e],m,λx d q ex b=>?_,λy l k=>by cases k]
 .rcases h.prev x d q ex with z|⟨y,g,j,l,u,w,A,B,C⟩
  .exact .inl z
  .exact .inr #[y,g,j,l,u,w,λz=>A^f y z,B,C]
 .rcases a x b with z|z
  .exact absurd z r
  .exact h.done x d q y l ex z t
 .rcases a x b with z|z
  .subst z
   rw[e]at ex;cases ex;exact i y (f y k) g j n
  .exact h.near x d q y g j ex z n^f y k
 .rcases a x b with z|z
  .grind
  .exact h.near x d q v dv p ex z e o
def Dm.finish{dv:Int}(h:Dm N s F b v dv a)(f:∀y l,Ed N v y l->(y,l)∈a):Dj N s F b:=by
 refine#[h.start,h.ins,h.wk,h.prev,h.vW,h.nd,λx d p y l e g c=>?_,h.near]
 by_cases z:x=v
 .subst z
  let#[j,i]:=h.here;rw[i]at e;cases e;exact h.gone y l^f y l c
 .exact h.done x d p y l e g z c
theorem Dm.find(ok:N.Ok){dv:Int}(h:Dm N s F m v dv j)(w:Ed N v y l)(K:F y=s_):Dm N s (Gq F y (dv+l,P3 v)) (m++[y]) v dv (j++[(y,l)]):=by
 have L:=(w.pos ok).1;let#[A,B]:=h.here;have C:∀x d p,F x=P3 (d,p)->x≠y:=λx d p e z=>by rw[z,K]at e;cases e
 have f:∀x d p,F x=P3 (d,p)->Gq F y (dv+l,P3 v) x=P3 (d,p):=λx d p e=>by rw[BP^C x d p e];exact e
 have Q:y∉m:=λz=>h.vW y z K
 have c:∀x d p,Gq F y (dv+l,P3 v) x=P3 (d,p)->(x=y/\d=dv+l/\p=P3 v)\/(x≠y/\F x=P3 (d,p)):=λx d p e=>by
  by_cases z:x=y
  .rw[z,BS]at e;cases e;exact .inl #[z,rfl,rfl]
  .rw[BP z]at e;exact .inr #[z,e]
 have k:∀x,x∉m++[y]->x∉m/\x≠y:=λx g=>#[λz=>g^kW _ z,λz=>g^jm _^by rw[z];exact Re.mpr rfl]
 have M:v∉m++[y]:=λz=>by
  rcases jj.mp z with z|z
  .exact h.out z
  .exact C v dv A B^Re.mp z
 refine#[f _ _ _ h.start,λx g=>?_,λx d p e=>?_,λx d p e=>?_,λx g=>?_,?_,λx d p z o e g R D=>?_,λx d p z O q e g E i=>?_,#[A,f _ _ _ B],M,λx d p e g=>?_,λz o i=>?_]
 .by_cases z:x=y
  .rw[z];exact w.ins ok
  .rw[BP z]at g;exact h.ins x g
 .rcases c x d p e with⟨rfl,rfl,_⟩|⟨_,e⟩
  .exact .snoc (h.wk v dv A B) w
  .exact h.wk x d p e
 .rcases c x d p e with⟨rfl,rfl,rfl⟩|⟨_,e⟩
  .exact .inr #[v,dv,A,l,rfl,f _ _ _ B,M,w,rfl]
  .rcases h.prev x d p e with z|⟨u,P,q,o,S,G,r,T,U⟩
   .exact .inl z
   .refine .inr #[u,P,q,o,S,f _ _ _ G,λz=>?_,T,U]
    rcases jj.mp z with z|z
    .exact r z
    .exact C u P q G^Re.mp z
 .rcases jj.mp g with g|g
  .have:=h.vW x g
   cases e:F x with
   |none=>exact absurd e this
   |some a=>rw[f x a.1 a.2 e];intro z;cases z
  .rw[Re.mp g,BS];intro z;cases z
 .rw[lM]
  exact#[h.nd,j6.mpr #[jw,ki],λa V b W e=>Q^by rw[←Re.mp W,←e];exact V]
 .let#[n,t]:=k x g
  rcases c x d p e with⟨z,_⟩|⟨_,e⟩
  .exact absurd z t
  .let#[H,I,r,J]:=h.done x d p z o e n R D
   exact#[H,I,f _ _ _ r,J]
 .let#[n,t]:=k x g
  rcases c x d p e with⟨z,_⟩|⟨_,ex⟩
  .exact absurd z t
  .rcases c z O q E with⟨_,G,_⟩|⟨X,E⟩
   .have:=h.least x d p ex n
    lk
   .rcases jj.mp i with i|i
    .exact h.near x d p z O q ex n E i
    .exact absurd (Re.mp i) X
 .let#[n,t]:=k x g
  rcases c x d p e with⟨z,_⟩|⟨_,e⟩
  .exact absurd z t
  .exact h.least x d p e n
 .rcases jj.mp i with i|i
  .let#[H,I,r,J]:=h.gone z o i
   exact#[H,I,f _ _ _ r,J]
  .cases Re.mp i
   exact#[_,_,BS,qI _]
theorem Dm.nearer(ok:N.Ok){dv:Int}(h:Dm N s F k v dv f)(o:Ed N v y l)(B:F y=P3 (A,J))(Q:dv+l<A):Dm N s (Gq F y (dv+l,P3 v)) k v dv (f++[(y,l)]):=by
 have K:=(o.pos ok).1;let#[r,t]:=h.here
 have L:y∈k:=by
  by_cases z:y∈k
  .exact z
  .have:=h.least y A J B z
   lk
 have M:v≠y:=λz=>h.out (by rw[z];exact L);have c:∀x,x∉k->Gq F y (dv+l,P3 v) x=F x:=λx b=>BP λz=>b^by rw[z];exact L
 have a:∀x d p,Gq F y (dv+l,P3 v) x=P3 (d,p)->(x=y/\d=dv+l/\p=P3 v)\/(x≠y/\F x=P3 (d,p)):=λx d p e=>by
  by_cases z:x=y
  .rw[z,BS]at e;cases e;exact .inl #[z,rfl,rfl]
  .rw[BP z]at e;exact .inr #[z,e]
 have g:∀x d p,F x=P3 (d,p)->∃O q,Gq F y (dv+l,P3 v) x=P3 (O,q)/\O<=d:=λx d p e=>by
  by_cases z:x=y
  .subst z
   rw[B]at e;cases e;exact#[_,_,BS,by lk]
  .exact#[d,p,by rw[BP z];exact e,qI _]
 have R:s≠y:=λz=>by
  have:=h.start
  rw[z,B]at this;cases this
  have:=(h.wk v dv r t).pos ok
  lk
 refine#[by rw[BP R];exact h.start,λx b=>?_,λx d p e=>?_,λx d p e=>?_,λx b=>?_,h.nd,λx d p z m e b S C=>?_,λx d p z P q e b D i=>?_,#[r,by rw[BP M];exact t],h.out,λx d p e b=>?_,λz m i=>?_]
 .by_cases z:x=y
  .rw[z];exact o.ins ok
  .rw[BP z]at b;exact h.ins x b
 .rcases a x d p e with⟨rfl,rfl,_⟩|⟨_,e⟩
  .exact .snoc (h.wk v dv r t) o
  .exact h.wk x d p e
 .rcases a x d p e with⟨rfl,rfl,rfl⟩|⟨_,e⟩
  .exact .inr #[v,dv,r,l,rfl,by rw[BP M];exact t,h.out,o,rfl]
  .rcases h.prev x d p e with z|⟨u,T,q,m,U,V,j,n,W⟩
   .exact .inl z
   .exact .inr #[u,T,q,m,U,by rw[c u j];exact V,j,n,W]
 .by_cases z:x=y
  .rw[z,BS];intro w;cases w
  .rw[BP z];exact h.vW x b
 .rw[c x b]at e
  let#[E,G,j,X]:=h.done x d p z m e b S C;let#[H,I,n,Y]:=g z E G j;exact#[H,I,n,by lk]
 .rw[c x b]at e
  rcases a z P q D with⟨rfl,rfl,_⟩|⟨Z,D⟩
  .have:=h.least x d p e b
   lk
  .exact h.near x d p z P q e b D i
 .rw[c x b]at e
  exact h.least x d p e b
 .rcases jj.mp i with i|i
  .let#[E,G,j,X]:=h.gone z m i
   let#[H,I,n,Y]:=g z E G j;exact#[H,I,n,by lk]
  .cases Re.mp i
   exact#[_,_,BS,qI _]
def Dm.skip{dv:Int}(h:Dm N s F c v dv a)(i:F y=P3 (d,e))(f:d<=dv+l):Dm N s F c v dv (a++[(y,l)]):=by
 refine#[h.start,h.ins,h.wk,h.prev,h.vW,h.nd,h.done,h.near,h.here,h.out,h.least,λz g b=>?_]
 rcases jj.mp b with b|b
 .exact h.gone z g b
 simp_all
structure Told (N:Net) (s:Str) (F:Ot):Prop where
 start:F s=P3 (0,s_)
 ins:∀x,F x≠s_->x∈N.ps
 least:∀x d p,F x=P3 (d,p)->vC N s x d
 all:∀x d,Wk N s x d->F x≠s_
 prev:∀x d p,F x=P3 (d,p)->(p=s_/\x=s)\/∃y dy q l,p=P3 y/\F y=P3 (dy,q)/\Ed N y x l/\d=dy+l
def Dj.told(h:Dj N s F []):Told N s F:=by
 have c:=GU (N:=N) (s:=s) (F:=λx=>(F x).map (·.1)) #[0,by rw[h.start];rfl,qI _] (λx d e=>by
  let#[#[g,p],a,b]:=kO.mp e;cases b;exact h.wk x _ p a) (λx d y l e i=>by
  let#[#[g,p],a,b]:=kO.mp e;cases b;let#[f,q,j,k]:=h.done x _ p y l a jw i;exact#[f,by rw[j];rfl,k])
 refine#[h.start,h.ins,λx d p e=>c.1 x d (by rw[e];rfl),λx d m e=>c.2 x d m (by rw[e];rfl),λx d p e=>?_]
 rcases h.prev x d p e with z|⟨y,f,q,l,a,b,_,n,o⟩
 .exact .inl z
 simp_all
abbrev Kn:=Str->w_ Int
structure Bf (N:Net) (s:Str) (c:Nat) (K:Kn):Prop where
 start:∃d,K s=P3 d/\d<=0
 ins:∀x,K x≠s_->x∈N.ps
 wk:∀x d,K x=P3 d->Wk N s x d
 top:∀x d,K x=P3 d->d<=1000000*(c:Int)
def big:Nat:=27000001
def wt(K:Kn)(x:Str):Nat:=match K x with
 |some d=>d.toNat
 |none=>big
def Tr(a:v_ Str)(K:Kn):Nat:=(a.map^wt K).sum
theorem UL{f g:Str->Nat}:∀{a:v_ Str},(∀x∈a,f x<=g x)->(a.map f).sum<=(a.map g).sum
 |[],_=>Sc _
 |x::a,h=>by
  have c:=UL λy b=>h y^Rs _ b
  grind
theorem UK{f g:Str->Nat}:∀{b:v_ Str},(∀x∈b,f x<=g x)->(∃x∈b,f x<g x)->(b.map f).sum<(b.map g).sum
 |[],_,#[x,c,_]=>by cases c
 | x::b,h,#[y,a,d]=>by
  have i:=h x No;rw[jy,jy,List.sum_cons,List.sum_cons]
  rcases UF.mp a with rfl|a
  .have e:=UL λy a=>h y^Rs _ a
   lk
  .have e:=UK (λy a=>h y^Rs _ a) #[y,a,d]
   lk
theorem Bf.put  (ok:N.Ok) {K:Kn} (h:Bf N s c K) (u:c' ≤ 26) (n:c ≤ c')  (g:K x=P3 d) (b:Ed N x y l) (o:K y=s_ → c'=c + 1) (f:∀ a,K y=P3 a → d + l < a):Bf N s c'^Gq K y (d + l) ∧ Tr N.ps^Gq K y (d + l) < Tr N.ps K:=by
  have v:=b.pos ok;have A:=(h.wk x d g).pos ok;have p:Wk N s y (d + l):=.snoc (h.wk x d g) b;have B:=h.top x d g
  have q : d + l ≤ 1000000 * (c':Int):=by
    cases e:K y with
    | none => rw[o e];have:((c + 1:Nat):Int)=(c:Int) + 1:=by lk
              rw[this,Int.mul_add];lk
    | some a=>
      have C:=f a e;have r:=h.top y a e;have:(1000000:Int) * (c:Int) ≤ 1000000 * (c':Int):=p8 (by lk) (by lk);lk
  refine#[#[?_,λz j=>?_,λz i e=>?_,λz i e=>?_],UK (λz _=>?_) #[y,b.ins ok,?_]]
  · let#[k,m,t]:=h.start
    by_cases z:s=y
    · have:=f k^by rw[←z];exact m
      lk
    .exact#[k,by rw[BP z];exact m,t]
  · by_cases e:z=y
    .rw[e];exact b.ins ok
    .rw[BP e]at j;exact h.ins z j
  · by_cases w:z=y
    .rw[w,BS]at e;cases e;rw[w];exact p
    .rw[BP w]at e;exact h.wk z i e
  · by_cases w:z=y
    .rw[w,BS]at e;cases e;exact q
    · rw[BP w]at e
      have r:=h.top z i e;have:(1000000:Int) * (c:Int) ≤ 1000000 * (c':Int):=p8 (by lk) (by lk);lk
  · unfold wt
    by_cases w:z=y
    · rw[w,BS]
      cases e:K y with
      |none=>show(d + l).toNat ≤ big;unfold big;lk
      |some a=>show(d + l).toNat ≤ a.toNat;have:=f a e;lk
    · rw[BP w]
      exact Sc _
  · unfold wt
    rw[BS];cases e:K y with
    |none=>show(d + l).toNat < big;unfold big;lk
    |some a=>show(d + l).toNat < a.toNat;have:=f a e;lk
theorem Bf.init(b:s∈N.ps):Bf N s 1 (λx=>if x=s then P3 0 else s_):=by
 have a:∀x d,(if x=s then P3 (0:Int)else s_)=P3 d->x=s/\d=0:=λx d e=>by
  grind
 refine#[#[0,if_pos rfl,qI _],λx e=>by grind,λx d e=>?_,λx d e=>?_]
 .let#[rfl,rfl]:=a x d e
  exact .nil
 .let#[rfl,rfl]:=a x d e
  decide
def Ij(K:Kn)(e:Str×Str×Int):Prop:=∀d,K e.1=P3 d->∃a,K e.2.1=P3 a/\a<=d+e.2.2
structure LTold (N:Net) (s:Str) (K:Kn):Prop where
 ins:∀x,K x≠s_->x∈N.ps
 least:∀x d,K x=P3 d->vC N s x d
 all:∀x d,Wk N s x d->K x≠s_
 top:∀x d,K x=P3 d->d<=30000000
theorem Bf.told(ok:N.Ok){K:Kn}(h:Bf N s c K)(n:c<=26)(f:∀t∈N.ts,Ij K (t.a,t.b,t.len)/\Ij K (t.b,t.a,t.len)):LTold N s K:=by
 have g:=GU h.start h.wk (λx d y l e j=>by
  let#[t,i,k,m]:=j.tie ok;subst k
  rcases m with⟨rfl,rfl⟩|⟨rfl,rfl⟩
  .exact(f t i).1 d e
  .exact(f t i).2 d e)
 exact#[h.ins,g.1,g.2,λx d e=>by have:=h.top x d e;lk]
def walk(N:Net):v_ Str->Int->Prop
 |[],_=>False
 |[_],d=>d=0
 |x::y::r,d=>∃l e,Ed N x y l/\walk N (y::r) e/\d=l+e
def R0(a:Ed N x y l)(h:walk N (y::r) d):walk N (x::y::r) (l+d):=#[l,d,a,h,rfl]
def gv(N:Net)(a b:Str):w_ Int->Prop
 |some d=>vC N a b d
 |none=>∀d,¬Wk N a b d
def Told.far(h:Told N s F)(x:Str):gv N s x ((F x).map (·.1)):=by
 cases e:F x with
 |none=>exact λd b=>h.all x d b e
 |some a=>exact h.least x _ _ e
def LTold.far{K:Kn}(h:LTold N s K)(x:Str):gv N s x^K x:=by
 cases e:K x with
 |none=>exact λd a=>h.all x d a e
 |some d=>exact h.least x d e
def Way(N:Net)(a b:Str)(o:w_^v_ Str):Prop:=match o with
 |some w=>∃d r,w=a::r/\w.getLast?=P3 b/\walk N w d/\vC N a b d/\w.length<=30/\∀x∈w,x∈N.ps
 |none=>∀d,¬Wk N a b d
def fD:w_ Str->D
 |some y=>.str y
 |none=>.non
def bM:w_ Int->D
 |some y=>.int y
 |none=>.non
def fC:w_^v_ Str->D
 |some w=>.tup^w.map .str
 |none=>.non
def IC(p:Int×w_ Str):D:=.tup [.int p.1,fD p.2]
def okN(N:Net):Prop:=N.Ok/\N.ps.length<=25/\N.ts.length<=60
def gI:W2:=λf n P=>∃(a:v_ Str) (b:v_ Key) (c:v_ D) (F:Ot),f=[.br^.lst^a.map .str,.br^.dic b c]/\vg b c IC F/\(∀x∈a,F x≠s_)/\a≠[]/\a.length<=100 /\
 ∀v∈a,(∀y∈a,∀d g e h,F v=P3 (d,g)->F y=P3 (e,h)->d<=e)->P (.str v) n
def cb:W2:=λc n P=>∃(N:Net) (s:Str),c=[.sh^enc N,.sh^.str s]/\okN N/\s∈N.ps/\∀(a:v_ Key) (b:v_ D) (F:Ot),vg a b IC F->Told N s F->P (.dic a b) n
def gL:W2:=λc n P=>∃(N:Net) (a b:Str),c=[.sh^enc N,.sh^.str a,.sh^.str b]/\okN N/\a∈N.ps/\b∈N.ps/\∀o,gv N a b o->P (bM o) n
def io:W2:=λc n P=>∃(N:Net) (a b:Str),c=[.sh^enc N,.sh^.str a,.sh^.str b]/\okN N/\a∈N.ps/\b∈N.ps/\∀o,Way N a b o->P (fC o) n
theorem ii(h:Be [.inl j,.inr y] [.inl i,.inr x]=u_):i<=j:=by
 have h:(if pO j=.inl i then(if mB y=.inr x then u_ else decide _)else decide _)=u_:=h
 grind
section
def Aw(x:Str):keyOf^.str x=P3^.inr x:=rfl
def Si{N:Net}(ok:N.Ok){a:v_ Str}(h:∀x∈a,x∈N.ps):CT^.lst^a.map .str:=G3 λd b=>by
  let#[x,c,rfl]:=TM.mp b;exact Dt^ok.names x^h x c
theorem Oy{N:Net}{d:v_ Str}(b:d.Nodup)(h:∀x∈d,x∈N.ps):d.length<=N.ps.length:=by
 have:∀(a c:v_ Str),a.Nodup->(∀x∈a,x∈c)->a.length<=c.length:=by
  intro a
  induction a with
  |nil=>grind
  |cons x a g=>
   intro c b f;have k:=f x No;have b:=j6.mp b;have l:=g (c.erase x) b.2 λj i=>(List.mem_erase_of_ne λe=>b.1^by simp_all).mpr^f j^Rs _ i
   grind
 simp_all
def JB(a:v_ Key)(k:Key):(Cr a k).length=if Je a k=t_ then a.length else a.length+1:=by
 unfold Cr
 split
 .rfl
 simp_all
def vg.has{b:Type}{enc:b->D}{F:Str->w_ b}(h:vg a d enc F):(F x=s_->Je a^.inr x=u_)/\(F x≠s_->Je a^.inr x=t_):=by
 constructor
 .intro e
  cases c:Je a _ with
  |false=>rfl
  |true=>exact absurd e^(h.mem x).mp^vF.mp c
 .intro e
  exact vF.mpr^(h.mem x).mpr e
theorem SD{N:Net}(c:x∈N.ps):BO (N.ps.map .inr) (N.ps.map^Wy N.ts)^.inr x=P3^Wy N.ts x:=by
 have go:∀a:v_ _,x∈a->BO (a.map .inr) (a.map^Wy N.ts)^.inr x=P3^Wy N.ts x:=by
  intro a
  induction a with
  |nil=>grind
  | cons q a b=>
   intro h;show(if mB q=.inr x then P3 _ else BO _ _ _)=_
   by_cases e:q=x
   .grind
   .rw[if_neg λz=>e^mG z]
    exact b^(UF.mp h).resolve_left λz=>e z.symm
 simp_all
def W4(l:v_ (Str×Int)):Hv ((l.map λx=>(.inr x.1:Key)).map Zq) (l.map λx=>.int x.2)=l.map iO:=by
 induction l with
 |nil=>rfl
 |cons p l a=>
  show D.tup _::Hv _ _=iO p::l.map _;rw[←a];rfl
end
structure WInv (N:Net) (F:Ot) (b:Str) (db:Int) (acc:List Str) (pl:Option Str):Prop where
 st:(acc=[]/\pl=P3 b)\/∃z r dz,acc.reverse=z::r/\F z=P3 (dz,pl)/\walk N acc.reverse (db - dz)/\acc.reverse.getLast?=P3 b
 nd:acc.Nodup
 ins:∀x∈acc,x∈N.ps
 less:∀y dy q,pl=P3 y->F y=P3 (dy,q)->∀x∈acc,∃dx qx,F x=P3 (dx,qx)/\dy<dx
 fnd:∀y,pl=P3 y->F y≠s_
def wm(F:Ot):w_ Str->Nat
 |none=>0
 |some y=>((F y).getD (0,s_)).1.toNat+1
theorem WInv.step(ok:N.Ok)(T:Told N a F){K:w_ Str}(eb:F b=P3 (k,K))(h:WInv N F b k m^P3 y)(c:F y=P3 (g,f)):WInv N F b k (m++[y]) f/\wm F f<wm F^P3 y:=by
 have L:=(T.least y g f c).1.pos ok
 have A:∀w o q,f=P3 w->F w=P3 (o,q)->o<g:=λw o q e i=>by
  rcases T.prev y g f c with⟨z,_⟩|⟨B,s,C,l,j,n,t,u⟩
  .rw[e]at z;cases z
  .rw[e]at j
   cases j;rw[i]at n;cases n
   have:=(t.pos ok).1
   lk
 have D:∀w,f=P3 w->F w≠s_:=λw e=>by
  rcases T.prev y g f c with⟨z,_⟩|⟨B,s,C,l,j,n,_⟩
  .rw[e]at z;cases z
  .rw[e]at j
   cases j;rw[n];intro z;cases z
 exists#[.inr ?_,?_,λx d=>?_,λw o q e i x d=>?_,D]
 .rw [List.reverse_append,List.reverse_singleton,pU]
  rcases h.st with⟨rfl,e⟩|⟨z,r,E,j,n,t,u⟩
  .cases e
   rw[eb]at c;cases c;exact#[_,_,_,rfl,eb,(by show k - k=0;lk),rfl]
  .exists y,m.reverse,g,rfl,c,?_
   .rw[j]at t ⊢
    rcases T.prev z E (P3 y) n with⟨w,_⟩|⟨B,s,C,l,M,G,O,Q⟩
    .cases w
    .cases M
     rw[c]at G;cases G
     have:=R0 O t
     rw[show l+(k - E)=k - g by lk]at this;exact this
   .rw[j]at u ⊢
    exact u
 .rw[lM]
  refine#[h.nd,j6.mpr #[jw,ki],λx d z P e=>?_];rw[Re.mp P]at e;let#[H,I,ex,v]:=h.less y g f rfl c x d;rw[e,c]at ex;cases ex;lk
 .rcases jj.mp d with d|d
  .exact h.ins x d
  .rw[Re.mp d]
   exact T.ins y^by rw[c];intro z;cases z
 .have J:=A w o q e i
  rcases jj.mp d with d|d
  .let#[H,I,ex,v]:=h.less y g f rfl c x d
   exact#[H,I,ex,by lk]
  .rw[Re.mp d]
   exact#[g,f,c,J]
 .cases f with
  |none=>exact Nat.succ_pos _
  | some w=>
   cases i:F w with
   |none=>exact absurd i (D w rfl)
   |some p=>
    have J:=A w p.1 p.2 rfl i;have R:=(T.least w p.1 p.2 i).1.pos ok;show((F w).getD (0,s_)).1.toNat+1<((F y).getD (0,s_)).1.toNat+1;rw[i,c];show p.1.toNat+1<g.toNat+1;lk
def X8{K:Kn}(M:vg a b D.int K)(x:Str):(BO a b^.inr x).getD .non=bM^K x:=by
 rw[M.at_];cases K x <;>rfl
theorem aX(a:okN N):G_ 1000001^enc N/\SA^enc N<=48000/\TN^enc N<=3:=aI (X4 a.1) (En a.1) (by rw[Ev];have:=a.2.1;lk)^by rw[Ev];have:=a.2.2;lk
end Nt
namespace Dp
open L2
def dU(i:Nat)(b:BW)(a:AY):AY:=λf n c=>∃d e,c[i]?=P3^.br d/\Iw d=P3 e/\BF b a f e n c
section

def Rel.lessKp{K:Frag}(R:Rel K {C with kp:=q::C.kp} M H n a c):Rel K C M H n a c:=
 #[R.len,R.sub,R.dom,R.ext,R.fU,R.uV,R.vM,R.feed,R.sl,R.pin,R.br0,R.new,R.two,λp d=>R.kept p^Rs _ d]
theorem YH(hp:pP (model X.prog X.w) X.A X.env X.xe)(hc:X.calm=t_)(h:PE X (.Name x p)^Bs i)(hg:DG X tg b)(hb:Ou X κ body wb)
  (hs:∀y,foldedSetIterable (.Name x p) X.env y=pure y:=by intro _;rfl):DS X κ (.For tg (.Name x p) body [] pos)^dU i b wb:=by
 let#[g,g1,g2]:=hg;let#[tb,b1,b2]:=hb;refine#[_,JD hp hc (Pe h) g1 b1 hs,λC M H n U Z G E R L w=>?_];let#[d,f,hi,hd,w]:=w;let#[v,e1,a2]:=R.sl i _ hi;cases d with
 | tup a4=>
  cases hd;let#[a,I,rfl,hn,J]:=a2;refine#[.ref a,getD_some e1,.inr^.inl #[a,rfl,#[I,hn.sq],?_]];obtain⟨c,ek⟩:∃c,c=C.kp:=#[_,rfl];have R1:Rel X.K {C with kp:=c} M H n U Z:=by rw[ek];exact R
  have B:∀{M H n U Z},Rel X.K {C with kp:=c} M H n U Z->Rel X.K C M H n U Z:=λR=>by rw[ek]at R;exact R
  have st:∀l k r s t,Rel X.K {C with kp:=c,zF:=(M,H)::C.zF} l k r s t->SqT X.K k a I:=λl k r s t D=>(hn.q4^D.pin (M,H) No).sq;exists λi m t k=>m=f.length - i/\i<=f.length/\∃l r s,Rel X.K {C with kp:=c,zF:=(M,H)::C.zF} l k r s t/\BF b wb G (f.drop i) r s,#[f.length,by simp,jp _,M,n,U,R1.pinned,w];rintro i m t k ⟨rfl,a5,l,r,s,D,V⟩;have pr:zg M H l k:=D.pin (M,H) No;have N:=st l k r s t D
  by_cases F:i<f.length
  .have ed:f.drop i=f[i]::f.drop (i+1):=lX F
   rw[ed]at V;let#[v,ev,hv]:=(J.q4 pr).get^Op F;refine .inr #[#[I,v,N,ev],λzN H2=>∃M2 W Y,Rel X.K {C with kp:=c,zF:=(M,H)::C.zF} M2 H2 W Y zN/\BF b wb G (f.drop (i+1)) W Y,λzN H2 #[M2,W,Y,a0,w2]=>#[f.length - (i+1),by lk,rfl,F,M2,W,Y,a0,w2],λy H2 hy=>?_];let#[e2,hy]:=hy;subst e2
   have:P3 v=P3 y:=ev.symm.trans^hy I N
   cases this;refine g2 _ l H2 r s t f[i] v _ _ D hv V λzP zV R3 w3=>?_;refine b2 _ l H2 r zP zV {G with nx:=BF b wb G^f.drop (i+1),ct:=BF b wb G^f.drop (i+1),bk:=G.nx} _ R3 #[λO H4 P Q zQ S T=>#[O,P,Q,S,T],L.rt,λO H4 P Q zQ S T=>L.nx O H4 P Q zQ (B S.yZ) T,λO H4 P Q zQ S T=>#[O,P,Q,S,T]] w3
  .have e:i=f.length:=by lk
   subst e;rw[oR]at V;exact .inl #[#[I,N,by rw[J.length];exact Sc _],L.nx l k r s t (B D.yZ) V]
 | lst a4=>
  cases hd;let#[a,I,rfl,nV,hH,J]:=a2
  obtain⟨o,ho,a3,a1⟩:∃o,H a=P3 o/\¬Tl o/\∀k:Hp,k a=P3 o->SqL X.K k a I:=by
   rcases hH with z|⟨u,z⟩
   .exact#[_,z,(by rintro⟨_,z⟩;cases z),λk e=>.inl^.inl e]
   .exact#[_,z,(by rintro⟨_,z⟩;cases z),λk e=>.inl^.inr #[u,e]]
  refine#[.ref a,getD_some e1,.inl #[a,rfl,#[I,a1 H ho],?_]]
  obtain⟨c,R1,B,st⟩:∃c,Rel X.K {C with kp:=c} M H n U Z/\(∀{M H n U Z},Rel X.K {C with kp:=c} M H n U Z->Rel X.K C M H n U Z)/\(∀l k r s t,Rel X.K {C with kp:=c,zF:=(M,H)::C.zF} l k r s t->SqL X.K k a I):=by
   by_cases hM:M a
   .refine#[(a,o)::C.kp,#[R.len,R.sub,R.dom,R.ext,R.fU,R.uV,R.vM,R.feed,R.sl,R.pin,R.br0,R.new,R.two,λq N=>?_],λR=>R.lessKp,λl k r s t D=>a1 k (D.kept (a,o) No).1]
    rcases UF.mp N with rfl|N
    .refine#[ho,#[hM,a3],nV,λj e q z=>?_]
     let#[u,hu]:=R.br0 i _ a hi e1
     have:=(R.new j _ a q rfl z).2
     rw[hu]at this;cases this
    .exact R.kept q N
   .exact#[C.kp,R,λR=>R,λl k r s t D=>a1 k^(D.pin (M,H) No).1 a o ho hM a3]
  exists λi m t k=>m=f.length - i/\i<=f.length/\∃l r s,Rel X.K {C with kp:=c,zF:=(M,H)::C.zF} l k r s t/\BF b wb G (f.drop i) r s,#[f.length,by simp,jp _,M,n,U,R1.pinned,w];rintro i m t k ⟨rfl,a5,l,r,s,D,V⟩;have pr:zg M H l k:=D.pin (M,H) No;have N:=st l k r s t D
  by_cases F:i<f.length
  .have ed:f.drop i=f[i]::f.drop (i+1):=lX F
   rw[ed]at V;let#[v,ev,hv]:=(J.q4 pr).get^Op F;refine .inr #[#[I,v,N,ev],λzN H2=>∃M2 W Y,Rel X.K {C with kp:=c,zF:=(M,H)::C.zF} M2 H2 W Y zN/\BF b wb G (f.drop (i+1)) W Y,λzN H2 #[M2,W,Y,a0,w2]=>#[f.length - (i+1),by lk,rfl,F,M2,W,Y,a0,w2],λy H2 hy=>?_];let#[e2,hy]:=hy;subst e2
   have:P3 v=P3 y:=ev.symm.trans^hy I N
   cases this;refine g2 _ l H2 r s t f[i] v _ _ D hv V λzP zV R3 w3=>?_;refine b2 _ l H2 r zP zV {G with nx:=BF b wb G^f.drop (i+1),ct:=BF b wb G^f.drop (i+1),bk:=G.nx} _ R3 #[λO H4 P Q zQ S T=>#[O,P,Q,S,T],L.rt,λO H4 P Q zQ S T=>L.nx O H4 P Q zQ (B S.yZ) T,λO H4 P Q zQ S T=>#[O,P,Q,S,T]] w3
  .have e:i=f.length:=by lk
   subst e;rw[oR]at V;exact .inl #[#[I,N,by rw[J.length];exact Sc _],L.nx l k r s t (B D.yZ) V]
 |_=>cases hd
end
end Dp
namespace Nt
open L2 Dp
def sub(N:Net)(kept:v_ Af):Net:=#[N.ps,N.ts.filter λu=>decide (u∈kept)]
def ZT(N:Net)(t b:Int)(u:Af):Prop:=∃d,vC N u.a u.b d/\d*b<=u.len*t
noncomputable def GF(N:Net)(t b:Int)(u:Af):Bool:=@decide (ZT N t b u)^mZ _
theorem ky:GF N t b u=t_↔ZT N t b u:=by
 unfold GF
 grind
noncomputable def Ct(N:Net)(t b:Int):v_ Af->v_ Af->v_ Af
 |a,[]=>a
 |a,u::r=>if GF (sub N a) t b u=t_ then Ct N t b a r else Ct N t b (a++[u]) r
def M9:W2:=λc n P=>∃(N:Net) (z:D) (b:v_ Af),c=[.sh^enc N,.br z]/\Iw z=P3^b.map AZ/\b.length<64/\∀a:v_ Af,a.Perm b->Lo a->P (enc #[N.ps,a]) n
def Wp:W2:=λc n P=>∃(N:Net) (u:Af) (t b:Int),c=[.sh^enc N,.sh^.tup [.int t,.int b],.sh^AZ u]/\okN N/\u.a∈N.ps/\u.b∈N.ps/\1<=b/\b<=1000000/\1<=t/\t<=1000000/\∀o:w_^v_ Str,(∀w,o=P3 w->Way N u.a u.b^P3 w/\GF N t b u=t_)->(o=s_->GF N t b u=u_)->P (fC o) n
def KS:W2:=λc n P=>∃(N:Net) (t b:Int),c=[.sh^enc N,.sh^.tup [.int t,.int b]]/\okN N/\1<=b/\b<=1000000/\1<=t/\t<=1000000/\∀a:v_ Af,a.Perm N.ts->Fs a->P (enc^sub N^Ct N t b [] a) n
def Gc:W2:=λd n P=>∃(N:Net) (s:Str) (z:D) (a:v_ Af),d=[.br z,.sh^.str s]/\Iw z=P3^a.map AZ/\(∀u,u∈a↔u∈N.ts)/\okN N/\s∈N.ps/\∀(b:v_ Key) (c:v_ D) (K:Kn),vg b c D.int K->LTold N s K->P (.dic b c) n
def D4:AY:=(Au (Ic 2^L4 Ag)
 (Au (T7 (FV^Ae M8^AH (AS^Ak CI (AJ 0)^wC^D.int 1) AW) (Bm 3) (Au (Bj 4^QV (Ae Gc^AH (B9^BC 2)^AH (AS^Ak CI (AJ 3)^wC^D.int 0) AW)^Ak CI (AJ 3)^wC^D.int 1)
 (Cv (L0 (Am^Ak (OI u_) (AJ 4)^wC D.non)^Am^Ak (f2 λi j=>D.bl (decide (j<i))) (Ak Hk (AJ 4)^Ak CI (AJ 1)^wC^D.int 1)^Ak Hk (Ak CI (AJ 3)^wC^D.int 2)^Ak CI (AJ 1)^wC^D.int 0) (Ww 2 "list" Kw^AM (AJ 3) Ag) B0)))
 (Cd^D7^AM (Ak CI (AJ 0)^wC^D.int 0)^AM (EZ Cb^AM (EZ Mi^AM (BC 2) Ag) Ag) Ag)))
def yH:u∈(sub N kept).ts↔u∈N.ts/\u∈kept:=by
 show u∈N.ts.filter _↔_
 simp_all
def L8(a:okN N)(kept:v_ Af):okN^sub N kept:=#[aY a.1 (λt h=>(yH.mp h).1)^a.1.vQ.filter _,a.2.1,jr (k9 _ _) a.2.2]
def PD(ok:N.Ok)(d:∀t∈kept,t∈N.ts)(nd:kept.Nodup)(b:a.Perm kept)(c:Lo a):(#[N.ps,a]:Net)=sub N kept:=by
 congr 1
 refine FZ ((qW (b.nodup_iff.mpr nd)^(Bp ok.vQ).filter _).mpr λt=>?_) c^Fq^ok.vQ.filter _;rw[b.mem_iff]
 simp_all
def JZ:Ct N t b kept (u::r)=if GF (sub N kept) t b u=t_ then Ct N t b kept r else Ct N t b (kept++[u]) r:=rfl
theorem JV:∀{l:v_ (f×g)},(l.map (·.1)).Nodup->∀{p q:f×g},p∈l->q∈l->p.1=q.1->p=q
 |a::l,d,p,q,h,i,e=>by
  rw[jy,j6]at d
  rcases UF.mp h with b|b <;>rcases UF.mp i with c|c
  .rw[b,c]
  .grind
  .exact absurd (TM.mpr #[p,b,by rw[e,c]]) d.1
  .exact JV d.2 b c e
def Xx(ok:N.Ok)(h:Ed N x y l):look N.ts x y=P3 l:=by
 unfold look;cases e:(Do _ x).find? _ with
 |none=>exact absurd (List.find?_eq_none.mp e _ h)^by simp
 |some q=>
  have a:=of_decide_eq_true^List.find?_some (p:=λz=>decide _) e;rw[JV (Sh ok x) (qi e) h a];rfl
theorem NH(ok:N.Ok):∀{r:v_ Str}{x:Str}{s d:Int},walk N (x::r) d->Md N.ts x r s=P3 (s+d)
 |[],x,s,d,h=>by
  have:=h
  subst this;show P3 s=P3 _
  grind
 |y::r,x,s,d,h=>by
  let#[l,e,a,b,rfl]:=h;show(match look _ x y with|some l=>Md _ y r _|none=>s_)=_;rw[Xx ok a];show Md _ y r _=_;rw[NH ok b,Int.add_assoc]
def Xy(ok:N.Ok)(a:x∈N.ps)(b:walk N (x::r) d):fJ N^.tup^(x::r).map .str=.int d:=by
 show(if((x::r).map _).all _ then bY N _ else .non)=_;rw[if_pos^all_strs _,Io];show(if x∈N.ps then ET _ else .non)=_;rw[if_pos a,NH ok b,Int.zero_add];rfl
theorem K4{N:Net}(ok:N.Ok):∀{w:v_ Str},(∀x∈w,x∈N.ps)->Ji B^w.map .str/\NV^w.map .str<=9*w.length/\Lg^w.map .str<=0
 |[],_=>#[trivial,Sc _,Sc _]
 | x::r,h=>by
  let#[a,b,c]:=K4 ok λy e=>h y^Rs _ e;have d:=ok.names x^h x No;exists#[λf g=>by have:=d.2.2 f g;lk,a],?_
  .show x.length+1+NV _<=9*(r.length+1)
   have:=d.2.1
   lk
  assumption
theorem Tw{N:Net}(ok:N.Ok){w:v_ Str}(d:w.length<=30)(h:∀x∈w,x∈N.ps):fb^.tup^w.map .str:=by
 let#[a,b,c]:=K4 ok h;exact#[a,by show NV _<=160000;lk,by show Lg _+1<=50;lk]
section

theorem Gu(h:KS ss n Pd):D4 (EE Pd) n (ss++jk 3 .no):=by
 let#[N,t,b,rfl,w,b1,b2,t1,t2,p]:=h;have ok:=w.1;have Y:=w.2.2;have Z:=PySem.sizeLine_eq;unfold D4;refine#[z0,_,AE (j:=1) rfl,_,N.ts,rfl,rfl,by lk,λo E o2=>?_];have F:o.Nodup:=E.nodup_iff.mpr^Bp ok.vQ
 have go:∀(k done f:v_ Af) (J L:Slot),done++k=o->(∀u∈f,u∈done)->f.Nodup->Ct N t b f k=Ct N t b [] o->
   BF (Bm 3) (Au (Bj 4^QV (Ae Gc^AH (B9^BC 2)^AH (AS^Ak CI (AJ 3)^wC^D.int 0) AW)^Ak CI (AJ 3)^wC^D.int 1)
 (Cv (L0 (Am^Ak (OI u_) (AJ 4)^wC D.non)^Am^Ak (f2 λi j=>D.bl (decide (j<i))) (Ak Hk (AJ 4)^Ak CI (AJ 1)^wC^D.int 1)^Ak Hk (Ak CI (AJ 3)^wC^D.int 2)^Ak CI (AJ 1)^wC^D.int 0) (Ww 2 "list" Kw^AM (AJ 3) Ag) B0)) {EE Pd with nx:=Cd (D7^AM (Ak CI (AJ 0)^wC^D.int 0)^AM (EZ Cb^AM (EZ Mi^AM (BC 2) Ag) Ag) Ag)^EE Pd} (k.map AZ) n [.sh^enc N,.sh^.tup [.int t,.int b],.ow^.lst^f.map AZ,J,L]:=by
  intro k
  induction k with
  | nil=>
   intro done f J L e C r A;rw[j5]at e;subst e;have q:∀u∈f,u∈N.ts:=λu O=>E.mem_iff.mp^C u O;have P:=sub_len r (Bp ok.vQ) q;refine#[_,AE (j:=0) rfl,_,_,rfl,rfl,by rw[Ev];lk,#[λx H=>?_,λx H y Q ka kb ea eb=>?_],λa0 hp ho=>?_]
   .let#[t,_,rfl]:=TM.mp H
    exact#[FY t,rfl,k_ _ _]
   .let#[t,_,rfl]:=TM.mp H
    let#[u,_,rfl]:=TM.mp Q;cases(show P3^FY t=P3 ka from ea);cases(show P3^FY u=P3 kb from eb);rfl
   .let#[a1,p1,rfl]:=QY (g:=TR) (λ_=>rfl) hp
    exists z2;have es:=PD ok q r p1^Q3 ho
    have:Pd (enc^sub N f) n:=by rw[show f=Ct N t b [] done from A];exact p done E o2
    rw[←es]at this;exact this
  | cons u k U=>
   intro done f J L e C r A;have q:∀v∈f,v∈N.ts:=λv l=>E.mem_iff.mp (by rw[←e];exact kW _^C v l);have P:=sub_len r (Bp ok.vQ) q;have O:u∈N.ts:=E.mem_iff.mp^by rw[←e];exact jm _ No
   have R:u∉done:=by
    rw[←e,lM]at F;exact λz=>F.2.2 u z u No rfl
   have V:(done++[u])++k=o:=by rw[kj];exact e
   let#[m1,m2,_]:=ok.tin u O;rw[JZ]at A;have s:GF (sub N f) t b u=u_->∀B,(Ww 2 "list" Kw^AM (AJ 3) Ag) {nx:=BF (Bm 3) (Au (Bj 4^QV (Ae Gc^AH (B9^BC 2)^AH (AS^Ak CI (AJ 3)^wC^D.int 0) AW)^Ak CI (AJ 3)^wC^D.int 1)
 (Cv (L0 (Am^Ak (OI u_) (AJ 4)^wC D.non)^Am^Ak (f2 λi j=>D.bl (decide (j<i))) (Ak Hk (AJ 4)^Ak CI (AJ 1)^wC^D.int 1)^Ak Hk (Ak CI (AJ 3)^wC^D.int 2)^Ak CI (AJ 1)^wC^D.int 0) (Ww 2 "list" Kw^AM (AJ 3) Ag) B0)) {EE Pd with nx:=Cd (D7^AM (Ak CI (AJ 0)^wC^D.int 0)^AM (EZ Cb^AM (EZ Mi^AM (BC 2) Ag) Ag) Ag)^EE Pd}^k.map AZ,rt:=Pd} n [.sh^enc N,.sh^.tup [.int t,.int b],.ow^.lst^f.map AZ,.sh^AZ u,B]:=λc B=>by
    rw[c,if_neg^by cbv]at A;exists _,rfl,rfl,_,_,rfl,rfl,by rw[Ev];lk
    have:=U (done++[u]) (f++[u]) (.sh^AZ u) B V (λv l=>by
     rcases jj.mp l with l|l
     .exact kW _^C v l
     .exact jm _ l) (by
     rw[lM];exact#[r,j6.mpr #[jw,ki],λx H y Q z=>R^by rw[←Re.mp Q,←z];exact C x H]) A
    rw[j8]at this;exact this
   refine#[_,AE (j:=0) rfl,sub N f,u.a,_,f,rfl,rfl,λv=>#[λl=>yH.mpr #[q v l,l],λl=>(yH.mp l).2],L8 w f,m1,λks ds K M T=>?_];exists ks,ds,rfl,_,AE (j:=1) rfl,_,Aw u.b;rw[X8 M];have I:=T.far u.b;cases W:K u.b with
   | none=>
    rw[W]at I;exists rfl
    exact s (by
     rw[lC];intro z;let#[d,hd,_]:=ky.mp z;exact I d hd.1) _
   | some d=>
    rw[W]at I
    have X:GF (sub N f) t b u=decide (d*b<=u.len*t):=by
     rw[kR,ky,decide_eq_true_eq];constructor
     .rintro⟨d',S,r⟩
      rw[vC.unique (show vC (sub N f) u.a u.b d from I) S];exact r
     .intro r
      exact#[d,I,r]
    exists rfl;exists _,AE (j:=1) rfl,.inr #[by lk,by lk],_,AE (j:=2) rfl,_,AE (j:=0) rfl,.inr #[by lk,by lk];show if decide (u.len*t<d*b)=t_ then _ else _
    by_cases c:u.len*t<d*b
    .rw[decide_eq_true c]
     exact BE^s (by rw[X];exact decide_eq_false^by lk) _
    .rw[decide_eq_false c]
     rw[X,decide_eq_true^by lk,if_pos rfl]at A;exact Ay^U (done++[u]) f _ _ V (λv l=>kW _^C v l) r A
 exact go o [] [] _ _ rfl (λu h=>by cases h) ki rfl
end
end Nt
namespace Dp
open L2
end Dp
namespace Nt
open L2 Dp
end Nt
namespace L2
section

def UC(x y:Str)(i:Nat):Str:=if i=0 then x else y
def QZ{v:Db}(h:(#[ nF x t,nF y u]:Array Db)[i]?=P3 v):∃k,v=.str (UC x y i) k:=by
 match i with
 |0=>exact#[t,(ZB h).symm]
 |1=>exact#[u,(ZB h).symm]
 |i+2=>simp at h
def TZ:CmpOf prog w A .Lt (λi v=>(#[ nF x t,nF y u]:Array Db)[i]?=P3 v) (λi j=>decide ((UC x y i).cps.toList<(UC x y j).cps.toList)):=λi j f g s Q E c d h=>by
 let#[a,rfl]:=QZ c;let#[b,rfl]:=QZ d;exact richCompare_gives (op:=.Lt) (nC s _ a) (nC s _ b) PySem.F.slot_str_lt PySem.F.entry_str_lt (PySem.F.args_str_lt_2 _ _) (gives_str_lt _ _ a b) (λe=>nomatch e) h
def Ta:CmpOf prog w A .Gt (λi v=>(#[ nF x t,nF y u]:Array Db)[i]?=P3 v) (λi j=>decide ((UC x y j).cps.toList<(UC x y i).cps.toList)):=λi j f g s Q E c d h=>by
 let#[a,rfl]:=QZ c;let#[b,rfl]:=QZ d;exact richCompare_gives (op:=.Gt) (nC s _ a) (nC s _ b) PySem.F.slot_str_gt PySem.F.entry_str_gt (PySem.F.args_str_gt_2 _ _) (gives_str_gt _ _ a b) (λe=>nomatch e) h
theorem UD(h:c∈[n+1,n]):c<n+1+1:=by
 simp only[UF,jw,or_false]at h;lk
def NM(h:(#[ nF x t,nF y u]:Array Db)[argBest a 1]?=P3 v):v=if a 1 0=t_ then .str y u else .str x t:=by
 have e:argBest a 1=if a 1 0=t_ then 1 else 0:=rfl
 rw[e]at h;cases c:a 1 0 with
 |true=>rw[c]at h;exact(ZB h).symm
 |false=>rw[c]at h;exact(ZB h).symm
def Sk(i:A.handled=s_)(h:∀a d,(∀c o,s.heap.get? c=P3 o->a.get? c=P3 o)->Q (if decide (y.cps.toList<x.cps.toList)=t_ then .str y u else .str x t) {s with heap:=a,toks:=d}):
  wpAny (model prog w) A (call (.builtin "min") [.str x t,.str y u]) Q E s:=by
 have f:(s.heap.push {cls:=.type "tuple",data:=.seq #[ .str x t,.str y u]}).IsTuple s.heap.objs.size #[ .str x t,.str y u]:=#[_,TW _ rfl,rfl,0,rfl];refine call_min_two^lI f ?_;have b:(s.heap.push {cls:=.type "tuple",data:=.seq #[ .str x t,.str y u]}).objs.size=s.heap.objs.size+1:=kh ..;refine#[_,[_,s.heap.objs.size],[_],_,_,_,_,rfl,Walks.tuple (A:=A.in1) i _ s.heap.objs.size (by rw[b];exact jo^me _) #[ .str x t,.str y u],#[#[_,TW _ rfl,rfl,rfl],f.push _],λc g=>?_,by simp,TZ,λv a d j k=>?_]
 .rw[kh,b];rw[b]at g;exact UD g
 .rw[NM j]
  refine h a d λc o e=>k c o (λm=>?_)^FM _^FM _ e;have l:=Tk e;rw[Re.mp m,b]at l;exact absurd l^nj.mpr^kL _
def Sm(i:A.handled=s_)(h:∀a d,(∀c o,s.heap.get? c=P3 o->a.get? c=P3 o)->Q (if decide (x.cps.toList<y.cps.toList)=t_ then .str y u else .str x t) {s with heap:=a,toks:=d}):
  wpAny (model prog w) A (call (.builtin "max") [.str x t,.str y u]) Q E s:=by
 have f:(s.heap.push {cls:=.type "tuple",data:=.seq #[ .str x t,.str y u]}).IsTuple s.heap.objs.size #[ .str x t,.str y u]:=#[_,TW _ rfl,rfl,0,rfl];refine call_max_two^lI f ?_;have b:(s.heap.push {cls:=.type "tuple",data:=.seq #[ .str x t,.str y u]}).objs.size=s.heap.objs.size+1:=kh ..;refine#[_,[_,s.heap.objs.size],[_],_,_,_,_,rfl,Walks.tuple (A:=A.in1) i _ s.heap.objs.size (by rw[b];exact jo^me _) #[ .str x t,.str y u],#[#[_,TW _ rfl,rfl,rfl],f.push _],λc g=>?_,by simp,Ta,λv a d j k=>?_]
 .rw[kh,b];rw[b]at g;exact UD g
 .rw[NM j]
  refine h a d λc o e=>k c o (λm=>?_)^FM _^FM _ e;have l:=Tk e;rw[Re.mp m,b]at l;exact absurd l^nj.mpr^kL _
end
section

def ZJ:v_ V->Hp->VK->Prop:=λa H Q=>∃x y:Str,a=[.str x,.str y]/\Q (.str (if decide (y.cps.toList<x.cps.toList)=t_ then y else x)) H
def ZL:v_ V->Hp->VK->Prop:=λa H Q=>∃x y:Str,a=[.str x,.str y]/\Q (.str (if decide (x.cps.toList<y.cps.toList)=t_ then y else x)) H
def HG(a:X.calm=t_):zS X (.builtin "min") ZJ:=by
 intro b s c H d e Q I r h;let#[x,y,rfl,q]:=h;let#[u,f,rfl,#[t,rfl],#[g,rfl]]:=vals2 r;refine Sk (I.ok.hd a) λi j k=>#[_,H,I.kept k,?_,q];cases decide (y.cps.toList<x.cps.toList) <;>exact#[_,rfl]
def HH(a:X.calm=t_):zS X (.builtin "max") ZL:=by
 intro b s c H d e Q I r h;let#[x,y,rfl,q]:=h;let#[u,f,rfl,#[t,rfl],#[g,rfl]]:=vals2 r;refine Sm (I.ok.hd a) λi j k=>#[_,H,I.kept k,?_,q];cases decide (x.cps.toList<y.cps.toList) <;>exact#[_,rfl]
end
end L2
namespace Dp
open L2
section
variable {K:Frag}
def Zd(a:v_ D)(P:D->Prop):Prop:=∃x y:Str,a=[.str x,.str y]/\P^.str (if decide (y.cps.toList<x.cps.toList)=t_ then y else x)
def Ze(a:v_ D)(P:D->Prop):Prop:=∃x y:Str,a=[.str x,.str y]/\P^.str (if decide (x.cps.toList<y.cps.toList)=t_ then y else x)
def NL(b:Paired (λv d=>AtT K U M H d v) a [.str x,.str y]):a=[.str x,.str y]/\x.length<=sizeLine/\y.length<=sizeLine:=by
 cases b with
 | cons c e=>cases e with
  |cons f g=>
   cases g;let#[rfl,h]:=c.str;let#[rfl,i]:=f.str;exact#[rfl,h,i]
def QN:Bw K .sh ZJ Zd:=by
 intro U M H c d P Q a f b w q;let#[x,y,rfl,w]:=w;let#[e,g,h]:=NL b;exact#[x,y,e,q _ H (.str _) .refl #[rfl,by split <;>assumption] w]
def QO:Bw K .sh ZL Ze:=by
 intro U M H c d P Q a f b w q;let#[x,y,rfl,w]:=w;let#[e,g,h]:=NL b;exact#[x,y,e,q _ H (.str _) .refl #[rfl,by split <;>assumption] w]
end
end Dp
namespace L2
open PySem.W
end L2
namespace Dp
open L2
end Dp
namespace L2
open PySem.W
end L2
namespace Dp
open L2
end Dp
namespace Nt
open L2 Dp
def j3:v_ Str:=["a","aa","ab","abc","b","ba","bb","c","come","d","far","in","lay","m","n","near","out","place","q","r","tie","tree","x","xy","y","zzzzzzzz"]
def Yo:W2:=λa n P=>a=[]/\P (.lst^j3.map .str) n
def Oo:W2:=λb n P=>∃m:Nat,b=[.fd,.sh^.int m]/\m<=26/\2<=n.n/\∀a:v_ Str,a.length=m->(∀x∈a,Du x)->rising a->P (.tup^a.map .str) (n - 2)
def Rv:W2:=λa n P=>∃s:Int,a=[.fd,.sh^.int s]/\0<=s/\s<=3/\1<=n.n/\∀r:Int,1<=r->r<=1000000->P (.int r) (n - 1)
def C9(i:Nat):Str:=j3.getD i "a"
theorem Oz:∀i,i<26->Du^C9 i:=by
 have h:∀i∈kH 26,1<=(C9 i).length/\(C9 i).length<=8/\∀c∈cs^C9 i,97<=c/\c<=122:=by decide +kernel
 exact λi a=>h i^lR.mpr a
theorem Rz:∀i j,i<26->j<26->C9 i=C9 j->i=j:=by
 have h:∀i∈kH 26,∀j∈kH 26,cs^C9 i=cs^C9 j->i=j:=by decide +kernel
 exact λi j a b e=>h i (lR.mpr a) j (lR.mpr b)^congrArg cs e
def Tv(i:Nat)(h:i<26):(j3.map D.str)[i]?=P3^.str^C9 i:=by
 have a:i<j3.length:=h;unfold C9;rw[ji,j9,Op a];rfl
section
def Pc(f s:Nat):D->D
 |.int k=>.str^C9 ((f+s*k.toNat) % 26)
 |_=>.non
theorem Ni(f s k:Nat):Pc f s^.int (0+(k:Int))=.str^C9 ((f+s*k) % 26):=by
 show D.str^C9 ((f+s*(0+(k:Int)).toNat) % 26)=_;rw[show(0+(k:Int)).toNat=k by lk]
structure jg (xs:List Str) (ks:List^List Key) (ds:List D):Prop where
 len:ks.length=ds.length
 nd:ks.Nodup
 key:∀k∈ks,∃a b:Str,k=[.inr a,.inr b]/\a∈xs/\b∈xs/\cs a<cs b
 val:∀d∈ds,∃l:Int,d=.int l/\1<=l/\l<=1000000
end
end Nt
namespace L2
open AutoSeq1 (wpAny_loadPart')
theorem boot_enumerate:bootBuiltins "enumerate"=P3^.type "enumerate":=by decide +kernel
section

def TL(m:A.handled=s_)(f l:Ch)(g:l≠f)(c:Array Db):Draws prog w A f [f,l] c.size (λi v=>c[i]?=P3 v) (λi h=>vZ κ h f l i/\vY κ h l c) where
 live:=λ_ _ d=>let #[o,n,_]:=d.1.lies;#[o,n]
 frame:=λ_ _ _ d k=>#[d.1.mv λo e=>k f (by simp) o e,d.2.mv λo e=>k l (by simp) o e]
 item:=λi s Q E j d p=>FE d.1 d.2 (x:=c[i]) (by simp[j]) λq a b=>p _ q s.toks (by simp[j]) #[a,d.2.eb b.extBut g] b
 done:=λs Q E d r=>GP m d.1 d.2 (by simp) r
def QB(d:A.handled=s_)(c l:Ch)(a:Array Db)(k:Nat)(f:a[k]?=s_):Draws prog w A c [c,l] k (λ_ _=>True) (λi h=>vZ κ h c l i/\vY κ h l a/\i=k) where
 live:=λ_ _ b=>let #[o,g,_]:=b.1.lies;#[o,g]
 frame:=λ_ _ _ b k=>#[b.1.mv λo e=>k c (by simp) o e,b.2.1.mv λo e=>k l (by simp) o e,b.2.2]
 item:=λi s Q E j b n=>absurd b.2.2^jo j
 done:=λs Q E b m=>GP d b.1 b.2.1 f m
set_option tactic.hygienic true in
def Va(κ:Bool)(l:Ch)(items:Array Db):Meets (lm.«enumerate.__new__» #[[.type "enumerate",.ref l],[]]) (λ_ R s=>vY κ s.heap l items /\
   R (.ok^.ret^.ref (s.heap.push^Hg κ l).objs.size) {s with heap:=(s.heap.push^Hg κ l).push {cls:=.type "enumerate",data:=.fields #[ .none,.bool u_,.ref s.heap.objs.size,rawInt 0,.none,.none]}}):=
 .of_wp λprog w A R s h=>by
  let#[hp,g,d,tk,os]:=s;let#[hl,h]:=h
  have hsub:=sub_enumerate;cases κ with
  | true=>
   have hL:rO (n9 #[hp,g,d,tk,os]) l items:=hl;let#[#[c,dct,dt,sl],ho,hc,n,hd]:=id hL;replace hc:c=.type "list":=hc;replace hd:dt=.seq items n:=hd;subst hc hd
   wp_walk using k8 ho
   refine wpAny_stack_any λst=>On ?_
   split
   .rename_i c _ _ _ _ _
    cases(c==kZ "enumerate") <;>(wp_walk using k8 ho,lU hL;exact#[_,rfl,h])
   ·(wp_walk using k8 ho,lU hL;exact#[_,rfl,h])
  | false=>
   have hL:qu (n9 #[hp,g,d,tk,os]) l items:=hl;let#[#[c,dct,dt,sl],ho,hc,n,hd]:=id hL;replace hc:c=.type "tuple":=hc;replace hd:dt=.seq items n:=hd;subst hc hd
   wp_walk using k8 ho
   refine wpAny_stack_any λst=>On ?_
   split
   .rename_i c _ _ _ _ _
    cases(c==kZ "enumerate") <;>(wp_walk using k8 ho,lI hL;exact#[_,rfl,h])
   ·(wp_walk using k8 ho,lI hL;exact#[_,rfl,h])
def K3(j:vY c s.heap l a)
  (h:∀d,IsEnum d (s.heap.objs.size+1) s.heap.objs.size 0 .none->vZ c d s.heap.objs.size l 0->(∀b o,s.heap.get? b=P3 o->d.get? b=P3 o)->Q (.ref (s.heap.objs.size+1)) {s with heap:=d}):
  wpAny (model prog w) A (call (.type "enumerate") [.ref l]) Q E s:=by
 refine callType_new F.called_enumerate (by cbv) (F.typeCall_enumerate_1 _) (F.newCall_enumerate_1 _) (λf=>F.args_object_init_2 f _) F.entry_enumerate_new (Va c l a) #[j,?_];have g:(s.heap.push^Hg c l).objs.size=s.heap.objs.size+1:=kh ..;have i:((s.heap.push^Hg c l).push {cls:=.type "enumerate",data:=.fields #[ .none,.bool u_,.ref s.heap.objs.size,rawInt 0,.none,.none]}).get? (s.heap.push^Hg c l).objs.size=P3 _:=TW _ rfl;rw[g]at i;exists#[_,by rw[g];exact i,rfl];rw[g];exact h _ i ((Ja c s.heap l).mv λo e=>FM _ e) λb o e=>FM _^FM _ e
end
def dE(K:Frag)(c:Bool)(a:Ch)(b:v_ V):It:=
 #[λi H=>SqK c K H a b/\i<b.length,λi H x d=>∃T p,x=.ref T/\H T=s_/\d=AX H T^.tup [.int i,p]/\b[i]?=P3 p,λi H=>SqK c K H a b/\b.length<=i]
structure cx (κ:Bool) (e it a:Ch) (k:Nat) (h:jq):Prop where
 e:∃old,IsEnum h e it (k:Int) old
 i:vZ κ h it a k
theorem R7{K:Frag}(κ:Bool)(e f a:Ch)(S:v_ V)(r:e≠f)(ae:a≠e)(ai:a≠f):
  Turn P w K (.Tuple es j pos) (dE K κ a S) [e,f] e (cx κ e f a) where
 mem:=by simp
 obj:=λi h d c b=>by
  simp only[UF,jw,or_false]at b
  rcases b with rfl|rfl
  .let#[o,q]:=d.e
   exact#[_,q,λv q=>by cases q]
  .exact d.i.lies
 keep:=λi h T d k=>by
  let#[o,q]:=d.e;exact#[#[o,k e (by simp) _ q],d.i.mv λo e=>k f (by simp) o e]
 item:=by
  intro X t y B b i U s W H E I m d C;subst t y B;let#[D,F]:=C;let#[n,p,G]:=D.at I;let#[u,hu,ru]:=p.get^Op F;let#[l,g]:=d.e;have l1:=p.length;refine wpAny_pyNext_enum_itemD (TL (κ:=κ) (A:=X.A.in1) (I.ok.hd b) f a ai n.toArray) g #[d.i,G] (by simp;lk) r (by simp[r,ae.symm]) λx T J hp a1 a2 a3 a4 a5=>#[_,rfl,?_]
  have L:x=u:=by
   have Y:n[i]?=P3 x:=by simpa using hp
   rw[hu]at Y;exact(ZB Y).symm
  subst L;refine wpAny_letOwnedTupleGo_enum a1 λZ b1 M=>?_;have hT:H s.heap.objs.size=s_:=I.hok.fresh^Sc _
  have N:∀c o,c∉[e,f]->s.heap.get? c=P3 o->Z.get? c=P3 o:=λc o b z=>by
   simp only[UF,jw,or_false,not_or]at b;exact M.extBut _ _ b.1^a5 c o b.1 b.2 z
  have I2:Inv X U W (AX H s.heap.objs.size^.tup [.int i,S[i]]) {s with heap:=Z,toks:=J+1}:=by
   refine I.yU (t':=J+1) (ch:=[e,f]) m N (Sc _) ?_;have nT:s.heap.objs.size≠e:=mQ^Tk g;exact#[by show 2<=sizeLine;decide,[.int i J,x],.cons #[_,rfl]^.cons ru .nil,#[_,M.extBut _ _ nT a3,rfl,_,rfl,rfl,rfl]]
  refine#[.ref s.heap.objs.size,_,I2,rfl,#[_,_,rfl,hT,rfl,Op F],#[#[_,b1],a2.1.eb M.extBut r.symm],λc b=>?_];have O:H c=s_:=(m c b).1
  have R:c≠s.heap.objs.size:=λz=>by
   obtain⟨o,ho⟩:∃o,s.heap.get? c=P3 o:=by
    simp only[UF,jw,or_false]at b
    rcases b with rfl|rfl
    .exact#[_,g]
    .let#[o,q,_]:=d.i.lies;exact#[o,q]
   rw[z]at ho;exact ko _^Tk ho
  rw[AG R];exact O
 done:=by
  intro X t y B b i U s W H E I m d C;subst t y B;let#[D,F]:=C;let#[n,p,G]:=D.at I;let#[l,g]:=d.e;have l1:=p.length;refine wpAny_pyNext_enum_endD (QB (κ:=κ) (A:=X.A.in1) (I.ok.hd b) f a n.toArray i^by simp;lk) g #[d.i,G,rfl] λT N=>#[rfl,?_];refine I.yX (t':=s.toks) (ch:=[e,f]) m λc o b e=>?_;simp only[UF,jw,or_false,not_or]at b;exact N c o b.2 e
 self:=λA i s Q E d h=>by
  let#[l,g]:=d.e;exact wpAny_pyIter_enum g h
section

def fT(K:Frag)(te:TE):TI:=λd H R=>te d H λv H1=>∃b a c,v=.ref a/\SqK b K H1 a c/\R (dE K b a c) H1
theorem Xc(t:Gl X "enumerate")(v:X.mg "enumerate"=s_)(w:PE X e1 te)(g:starEach [e1] X.env=[(u_,eval e1 X.env)]:=by rfl):
  PI X (.Tuple es j tpos) (.Call (.Name "enumerate" p) [e1] [] pos) (fT X.K te):=by
 intro y s z H R I h;refine kz^EI I t v boot_enumerate ?_;refine lO ?_ g rfl;rw[g];refine mM^Ao (w y s z H _ I h) λu b zz=>?_;let#[x,H1,f,A,i,a,k,ex,B,q]:=zz;refine m9 ?_;subst ex;cases A;let#[F,C,l]:=B.at f;have m:a<b.heap.objs.size:=by let#[o,e]:=l.lies;exact Tk e
 refine K3 l λG n D E=>?_;refine wpAny_pyIter_enum n ?_;refine#[b.heap.objs.size+1,[b.heap.objs.size+1,b.heap.objs.size],_,dE X.K i a k,H1,rfl,f.kept (t':=b.toks) E,R7 i _ _ a k (by show(_:Nat)≠(_:Nat);lk) (jo^lL m)^jo m,#[#[_,n],D],λc r=>?_,q]
 have d:b.heap.objs.size<=c:=by
  simp only[UF,jw,or_false]at r
  rcases r with rfl|rfl
  .exact kL _
  .exact Sc _
 exact f.fpOk d^f.hok.fresh d
end
end L2
namespace Dp
open L2
def Ck:Nat->v_ D->v_ D
 |_,[]=>[]
 |k,x::r=>.tup [.int (k:Int),x]::Ck (k+1) r
theorem HB:∀(k:Nat) (a:v_ D),(Ck k a).length=a.length
 |_,[]=>rfl
 |k,x::r=>by show(Ck (k+1) r).length+1=r.length+1;rw[HB (k+1) r]
theorem Le:∀(k:Nat) (a:v_ D) (i:Nat),(Ck k a)[i]?=(a[i]?).map λx=>.tup [.int ((k+i:Nat):Int),x]
 |_,[],i=>by simp[Ck]
 |k,x::r,0=>rfl
 |k,x::r,i+1=>by
  show(Ck (k+1) r)[i]?=(r[i]?).map _;rw[Le (k+1) r i,show k+1+i=k+(i+1) by lk]
section
variable {K:Frag}
theorem OK(l:Ats K M H e c)(q:zg M H h b)(h1:SqK κ K b a c)(j:∀a,h a->∃o,b a=P3 o):
  (∀d,(Ck 0 e)[i]?=P3 d->(dE K κ a c).go i b/\∀x H2,(dE K κ a c).yld i b x H2->vJ b H2/\At K h H2 d x)/\((Ck 0 e).length<=i->(dE K κ a c).stop i b):=by
 have v:=l.length;refine#[λd f=>?_,λr=>#[h1,by rw[HB]at r;lk]];rw[Le,Nat.zero_add]at f;cases g:e[i]? with
 |none=>rw[g]at f;cases f
 |some s=>
  rw[g]at f;have k:D.tup [.int (i:Int),s]=d:=ZB f;have w:i<e.length:=(XV.mp g).1;refine#[#[h1,by lk],λx H2 y=>?_];let#[T,p,rfl,m,rfl,t]:=y;let#[z,n,u]:=(l.q4 q).get g;rw[t]at n;cases n;subst k;exact#[AV m,DL j m #[.int (i:Int),[p],rfl,rfl,p,[],rfl,u,rfl]]
end
end Dp
namespace L2
def Gh:HO->Prop
 |.lst _=>True
 |.dT _=>True
 |.dK _=>True
 |_=>False
def View(H a:Hp):Prop:=∀b,a b=H b\/∃u,Gh u/\(H b=P3^.vol u/\a b=P3 u\/H b=P3 u/\a b=P3^.vol u)
section

def View.to(v:View H H')(e:H b=P3 o)(k:¬Gh o)(n:∀u,o≠.vol u):H' b=P3 o:=by
 rcases v b with q|⟨u,c,⟨q,_⟩|⟨q,_⟩⟩
 .rw[q];exact e
 .rw[e]at q;exact absurd (ZB q)^n u
 .rw[e]at q;rw[ZB q]at k;exact absurd c k
def View.none(v:View H H'):H' b=s_↔H b=s_:=by
 rcases v b with q|⟨u,c,⟨q,r⟩|⟨q,r⟩⟩
 .rw[q]
 .rw[q,r];exact#[(λz=>by cases z),λz=>by cases z]
 .rw[q,r];exact#[(λz=>by cases z),λz=>by cases z]
def View.tup(v:View H H')(b:Ch)(a:v_ V)(e:H b=P3^.tup a):H' b=P3^.tup a:=v.to e (λz=>z) λu z=>by cases z
def View.own(v:View H H')(b x:Ch)(e:H b=P3^.own x):H' b=P3^.own x:=v.to e (λz=>z) λu z=>by cases z
def View.hok(v:View H H')(x:HOk P w H h):HOk P w H' h:=λa o e=>by
 have d:∀o,zh P w H h a o->zh P w H' h a o:=λo z=>z.J6 (λ_ _ _ q=>q) (λb q=>v.own b a q) λb f q=>v.tup b f q
 rcases v a with q|⟨u,c,⟨q,r⟩|⟨q,r⟩⟩
 .exact d o^x a o^by rw[←q];exact e
 .have z:=ZB^r.symm.trans e
  subst z;exact d u (show zh P w H h a^.vol u from x a _ q)
 .have z:=ZB^r.symm.trans e
  subst z;exact(show zh P w H' h a u from d u^x a u q)
def View.unR(v:View H H')(u:Un fs ex H1 H h h'):Un fs ex H1 H' h h' where
 keep:=u.keep
 slot:=u.slot
 free:=λb o q n c=>v.none.mpr (u.free b o q n c)
 there:=u.there
 vy:=λb a q=>v.tup b a (u.vy b a q)
 vE:=λb o x q=>v.to (u.vE b o x q) (λz=>z) λu z=>by cases z
 vI:=λb d q=>let #[m,z]:=u.vI b d q;#[m,v.to z (λz=>z) λu z=>by cases z]
def View.unL(v:View H H')(u:Un fs ex H' H1 h h'):Un fs ex H H1 h h' where
 keep:=λb o q n=>u.keep b o q (v.none.mpr n)
 slot:=λb o q n=>u.slot b o q (v.none.mpr n)
 free:=λb o q n c=>u.free b o q (v.none.mpr n) c
 there:=u.there
 vy:=λb a q=>u.vy b a (v.tup b a q)
 vE:=λb o x q=>u.vE b o x (v.to q (λz=>z) λu z=>by cases z)
 vI:=λb d q=>u.vI b d^v.to q (λz=>z) λu z=>by cases z
def Inv.view(I:Inv X d e H s)(v:View H H'):Inv X d e H' s:=
 #[I.ok,I.os,I.bare,v.unR I.base,I.loc,I.cell,v.none.mpr I.free,λx c q=>v.none.mpr^I.vG x c q,λp f=>let #[a,b,c]:=I.pin p f;#[a,v.none.mpr b,c],v.hok I.hok,I.len]
def EP.view(h:EP X a b (λv H=>∃H',View H H'/\Q v H') u s):EP X a b Q u s:=
 let #[v,_,I,r,H',w,q]:=h;#[v,H',I.view w,r,q]
def vR(r:v_ V->Hp->VK->Prop):v_ V->Hp->VK->Prop:=λb H Q=>∃H1,View H H1/\r b H1 λv H2=>∃a,View H2 a/\Q v a
def jP(sp:Sp):Sp:=λb H Q E=>∃H1,View H H1/\sp b H1 (λv H2=>∃a,View H2 a/\Q v a) E
def zS.view(c:zS X f r):zS X f^vR r:=by
 intro a s b H d e Q I g q;let#[H1,v,q]:=q;exact Ao (c a s b H1 d e _ (I.view v) g q) λu i h=>h.view
def SQ(h:PE X e t):PE X e (λa H Q=>t a H λv H1=>∃H2,View H1 H2/\Q v H2):=λb s a H Q I q=>Ao (h b s a H _ I q) λu c h=>h.view
def zL.view{K:Frag}(F:zL P w K i a EW k f fd j sp):zL P w K i a EW k f fd j^jP sp:=by
 refine#[λl H Q E #[H1,_,q]=>F.len _ _ _ _ q,λA c s H d n l Q E p e t y zz=>?_];let#[H1,v,q]:=zz;have B:yk P w K i a A c s H1:=#[e.frames,e.mod,λb o z=>#[(e.bs b o z).1,v.none.mpr (e.bs b o z).2],e.bsz,e.YP,λb z=>v.none.mpr^e.frf b z,v.hok e.hok,e.bare];refine mR (F.run A c s H1 d n l _ E p B t y q) λr R g=>?_;cases r with
 |error x=>exact kd g
 | ok C=>
  cases C with
  |ret u=>
   let#[D,H',G,I,J,L,M,N,m,O]:=g;exact#[D,N,G,I,m.unR^v.unL J,m.hok L,M,O]
  |next=>exact kd g
  |brk=>exact kd g
  |cont=>exact kd g
def iG(K:Frag)(T:String)(r:V->v_ V->Hp->VK->Prop)(to:TE)(t:TA):TE:=λa H Q=>to a H λx H1=>(∃H2,View H1 H2/\c6 K T x H2)/\t a H1 λd H2=>∃b,View H2 b/\r x d b λv e=>∃c,View e c/\Q v c
variable {T id:String}
def bJ(n:oq T)(c:Slot T name id)(g:typeOf^.builtin id=pure^.type "method_descriptor")(p:W1 X id r)(q:PE X o to)(y:PA X (e::es) t)
  (a:attributeBase o name X.env^eval o X.env=eval o X.env:=by rfl)
  (d:((backTo cpos^starEach (e::es) X.env).all (λx=>!x.1)&&(backToKw cpos^keywordEach [] X.env).all (λx=>x.1.isSome)
   && decide ((e::es).length+([]:v_ nH).length+(if([]:v_ nH).isEmpty then 0 else 1)<30))=t_:=by rfl)
  (b:(apos.endLine==cpos.line)=t_:=by rfl) (z:X.sE e es:=by rfl) (f:(backTo cpos^starEach es X.env).any (·.1)=u_:=by rfl):
  PE X (.Call (.Attribute o name apos) (e::es) [] cpos) (iG X.K T r to t):=by
 intro R s i H Q I h;refine wpAny_Call_method_late a d b rfl (Ao (q _ s i H _ I h) λv j zz=>?_);let#[x,H1,k,l,#[H2,A,ty],B]:=zz;let#[C,D]:=O4 (k.view A) l ty;exists T,id,n,c,g,C,D;have m:=y cpos _ j i H1 _ k B;rw[z]at m ⊢;refine mE (by simp_all)^oO ?_;refine Ao m λE F zz=>?_;let#[G,S,J,L,M,N,O]:=zz;exact Ao (p _ F i M x G v E _ (J.view N) l L O) λu j h=>h.view
end
end L2
namespace Dp
open L2
def Sg.put(s:Sg)(a:Ch)(c:Wc):Sg:=#[s.n,λb=>if b=a then P3 c else s.w b]
def Sg.drop(s:Sg)(L:v_ Ch):Sg:=#[s.n,λb=>if b∈L then s_ else s.w b]
def Sg.back(a s:Sg)(L:v_ Ch):Sg:=#[a.n,λb=>if b∈L then s.w b else a.w b]
def Sg.kB(s:Sg)(L:v_ Ch)(m:Nat):Sg.back #[m,(s.drop L).w] s L=#[m,s.w]:=by
 show(#[m,λb=>if b∈L then s.w b else if b∈L then s_ else s.w b]:Sg)=_
 congr 1
 funext b
 by_cases h:b∈L
 .rw[if_pos h]
 .rw[if_neg h,if_neg h]
def FK(w:Ch->w_ Wc):D->D
 |.ob a=>match w a with
  |some (.pl d)=>d
  |_=>.ob a
 |d=>d
def ET(w:Ch->w_ Wc):D->D
 |.dic b a=>.dic b^a.map^FK w
 |.tup a=>.tup^a.map^FK w
 |d=>FK w d
def GC(w:Ch->w_ Wc):D->v_ Ch
 |.ob a=>match w a with
  |some (.pl _)=>[a]
  |_=>[]
 |_=>[]
def FL(w:Ch->w_ Wc):D->v_ Ch
 |.dic _ a=>a.flatMap^GC w
 |.tup a=>a.flatMap^GC w
 |d=>GC w d
def am(w:Ch->w_ Wc):Slot->Slot
 |.sh d=>.sh^ET w d
 |s=>s
def Xs(w:Ch->w_ Wc):Slot->v_ Ch
 |.sh d=>FL w d
 |_=>[]
def Gm(H:Hp)(L:v_ Ch):Hp:=λb=>if b∈L then(match H b with|some (.vol u)=>P3 u|o=>o)else H b
def Tq(H:Hp)(L:v_ Ch):Hp:=λb=>if b∈L then(match H b with|some u=>P3^.vol u|none=>s_)else H b
section
variable {K:Frag}
def vk.pl(h:vk K M H a^.pl d):¬M a/\∃u,Gh u/\H a=P3^.vol u/\Gm H [a] a=P3 u:=by
 cases d with
 |lst e=>let#[c,f,b,_]:=h;refine#[c,_,?_,b,by unfold Gm;rw[if_pos No,b]];exact trivial
 |dit g e=>let#[c,f,b,_]:=h;refine#[c,_,?_,b,by unfold Gm;rw[if_pos No,b]];exact trivial
 |_=>exact h.elim
def Fp(h:Gh u):¬Tl u:=by rintro⟨x,rfl⟩;exact h
def vq(M:Ch->Prop)(H:Hp)(L:v_ Ch):Prop:=∀b∈L,¬M b/\∃u,Gh u/\H b=P3^.vol u
def vq.un(c:vq M H L)(a:b∈L)(h:H b=P3^.vol u):Gm H L b=P3 u:=by unfold Gm;rw[if_pos a,h]
def FW(a:b∉L):Gm H L b=H b:=if_neg a
def EX(a:b∉L):Tq H L b=H b:=if_neg a
def vq.out(c:vq M H L)(h:H b=P3 o)(n:¬Tl o):b∉L:=λa=>by
 let#[_,u,_,e]:=c b a;rw[h]at e;exact n #[u,ZB e]
def vq.keep(c:vq M H L)(h:H b=P3 o)(n:¬Tl o):Gm H L b=P3 o:=by rw[FW^c.out h n];exact h
def vq.view(c:vq M H L):View H^Gm H L:=λb=>by
 by_cases a:b∈L
 .let#[_,u,k,e]:=c b a
  exact .inr #[u,k,.inl #[e,c.un a e]]
 .exact .inl^FW a
def vq.ex(c:vq M H L)(b:Ch)(o:HO)(h:H b=P3 o):∃d,Gm H L b=P3 d:=by
 by_cases a:b∈L
 .let#[_,u,k,e]:=c b a
  exact#[u,c.un a e]
 .exact#[o,by rw[FW a];exact h]
def vq.q4(c:vq M H L):zg M H M^Gm H L:=#[λb o h _ n=>c.keep h n,λ_ z=>.inl z,λb a h=>c.keep h (by rintro⟨_,z⟩;cases z),c.ex]
def vq.ext(c:vq M H L):Ext U H^Gm H L:=λb o h=>by
 let#[a,e]:=c.ex b o h;refine#[a,e,λ_ n=>?_,λd z=>?_]
 .rw[c.keep h n]at e;exact(ZB e).symm
 .subst z;rw[c.keep h^by rintro⟨_,z⟩;cases z]at e;exact(ZB e).symm
def E4(q:w a=P3^.pl d):FK w^.ob a=d:=by
 show(match w a with|some (.pl d)=>d|_=>D.ob a)=d;rw[q]
def GB(q:w a=P3^.pl d):GC w^.ob a=[a]:=by
 show(match w a with|some (.pl _)=>[a]|_=>[])=_;rw[q]
def Qi(q:∀d,w a≠P3^.pl d):FK w^.ob a=.ob a/\GC w^.ob a=[]:=by
 show(match w a with|some (.pl d)=>d|_=>D.ob a)=_/\(match w a with|some (.pl _)=>[a]|_=>[])=_;cases e:w a with
 |none=>exact#[rfl,rfl]
 |some x=>cases x with
  |ins C b c=>exact#[rfl,rfl]
  |pl d=>exact absurd e^q d
def Qj(l:∀a c,w a=P3 c->vk K M H a c)(c:vq M H L)(h:At K M H d v)(i:∀a∈GC w d,a∈L):At K M (Gm H L) (FK w d) v:=by
 cases d with
 | ob a=>
  by_cases q:∃d,w a=P3^.pl d
  .let#[d,q]:=q
   rw[E4 q];rw[GB q]at i;have j:a∈L:=i a No;have k:=l a _ q;let#[rfl,_]:=h;cases d with
   |lst m=>let#[b,e,f,_,g]:=k;exact#[a,e,rfl,#[b,c.un j f],g.q4 c.q4]
   |dit o m=>let#[b,e,f,n,_,g]:=k;exact#[a,e,rfl,#[b,c.un j f],n,g.q4 c.q4]
   |_=>exact k.elim
  .rw[(Qi λd z=>q #[d,z]).1];exact h.q4 c.q4
 |_=>exact At.q4 c.q4 h
theorem F4(g:∀a c,w a=P3 c->vk K M H a c)(c:vq M H L):∀{b:v_ D}{i:v_ V},Ats K M H b i->(∀a∈b.flatMap^GC w,a∈L)->Ats K M (Gm H L) (b.map^FK w) i
 |[],_,h,_=>h
 |d::b,_,#[v,r,e,k,l],j=>#[v,r,e,Qj g c k λa f=>j a (by simp[f]),F4 g c l λa f=>j a^by simp only[mV,jj];exact .inr f]
def ME(b:∀a c,w a=P3 c->vk K M H a c)(c:vq M H L)(h:At K M H d v)(f:∀a∈FL w d,a∈L):At K M (Gm H L) (ET w d) v:=by
 cases d with
 |dic k j=>let#[a,g,e,n,l,i]:=h;exact#[a,g,e,n.q4 c.q4,by rw[Ev];exact l,F4 b c i f]
 |tup j=>let#[a,g,e,n,i]:=h;exact#[a,g,e,n.q4 c.q4,F4 b c i f]
 |ob a=>exact Qj b c h f
 |_=>exact At.q4 c.q4 h
def MW(h:a∈GC w d):∃x,w a=P3^.pl x:=by
 cases d with
 | ob b=>
  by_cases q:∃d,w b=P3^.pl d
  .let#[d,q]:=q
   rw[GB q]at h;rw[Re.mp h];exact#[d,q]
  .rw[(Qi λd z=>q #[d,z]).2]at h;cases h
 |_=>cases h
def Q8(h:a∈FL w d):∃x,w a=P3^.pl x:=by
 cases d with
 |dic f e=>let#[x,_,c]:=mJ.mp h;exact MW c
 |tup e=>let#[x,_,c]:=mJ.mp h;exact MW c
 |ob b=>exact MW (d:=.ob b) h
 |_=>cases h
end
def EY(W:W2)(c:NC):DW:=λn f P=>c n f λe b=>∃L a,e.map^am b.w=a/\e.flatMap^Xs b.w=L/\W a (b.drop L) λd g=>flat d=t_/\P d^g.back b L
section
variable {X:Cx}
theorem Oi{K:Frag}{U e M:Ch->Prop}(g:∀a c,w a=P3 c->vk K M H a c)(c:vq M H L)(i:∀a,U a->e a):∀{j:v_ V}{b:v_ Slot},Paired (D6 K F e M H) j b->(∀a∈b.flatMap^Xs w,a∈L)->Paired (D6 K F e M^Gm H L) j^b.map^am w
 |_,_,.nil,_=>.nil
 |_,s::b,.cons #[h,o] t,k=>by
  refine .cons ?_ (Oi g c i t λa f=>k a^by simp only[mV,jj];exact .inr f);cases s with
  |sh d=>let#[v,l,m]:=h;exact#[#[v,l,ME g c m λa f=>k a^by simp only[mV,jj];exact .inl f],rfl]
  |_=>exact#[h.q4 c.q4 (λ_ z=>z) (c.ext (U:=U)) i,o]
def JY{K:Frag}{c:v_ a}(f:zk K F M H n)(e:∀s b,b∈g s->∃d,n.w b=P3^.pl d):vq M H^c.flatMap g:=λb h=>by
 let#[s,_,i]:=mJ.mp h;let#[d,j]:=e s b i;let#[l,u,k,m,_]:=(f.2 b _ j).pl;exact#[l,u,k,m]
def Xr(s:Slot)(b:Ch)(h:b∈Xs w s):∃d,w b=P3^.pl d:=by
 cases s with
 |sh d=>exact Q8 h
 |_=>cases h
def zk.lend{K:Frag}(f:zk K F M H n)(c:vq M H L):zk K F M (Gm H L)^n.drop L:=by
 refine#[λg e=>(f.1 g e).q4 c.q4 λo h=>?_,λa x b=>?_]
 .let#[_,_,_,z,_]:=f.1 g e
  rw[z]at h;cases h
  exact c.keep z^by rintro⟨_,z⟩;cases z
 .have b:(if a∈L then s_ else n.w a)=P3 x:=b
  by_cases d:a∈L
  .rw[if_pos d]at b;cases b
  .rw[if_neg d]at b
   exact(f.2 a x b).to (λ_ _ z=>z) c.q4.2.2.1 c.ex λu i=>by rw[FW d];exact i
def KO{K:Frag}(A:Rel K C M H1 l P Q)(c:vq M H1 L)(G:Ext C.U (Gm H1 L) g)(H:zk K C.F M g m):
  View g (Tq g L)/\Ext C.U H1^Tq g L/\zk K C.F M (Tq g L)^m.back l L/\∀b o,g b=P3 o->∃i,Tq g L b=P3 i:=by
 have I:=A.feed;have q:∀b∈L,∀u,H1 b=P3^.vol u->Gh u->g b=P3 u:=λb d u e k=>G.keep (c.un d e) (λz=>(c b d).1 (A.vM b^A.uV b z))^Fp k;have y:∀b∈L,∀u,H1 b=P3^.vol u->Gh u->Tq g L b=P3^.vol u:=λb d u e k=>by unfold Tq;rw[if_pos d,q b d u e k]
 have J:View g^Tq g L:=λb=>by
  by_cases d:b∈L
  .let#[_,u,k,e]:=c b d
   exact .inr #[u,k,.inr #[q b d u e k,y b d u e k]]
  .exact .inl^EX d
 have s:∀b o,g b=P3 o->∃i,Tq g L b=P3 i:=λb o h=>by
  by_cases d:b∈L
  .let#[_,u,k,e]:=c b d
   exact#[_,y b d u e k]
  .exact#[o,by rw[EX d];exact h]
 have B:Ext C.U H1^Tq g L:=λb o h=>by
  by_cases d:b∈L
  .let#[_,u,k,e]:=c b d
   rw[h]at e;cases e
   exact#[_,y b d u h k,λ_ n=>absurd #[u,rfl] n,λD z=>by cases z]
  .let#[i,E,R,S]:=G b o^by rw[FW d];exact h
   exact#[i,by rw[EX d];exact E,R,S]
 refine#[J,B,#[λf N=>?_,λa x j=>?_],s]
 .let#[x,r,T,V,W,O,Y]:=H.1 f N
  let#[_,_,_,Z,_,o3,_]:=I.1 f N;have l:f.1∉L:=c.out Z (by rintro⟨_,z⟩;cases z);have m:f.2∉L:=c.out o3.2 (by rintro⟨_,z⟩;cases z);exact#[x,r,T,by rw[EX l];exact V,W,#[O.1,by rw[EX m];exact O.2],Y]
 .have j:(if a∈L then l.w a else m.w a)=P3 x:=j
  by_cases t:a∈L
  .rw[if_pos t]at j
   refine(I.2 a x j).to (λ_ _ z=>z) (λb D h=>B.tup h) (λb o h=>let #[i,E,_]:=B b o h;#[i,E]) λu e=>?_;let#[_,u',k,v]:=c a t;rw[e]at v;cases v
   exact y a t u e k
  .rw[if_neg t]at j
   exact(H.2 a x j).to (λ_ _ z=>z) (λb D h=>J.tup b D h) s λu e=>by rw[EX t];exact e
def D1(G:Got X.prog X.w X.K X.mg X.base x k I .sh W)(J:zy k X.A)(N:Gl X x)(j:Ow X (e::es) was)
  (l:dbN x:=by decide) (O:X.sE e es:=by rfl) (m:(backTo pos^starEach es X.env).any (·.1)=u_:=by rfl):
  DE X (.Call (.Name x p) (e::es) [] pos) .sh (EY W was):=by
 let#[f,fd,G,S,T,Y,Z]:=G;let#[t,h1,h2]:=j;refine#[_,II G.view J N S T Y .nil HU h1 l O m,λC M H n ρ σ P Q R w q=>?_];refine h2 C M H n ρ σ _ _ R w λu H1 ss n1 y i B zz=>?_;let#[L,r,es,D,p]:=zz;have g:=R.step y i;have c:vq M H1 L:=D▸JY i Xr;rw[j5];exists Gm H1 L,c.view;refine#[(Paired.length B).trans (by have:=Z _ _ _ p;rw[←es,Ev]at this;exact this),C.F,C.U,C.V,M,n1.drop L,r,_,#[λa z=>let #[o,h]:=g.dom a z;c.ex a o h,g.fU,g.uV,g.vM,i.lend c,es▸Oi i.2 c g.uV B λa j=>D▸j],p,λv H3 d n2 e3 f3 r3 zz=>?_];let#[fl,p3]:=zz;let#[E,e4,f4,s]:=KO g c e3 f3;exact#[Tq H3 L,E,q v _ d _ (y.trans e4) f4 (IM (λb u h=>E.tup b u h) s d fl r3) p3]
def Ll:D->Prop
 |.lst a=>A7 a=t_
 |.dit _ a=>A7 a=t_
 |_=>False
def jb:Kd->D->Prop
 |.sh,z=>flat z=t_
 |.fr,z=>Ll z
 |.tp,_=>False
def O2(c:Kd)(f:v_ D->(D->Prop)->Prop)(d:Di):DW:=λn e P=>d n e λg b=>∃a,g.map^ET b.w=a/\f a λz=>jb c z/\P z b
def Yb{K:Frag}{U b M:Ch->Prop}(f:∀a c,w a=P3 c->vk K M H a c)(c:vq M H L)(k:∀a,U a->b a)(h:AtT K b M H d v)(g:∀a∈FL w d,a∈L)(i:∀a,b a->M a):AtT K b M (Gm H L) (ET w d) v:=by
 cases d with
 |dic r j=>let#[a,m,e,n,o,l,q]:=h;exact#[a,m,e,n,c.keep o (by rintro⟨_,z⟩;cases z),by rw[Ev];exact l,F4 f c q g]
 |tup j=>exact At.tp i^ME f c (d:=.tup j) h g
 |ob a=>exact At.tp i^ME f c (d:=.ob a) h g
 |_=>exact AtT.q4 h c.q4 (c.ext (U:=U)) k
theorem Oe{K:Frag}{U b M:Ch->Prop}(g:∀a c,w a=P3 c->vk K M H a c)(c:vq M H L)(i:∀a,U a->b a)(j:∀a,b a->M a):∀{k:v_ V}{e:v_ D},Paired (λv d=>AtT K b M H d v) k e->(∀a∈e.flatMap^FL w,a∈L)->Paired (λv d=>AtT K b M (Gm H L) d v) k^e.map^ET w
 |_,_,.nil,_=>.nil
 |_,d::e,.cons h t,l=>.cons (Yb g c i h (λa f=>l a^by simp only[mV,jj];exact .inl f) j)^Oe g c i j t λa f=>l a^by simp only[mV,jj];exact .inr f
def WZ(hA:Bw X.K E r f)(h2:∀(C:Fm) (M:Ch->Prop) (H:Hp) (n:Sg) (s:v_ Slot) (x:L2.St) (P:v_ D->Sg->Prop) (Q:v_ V->Hp->Prop),Rel X.K C M H n s x->W n s P->
   (∀i j l y,Ext C.U H j->zk X.K C.F M j y->Paired (λv d=>AtT X.K C.V M j d v) i l->P l y->Q i j)->t x H Q)
  (C:Fm) (M:Ch->Prop) (H:Hp) (n:Sg) (s:v_ Slot) (x:L2.St) (P:D->Sg->Prop) (Q:VK) (R:Rel X.K C M H n s x) (w:O2 E f W n s P)
  (q:∀v j d y,Ext C.U H j->zk X.K C.F M j y->VR X.K C.V M H j E v d->P d y->Q v j):d_ (vR r) t x H Q:=by
 refine h2 C M H n s x _ _ R w λi H1 l k I G r1 zz=>?_;let#[J,ed,p]:=zz;have A:=R.step I G;have c:vq M H1^l.flatMap^FL k.w:=JY G λd b=>Q8;refine#[_,c.view,hA C.V M _ J i _ _ (λa z=>let #[o,h]:=A.dom a z;c.ex a o h) A.vM (ed▸Oe G.2 c A.uV A.vM r1 λa L=>L) p λv Y z g Z zz=>?_];let#[B,pz]:=zz;let#[v3,e4,f4,m]:=KO A c g.ext^(G.lend c).grow g;rw[show k.drop^l.flatMap^FL k.w=#[k.n,(k.drop^l.flatMap^FL k.w).w]from rfl,Sg.kB]at f4;have N:∀b i,Y b=P3^.tup i->Tq Y (l.flatMap^FL k.w) b=P3^.tup i:=λb i h=>v3.tup b i h;refine#[_,v3,q v _ z k (I.trans e4) f4 (VR.back I ?_) pz];cases E with
 |tp=>exact B.elim
 |sh=>exact IM N m z B Z
 | fr=>
  let#[a,e,L,tp]:=Z
  have hn:H1 a=s_:=by
   cases h:H1 a with
   |none=>rfl
   |some o=>let#[o',h']:=c.ex a o h;rw[L]at h';cases h'
  have hL:a∉l.flatMap^FL k.w:=λhb=>by let#[_,u,_,h]:=c a hb;rw[hn]at h;cases h
  exists a,e,hn;cases z with
  |lst es=>let#[O,S,T]:=tp;exact#[O,by rw[EX hL];exact S,A4 N m es B T]
  |dit ks es=>let#[O,S,T,g3]:=tp;exact#[O,by rw[EX hL];exact S,T,A4 N m es B g3]
  |dic ks es=>exact(show False from B).elim
  |_=>exact(show False from tp).elim
def Li(h:zS X (.builtin d) r)(i:Bw X.K a r f)(j:Gl X x)(k:X.mg x=s_)(l:bootBuiltins x=P3^.builtin d)(m:Yx X (e::es) g)
  (o:x ≠ "__name__":=by decide) (b:dbN x:=by decide)
  (s:X.sE e es:=by rfl) (c:(backTo pos^starEach es X.env).any (·.1)=u_:=by rfl):DE X (.Call (.Name x p) (e::es) [] pos) a^O2 a f g:=by
 let#[t,u,v]:=m;exact#[_,Cf h.view j k l u o b s c,λC M H n y z P Q R w q=>WZ i v C M H n y z P Q R w q]
def QD(g:zS X (.type T) r)(h:Bw X.K a r f)(i:Gl X x)(j:X.mg x=s_)(k:bootBuiltins x=P3^.type T)(l:Yx X (e::es) d)
  (m:x ≠ "__name__":=by decide) (b:dbN x:=by decide)
  (o:X.sE e es:=by rfl) (c:(backTo pos^starEach es X.env).any (·.1)=u_:=by rfl):DE X (.Call (.Name x p) (e::es) [] pos) a^O2 a f d:=by
 let#[t,s,u]:=l;exact#[_,Gv g.view i j k s m b o c,λC M H n v y P Q R w q=>WZ h u C M H n v y P Q R w q]
end
end Dp
namespace L2
theorem HA(f:b->c):∀(l:v_ b) (j:Nat),(l.map f).eraseIdx j=(l.eraseIdx j).map f
 |[],_=>rfl
 |_::_,0=>rfl
 |a::l,j+1=>by show f a::(l.map f).eraseIdx j=f a::(l.eraseIdx j).map f;rw[HA f l j]
section
variable {K:Type}[DecidableEq K]{knd:HeapKind prog w K}
theorem L7(v:knd.room A)(b:knd.is s.heap k a)(y:s.heap.DictOfH knd d xs)(m:xs[j]?=P3 (k,p))(z:xs.length<=sizeLine)
  (B:∀n,n.DictOfH knd d^xs.eraseIdx j->mC d s.heap n->Q (P3^entryOfKey knd (k,p)) {s with heap:=n,toks:=s.toks+knd.draws k}):
  wpAny (model prog w) A (re d^.ref a) Q E s:=by
 let#[o,C,D,g,F,c,f,h,r]:=y;unfold re
 try with_reducible refine kQ ?_
 refine Cn^knd.pyHash v b ?_;refine Cn^wpAny_dictFind_heap (s:={s with toks:=s.toks+knd.draws k}) v b g c f h r (λt=>absurd m^t j p) λi q u=>?_;obtain rfl:=idxH_unique r m u;rw[m]at u;cases u;refine Cn^l8 (s:={s with toks:=s.toks+knd.draws k}) g c ?_;rw[entry_at f j,m]
 refine Cn (wpAny_updateDictKeys (hz:=by have e:=size_of_entries f;lk) (s:={s with toks:=s.toks+knd.draws k}) g c (On (B _ #[_,_,D+1,kY _ g^Obj.isFreed_of_dict^Obj.data_mapDictKeys c _,
   F.mapDictKeys _,Obj.data_mapDictKeys c _,?_,?_,?_] (ma ..))))
 .let#[l]:=C
  have f:l=xs.map^entryOfKey knd:=f;subst f;simp[HA]
 .intro x G
  exact knd.keeps (h x^List.mem_of_mem_eraseIdx G) g c (ma ..)
 .rw[←HA]
  exact r.sublist (List.eraseIdx_sublist ..)
theorem H_:MeetsIn prog w (lm.«dict.pop» #[[.ref d,.ref a],[]]) (λA R s=>knd.room A.in1/\∃k xs j p,knd.is s.heap k a/\s.heap.DictOfH knd d xs/\xs.length<=sizeLine/\xs[j]?=P3 (k,p) /\
   ∀b,b.DictOfH knd d^xs.eraseIdx j->mC d s.heap b->R (.ok^.ret p.2) {s with heap:=b,toks:=s.toks+knd.draws k}):=
 .of_wp λA R s #[n,k,xs,j,p,c,e,f,m,h]=>by
  let#[o,q,y,r,z,t,u,v,B]:=id e;unfold lm.«dict.pop»;refine Cn ?_;unfold Builtin.Dict.keyAndDefault;refine Cn^pR e.typeIs ?_;show wpAny _ _ (pure (d,Uf a,s_)) _ _ s;refine On ?_;have x:(keyPart^Uf a).isSome=u_:=rfl;simp only[x,kG,if_false];refine Cn^l8 r t^Cn^On ?_
  have g:q.isEmpty=u_:=by
   have C:=size_of_entries u;have D:j<xs.length:=(XV.mp m).1;simp only[Array.isEmpty,decide_eq_false_iff_not];lk
  rw[g];simp only[kG,if_false];refine Cn^L7 n c e m f λb i l=>?_;simp only[Option.isNone_some,kG,if_false];exact Cn^mn^On #[_,rfl,h b i l]
end
def ZG:V->v_ V->Hp->VK->Prop:=λx c H Q=>∃d b a k j v,x=.ref d/\c=[.ref b]/\H d=P3^.dT a/\H b=P3^.tup^k.map kV/\a[j]?=P3 (k,v)/\Q v^AX H d^.dT^a.eraseIdx j
theorem LM:∀{c:v_ a}{d:v_ b}{j:Nat}{x:a},Paired R c d->c[j]?=P3 x->∃y,d[j]?=P3 y/\R x y
 |_::_,_::_,0,_,.cons r _,e=>#[_,rfl,by cases e;exact r]
 |_::_,_::_,j+1,_,.cons _ t,e=>LM (j:=j) t^by rw[o8]at e;exact e
theorem F7:∀{c:v_ a}{d:v_ b} (j:Nat),Paired R c d->Paired R (c.eraseIdx j)^d.eraseIdx j
 |_,_,_,.nil=>.nil
 |_::_,_::_,0,.cons _ t=>t
 |_::_,_::_,j+1,.cons r t=>.cons r^F7 j t
set_option tactic.hygienic true in
theorem RA(l:zy k X.A):W1 X "dict.pop" ZG:=by
 rintro U s V H x W v Y Q I m n ⟨d,b,B,k,j,u,rfl,rfl,e,C,D,q⟩;cases(show v=Uf d from m);cases n with
 |cons r t=>
 cases t
 rename_i E
 cases(show E=Uf b from r);let#[z,c,G,a,h]:=Zl I.hok e;let#[#[J,p],K,f,Z,L]:=LM a D;have f:k=J:=f;subst f;refine oE PySem.F.slot_dict_pop h.typeIs PySem.F.entry_dict_pop (PySem.F.args_dict_pop_2 _ _) (H_ (knd:=tupleKind^Av X.prog X.w)) #[mN (by have:=l.units;lk),k,G,j,p,Em I.hok C,h,by rw[←Paired.length a];exact z,K,λh' g M=>#[u,_,?_,L,q]];let#[o,N,O,i,P,R,S,_,T]:=g;refine IX I (by rw[e];exact lW) M #[o,i] #[jr (List.length_eraseIdx_le ..) z,c,_,Paired.imp' (λx y r=>#[r.1,by rw[AG^ZV r.2.1 e λz=>nomatch z];exact r.2.1,r.2.2])^F7 j a,o,N,O,i,P,R,S,T]
end L2
namespace Dp
open L2
section
variable {K:Frag}
def IN(h:H a=P3^.vol u):Ext U H^AX H a^.vol u':=λb o e=>by
 by_cases z:b=a
 .subst z
  rw[h]at e;cases e
  exact#[_,AI,λ_ v=>absurd #[u,rfl] v,λc z=>by cases z]
 .exact#[o,by rw[AG z];exact e,λ_ _=>rfl,λ_ _=>rfl]
def zk.put(f:zk K F M H n)(h:H a=P3^.vol u)(m:vk K M (AX H a^.vol u') a c):zk K F M (AX H a^.vol u')^n.put a c:=by
 have j:∀{b o},H b=P3 o->¬Tl o->b≠a:=λe v z=>v #[u,by rw[z,h]at e;exact(ZB e).symm];have x:=IN (U:=λ_=>False) (u':=u') h;refine#[λg q=>?_,λb k d=>?_]
 .let#[p,r,s,l,t,i,y]:=f.1 g q
  exact#[p,r,s,by rw[AG^j l^by rintro⟨_,z⟩;cases z];exact l,t,#[i.1,by rw[AG^j i.2^by rintro⟨_,z⟩;cases z];exact i.2],y]
 .have d:(if b=a then P3 c else n.w b)=P3 k:=d
  by_cases z:b=a
  .rw[if_pos z]at d;cases d;rw[z];exact m
  .rw[if_neg z]at d
   exact(f.2 b k d).to (λ_ _ z=>z) (λb C e=>x.tup e) (λb o e=>let #[A,B,_]:=x b o e;#[A,B]) λv e=>by rw[AG z];exact e
def putN(f:Str):v_ Str->v_ Str
 |[]=>[f]
 |g::r=>if g=f then g::r else g::putN f r
def vO(f:Str)(y:b):v_ Str->v_ b->v_ b
 |[],_=>[y]
 |_::_,[]=>[y]
 |g::r,x::c=>if g=f then y::c else x::vO f y r c
theorem Ng(f:Str)(y:V):∀{ks:v_ Str}{vs:v_ V},ks.length=vs.length->Cz f y^ks.zip vs=(putN f ks).zip^vO f y ks vs
 |[],[],_=>rfl
 |k::ks,v::vs,h=>by
  have b:=Ng f y (ks:=ks) (vs:=vs) (by simpa using h);show(if k=f then(k,y)::ks.zip vs else(k,v)::Cz f y^ks.zip vs)=(if k=f then k::ks else k::putN f ks).zip (if k=f then y::vs else v::vO f y ks vs)
  by_cases e:k=f
  .rw[if_pos e,if_pos e,if_pos e];rfl
  .rw[if_neg e,if_neg e,if_neg e,b];rfl
theorem Nd(f:Str)(y:b):∀{ks:v_ Str}{vs:v_ b},ks.length=vs.length->(putN f ks).length=(vO f y ks vs).length
 |[],[],_=>rfl
 |k::ks,v::vs,h=>by
  have c:=Nd f y (ks:=ks) (vs:=vs) (by simpa using h);show(if k=f then k::ks else k::putN f ks).length=(if k=f then y::vs else v::vO f y ks vs).length
  by_cases e:k=f
  .rw[if_pos e,if_pos e];simpa using h
  .rw[if_neg e,if_neg e];simpa using c
theorem Nf(f:Str)(hd:At K M H d v):∀{b:v_ Str}{c:v_ D}{g:v_ V},b.length=c.length->Ats K M H c g->Ats K M H (vO f d b c)^vO f v b g
 |[],[],_,_,h=>by cases h;exact#[_,_,rfl,hd,rfl]
 |k::b,j::c,_,l,#[m,r,e,o,i]=>by
  subst e;show Ats K M H (if k=f then d::c else j::vO f d b c) (if k=f then v::r else m::vO f v b r)
  by_cases e:k=f
  .rw[if_pos e,if_pos e];exact#[_,_,rfl,hd,i]
  .rw[if_neg e,if_neg e];exact#[_,_,rfl,o,Nf f hd (by simpa using l) i]
theorem LL(f:Str)(hd:flat d=t_):∀{c:v_ Str}{b:v_ D},c.length=b.length->A7 b=t_->A7^vO f d c b=t_
 |[],[],_,_=>by show(flat d&&t_)=t_;rw[hd];rfl
 |k::c,g::b,l,h=>by
  have h:(flat g&&A7 b)=t_:=h;rw[jv]at h;show A7 (if k=f then d::b else g::vO f d c b)=t_
  by_cases e:k=f
  .rw[if_pos e];show(flat d&&A7 b)=t_;rw[hd,h.2];rfl
  .rw[if_neg e];show(flat g&&A7^vO f d c b)=t_;rw[h.1,LL f hd (by simpa using l) h.2];rfl
theorem Nz:∀{b:v_ Str}{c:v_ D}{g:v_ V},Ats K M H c g->(b.zip c).lookup f=P3 x->∃v,(b.zip g).lookup f=P3 v/\At K M H x v
 |[],_,_,_,e=>by cases e
 |_::_,[],_,_,e=>by cases e
 | k::b,d::c,_,#[v,r,h,i,j],e=>by
  subst h
  by_cases z:f=k
  .subst z
   simp only[lP,lj,BEq.rfl]at e ⊢;cases e;exact#[v,rfl,i]
  .have l:(f==k)=u_:=beq_eq_false_iff_ne.mpr z
   simp only[lP,lj,l]at e ⊢;exact Nz j e
theorem E9:∀{b:v_ Str}{c:v_ d},f∉b->(b.zip c).lookup f=s_
 |[],_,_=>rfl
 |_::_,[],_=>rfl
 |k::b,v::c,h=>by
  have e:(f==k)=u_:=beq_eq_false_iff_ne.mpr λz=>h (by rw[z];exact No);simp only[lP,lj,e];exact E9 λz=>h^Rs _ z
end
def T8(C:Ch)(f:Str)(w:DW):DW:=λn g P=>w n g λd b=>∃a c e x,d=.ob a/\b.w a=P3^.ins C c e/\(c.zip e).lookup f=P3 x/\P x b
def dM(C:Ch)(f:Str)(h i:DW):AY:=λj n c=>i n c λy k=>flat y=t_/\h k c λd e=>∃a b g,d=.ob a/\e.w a=P3^.ins C b g/\b.length<1000/\j.nx (e.put a^.ins C (putN f b)^vO f y b g) c
section
variable {X:Cx}
def Fe{K:Frag}(h:AtT K U M H (.ob a) v):v=.ref a:=h.1
def BX(c:Cls X.K C)(g:vz X.K C f)(h:DE X e κ wo)(i:attributeBase e f X.env^eval e X.env=eval e X.env:=by rfl):DE X (.Attribute e f pos) .sh^T8 C f wo:=by
 let#[t,j,k]:=h;refine#[_,bH j i,λC0 M H n l r P Q R w q=>?_];refine k C0 M H n l r _ _ R w λv H1 d s y b z zz=>?_;let#[a,L,N,x,A,B,D,p]:=zz;subst A;let#[E,O,F,S,T,G]:=b.2 a _ B;let#[u,I,J]:=Nz G D;exact#[a,C,E,_,u,Fe^z.vv R.dom R.vM,F,c,g,I,q u H1 x s y b J p]
def Jo(c:Cls X.K C)(v:vz X.K C f)(A:DE X o zK wo)(B:DE X value κv wv)(D:κv≠.tp:=by intro z;cases z)(F:swapsWith value (P3^.Attribute o f pos') pos.line X.env=pure u_:=by rfl):DS X κ (.Assign [.Attribute o f pos'] value pos)^dM C f wo wv:=by
 let#[to,G,I]:=A;let#[tv,J,N]:=B;refine#[_,a_ G J F,λC0 M H n h i D2 E R L w=>?_];refine N C0 M H n h i _ _ R w λy H1 d O P Q S zz=>?_;let#[T,V]:=zz;have b:=R.step P Q;refine I C0 M H1 O h i _ _ b V λx H2 d2 n2 s j W zz=>?_;let#[a,e,Y,Z,hw,hl,p]:=zz;subst Z;have R2:=b.step s j;let#[k,l,q,g,g3,t]:=j.2 a _ hw;have r:e.length=l.length:=g.trans t.length.symm;have u:=IN (U:=C0.U) (u':=.ins C k^Cz f y^e.zip l) q;have hy:At X.K M H2 d y:=(S.vD R.dom D).q4^b.q4 s;refine#[a,C,k,_,Fe^W.vv b.dom b.vM,q,c,v,by rw[l_,r,Nat.min_self,←r];exact hl,?_];refine L.nx M _ _ h i (R2.step u^j.put (c:=.ins C (putN f e)^vO f d e Y) q #[k,vO f y e l,?_,Nd f d g,LL f T g g3,?_]) p
 .rw[AI,Ng f y r]
 .exact(Nf f hy g t).q4^R2.q4 u
def Tp(P:ju)(w:j4)(K:Frag)(d:Str->w_ Db)(a:jq)(C:Ch)(m:Str)(k:Nat)(b:v_ Str)(κ:Kd)(W:W2):Prop:=
 ∃f fd,zL P w K d a EW k f fd b^SG K κ W b.length/\Yu K C m f/\Binds K fd b []/\∀c n P,W c n P->c.length=b.length
def HL(C:Ch)(m:Str)(W:W2)(wo:DW)(was:NC):DW:=λn b P=>wo n b λd c=>∃a e g,d=.ob a/\c.w a=P3^.ins C e g/\m∉e/\was c b λh i=>W (.sh^.ob a::h) i P
def BN(c:Cls X.K C)(G:Tp X.prog X.w X.K X.mg X.base C m k E κ W)(I:zy k X.A)(J:DE X o zK wo)(L:Ow X (e::es) was)
  (i:X.sE e es:=by rfl) (j:(backTo pos^starEach es X.env).any (·.1)=u_:=by rfl)
  (N:eval (.Call (.Attribute o m apos) (e::es) [] pos) X.env=(do
   let ov ←eval o X.env
   standAt apos.atName
   let (f,first) ←holding [ov] (getMethod ov m pl)
   callWith pos f first (backTo pos^starEach (e::es) X.env) (backToKw pos^keywordEach [] X.env)):=by rfl):DE X (.Call (.Attribute o m apos) (e::es) [] pos) κ^HL C m W wo was:=by
 let#[f,fd,G,O,S,T]:=G;let#[to,U,Y]:=J;let#[t,Z,a2]:=L;refine#[_,Qy U c O G I S .nil HU Z i j N,λC0 M H n s u P Q R w q=>?_];refine Y C0 M H n s u _ _ R w λv H1 d n1 l x r1 zz=>?_;let#[a,ks,ds,ed,hw,hl,w1]:=zz;subst ed;have y:=R.step l x;let#[dx,vs,z,g2,g3,g4]:=x.2 a _ hw;have ev:=Fe^r1.vv R.dom R.vM;subst ev;exists a,dx,_,rfl,z,E9 hl;refine a2 C0 M H1 n1 s u _ _ y w1 λa0 H2 ss n2 g B D p=>?_;have R2:=y.step g B;rw[j5];have r:∃o,H2 a=P3 o:=let #[o',h,_]:=g a _ z;#[o',h]
 have b:D6 X.K C0.F C0.V M H2 (.ref a)^.sh^.ob a:=#[#[_,rfl,rfl,r],rfl];exact#[(Paired.length^Paired.cons b D).trans^T _ _ _ p,_,_,_,M,n2,_,P,#[R2.dom,R2.fU,R2.uV,R2.vM,B,Paired.cons b D],p,λv H3 d n3 e3 f3 r3 p3=>q v H3 d n3 ((l.trans g).trans e3) f3 (VR.back (l.trans g) r3) p3]
def GS(c:Cls X.K C)(G:Tp X.prog X.w X.K X.mg X.base C m k j κ W)(l:zy k X.A)(r:DE X o zK wo)
  (s:eval (.Call (.Attribute o m apos) [] [] pos) X.env=(do
   let ov ←eval o X.env
   standAt apos.atName
   let (f,first) ←holding [ov] (getMethod ov m pl)
   callWith pos f first (backTo pos^starEach [] X.env) (backToKw pos^keywordEach [] X.env)):=by rfl):DE X (.Call (.Attribute o m apos) [] [] pos) κ^HL C m W wo AW:=by
 let#[f,fd,G,t,u,x]:=G;let#[to,y,z]:=r;refine#[_,VF y c t G l u .nil HU s,λC0 M H n B D P Q R w q=>?_];refine z C0 M H n B D _ _ R w λv H1 d E g h I zz=>?_;let#[a,ks,ds,J,L,N,p]:=zz;subst J;have e:=R.step g h;let#[O,vs,i,g2,g3,g4]:=h.2 a _ L;have S:=Fe^I.vv R.dom R.vM;subst S;exists a,O,_,rfl,i,E9 N;have b:D6 X.K C0.F C0.V M H1 (.ref a)^.sh^.ob a:=#[#[_,rfl,rfl,_,i],rfl];exact#[x _ _ _ p,_,_,_,M,E,_,P,#[e.dom,e.fU,e.uV,e.vM,h,Paired.cons b .nil],p,λv T d U Y Z r3 p3=>q v T d U (g.trans Y) Z (VR.back g r3) p3]
def cw(P:ju)(w:j4)(K:Frag)(c:Str->w_ Db)(a:jq)(x:Str)(C:Ch)(k:Nat)(b:v_ Str)(W:W2):Prop:=
 ∃f fd,zL P w K c a EW k f fd b^SG K .sh W b.length/\Mk K C f/\c x=P3^.ref C/\Binds K fd b []/\∀d n P,W d n P->d.length=b.length
def Y3(C:Ch)(W:W2)(was:NC):DW:=λn b P=>was n b λc a=>∀x,a.w x=s_->W (.sh^.ob x::c) (a.put x^.ins C [] []) λd e=>d=.non/\P (.ob x) e
def RU(G:cw X.prog X.w X.K X.mg X.base x C k ps W)(hr:zy (k+1) X.A)(B:Gl X x)(l:Ow X (e::es) was)
  (D:dbN x:=by decide) (he:X.sE e es:=by rfl) (E:(backTo pos^starEach es X.env).any (·.1)=u_:=by rfl):
  DE X (.Call (.Name x p) (e::es) [] pos) .sh (Y3 C W was):=by
 let#[f,fd,G,hm,hx,hb,hW]:=G;let#[t,a1,a2]:=l;refine#[_,Xh hm G hr B hx hb .nil HU a1 D he E,λC0 M H n ρ σ P Q R w q=>?_];refine a2 C0 M H n ρ σ _ _ R w λvs H1 ss r N I r1 p=>λa i l J ne=>?_;have O:=R.step N I;have S:vJ H1^AX H1 i^.own a:=AV J;have L:AX H1 i (.own a) a=s_:=by rw[AG^kM ne];exact l
 have T:vJ (AX H1 i^.own a)^AX (AX H1 i^.own a) a^.vol^.ins C i []:=AV L;have y:Ext C0.U H1^AX (AX H1 i^.own a) a^.vol^.ins C i []:=S.ext.trans T.ext
 have nw:r.w a=s_:=by
  cases z:r.w a with
  |none=>rfl
  |some c=>
   have k:=I.2 a c z;cases c with
   |ins C ks ds=>let#[_,_,h,_]:=k;rw[l]at h;cases h
   |pl d=>let#[_,u,_,h,_]:=k.pl;rw[l]at h;cases h
 have p:=p a nw
 have Y:zk X.K C0.F M (AX (AX H1 i^.own a) a^.vol^.ins C i [])^r.put a^.ins C [] []:=by
  have f:=(I.grow S).grow T;refine#[λg B=>f.1 g B,λb k j=>?_];have j:(if b=a then P3 _ else r.w b)=P3 k:=j
  by_cases z:b=a
  .rw[if_pos z]at j;cases j;rw[z];exact#[i,[],AI,rfl,rfl,rfl]
  .rw[if_neg z]at j;exact f.2 b k j
 have R2:=O.step y Y;rw[j5];have Z:Paired (D6 X.K C0.F C0.V M^AX (AX H1 i^.own a) a^.vol^.ins C i []) (V.ref a::vs) (.sh^.ob a::ss):=Paired.cons #[#[_,rfl,rfl,_,AI],rfl]^Paired.imp' (λv s h=>#[h.1.q4 (O.q4 y) (λ_ z=>z) y R.uV,h.2]) r1;refine#[(Paired.length Z).trans^hW _ _ _ p,_,_,_,M,_,_,_,#[R2.dom,R2.fU,R2.uV,R2.vM,Y,Z],p,λv H3 d n3 e3 f3 r3 zz=>?_];let#[ed,p3]:=zz;subst ed;refine#[r3,q (.ref a) H3 (.ob a) n3 ((N.trans y).trans e3) f3 #[rfl,?_] p3];let#[o',h,_]:=e3 a _ AI;exact#[o',h]
def dW(w:DW):DW:=λn c P=>w n c λd b=>Ll d/\∀a,b.w a=s_->P (.ob a)^b.put a^.pl d
def IW(h:DE X e .fr wo):DE X e .sh^dW wo:=by
 let#[t,l,s]:=h;refine#[_,SQ l,λC0 M H n V W P Q R w q=>?_];refine s C0 M H n V W _ _ R w λv H1 d B L D #[a,Y,E,tp] #[y,p]=>?_;subst Y;have R1:=R.step L D;have N:¬M a:=λz=>by let#[o,h]:=R.dom a z;rw[E]at h;cases h
 obtain⟨u,G,I,cell⟩:∃u,Gh u/\H1 a=P3 u/\∀H2:Hp,H2 a=P3^.vol u->(∀b i,H1 b=P3^.tup i->H2 b=P3^.tup i)->(∀b o,H1 b=P3 o->∃A,H2 b=P3 A)->vk X.K M H2 a^.pl d:=by
  cases d with
  |lst F=>let#[i,l,s]:=tp;exact#[.lst i,trivial,l,λH2 g t o=>#[N,i,g,y,A4 t o F y s]]
  |dit O F=>let#[i,l,s,Z]:=tp;exact#[.dT^O.zip i,trivial,l,λH2 g t o=>#[N,i,g,s,y,A4 t o F y Z]]
  |_=>exact(show False from y).elim
 have J:View H1^AX H1 a^.vol u:=λb=>by
  by_cases z:b=a
  .rw[z];exact .inr #[u,G,.inr #[I,AI]]
  .exact .inl^AG z
 have ex:∀b o,H1 b=P3 o->∃A,AX H1 a (.vol u) b=P3 A:=λb o h=>(oF (b=a)).elim (λz=>by rw[z];exact#[_,AI]) λz=>#[o,by rw[AG z];exact h]
 have e2:Ext C0.U H^AX H1 a^.vol u:=λb o h=>by
  let#[A,h',z]:=L b o h;exact#[A,by rw[AG^Aa h E];exact h',z]
 have nv:∀b c,B.w b=P3 c->b≠a:=λb c k z=>by
  subst z;have k:=D.2 b c k;cases c with
  |ins C O F=>let#[_,_,h,_]:=k;rw[I]at h;exact Fp G #[_,ZB h]
  |pl d=>let#[_,_,_,h,_]:=k.pl;rw[I]at h;exact Fp G #[_,ZB h]
 have nw:B.w a=s_:=by
  cases z:B.w a with
  |none=>rfl
  |some c=>exact absurd rfl (nv a c z)
 refine#[_,J,q (.ref a) _ (.ob a) _ e2 #[λg S=>?_,λb k j=>?_] #[rfl,_,AI]^p a nw]
 .let#[x,r,cs,g1,g2,T,g4]:=D.1 g S
  let#[_,_,_,o1,_,o3,_]:=R.feed.1 g S;exact#[x,r,cs,by rw[AG^Aa o1 E];exact g1,g2,#[T.1,by rw[AG^Aa o3.2 E];exact T.2],g4]
 .have j:(if b=a then P3^Wc.pl d else B.w b)=P3 k:=j
  by_cases z:b=a
  .rw[if_pos z]at j;cases j;rw[z];exact cell _ AI (λb i h=>J.tup b i h) ex
  .rw[if_neg z]at j
   exact(D.2 b k j).to (λ_ _ z=>z) (λb i h=>J.tup b i h) ex λu h=>by rw[AG z];exact h
def fR(T:String):D->Prop
 |.lst _=>T="list"
 |.dit _ _=>T="dict"
 |_=>False
def i9(T:String)(f:D->v_ D->(D->D->Prop)->Prop)(wo:DW)(h:Di):DW:=λn b P=>wo n b λx c=>∃a,x=.ob a/\(∃d,c.w a=P3^.pl d/\fR T d)/\h c b λe g=>A7 e=t_/\∃d,g.w a=P3^.pl d/\f d e λy z=>Ll y/\flat z=t_/\P z^g.put a^.pl y
def HF{K:Frag}(h:vk K M H a^.pl d):vq M H [a]/\vh K (λb=>M b\/b=a) (Gm H [a]) a d:=by
 have c:vq M H [a]:=λb q=>by
  rw[Re.mp q];let#[g,u,k,e,_]:=h.pl;exact#[g,u,k,e]
 exists c;cases d with
 |lst i=>let#[g,j,e,l,n]:=h;exact#[j,c.un No e,A4 c.q4.2.2.1 c.ex i l n]
 |dit s i=>let#[g,j,e,l,n,r]:=h;exact#[j,c.un No e,l,A4 c.q4.2.2.1 c.ex i n r]
 |_=>exact h.elim
def aH{K:Frag}(h:vh K M H a d)(t:fR T d):c6 K T (.ref a) H:=by
 cases d with
 |lst e=>let#[c,b,_]:=h;exact .inl #[t,c,SqL.of b]
 |dit g e=>let#[c,b,_]:=h;exact .inr^.inr^.inl #[t,.inr #[_,b]]
 |_=>exact(show False from t).elim
def Vc{f:D->v_ D->(D->D->Prop)->Prop}{e:v_ V}{P:D->Sg->Prop}{Q:VK}(R:Rel X.K C0 M H n O S)(T:NB X.K r f)(W:n.w a=P3^.pl d)(Y:A7 i=t_)(Z:Ats X.K M H i e)
  (p:f d i λy z=>Ll y/\flat z=t_/\P z^n.put a^.pl y) (q:∀v s z I,Ext C0.U H s->zk X.K C0.F M s I->At X.K M s z v->P z I->Q v s):View H^Gm H [a]/\r (.ref a) e (Gm H [a]) λv H4=>∃J,View H4 J/\Q v J:=by
 have k:=R.feed.2 a _ W;let#[c,tp]:=HF k;let#[L,u,ck,N,_]:=k.pl;refine#[c.view,T (λb=>M b\/b=a) _ a d i e _ _ (.inr rfl) tp (A4 c.q4.2.2.1 c.ex i Y Z) p λo y z v t hz zz=>?_];let#[j,fz,pp]:=zz;have g:∀b,b≠a->AX (Gm H [a]) a o b=H b:=λb z=>by rw[AG z,FW λh=>z^Re.mp h]
 have A:∀b e,AX (Gm H [a]) a o b=P3^.tup e->AX H a (.vol o) b=P3^.tup e:=λb e h=>by
  by_cases z:b=a
  .rw[z]at h;exact absurd h^t.notT
  .rw[AG z,←g b z];exact h
 have ex:∀b x,AX (Gm H [a]) a o b=P3 x->∃o',AX H a (.vol o) b=P3 o':=λb x h=>(oF (b=a)).elim (λz=>by rw[z];exact#[_,AI]) λz=>#[x,by rw[AG z,←g b z];exact h]
 obtain⟨B,cell⟩:Gh o/\vk X.K M (AX H a^.vol o) a^.pl y:=by
  cases y with
  |lst es=>let#[E,l,G]:=t;rw[AI]at l;cases l;exact#[trivial,L,E,AI,j,A4 A ex es j G]
  |dit ks es=>let#[E,l,G,g3]:=t;rw[AI]at l;cases l;exact#[trivial,L,E,AI,G,j,A4 A ex es j g3]
  |_=>exact(show False from j).elim
 refine#[AX H a^.vol o,λb=>?_,q v _ z _ (IN N) (R.feed.put N cell) (IM A ex z fz hz) pp]
 by_cases z:b=a
 .rw[z];exact .inr #[o,B,.inr #[AI,AI]]
 .rw[g b z];exact .inl^AG z
def RW{f:D->v_ D->(D->D->Prop)->Prop}(L:oq T)(i:PySem.Slot T name k)(l:typeOf^.builtin k=pure^.type "method_descriptor")
  (N:W1 X k r) (O:NB X.K r f) (S:DE X o zK wo) (U:W3 X (e::es) A)
  (g:attributeBase o name X.env^eval o X.env=eval o X.env:=by rfl)
  (j:((backTo b^starEach (e::es) X.env).all (λx=>!x.1)&&(backToKw b^keywordEach [] X.env).all (λx=>x.1.isSome)
   && decide ((e::es).length+([]:v_ nH).length+(if([]:v_ nH).isEmpty then 0 else 1)<30))=t_:=by rfl)
  (h:(apos.endLine==b.line)=t_:=by rfl) (W:X.sE e es:=by rfl) (c:(backTo b^starEach es X.env).any (·.1)=u_:=by rfl):
  DE X (.Call (.Attribute o name apos) (e::es) [] b) .sh (i9 T f wo A):=by
 let#[to,Y,Z]:=S;let#[t,a1,a2]:=U;refine#[_,bJ L i l N Y a1 g j h W c,λC0 M H n B E P Q R w q=>?_];refine Z C0 M H n B E _ _ R w λv H1 d n1 F G r1 zz=>?_;let#[a,ed,#[d1,s,hT],w1]:=zz;subst ed;have ev:=Fe^r1.vv R.dom R.vM;subst ev;have I:=R.step F G;let#[c1,u]:=HF^G.2 a _ s;exists#[_,c1.view,aH u hT];refine a2 C0 M H1 n1 B E _ _ I w1 λvs H2 ds n2 J f2 r2 zz=>?_;let#[fl,d2,y,p]:=zz;exact#[_,Vc (I.step J f2) O y fl r2 p λv H3 z n3 e3 f3 r3 p3=>q v H3 z n3 ((F.trans J).trans e3) f3 r3 p3]
end
end Dp
namespace L2
section

def ah(td ty tv:TE):TS:=λD b H=>tv b H λv H1=>td b H1 λx H2=>ty b H2 λy f=>∃a c d e,x=.ref a/\View f c/\yJ c a y v d/\View d e/\D.nx b e
def U6(c:X.A.units+1<cLine)(d:PE X o td)(hi:PE X i ty)(e:PE X value tv)(f:swapsWith value (P3^.Subscript o i pos') pos.line X.env=pure u_):
  PS X (.Assign [.Subscript o i pos'] value pos) (ah td ty tv):=by
 intro J s b H D I h;refine wpAny_Assign_Subscript (Ao (e _ s b H _ I h) λr j zz=>?_) f;let#[v,H1,k,l,m]:=zz;refine Ao (d _ j b H1 _ k m) λu n zz=>?_;let#[x,H2,p,q,t]:=zz;refine Ao (hi _ n b H2 _ p t) λK L zz=>?_;let#[y,M,w,z,a,N,O,B,ex,C,g,E,F]:=zz;subst ex;obtain rfl:u=Uf a:=q;exact Lj c (w.view C) g z l λP G=>#[b,B,G.view E,F]
def Ur:v_ V->Hp->VK->Prop:=λe H Q=>∃(d:Ch) (b:v_ (v_ Key×V)),e=[.ref d]/\Rd H d^.dT b/\b.length<64 /\
 ∀(c:v_ Ch) (l:Ch),c.length=b.length->(∀(i:Nat) (a:Ch) (p:v_ Key×V),c[i]?=P3 a->b[i]?=P3 p->H a=P3^.tup^p.1.map kV)->H l=s_->Q (.ref l)^AX H l^.lst^c.map V.ref
theorem QH(l:X.calm=t_):zS X (.type "list") Ur:=by
 intro M s N H O R Q I r h;let#[d,m,rfl,j,n,q]:=h;let#[u,rfl,p]:=vals1 r;cases p;let#[o,es,ep,c,t,x,y,z,S,A,B]:=IP I.hok j;have C:=(Dy I.hok j).2.1;refine PySem.W.kdl_call (Qk (P:=X.prog) (w:=X.w) (es:=es) (ep:=ep) C) (I.ok.hd l) #[o,t,x,y] (by rw[kJ];lk) λT D f E g F b=>?_
 have G:f=(c.map Uf).toArray:=by
  refine Array.ext' ?_;refine qd λi=>?_;cases k:f.toList[i]? with
  |some v=>
   let#[e,J,rfl]:=b.2 i v (by rw[←oH];exact k);let#[a,K,g]:=A i e J;show _=(c.map Uf)[i]?;rw[ji,K,g];rfl
  |none=>
   have:f.toList.length<=i:=qh.mp k
   rw[kT,b.1]at this;show _=(c.map Uf)[i]?;rw[oJ^by rw[Ev];lk]
 have L:=I.hok.fresh^Sc s.heap.objs.size;refine#[.ref s.heap.objs.size,_,I.laid (t':=D) (o:=.lst^c.map V.ref) g (Sc _) #[by rw[Ev,kJ];lk,c.map Uf,E,Gj c,by rw[←G];exact F],rfl,q c _ z B L]
end
end L2
namespace Dp
open L2
def bw(c:v_ D)(P:D->Prop):Prop:=∃(a:v_^v_ Key) (b:v_ D),c=[.dit a b]/\a.length=b.length/\a.length<64/\(∀k∈a,∀x∈k,EJ x)/\P^.lst^a.map tupK
theorem Yh{K:Frag}:Bw K .fr Ur bw:=by
 intro U M H u x P Q g y h w q;let#[d,z,rfl,A,j,m,w]:=w;let#[v,rfl,n]:=CJ h;let#[a,c,rfl,o,p]:=Jp n;have B:=p.length;have C:(d.zip c).length=d.length:=by rw[l_];lk
 refine#[a,_,rfl,o,by lk,λD l E r e=>q _ _ _ (AV e) (Bg e^Ii (by lk) m λi b k s f=>?_) w];have t:i<c.length:=by have:=(XV.mp f).1;lk
 exact r i b (k,c[i]) s^by rw[og];exact#[f,Op t]
def Zc(d:D)(e:v_ D)(P:D->D->Prop):Prop:=∃b c k a j x,d=.dit b c/\e=[k]/\keysOf k=P3 a/\b[j]?=P3 a/\c[j]?=P3 x/\P (.dit (b.eraseIdx j)^c.eraseIdx j) x
def Zh(d:D)(a:v_ D)(P:D->D->Prop):Prop:=∃b,d=.lst b/\a=[]/\P (.lst []) .non
def cW{K:Frag}:NB K Ut Zh:=by
 intro M H a d g b P Q m t c w q;let#[h,rfl,rfl,w]:=w;let#[e,f,i]:=t;cases(show b=[]from c);exact#[a,e,rfl,rfl,f,q _ (.lst []) .non _ #[[],AI,rfl] rfl w]
theorem WA:∀(a:v_ c) (b:v_ d) (j:Nat),a.length=b.length->(a.zip b).eraseIdx j=(a.eraseIdx j).zip^b.eraseIdx j
 |[],[],_,_=>rfl
 |_::_,_::_,0,_=>rfl
 |x::a,y::b,j+1,h=>by show(x,y)::(a.zip b).eraseIdx j=(x,y)::(a.eraseIdx j).zip^b.eraseIdx j;rw[WA a b j^by simpa using h]
def Wg{K:Frag}:NB K ZG Zc:=by
 intro M H a d E F P Q m t c w q;let#[g,o,k,e,j,x,rfl,rfl,p,s,y,w]:=w;let#[h,i,l,f]:=t;let#[u,r,rfl,A,B]:=c;cases(show r=[]from B);let#[b,rfl,C]:=G4 p^At.tp (U:=λ_=>False) (λ_ z=>z.elim) A;let#[v,D,c]:=f.get y;have n:zg M H M^AX H a^.dT^(g.zip h).eraseIdx j:=CZ m i;refine#[a,b,_,e,j,v,rfl,rfl,i,C,by rw[og];exact#[s,D],q _ (.dit (g.eraseIdx j)^o.eraseIdx j) x v #[h.eraseIdx j,?_,?_,(f.eraseIdx j).q4 n] (c.q4 n) w]
 .rw[AI,WA _ _ _^l.trans f.length.symm]
 .rw[List.length_eraseIdx,List.length_eraseIdx,l]
section

def dJ(wo i j:DW):AY:=λm n e=>j n e λd p=>flat d=t_/\wo p e λx q=>i q e λk g=>∃l c f h,x=.ob l/\keysOf k=P3 c/\g.w l=P3^.pl^.dit f h/\f.length<sizeLine/\m.nx (g.put l^.pl^.dit (Eg f c)^CO f h c d) e
theorem JC(hd:flat d=t_):∀{g:v_^v_ Key}{c:v_ D},A7 c=t_->A7^mF (λf e=>if f=k then d else e) g c=t_
 |[],_,_=>rfl
 |_::_,[],_=>rfl
 |f::g,e::c,h=>by
  have h:(flat e&&A7 c)=t_:=h;rw[jv]at h;show(flat (if f=k then d else e)&&A7 _)=t_;rw[JC hd h.2,Bool.and_true]
  split
  .exact hd
  .exact h.1
theorem EK:∀{c d:v_ D},A7 c=t_->A7 d=t_->A7 (c++d)=t_
 |[],_,_,h=>h
 |x::c,d,h,g=>by
  have h:(flat x&&A7 c)=t_:=h;rw[jv]at h;show(flat x&&A7 (c++d))=t_;rw[h.1,EK h.2 g];rfl
theorem YG(V:zy k X.A)(W:DE X o zK wo)(Y:DE X a zU wa)(Z:DE X b zR wb)(hk:zR≠.tp:=by intro z;cases z)
  (hs:swapsWith b (P3^.Subscript o a pos') pos.line X.env=pure u_:=by rfl):DS X κ (.Assign [.Subscript o a pos'] b pos)^dJ wo wa wb:=by
 let#[t,h1,h2]:=Y;let#[u,g1,g2]:=Z;let#[to,o1,o2]:=W;refine#[_,U6 (GI V) o1 h1 g1 hs,λC M H n q r D2 E R L w=>?_];refine g2 C M H n q r _ _ R w λv H1 d n1 e1 f1 r1 zz=>?_;let#[G,w1]:=zz;have i:=R.step e1 f1;refine o2 C M H1 n1 q r _ _ i w1 λx H2 d2 n2 I f2 r2 w2=>?_;have R2:=i.step I f2;refine h2 C M H2 n2 q r _ _ R2 w2 λy B d3 n3 J s r3 zz=>?_;let#[l,e,g,ds,ed,j,N,hl,p]:=zz;have O:=R2.step J s;subst ed;have hx:=Fe^r2.vv i.dom i.vM;subst hx;let#[c,us,t1,t2,t3]:=HF^s.2 l _ N;let#[nM,f,D,P,Q,S]:=s.2 l _ N;have m:=c.un No D;have hu:=ZB^m.symm.trans t1;let#[b',rfl,F]:=G4 j^r3.vv R2.dom R2.vM;have lu:g.length=f.length:=P.trans S.length.symm;exists l,Gm B [l],_,AX B l^.vol^.dT^putK (g.zip f) e v,rfl,c.view,yJ.t m (c.keep F^by rintro⟨_,z⟩;cases z) (by rw[l_];lk),λb0=>?_
 .by_cases z:b0=l
  .rw[z];exact .inr #[.dT _,trivial,.inr #[AI,AI]]
  .rw[AG z,AG z];exact .inl (FW λh=>z^Re.mp h).symm
 .have T:=IN (U:=C.U) (u':=.dT^putK (g.zip f) e v) D
  have hd:At X.K M B d v:=((r1.vD R.dom hk).q4^i.q4 I).q4^R2.q4 J;refine L.nx M _ _ q r (O.step T^s.put (c:=.pl^.dit (Eg g e)^CO g ds e d) D #[nM,CO g f e v,?_,Uy P,?_,(Ats.putXU hd S).q4^O.q4 T]) p
  .rw[AI,SJ lu]
  .unfold CO
   split
   .exact JC G Q
   .exact EK Q^by show(flat d&&t_)=t_;rw[G];rfl
def aD(d e:Str)(f g:DW):DW:=λn c P=>f n c λh i=>g i c λj k=>P (.dic [.inr d,.inr e] [h,j]) k
def WR(Z:DE X a zU wa)(hb:DE X b zR wb)(A:e≠h:=by decide)(a0:decide (e.length<=1000)=t_:=by rfl)(a1:decide (h.length<=1000)=t_:=by rfl)(B:zU≠.tp:=by intro z;cases z)(D:zR≠.tp:=by intro z;cases z):DE X (.Dict [P3^.Constant (.str e) W s,P3^.Constant (.str h) Y v] [a,b] pos) .fr^aD e h wa wb:=by
 let#[t,h1,h2]:=Z;let#[u,g1,g2]:=hb;refine#[_,Qz (JE Pg h1^JE Pg g1 Qt) rfl rfl (k_ _ _) (by show 2<=15;decide),λC M H n N O P Q R w q=>λp k=>?_];have E:=R.hold (o:=.dK []) k
 have F:¬C.U p:=λz=>by
  let#[o,w]:=R.dom p^R.vM p^R.uV p z;rw[k]at w;cases w
 refine h2 C _ _ n N O _ _ E w λx H2 S n1 G f1 r1 s=>?_;have R2:=E.step G f1;refine g2 C _ _ n1 N O _ _ R2 s λy I d n2 l T r2 v=>?_;have R3:=R2.step l T;have i:At X.K (λb=>M b\/b=p) I S x:=(r1.vD E.dom B).q4^R2.q4 l;have j:At X.K (λb=>M b\/b=p) I d y:=r2.vD R2.dom D;have g:I p=P3^.dK []:=l.keep (G.keep AI F) F;exists g,[(.inr e,x),(.inr h,y)],?_,by show 2<=15;decide
 .rfl
 rw[show Fg [] [((.inr e:Key),x),(.inr h,y)]=[(.inr e,x),(.inr h,y)] by simp[Fg,putK,A]];refine q _ _ (.dic [.inr e,.inr h] [S,d]) n2 (λb o c=>?_) ?_ #[p,rfl,k,[x,y],AI,rfl,?_] v
 .have m:b≠p:=Aa c k
  let#[o1,z1,e,V]:=G b o (by rw[AG m];exact c);let#[o2,z2,h,t2]:=l b o1 z1;exact#[o2,by rw[AG m];exact z2,λJ L=>(h J^by rw[e J L];exact L).trans^e J L,λr z=>(t2 r^(V r z).trans z).trans^V r z]
 .refine T.q4 #[λb o c m _=>by rw[AG λz=>m^.inr z];exact c,λb z=>.inl^.inl z,λb r c=>by rw[AG λz=>by rw[z,g]at c;cases c];exact c,λb o c=>(oF (b=p)).elim (λz=>by rw[z];exact#[_,AI]) λz=>#[o,by rw[AG z];exact c]] (λf o hf c=>?_) λb u c=>by rw[AG λz=>by rw[z,g]at c;cases c];exact c
  rw[AG λz=>F^by rw[←z];exact R.fU f hf];exact c
 .exact#[x,[y],rfl,i.q4^CZ (.inr rfl) g,y,[],rfl,j.q4^CZ (.inr rfl) g,rfl]
end
end Dp
namespace L2
section

def PJ(X:Cx)(d:v_ jx)(t:Str->TE):Prop:=∀(a:Str) (c:v_ (Ch×Obj)) (s:Go) (b:St) (H:Hp) (Q:VK),Inv X c b H s->t a b H Q->wpAny (model X.prog X.w) X.A (joinParts a^evalEach d X.env) (EP X c b Q) X.xe s
def bB:PJ X [] (λa b H Q=>a.length<=sizeLine/\Q (.str a) H):=by
 intro a c s b H Q I h;exact joinParts_nil #[.str a,H,I.tok _,#[_,rfl],h.2] h.1
def XZ(i:PE X e d)(j:PJ X c f):PJ X (e::c) (λa b H Q=>d b H λv H1=>∃z,v=.str z/\(a++z).length<=sizeLine/\f (a++z) b H1 Q):=by
 intro a g s b H Q I h;refine joinParts_cons^Ao (i g s b H _ I h) λu k zz=>?_;let#[x,H1,l,m,z,ex,n,q]:=zz;subst ex;let#[t,rfl]:=m;exact#[n,j (a++z) g k b H1 Q l q]
def Xi(h:PJ X (a::b::c) t):PE X (.JoinedStr (a::b::c) pos)^t mo:=by
 intro d s e H Q I q;exact JoinedStr_many^h mo d s e H Q I q
def iE(a:TE):TE:=λb H Q=>a b H λv H1=>(∃z,v=.str z/\z.length<=sizeLine/\Q (.str z) H1)\/∃i:Int,v=.int i/\i.natAbs.log2<1920/\Q (.str^kU^toString i) H1
def bG(d:PE X e a):PE X (.FormattedValue e (-1) s_ pos)^iE a:=by
 intro f s g H Q I h;refine FormattedValue_plain^Ao (d f s g H _ I h) λu l zz=>?_;let#[x,H1,b,c,q]:=zz
 rcases q with⟨z,rfl,j,q⟩|⟨i,rfl,k,q⟩
 .let#[t,rfl]:=c
  exact formatField_str (λm n=>#[.str z,H1,b.tok _,#[_,rfl],q]) j
 .let#[t,rfl]:=c
  exact formatField_int_small k #[.str _,H1,b.tok _,#[_,rfl],q]
end
end L2
namespace Dp
open L2
section

def hU(b:DW):DW:=λn c P=>b n c λd a=>match d with
 |.str z=>P (.str z) a
 |.int i=>i.natAbs.log2<1920/\(kU^toString i).length<=sizeLine/\P (.str^kU^toString i) a
 |_=>False
def QC(h:DE X e κ wa):DE X (.FormattedValue e (-1) s_ pos) .sh^hU wa:=by
 let#[t,g,j]:=h;refine#[_,bG g,λC M H n k l P Q R w q=>?_];refine j C M H n k l _ _ R w λv H1 d f b c m p=>?_;have o:=R.step b c;have a:=m.vv R.dom R.vM;cases d with
 |str z=>exact .inl #[z,a.str.1,a.str.2,q _ H1 (.str z) f b c #[rfl,a.str.2] p]
 |int i=>exact .inr #[i,a.int,p.1,q _ H1 (.str _) f b c #[rfl,p.2.1] p.2.2]
 |_=>exact(show False from p).elim
def DJ(X:Cx)(es:v_ jx)(w:Str->DW):Prop:=∃t,PJ X es t/\∀(a:Str) (C:Fm) (M:Ch->Prop) (H:Hp) (n:Sg) (c:v_ Slot) (e:L2.St) (P:D->Sg->Prop) (Q:VK),Rel X.K C M H n c e->w a n c P->
 (∀v b d f,Ext C.U H b->zk X.K C.F M b f->VR X.K C.V M H b .sh v d->P d f->Q v b)->t a e H Q
def dR:Str->DW:=λa n _ P=>a.length<=sizeLine/\P (.str a) n
def Z_(c:DW)(e:Str->DW):Str->DW:=λa n b P=>c n b λd f=>∃z,d=.str z/\(a++z).length<=sizeLine/\e (a++z) f b P
def cB:DJ X [] dR:=#[_,bB,λa C M H n b c P Q R w q=>#[w.1,q _ H (.str a) n (Ext.refl _ _) R.feed #[rfl,w.1] w.2]]
def GQ(h:DE X e .sh wa)(i:DJ X es b):DJ X (e::es)^Z_ wa b:=by
 let#[t,j,k]:=h;let#[u,l,m]:=i;refine#[_,XZ j l,λa C M H n c f P Q R w q=>?_];refine k C M H n c f _ _ R w λv H1 d o g r s p=>?_;let#[z,rfl,x,p]:=p;have y:=R.step g r;exact#[z,s.1,x,m (a++z) C M H1 o c f P _ y p λv H2 d A e2 B D E=>q v H2 d A (g.trans e2) B D E]
def dQ(w:Str->DW):DW:=w mo
def YO(h:DJ X (e1::e2::es) w):DE X (.JoinedStr (e1::e2::es) pos) .sh^dQ w:=by
 let#[t,a,b]:=h;exact#[_,Xi a,λC M H n c d P Q R w q=>b mo C M H n c d P Q R w q]
end
section

def dO(i:Nat)(T:String)(f:D->v_ D->(D->D->Prop)->Prop):AY:=λb n a=>∃d,a[i]?=P3^.ow d/\gj T d/\f d [] λe _=>b.nx n^a.set i^.ow e
def cA(i:Nat)(w:oq T)(j:PySem.Slot T name k)(l:typeOf^.builtin k=pure^.type "method_descriptor")
  (y:W1 X k r) (A:NB X.K r f) (h:PE X (.Name x p)^Bs i)
  (e:attributeBase (.Name x p) name X.env^eval (.Name x p) X.env=eval (.Name x p) X.env:=by rfl) (g:(b.endLine==c.line)=t_:=by rfl)
  (q:swapsWith (.Call (.Attribute (.Name x p) name b) [] [] c) s_ pos.line X.env=pure u_:=by rfl):
  DS X κ (.Expr (.Call (.Attribute (.Name x p) name b) [] [] c) pos) (dO i T f):=by
 refine#[_,IF (bK w j l y h e g) q,λC M H n O B P E R L zz=>?_];let#[d,s,F,G]:=zz;let#[a,t,m,I,u]:=R.sl i _ s;exists .ref a,getD_some t,Pz F^u.att I;exact A M H a d [] [] _ _ m u rfl G λo Q z v J S N=>L.nx M _ n _ B (R.mut s t J) N
end
end Dp
namespace L2
section

open Builtin.Str in
def Ul:V->v_ V->Hp->VK->Prop:=λx xs H Q=>∃(z y:Str),x=.str z/\xs=[.str y]/\(y.length==0)=u_/\z.length<=sizeLine/\(partsBetween z (occurrences z y 0 z.length (z.length+1)) y.length).length<=sizeLine/\(Txt.split z y).length<=sizeLine/\∀p,H p=s_->Q (.ref p)^AX H p^.lst^(Txt.split z y).map V.str
theorem K8:∀(l:v_ (Str×Tok)),zv ((l.map (·.1)).map V.str)^strValues l
 |[]=>.nil
 |p::l=>.cons #[p.2,rfl]^K8 l
open Builtin.Str in
def Vd:W1 X "str.split" Ul:=by
 intro zF s σ H x xs v us Q I rx rv h;let#[z,y,rfl,rfl,hy,hz,hn,hl,q]:=h;let#[t,rfl]:=rx;let#[u,rfl,ru]:=vals1 rv;let#[u,rfl]:=ru
 have fin:∀(l:v_ (Str×Tok)) (k:Nat),l.map (·.1)=Txt.split z y->EP X zF σ Q (.ref s.heap.objs.size) {s with heap:=s.heap.push {cls:=.type "list",data:=.seq (strValues l).toArray},toks:=k}:=λl k e=>by
  refine#[.ref s.heap.objs.size,_,I.laid (t':=k) (λb o e=>FM _ e) (Sc _) (show zh X.prog X.w _ _ _^.lst^(Txt.split z y).map V.str from#[by rw[Ev];exact hl,strValues l,_,e▸K8 l,TW _ rfl]),rfl,q _^I.hok.fresh^Sc _]
 cases h1:(decide (z.length<y.length)||decide (strKind z<strKind y))
 .cases hf:(occurrences z y 0 z.length (z.length+1)).isEmpty
  .refine oP PySem.F.slot_str_split (nC _ _ _) PySem.F.entry_str_split (PySem.F.args_str_split_2 _ _) (meets_str_split_sep z y t u h1 hy hf hz hn) ?_
   show wants (EP X zF σ Q) X.xe _ {s with toks:=_,heap:=s.heap.push {cls:=.type "list",data:=.seq (strsFrom s.toks^partsBetween z (occurrences z y 0 z.length (z.length+1)) y.length).toArray}};rw[strsFrom_eq];exact fin (numbered s.toks _) _^(numbered_texts _ _).trans ((if_neg^ne_true_of_eq_false h1).trans^if_neg^ne_true_of_eq_false hf).symm
  .exact oP PySem.F.slot_str_split (nC _ _ _) PySem.F.entry_str_split (PySem.F.args_str_split_2 _ _) (meets_str_split_not_found z y t u h1 hy hf)^fin [(z,t)] s.toks ((if_neg^ne_true_of_eq_false h1).trans^if_pos hf).symm
 .exact oP PySem.F.slot_str_split (nC _ _ _) PySem.F.entry_str_split (PySem.F.args_str_split_2 _ _) (meets_str_split_cannot_occur z y t u h1)^fin [(z,t)] s.toks (if_pos h1).symm
def ZM:v_ V->Hp->VK->Prop:=λa H Q=>∃i:Int,a=[.str^kU^toString i]/\0<=i/\i<10 ^ 10/\Q (.int i) H
def Ln:zS X (.type "int") ZM:=by
 intro c s d H e f Q I r h;let#[i,rfl,a,b,q]:=h;let#[u,rfl,t,rfl]:=vals1 r;exact PySem.W.KIN.call_num a b #[.int _,H,I.tok _,#[_,rfl],q]
end
end L2
namespace Dp
open L2
section
variable {K:Frag}
theorem Of:∀{a:v_ Str},(∀y∈a,y.length<=sizeLine)->Ats K M H (a.map D.str)^a.map V.str
 |[],_=>rfl
 |y::a,h=>#[_,_,rfl,#[rfl,h y No],Of λz b=>h z^Rs _ b]
open Builtin.Str in
def V5(d:D)(ds:v_ D)(P:D->Prop):Prop:=∃(z y:Str),d=.str z/\ds=[.str y]/\(y.length==0)=u_/\(partsBetween z (occurrences z y 0 z.length (z.length+1)) y.length).length<=sizeLine/\(Txt.split z y).length<=sizeLine/\(∀x∈Txt.split z y,x.length<=sizeLine)/\P^.lst^(Txt.split z y).map .str
def Ye:jM K .fr "str" Ul V5:=by
 intro U M H d j x k P Q c l b a w q;let#[z,y,rfl,rfl,e,f,g,h,w]:=w;let#[v,rfl,i]:=CJ a;exact#[z,y,b.str.1,by rw[i.str.1],e,b.str.2,f,g,λp a=>q _ _ _ (AV a) (Bg (U:=U) a^Of h) w]
def Zg(a:v_ D)(P:D->Prop):Prop:=∃i:Int,a=[.str^kU^toString i]/\0<=i/\i<10 ^ 10/\P^.int i
def Wl:Bw K .sh ZM Zg:=by
 intro U M H f g P Q a h b w q;let#[i,rfl,c,d,w]:=w;let#[v,rfl,e]:=CJ b;exact#[i,by rw[e.str.1],c,d,q _ H (.int i) .refl rfl w]
end
end Dp
namespace L2
def Ue(A:kA)(s:Go)(c:RelV (kOf x) u)(d:RelV (kOf y) v)(e:HR x y=t_)(a:ju)(w:j4)(E:Db->Go->Prop)(Q:Db->Go->Prop)(h:Q (.bool^c_ y x) s):
  wpAny (model a w) A (richCompare .Gt u v) Q E s:=by
 cases x with
 | inl i=>
  cases y with
  |inl j=>
   let#[t,rfl]:=c;let#[b,rfl]:=d;exact(PyProof.Rows.gt_int h:wpAny (model a w) A (compareOp .Gt (.int i t)^.int j b) Q E s)
  |inr z=>cases e
 | inr z=>
  cases y with
  |inl j=>cases e
  |inr f=>
   let#[t,rfl]:=c;let#[b,rfl]:=d;exact(PySem.P.gt_str h:wpAny (model a w) A (compareOp .Gt (.str z t)^.str f b) Q E s)
section
open PySem.SeqAt
open PySem.AutoSeq1 (wpAny_loadPart')
open PySem.MeetsSeq PySem.MeetsSeq2 PySem.MeetsSeq3
theorem Kc(l b:Ch)(items items2:Array Db)(n n2:Nat)(dd dd2:w_ Ch)(sl sl2:Array^w_ Db)(ns ms:v_ Key)(hi:zv (ns.map kOf) items.toList)(hj:zv (ms.map kOf) items2.toList)(hsame:BI ns ms=t_):
  Meets (lm.«tuple.__gt__» #[[.ref l,.ref b],[]])
   (λ_ R s=>s.heap.get? l=P3 {cls:=.type "tuple",dict:=dd,data:=.seq items n,slots:=sl}/\s.heap.get? b=P3 {cls:=.type "tuple",dict:=dd2,data:=.seq items2 n2,slots:=sl2} /\
    R (.ok^.ret^.bool^Bu ms ns) s):=
 .of_wp λprog w A R s h=>by
  let#[hp,g,d,tk,os]:=s;let#[hl,hb,h]:=h
  have f2:=qt;have z1:items.size=ns.length:=by have:=hi.length;rw[Ev]at this;rw[this];simp
  have z2:items2.size=ms.length:=by have:=hj.length;rw[Ev]at this;rw[this];simp
  wp_walk using k8 hl,k8 hb,wpAny_forIn_list _ (λrest b s'=>b.1=s_/\s'=#[hp,g,d,tk,os]/\∃(vs ws:v_ Db) (ns' ms':v_ Key),rest=vs.zip ws /\
   zv (ns'.map kOf) vs/\zv (ms'.map kOf) ws/\BI ns' ms'=t_/\ns'.length+items2.size=ms'.length+items.size/\R (.ok^.ret^.bool^Bu ms' ns') #[hp,g,d,tk,os]) _
  case turn=>
   rintro⟨y,x⟩ rest b s' ⟨hb',rfl,vs,ws,ns',ms',hz,hvi,hwi,hsm,hlen,hR⟩;cases ns' with
   |nil=>cases hvi;rw[qc]at hz;cases hz
   | cons a ns'=>
    cases ms' with
    |nil=>cases hwi;rw[qK]at hz;cases hz
    | cons c ms'=>
     rw[jy]at hvi hwi;cases hvi with
     | cons ra hvi'=>
      cases hwi with
      | cons rc hwi'=>
       rw[lP]at hz;injection hz with hyx hrest
       injection hyx with hy hx
       subst hy hx;have hR':R (.ok^.ret^.bool (if c=a then Bu ms' ns' else c_ c a)) #[hp,g,d,tk,os]:=hR;have hsm':(HR a c&&BI ns' ms')=t_:=hsm;rw[jv]at hsm';simp only[f8]at hlen;let#[e,he,hiff]:=OJ (A:=A.in1) (s:=#[hp,g,d,tk,os]) ra rc;refine Cn^he prog w _ _ ?_;cases e with
       |true=>
        rw[if_pos (hiff.mp rfl).symm]at hR'
        wp_walk
        exact#[rfl,rfl,_,_,_,_,hrest,hvi',hwi',hsm'.2,by lk,hR']
       |false=>
        rw[if_neg λq=>absurd (hiff.mpr q.symm) jt]at hR';have hri:=Ue A.in1 #[hp,g,d,tk,os] ra rc hsm'.1 prog w
        wp_walk using hri
        exact#[_,rfl,by simpa using hR']
  case fin=>
   rintro⟨b1,b2⟩ s' ⟨hb',rfl,vs,ws,ns',ms',hz,hvi,hwi,hsm,hlen,hR⟩;simp only at hb';subst hb'
   have hv:Bu ms' ns'=decide (items2.size<items.size):=by
    cases ns' with
    | nil=>
     cases ms' with
     |nil=>
      simp only[j_]at hlen;exact(decide_eq_false^by lk).symm
     |cons c u=>
      simp only[j_,f8]at hlen;exact(decide_eq_false^by lk).symm
    | cons a t=>
     cases ms' with
     |nil=>
      simp only[j_,f8]at hlen;exact(decide_eq_true^by lk).symm
     |cons c u=>
      rw[jy]at hvi hwi;cases hvi;cases hwi;rw[lP]at hz;cases hz
   rw[hv]at hR
   wp_walk
   exact#[_,rfl,by simpa [pX]using hR]
  case h=>
   exact#[rfl,rfl,items.toList,items2.toList,ns,ms,rfl,hi,hj,hsame,by lk,h]
end
section

def av(K:Frag):R2:=λx y H Q=>∃a b c d,x=.ref a/\y=.ref b/\SqT K H a^c.map kOf/\SqT K H b^d.map kOf/\BI c d=t_/\Q (.bl^Bu d c) H
def bS(B:X.A.units<cLine):OpR X (compareOp .Gt)^av X.K:=by
 intro C s D H x y v u Q I E G h;let#[a,b,g,i,rfl,rfl,J,L,j,q]:=h;cases E;cases G;let#[k,M,N,_]:=I.tuple J;let#[c,O,P,_]:=I.tuple L;let#[#[R,S,p,T],r,t,n,w]:=id N;let#[#[z,l,m,o],d,e,U,f]:=id P;simp only at t w e f;subst t w e f
 exact pF (op:=.Gt) #[_,r,rfl] #[_,d,rfl] PySem.F.slot_tuple_gt PySem.F.entry_tuple_gt (PySem.F.args_tuple_gt_2 _ _) (Kc a b k.toArray c.toArray n U S l T o g i M O j)
  #[r,d,show nY^Bu i g≠rZ/\EP X C D Q (.bool^Bu i g) s from#[(λx=>nomatch x),#[.bl _,H,I,rfl,q]]] B
def Xg(i:PE X a f):PE X (.UnaryOp .Not a pos) (λd H Q=>f d H λx H1=>∃c,Ys X.K x H1 c/\Q (.bl (!c)) H1):=by
 intro g s d H Q I h;refine UnaryOp_^Ao (i g s d H _ I h) λv j zz=>?_;let#[x,H1,l,m,c,n,o]:=zz;refine not_of^Ao (UG g j d H1 x v (λk p=>k=c/\Q (.bl (!k)) p) l m #[c,n,rfl,o]) λb t zz=>?_;let#[H2,r,e,q]:=zz;exact #[.bl (!b),H2,r,rfl,q]
end
end L2
namespace Dp
open L2
def fk(d e:D)(P:D->Prop):Prop:=match d,e with
 |.tup c,.tup f=>∃a b,He c=P3 a/\He f=P3 b/\BI a b=t_/\P^.bl^Bu b a
 |_,_=>False
section
variable {X:Cx}
def bR(a:zy k X.A):OpR X (compareOp .Gt)^av X.K:=bS a.yh
def gA:Dg X.K .sh (av X.K) fk:=λU M H d e x y P Q c s f g w q=>by
 unfold fk at w
 split at w
 .let#[h,i,j,k,l,w]:=w
  let#[a,t,rfl,m,n]:=f.tup;let#[b,u,rfl,o,p]:=g.tup;have e1:=Dr j n;have r:=Dr k p;subst e1 r;exact#[a,b,h,i,rfl,rfl,m.sq,o.sq,l,q _ H (.bl _) .refl rfl w]
 .exact w.elim
def dP(wa:DW):DW:=λn a P=>wa n a λd b=>∃c,aK d=P3 c/\P (.bl (!c)) b
def YM(h:DE X e κ wa):DE X (.UnaryOp .Not e pos) .sh^dP wa:=by
 let#[t,a,b]:=h;refine#[_,Xg a,λC M H n f g P Q R w q=>?_];refine b C M H n f g _ _ R w λv i d j e1 k l p=>?_;let#[c,m,p]:=p;exact#[c,UH (l.vv R.dom R.vM) m,q _ i (.bl (!c)) j e1 k rfl p]
def T6(i:Nat)(b:BW)(a:AY):AY:=λe n c=>∃d,c[i]?=P3^.br^.lst d/\BF b a e (Ck 0 d) n c
end
end Dp
namespace Nt
open L2 Dp
def BY(x y:Str):cs (x++y)=cs x++cs y:=PySem.W.KT.app_list x y
def HE(x:Str):(cs x).length=x.length:=kT
def D9(h:cs x=cs y):x=y:=Str.ext'^Array.toList_inj.mp h
def Ba(x y z:Str):x++y++z=x++(y++z):=D9^by rw[BY,BY,BY,BY,kj]
def RR(x:Str):mo++x=x:=D9^by rw[BY];rfl
def len_app(x y:Str):(x++y).length=x.length+y.length:=by rw[←HE,BY,eq,HE,HE]
def sp:Str:=" "
theorem WU:cs sp=[32]:=by decide +kernel
def CH(i:Int):Str:=kU^toString i
theorem RS:∀(k m:Nat),m<10 ^ (k+1)->(mT 10 m).length<=k+1
 |0,m,h=>by rw[l7^by lk];exact Sc _
 | k+1,m,h=>by
  by_cases a:m<10
  .rw[l7 a];show 1<=_;lk
  .have t:mT 10 (m / 10)++mT 10 (m % 10)=mT 10 (10*(m / 10)+m % 10):=oK (by cbv) (by lk)^oy m^by cbv
   rw[Nat.div_add_mod]at t
   have:=RS k (m / 10)^by rw[Nat.pow_succ]at h;lk
   rw[←t,eq,l7^oy m^by cbv];show _+1<=_;lk
theorem Gy(h:1<=i):∃m:Nat,i=(m:Int)/\1<=m/\cs^CH i=(mT 10 m).map Char.toNat:=by
 let#[m,rfl]:=Int.eq_ofNat_of_zero_le (show 0<=i by lk);exact#[m,rfl,by lk,PySem.W.KIN.signs_num m]
def IK(h:1<=i):∀c∈cs^CH i,48<=c/\c<=57:=by
 let#[m,rfl,_,e]:=Gy h;rw[e];intro c b;let#[d,a,rfl]:=TM.mp b;have r:=PyProof.Rows.digit_range^qQ (by cbv) (by cbv) a;exact r
theorem GD(h:1<=i)(a:i<=1000000):(CH i).length<=7:=by
 let#[m,rfl,_,e]:=Gy h;rw[←HE,e,Ev];exact RS 6 m^by lk
theorem MX{i:Int}(h:1<=i)(a:i<=1000000):i.natAbs.log2<1920:=by
 have:i.natAbs<2 ^ 1920:=nh (show i.natAbs<=1000000 by lk)^by decide +kernel
 exact(Nat.log2_lt^by lk).mpr this
def Il(t:Af):Str:=mL sp [t.a,t.b,CH t.len]
def Ei(t:Af):Str:=mL sp ["tie",t.a,t.b,CH t.len]
def Ej(x:Str):Str:=mL sp ["place",x]
def linesOf(N:Net):v_ Str:=N.ps.map Ej++N.ts.map Ei
def NS(t:Af):Prop:=Du t.a/\Du t.b/\cs t.a<cs t.b/\1<=t.len/\t.len<=1000000
def gE:W2:=λb n P=>∃a:v_ Af,b=[.sh^.tup^a.map AZ]/\(∀t∈a,NS t)/\a.length<=60/\P (.lst^a.map λt=>.str^Il t) n
def M7:W2:=λa n P=>∃N:Net,a=[.sh^enc N]/\N.Ok/\N.ps.length<=24/\N.ts.length<=60/\P (.lst^(linesOf N).map .str) n
section
def Gz(h:Du x):x.length<=8:=h.2.1
def de:D->D
 |.tup [.str a,.str b,.int l]=>.str^Il #[a,b,l]
 |_=>.non
def XA(a b:Str)(l:Int):mo++a++sp++b++sp++CH l=Il #[a,b,l]:=by
 show _=a++sp++(b++sp++CH l);rw[RR,Ba,Ba,Ba,Ba,Ba]
theorem aM:("tie ":Str)="tie"++sp:=D9^by decide +kernel
theorem U7:("place ":Str)="place"++sp:=D9^by decide +kernel
def N1(t:Af):("tie ":Str)++Il t=Ei t:=by
 rw[aM];rfl
def GG(x:Str):("place ":Str)++x=Ej x:=by
 rw[U7];rfl
theorem LS(h:Du x):("place ":Str).length+x.length<=sizeLine:=by
 have:=h.2.1
 rw[show("place ":Str).length=6 by decide +kernel,PySem.sizeLine_eq];lk
theorem Ik(h:NS t):(Il t).length<=25:=by
 let#[c,d,_,e,f]:=h;have g:=Gz c;have i:=Gz d;have j:=GD e f;show(t.a++sp++(t.b++sp++CH t.len)).length<=_;rw[len_app,len_app,len_app,len_app,show sp.length=1 by decide +kernel];lk
theorem Sv(h:NS t):("tie ":Str).length+(Il t).length<=sizeLine:=by
 have:=Ik h
 rw[show("tie ":Str).length=4 by decide +kernel,PySem.sizeLine_eq];lk
def Gw{N:Net}(ok:N.Ok)(h:t∈N.ts):NS t:=by
 let#[a,b,c,d,e]:=ok.tin t h;exact#[ok.names _ a,ok.names _ b,c,d,e]
def c9:D->D
 |.str x=>.str^Ej x
 |_=>.non
def jA:D->D
 |.str x=>.str ("tie "++x)
 |_=>.non
end
def TF(a:v_ Str):Fn (.lst^a.map .str)^.lst^a.map .str=t_:=by
 show PyData.eqvAll (BR^a.map .str)^BR^a.map .str=t_
 induction a with
 |nil=>rfl
 |cons x a b=>
  show((x==x)&&PyData.eqvAll (BR^a.map .str)^BR^a.map .str)=t_;rw[b,beq_self_eq_true];rfl
theorem JX(ok:N.Ok)(r:N.ps.length<=24)(lt:N.ts.length<=60):G_ 1000001^.lst^(linesOf N).map .str/\SA^.lst^(linesOf N).map .str<=40*84/\TN^.lst^(linesOf N).map .str<=1:=by
 have l:∀{x:Str},Du x->∀c∈cs x,c<1114112:=λh c e=>by have:=h.2.2 c e;lk
 have g:∀x∈linesOf N,(∀c∈cs x,c<1114112)/\x.length<=39:=by
  intro x f;unfold linesOf at f
  rcases jj.mp f with f|f
  .let#[y,n,rfl]:=TM.mp f
   have m:=ok.names y n;rw[←GG];refine#[λc e=>?_,by rw[len_app,show("place ":Str).length=6 by decide +kernel];have:=m.2.1;lk];rw[BY]at e
   rcases jj.mp e with e|e
   .exact(show ∀c∈cs "place ",c<1114112 by decide +kernel) c e
   .exact l m c e
  .let#[t,o,rfl]:=TM.mp f
   have j:=Gw ok o;rw[←N1];refine#[λc e=>?_,by rw[len_app,show("tie ":Str).length=4 by decide +kernel];have:=Ik j;lk];rw[BY]at e
   rcases jj.mp e with e|e
   .exact(show ∀c∈cs "tie ",c<1114112 by decide +kernel) c e
   .have e:c∈cs (t.a++sp++(t.b++sp++CH t.len)):=e
    rw[BY,BY,BY,BY,WU]at e;simp only[jj,Re]at e
    rcases e with(e|e)|(e|e)|e
    .exact l j.1 c e
    .lk
    .exact l j.2.1 c e
    .lk
    .have:=IK j.2.2.2.1 c e;lk
 have p:(linesOf N).length<=84:=by unfold linesOf;rw[eq,Ev,Ev];lk
 exists vX.mpr λd i=>?_,?_
 .let#[x,f,rfl]:=TM.mp i
  exact(g x f).1
 .have:=Gn (k:=40) (ds:=(linesOf N).map D.str) λd i=>by
   let#[x,f,rfl]:=TM.mp i
   have:=(g x f).2
   show x.length+1<=40;lk
  rw[Ev]at this;have q:40*(linesOf N).length<=40*84:=Nat.mul_le_mul_left _ p;exact jr this q
 .have:Lg^(linesOf N).map D.str<=0:=v7.mpr λd i=>by
   let#[x,f,rfl]:=TM.mp i;exact Sc _
  show Lg^(linesOf N).map D.str+1<=1;lk
end Nt
namespace Dp
open L2
def Z9:AY:=λ_ _ _=>False
section
variable {st:Stmt}
def Dz:DS X κ st Z9:=#[_,λ_ _ _ _ _ _ h=>h.elim,λ_ _ _ _ _ _ _ _ _ _ w=>w]
end
end Dp
namespace Nt
open L2 Dp
def ac:sp=#[#[ 32]]:=D9^by rw[WU];rfl
theorem RY:∀{p q r s:v_ Nat},32∉p->32∉q->p++32::r=q++32::s->p=q/\r=s
 |[],[],r,s,_,_,e=>#[rfl,(pJ e).2]
 |[],b::q,r,s,_,c,e=>absurd (by rw[(pJ e).1];exact No) c
 |a::p,[],r,s,d,_,e=>absurd (by rw[←(pJ e).1];exact No) d
 |a::p,b::q,r,s,d,c,e=>by
  let#[f,g]:=pJ e;let#[h,i]:=RY (λz=>d^Rs _ z) (λz=>c^Rs _ z) g;exact#[by rw[f,h],i]
def Et(x y:Str)(r:v_ Str):cs^mL sp (x::y::r)=cs x++32::cs^mL sp (y::r):=by
 show cs (x++sp++mL sp (y::r))=_;rw[BY,BY,WU,kj];rfl
theorem N_:∀{a b:v_ Str},a≠[]->b≠[]->(∀w∈a,32∉cs w)->(∀v∈b,32∉cs v)->cs^mL sp a=cs^mL sp b->a=b
 |[],_,h,_,_,_,_=>absurd rfl h
 |_,[],_,h,_,_,_=>absurd rfl h
 |[x],[y],_,_,_,_,e=>by rw[D9 (x:=x) (y:=y) e]
 |[x],y::z::r,_,_,c,_,e=>by
  rw[Et]at e;exact absurd (show 32∈cs x by rw[show cs x=_ from e];exact jm _ No)^c x No
 |x::z::r,[y],_,_,_,d,e=>by
  rw[Et]at e;exact absurd (show 32∈cs y by rw[show cs y=_ from e.symm];exact jm _ No)^d y No
 |x::j::r,y::k::s,_,_,c,d,e=>by
  rw[Et,Et]at e;let#[g,i]:=RY (c x No) (d y No) e;rw[D9 g,N_ (λz=>by cases z) (λz=>by cases z) (λw f=>c w^Rs _ f) (λw f=>d w^Rs _ f) i]
def NX(c:a≠[])(h:∀w∈a,32∉cs w):Txt.split (mL sp a) sp=a:=by
 refine N_ (λz=>?_) c (λw b=>?_) h ?_
 .have:=split_pos (mL sp a) sp
  rw[z]at this;exact absurd this^by cbv
 .rw[ac]at b
  exact StrLaws.split_free _ 32 w b
 .rw[r8]
open Builtin.Str in
def Gd(x:Str)(ws:v_ Str):Prop:=(sp.length==0)=u_/\(partsBetween x (occurrences x sp 0 x.length (x.length+1)) sp.length).length<=sizeLine/\(Txt.split x sp).length<=sizeLine/\(∀z∈Txt.split x sp,z.length<=sizeLine)/\Txt.split x sp=ws
theorem HQ(b:ws≠[])(h:∀w∈ws,32∉cs w)(d:ws.length<=10)(f:(mL sp ws).length<=1000):Gd (mL sp ws) ws:=by
 have c:=PySem.sizeLine_eq;have e:=NX b h;refine#[by decide +kernel,?_,by rw[e];lk,λx a=>?_,e]
 .rw[rB]
  have:=rW (mL sp ws) sp 0 (mL sp ws).length ((mL sp ws).length+1)
  lk
 .have:=part_short a
  lk
theorem WK:∀(m:Nat),1<=m->∃c r,mT 10 m=c::r/\c≠'0':=by
 intro m
 induction m using Nat.strongRecOn with
 | _ m a=>
  intro b
  by_cases h:m<10
  .rw[l7 h]
   exists _,_,rfl
   have:∀d:Nat,d<10->1<=d->Nat.digitChar d≠'0':=by cbv
   exact this m h b
  .have t:mT 10 (m / 10)++mT 10 (m % 10)=mT 10 (10*(m / 10)+m % 10):=oK (by cbv) (by lk)^oy m^by cbv
   rw[Nat.div_add_mod]at t;let#[c,r,e,f]:=a (m / 10) (by lk) (by lk);rw[←t,e];exact#[c,_,rfl,f]
def VX(h:1<=i):∃c r,cs^CH i=c::r/\c≠48:=by
 let#[m,rfl,d,e]:=Gy h;let#[c,r,a,f]:=WK m d;rw[e,a];refine#[c.toNat,r.map Char.toNat,rfl,λz=>f ?_];have g:=qQ (b:=10) (n:=m) (c:=c) (by cbv) (by cbv) (by rw[a];exact No);exact Char.ext^UInt32.toNat_inj.mp z
def V9{b:Type}{l:v_ b}{p:b->Bool}(h:P^.bl^l.all p):bx [.lst^l.map λa=>.bl^p a] P:=
 #[_,_,rfl,KL p l,by simp_all]
def We{k:(D->Sg->Prop)->Prop}(c:a=t_->P (.bl b) n->k P)(h:P (.bl (a&&b)) n):(match (.bl a:D)with|.bl t_=>k P|.bl u_=>P (.bl u_) n|_=>False):=WY c h
def fH:D->Bool
 |.ob _=>u_
 |_=>t_
abbrev Wb(g:D->Bool):W2:=λb n P=>∃a:v_ D,b=a.map Slot.sh/\a.length=1/\fH^a.getD 0 .non=t_/\P (.bl^g^a.getD 0 .non) n
def Wb.out(h:Wb g b n P):∃d,b=[.sh d]/\fH d=t_/\P (.bl^g d) n:=by
 let#[a,rfl,l,o,p]:=h;cases a with
 |nil=>cases l
 |cons d a=>cases a with
  |nil=>exact#[d,rfl,o,p]
  |cons _ _=>cases l
def Z7:D->Bool
 |.int _=>t_
 |_=>u_
def Xt:D->Bool
 |.int i=>decide (1<=i)&&decide (i<=1000000)
 |_=>u_
def Hd:D->Bool
 |.str x=>(decide (1<=x.length)&&decide (x.length<=8))&&(cs x).all λc=>decide (97<=c)&&decide (c<=122)
 |_=>u_
abbrev cX:W2:=Wb Z7
abbrev Yn:W2:=Wb Xt
abbrev gJ:W2:=Wb Hd
section
theorem UN(c:Nat):((!(decide ([c]<("a":Str).cps.toList)))&&(!(decide (("z":Str).cps.toList<[c]))))=(decide (97<=c)&&decide (c<=122)):=by
 have a:("a":Str).cps.toList=[97]:=by decide +kernel
 have b:("z":Str).cps.toList=[122]:=by decide +kernel
 rw[a,b,kR];simp only[jv,mU,decide_eq_false_iff_not,decide_eq_true_eq,List.cons_lt_cons_iff,List.not_lt_nil,and_false,or_false];lk
def Ya(x:Str):(cs x).length=x.length:=kT
def LH(x:Str):(Dp.signs x).length=x.length:=by unfold Dp.signs;rw[Ev];exact Ya x
end
def yG:Hd d=t_↔∃x,d=.str x/\Du x:=by
 cases d with
 |str x=>
  simp[Hd,Du];constructor
  .simp_all
  simp_all
 |_=>exact#[(λh=>by cases h),fun#[x,e,_]=>(by cases e)]
theorem G0(I:v_ D->Sg->v_ Slot->Prop)(i:∀n c,I all n c->l.nx n c)
  (f:∀(a:v_ D) (d:D) (j:v_ D) (n:Sg) (c:v_ Slot) (nx:Sg->v_ Slot->Prop),all=a++d::j->I a n c->(∀m o,I (a++[d]) m o->nx m o)->b d c λp=>g {l with nx:=nx,ct:=nx,bk:=l.nx} n p):
  ∀(k a:v_ D) (n:Sg) (c:v_ Slot),all=a++k->I a n c->BF b g l k n c
 |[],a,n,c,e,h=>by
  rw[j5]at e;subst e;exact i n c h
 |d::k,a,n,c,e,h=>f _ d k n c _ e h λm o q=>G0 I i f k _ m _ (by grind) q
section
def MY(h:Du x):32∉cs x:=λz=>absurd (h.2.2 32 z).1 (by cbv)
def VY(h:1<=i):32∉cs^CH i:=λz=>absurd (IK h 32 z).1 (by cbv)
def hX:D->D
 |.tup [.str a,.str b,.int l]=>.str^Ei #[a,b,l]
 |_=>.non
theorem ZW:(kU^toString (1000000:Int)).length=7:=by decide +kernel
theorem cM:cs "0123456789"=[48,49,50,51,52,53,54,55,56,57]:=by decide +kernel
def fq:D->D
 |.str x=>.bl (!(mY "0123456789" x 0 ("0123456789":Str).length 1).isEmpty)
 |_=>.non
theorem KJ(p:b->Bool):∀l:v_ b,allB (l.map λa=>D.bl^p a)=P3^l.map p
 |[]=>rfl
 |a::l=>by
  show(allB^l.map λa=>D.bl^p a).map (p a::·)=_;rw[KJ p l];rfl
def Vb(h:Du x):Hd^.str x=t_:=yG.mpr #[x,rfl,h]
def Vp{w:v_ Str}(h:w.getLast?=P3 b):atI (w.map D.str) (-1)=P3^.str b:=by
 let#[a,rfl]:=lg.mp h;rw[j8];exact Oh _ _
def Vo{w:v_ Af}(h:w.getLast?=P3 b):atI (w.map AZ) (-1)=P3^AZ b:=by
 let#[a,rfl]:=lg.mp h;rw[j8];exact Oh _ _
def OL(h:BU s t):Bu [.inr s.a,.inr s.b] [.inr t.a,.inr t.b]=t_:=by
 unfold Bu Bu Bu
 rcases h with h|⟨e,h⟩
 .rw[if_neg λz=>by rw[mG z]at h;exact nJ _ h]
  exact decide_eq_true h
 .rw[e,if_pos rfl,if_neg λz=>by rw[mG z]at h;exact nJ _ h]
  exact decide_eq_true h
theorem Nh(h:Du y):Gd (Ej y) ["place",y]:=HQ (ws:=["place",y]) (λz=>by cases z) (λw a=>by
  rcases UF.mp a with rfl|a
  .decide +kernel
  .rw[Re.mp a];exact MY h) (by show 2<=10;decide) (by
  show("place"++sp++y:Str).length<=1000
  have:=h.2.1
  rw[len_app,len_app,show("place":Str).length=5 by decide +kernel,show sp.length=1 by decide +kernel]
  lk)
theorem R8(h:NS t):Gd (Ei t) ["tie",t.a,t.b,CH t.len]:=HQ (ws:=["tie",t.a,t.b,CH t.len]) (λz=>by cases z) (λw c=>by
  rcases UF.mp c with rfl|c
  .decide +kernel
  rcases UF.mp c with rfl|c
  .exact MY h.1
  rcases UF.mp c with rfl|c
  .exact MY h.2.1
  .rw[Re.mp c];exact VY h.2.2.2.1) (by show 4<=10;decide) (by
  show(("tie":Str)++sp++Il t).length<=1000
  have:=Ik h
  rw[len_app,len_app,show("tie":Str).length=3 by decide +kernel,show sp.length=1 by decide +kernel]
  lk)
end
end Nt
set_option maxHeartbeats 400000
namespace Nt
open L2 Dp
def ft:∀d:Nat,d<10->(Nat.digitChar d).toNat=48+d:=by cbv
theorem WJ:∀(k:Nat) (l:v_ Nat),l.length=k+1->(∀c∈l,48<=c/\c<=57)->l.head?≠P3 48->∃m:Nat,1<=m/\m<10 ^ (k+1)/\l=(mT 10 m).map Char.toNat
 |0,[c],_,h,d=>by
  have j:=h c No;have o:c≠48:=λz=>d (by rw[z];rfl);refine#[c - 48,by lk,by lk,?_];rw[l7^by lk];show [c]=[_];rw[ft _^by lk]
  congr 1
  lk
 | k+1,l,b,h,d=>by
  have g:l≠[]:=λz=>by rw[z]at b;cases b
  obtain⟨r,c,rfl⟩:∃r c,l=r++[c]:=#[l.dropLast,l.getLast g,(List.dropLast_concat_getLast g).symm];rw[eq]at b;have i:r.length=k+1:=by simp only[f8,j_]at b;lk
  have f:r.head?≠P3 48:=by
   cases r with
   |nil=>cases i
   |cons a p=>exact d
  let#[m,q,s,e]:=WJ k r i (λx n=>h x^kW _ n) f;have j:=h c^jm _ No;refine#[10*m+(c - 48),by lk,by rw[Nat.pow_succ];lk,?_];rw[←oK (by cbv) (by lk) (show c - 48<10 by lk),j8,←e,l7^by lk]
  congr 1
  show [c]=[_];rw[ft _^by lk]
  congr 1
  lk
theorem SE(d:x.length<=1000):Gd x^Txt.split x sp/\Txt.split x sp≠[]/\(Txt.split x sp).length<=1002/\∀w∈Txt.split x sp,w.length<=1000:=by
 have b:=PySem.sizeLine_eq;have e:=rW x sp 0 x.length (x.length+1)
 have c:(Txt.split x sp).length<=1002:=by
  unfold Txt.split
  split
  .show 1<=1002;decide
  .split
   .show 1<=1002;decide
   .rw[rB];lk
 have a:∀w∈Txt.split x sp,w.length<=1000:=λw a=>by have:=part_short a;lk
 refine#[#[by decide +kernel,by rw[rB];lk,by lk,λw h=>?_,rfl],λz=>?_,c,a]
 .have:=a w h;lk
 .have:=split_pos x sp
  rw[z]at this;exact absurd this^by cbv
def Dv(w:Str):Bool:=decide (cs w≠[])&&decide ((cs w).head?≠P3 48)&&decide (w.length<=7)&&(cs w).all λc=>decide (48<=c)&&decide (c<=57)
def Fi(w:Str):Bool:=Dv w&&decide (PySem.NumText.digitsVal^cs w<=1000000)
theorem G8(h:Dv w=t_):∃i:Int,1<=i/\i<10000000/\w=CH i/\Fi w=decide (i<=1000000):=by
 have b:=h;unfold Dv at b;simp only[jv,decide_eq_true_eq,lE]at b;let#[#[#[c,d],j],f]:=b
 have k:1<=w.length:=by
  rw[←HE];cases e:cs w with
  |nil=>exact absurd e c
  |cons a r=>exact nL^jp _
 let#[m,l,g,e]:=WJ (w.length - 1) (cs w) (by rw[HE];lk) f d;have n:m<10 ^ 7:=jz g (Nat.pow_le_pow_right (by cbv)^by lk);exists(m:Int),by lk,by lk,D9 ?_
 .rw[e];exact(PySem.W.KIN.signs_num m).symm
 .unfold Fi
  rw[h,e,PySem.W.KIN.val_back,rg];exact decide_eq_decide.mpr^by lk
def X0(h:Dv w=u_):Fi w=u_:=by unfold Fi;rw[h];rfl
def ND(w:Str):Prop:=w.length<=1000/\∀c∈cs w,c<128
def gq(a:v_ Str):Prop:=a≠[]/\a.length<=1002/\∀w∈a,ND w
def bN:w_ Nat->D
 |none=>.non
 |some k=>.int k
def DZ(a:v_ Str)(w:Str):Bool:=match a.getLast? with
 |none=>t_
 |some l=>decide (cs l<cs w)
def ZP(a:v_ Str):v_ Str->w_ Nat
 |_::w::r=>if(!Hd (.str w)||!DZ a w)=t_ then P3 1 else if r.isEmpty=t_ then s_ else P3 2
 |_=>P3 1
def Bn(b a:v_ Str)(c:v_ Af):w_ Nat:=if(!c.isEmpty||a.length==24)=t_ then P3 0 else ZP a b
def DR(c:v_ Af)(a b:Str):Bool:=match c.getLast? with
 |none=>t_
 |some t=>Bu [.inr t.a,.inr t.b] [.inr a,.inr b]
def PN(a b:Str)(c:v_ Str)(d:v_ Af):Bool:=c.contains b&&decide (cs a<cs b)&&DR d a b
def df:v_ Str->w_ Nat
 |l::r=>if(!Fi l)=t_ then P3 3 else if r.isEmpty=t_ then s_ else P3 4
 |[]=>P3 3
def dg(c:v_ Str)(d:v_ Af)(a:Str):v_ Str->w_ Nat
 |b::r=>if(!PN a b c d)=t_ then P3 2 else df r
 |[]=>P3 2
def aN(b:v_ Str)(c:v_ Af):v_ Str->w_ Nat
 |_::a::r=>if(!b.contains a)=t_ then P3 1 else dg b c a r
 |_=>P3 1
def B5(b c:v_ Str)(a:v_ Af):w_ Nat:=if(a.length==60)=t_ then P3 0 else aN c a b
def DD(a b:v_ Str)(c:v_ Af):w_ Nat:=match a with
 |w::_=>if(w=="place")=t_ then Bn a b c else if(w=="tie")=t_ then B5 a b c else P3 0
 |[]=>P3 0
def gK:W2:=λa n P=>∃w:Str,a=[.sh^.str w]/\ND w/\P (.bl^Fi w) n
def KG(a b:v_ Str)(c:v_ Af):v_ Slot:=[.sh^.lst^a.map .str,.br^.lst^b.map .str,.br^.lst^c.map AZ]
def gH:W2:=λd n P=>∃(a b:v_ Str) (c:v_ Af),d=KG a b c/\gq a/\b.length<=24/\c.length<=60/\P (bN^Bn a b c) n
theorem cC(c:Nat):(!(mY "0123456789" #[#[ c]] 0 ("0123456789":Str).length 1).isEmpty)=(decide (48<=c)&&decide (c<=57)):=by
 rw[StrLaws.found_one];show decide (c∈cs "0123456789")=_;rw[cM,←Bool.decide_and];refine decide_eq_decide.mpr ?_;simp only[UF,jw,or_false];lk
def Sy{a:v_ Str}(e:a.getLast?=P3 y):(!(a.map D.str).isEmpty)=t_:=by
 let#[b,rfl]:=lg.mp e;simp
theorem LX(h:ND w):CT^.str w:=#[rfl,Dn λc a=>by have:=h.2 c a;lk,jp _]
theorem OA:∀{b:v_ Str}{w:Str}{c:Nat},w∈b->c∈cs w->c∈cs^mL sp b
 |[x],w,c,h,a=>by rw[Re.mp h]at a;exact a
 |x::y::r,w,c,h,a=>by
  rw[Et]
  rcases UF.mp h with rfl|h
  .exact kW _ a
  .exact jm _^Rs _^OA h a
def NG(h:ND x):Gd x^Txt.split x sp/\gq^Txt.split x sp:=by
 let#[b,d,e,f]:=SE h.1;refine#[b,d,e,λw a=>#[f w a,λc g=>h.2 c ?_]]
 have:=OA a g
 rw[r8]at this;exact this
def gG:W2:=λe n P=>∃(a b:Str) (c:v_ Str) (d:v_ Af),e=[.sh^.str a,.sh^.str b,.br^.lst^c.map .str,.br^.lst^d.map AZ]/\ND a/\ND b/\(∀p∈c,Du p)/\P (.bl^PN a b c d) n
def Wd(a:v_ Str)(x:Str):((a.map D.str).any λy=>Fn y^.str x)=a.contains x:=by
 rw[List.any_map]
 induction a with
 |nil=>rfl
 |cons y r b=>
  rw[List.any_cons,List.contains_cons,b]
  congr 1
  show(y==x)=(x==y);exact Bool.beq_comm
def gF:W2:=λd n P=>∃(b a:v_ Str) (c:v_ Af),d=KG b a c/\gq b/\(∀p∈a,Du p)/\a.length<=24/\c.length<=60/\P (bN^B5 b a c) n
def Zw:W2:=λd n P=>∃(b a:v_ Str) (c:v_ Af),d=KG b a c/\gq b/\(∀p∈a,Du p)/\a.length<=24/\c.length<=60/\P (bN^DD b a c) n
end Nt
set_option maxHeartbeats 4000000
namespace L2
section

def UV(m:(a==sysModules)=u_)(n:(b==sysModules)=u_)(o:v9 s.heap a e l)(p:v9 s.heap b d f)(g:d.size=0)
  (h:Q (decide (e.size=0)) s):wpAny (model P w) A (rQ k a b) Q E s:=by
 let#[t,i,u,j]:=o;let#[ob,q,v,r]:=p;unfold rQ pS;rw[if_neg (show ¬(a==sysModules)=t_ by rw[m];exact jt),if_neg (show ¬(b==sysModules)=t_ by rw[n];exact jt)];refine Cn^On^Cn^On ?_;refine Cn^l8 i j ?_
 dsimp only
 refine Cn^l8 q r ?_
 by_cases c:e.size=0
 .rw[if_neg^by rw[c,g];simp]
  refine Cn^px i j ?_;refine Cn ?_;rw[Std.Legacy.Range.forIn_eq_forIn_range'];simp only[Std.Legacy.Range.size,Nat.sub_zero,Nat.add_sub_cancel,Nat.div_one,c,List.range'_zero,rR];rw[decide_eq_true c]at h;exact On^On h
 .rw[if_pos^by rw[g];simpa using c]
  rw[decide_eq_false c]at h;exact Cn^ou^On h
def eO:R2:=λx y H Q=>∃a b c,x=.ref a/\y=.ref b/\Rd H a^.dT c/\Rd H b^.dK []/\Q (.bl (!decide (c.length=0))) H
theorem bO(r:zy k X.A):OpR X (compareOp .NotEq) eO:=by
 intro R s S H x y v u Q I t w h;let#[a,b,f,rfl,rfl,n,z,q]:=h;cases t;cases w;let#[o,p,B,U,C,D,E,V,G,W,Y]:=IP I.hok n;have J:=(Dy I.hok n).2.1;let#[_,K,Z,L,g]:=FS I.hok z;let#[ob,c,M,i,j,l,N,m,_]:=id g;have d:v9 s.heap a p B:=#[o,C,D,E]
 have O:c.size=0:=by
  have e1:=m.length;have P:=L.length;have e3:c.toList.length=c.size:=kT;rw[j_]at P;lk
 refine wpAny_richCompare_same_room (op:=.NotEq) d.ty g.typeIs PySem.F.slot_dict_ne (lQ PySem.F.slot_dict_ne d.ty PySem.F.entry_dict_ne ?_^PySem.F.args_dict_ne_2 _ _) r.yh;show wpAny _ _ (qj "__ne__" #[[.ref a,.ref b],[]] >>=_) _ _ s;refine Cn ?_;unfold qj;refine Cn^pR d.ty ?_;show wpAny _ _ (pure (Uf a,Uf b)) _ _ s;refine On ?_;refine Cn^pM (T:="dict") g.typeIs PySem.F.sub_dict_dict ?_;simp only[pK,kG,if_false];refine Cn^On^Cn^On ?_;refine Cn^UV J K d #[ob,i,j,l] O ?_;refine On #[_,rfl,(λx=>nomatch x),?_];have e:p.size=f.length:=by first|exact G|omega
 rw[e];refine#[.bl _,H,I,?_,q];show nY _=nY _;simp
def Kv(lo:(d==sysModules)=u_):
  MeetsIn P w (lm.«dict.__len__» #[[.ref d],[]]) (λ_ R s=>v9 s.heap d b c/\R (.ok^.ret^.int b.size s.toks) {s with toks:=s.toks+1}):=
 .of_wp λA R s #[e,h]=>by
  let#[o,f,g,a]:=e;show wpAny _ _ (dictSize d >>=_) _ _ s;unfold dictSize;refine Cn^Cn^l8 f a^On ?_;show wpAny _ _ (Builtin.Dict.pendingCount d >>=_) _ _ s;refine Cn^wpAny_pendingCount_other lo ?_;refine wpAny_ret_mkInt ?_;rw[Nat.add_zero];exact h
theorem Tc:zS X (.builtin "len") (λe H Q=>∃a b,e=[V.ref a]/\Rd H a^.dT b/\Q (.int b.length) H):=by
 intro v s w H e x Q I r h;let#[a,b,rfl,f,q]:=h;let#[u,rfl,g]:=vals1 r;cases g;let#[z,i,_]:=Dy I.hok f;let#[o,c,j,y,k,l,n,A,p,_]:=IP I.hok f;have d:v9 s.heap a c j:=#[o,k,l,n];have t:=PySem.sizeLine_eq;refine Calls.call_function_entry kind_len plain_len entry_len (args_len1 _) ?_;unfold lm.«len»;refine Cn (m:=oneArg "len" _)^On ?_
 refine Cn (m:=callSpecial? (.ref a)^kU "__len__") (lA (name:=kU "__len__") d.ty F.slot_dict_len
  (oE F.slot_dict_len d.ty F.entry_dict_len (F.args_dict_len_1 _) (Kv i) #[d,?_]))
 show wpAny _ _ _ _ _ {s with toks:=s.toks+1};refine Cn^kQ^On ?_;refine Cn^mn ?_;show wpAny _ _ (if((c.size:Nat):Int)<0 then _ else _) _ _ _;rw[if_neg^by lk];show wpAny _ _ (if((c.size:Nat):Int)≥2 ^ 63 then _ else _) _ _ _;rw[if_neg^by lk];rw[p];exact Cn^wpAny_mkInt^On #[_,rfl,.int b.length,H,I.tok _,#[_,rfl],q]
end
end L2
namespace Dp
open L2
def fg(d e:D)(P:D->Prop):Prop:=∃a b,d=.dit a b/\a.length=b.length/\e=.dic [] []/\P^.bl (!decide (a.length=0))
theorem f7{K:Frag}:Dg K .sh eO fg:=λU M H d e x y P Q f n g h w q=>by
 let#[c,o,rfl,p,rfl,w]:=w;let#[a,i,rfl,j,k]:=Jp g;let#[b,r,rfl,_,l,_,m]:=h;have e:(c.zip i).length=c.length:=by rw[l_,k.length];lk
 exists a,b,_,rfl,rfl,j,.inl l;rw[e];exact q _ H (.bl _) .refl rfl w
def Zf(c:v_ D)(P:D->Prop):Prop:=∃a b,c=[.dit a b]/\a.length=b.length/\P^.int (a.length:Int)
def cU{K:Frag}:Bw K .sh (λd H Q=>∃a b,d=[V.ref a]/\Rd H a^.dT b/\Q (.int b.length) H) Zf:=by
 intro U M H l m P Q f n g w q;let#[c,o,rfl,p,w]:=w;let#[v,rfl,h]:=CJ g;let#[a,i,rfl,j,k]:=Jp h;have e:(c.zip i).length=c.length:=by rw[l_,k.length];lk
 exists a,_,rfl,j;rw[e];exact q _ H (.int _) .refl rfl w
section

def i8(i:Nat)(f:Str):DW:=λn a P=>match a[i]? with
 |some (.ex _ _ b c)=>∃d,(b.zip c).lookup f=P3 d/\P d n
 |_=>False
theorem IZ{K:Frag}:∀{b:v_ Str}{c:v_ D}{a:v_ V},Ats K M H c a->(b.zip c).lookup f=P3 d->∃v,(b.zip a).lookup f=P3 v/\At K M H d v
 |[],c,a,h,e=>by simp at e
 |k::b,[],a,h,e=>by simp at e
 |k::b,j::c,a,h,e=>by
  let#[v,r,rfl,l,g]:=h;rw[lP,mi]at e ⊢
  split at e
  .grind
  .exact IZ g e
set_option tactic.hygienic true in
def Zo(j:f∈(["word","number","row"]:v_ Str))(o:X.N[i]?=P3 x:=by rfl)(c:Ov X.env.scope x:=by first|exact kF rfl|exact k6 (kF rfl)|exact k6 (k6 rfl))(e:dbN x:=by decide)
  (g:(x==("__classdict__":Str))=u_:=by decide) (r:attributeBase (.Name x p) f X.env^eval (.Name x p) X.env=eval (.Name x p) X.env:=by rfl):DE X (.Attribute (.Name x p) f pos) .sh^i8 i f:=by
 refine#[_,e8 (DB o c e g) r,λC M H n E F P Q R w q=>?_];unfold i8 at w
 split at w
 .rename_i a nm G I e
  let#[d,l,w]:=w;let#[s,k,U,J,u,L,b,#[m,t],y,z,O,A]:=R.sl i _ e
  rcases z with⟨_,rfl,_⟩|⟨B,rfl,S,h⟩
  .simp at l
  .let#[v,D,c]:=IZ A l
   have m:vz X.K k f:=by
    simp only[UF,jw,or_false]at j
    rcases j with rfl|rfl|rfl
    .exact b.nw
    .exact b.nn
    .exact b.nr
   exact#[.ref a,getD_some s,a,k,U,B,u,nm,_,v,rfl,t,y,h,b,m,D,q v H d n (Ext.refl _ _) R.feed c w]
 .exact w.elim
def dI(i:Nat)(a:Str):DW:=λn b P=>match b[i]? with
 |some (.ex _ nm _ _)=>P (.bl (decide (nm=a))) n
 |_=>False
def Y1(i:Nat):DW:=λn a P=>match a[i]? with
 |some (.ex _ _ _ _)=>P (.bl t_) n
 |_=>False
set_option tactic.hygienic true in
theorem cG{b:Str}{D U:Ch}(t:b ≠ "ThinError")(xd:XC X.K b D U)(c:Gl X b)(e:X.mg b=P3^.ref D)(y:Gl X "isinstance")(A:X.mg "isinstance"=s_)(B:X.N[i]?=P3 x:=by rfl)(E:Ov X.env.scope x:=by first|exact kF rfl|exact k6 (kF rfl)|exact k6 (k6 rfl))(g:dbN x:=by decide)
  (h:(x==("__classdict__":Str))=u_:=by decide) (j:dbN b:=by decide) (o:starEach [.Name x p1,.Name b p2] X.env=(u_,eval (.Name x p1) X.env)::starEach [.Name b p2] X.env:=by rfl) (k:starEach [.Name b p2] X.env=[(u_,eval (.Name b p2) X.env)]:=by rfl) (l:(backTo pos^starEach [.Name b p2] X.env).any (·.1)=u_:=by rfl):
  DE X (.Call (.Name "isinstance" p) [.Name x p1,.Name b p2] [] pos) .sh (dI i b):=by
 refine#[_,Cf Oa y A (by decide +kernel) (Ax (DB B E g h) (Ax (MH (v:=.ref D) c e rfl j) B6 k) o) (by cbv) (by cbv) o l,λC M H n T V P Q R w q=>?_];unfold dI at w
 split at w
 .rename_i a nm W Y g
  let#[F,G,I,J,u,Z,r,#[na,L],O,S,hl,hs]:=R.sl i _ g;refine#[.ref a,getD_some F,a,G,I,J,u,nm,.ref D,"",_,rfl,L,O,λd s=>?_,r,.inr #[D,rfl,r.kit xd t],q _ H (.bl _) n (Ext.refl _ _) R.feed rfl w]
  rcases S with⟨z,_⟩|⟨dd,z,_,m⟩
  .grind
  .rw[z]at s;cases s;exact#[_,m]
 grind
set_option tactic.hygienic true in
def YS(c:Gl X "ValueError")(e:X.mg "ValueError"=s_)(r:Gl X "isinstance")(s:X.mg "isinstance"=s_)(t:X.N[i]?=P3 x:=by rfl)(y:Ov X.env.scope x:=by first|exact kF rfl|exact k6 (kF rfl)|exact k6 (k6 rfl))(g:dbN x:=by decide)
  (h:(x==("__classdict__":Str))=u_:=by decide) (m:starEach [.Name x p1,.Name "ValueError" p2] X.env=(u_,eval (.Name x p1) X.env)::starEach [.Name "ValueError" p2] X.env:=by rfl) (j:starEach [.Name "ValueError" p2] X.env=[(u_,eval (.Name "ValueError" p2) X.env)]:=by rfl) (k:(backTo pos^starEach [.Name "ValueError" p2] X.env).any (·.1)=u_:=by rfl):
  DE X (.Call (.Name "isinstance" p) [.Name x p1,.Name "ValueError" p2] [] pos) .sh (Y1 i):=by
 refine#[_,Cf Oa r s (by decide +kernel) (Ax (DB t y g h) (Ax (Q0 (v:=.ty "ValueError") c e PyProof.Rows.Boot.«ValueError» rfl) B6 j) m) (by cbv) (by cbv) m k,λC M H n J K P Q R w q=>?_];unfold Y1 at w
 split at w
 .rename_i a nm L O g
  let#[A,B,D,E,u,S,o,#[T,F],G,I,U,V]:=R.sl i _ g;refine#[.ref a,getD_some A,a,B,D,E,u,nm,.ty "ValueError","ValueError",t_,rfl,F,G,λd b=>?_,o,.inl #[rfl,o.kitV],q _ H (.bl _) n (Ext.refl _ _) R.feed rfl w]
  rcases I with⟨z,_⟩|⟨W,z,_,l⟩
  .rw[z]at b;cases b
  .rw[z]at b;cases b;exact#[_,l]
 .exact w.elim
end
theorem fnX{K:Frag}{I:PX->AY}(F:Fun K x a m f fd)(S:A8 N i^AK m)(L:i.length<=N.length)
  (O:∀(c:Db) (A:kA) (b:v_ Env) (s:Go) (H:Hp) (E:XK) (g:PX) (r:w_ (Ch×Ch)) (U M:Ch->Prop),kS K r U M H g E->zy k^A.deeper^envOfC a (AK m) s.heap.objs.size f c->
   Ka (λC=>C.F=r/\C.U=U/\C.M0=M/\C.H0=H) (C5 (Kb P w) P w K G e N a (AK m) f c A b s H E) o (Aj m) (I g))
  (hW:∀u n j g,u.length=i.length->W u n j g->I g {nx:=λn _=>o=.sh/\j .non n,rt:=j} n (u++jk (N.length - i.length) .no)):
  zL P w K G e (Kb P w) (k+1) f fd i (eE K o W i.length):=by
 let#[oc,od,kV,T,pm,an,c,ct,V,rfl,X,y]:=F.ex;refine ZY X y S (λY H Q E h=>h.1) λA b s H Y Q E Z h=>?_;let#[hl,r,U,V',M,n,u,j,g,J,hw,q,l]:=h;let#[t,t1,t2]:=O c A _ s H E g r U M l Z;exists t,t1;have el:=Paired.length J.2.2.2.2.2;have R:=LJ (N:=N) J (by lk);refine t2 _ M H n _ _ {nx:=λn _=>o=.sh/\j .non n,rt:=j} _ #[rfl,rfl,rfl,rfl] R #[λM1 H1 B zO zJ D p=>?_,λv H1 d B e1 f1 r1 p=>q v H1 d B e1 f1 r1 p,λ_ _ _ _ _ _ z=>z.elim,λ_ _ _ _ _ _ z=>z.elim] ?_
 .let#[hk,p]:=p
  subst hk;exact q .non H1 .non B D.ext (D.feed.q4 (zg.less D.sub) (λ_ _ _ z=>z) λ_ _ z=>z) rfl p
 grind
section

def T3(j i:Nat):AY:=λc n b=>match b[i]? with
 |some (.ex a d e f)=>c.nx n^b.set j^.ex a d e f
 |_=>False
set_option tactic.hygienic true in
def WG(e:X.N.Nodup)(f:X.N[j]?=P3 x)(g:Loc X.env.scope x)(hi:X.N[i]?=P3 y:=by rfl)(h:Ov X.env.scope y:=by first|exact kF rfl|exact k6 (kF rfl)|exact k6 (k6 rfl))(c:dbN y:=by decide)
  (d:(y==("__classdict__":Str))=u_:=by decide) (k:swapsWith (.Name y p) (P3^.Name x b) pos.line X.env=pure u_:=by rfl)
  (l:X.lO x:=by first|exact .inl rfl|exact .inr rfl|assumption):DS X κ (.Assign [.Name x b] (.Name y p) pos)^T3 j i:=by
 refine#[_,EA e f g (DB hi h c d) k l,λC M H n u v A E R L w=>?_];unfold T3 at w
 split at w
 .rename_i a m o q c
  let#[r,t]:=R.sl i _ c;exact#[_,getD_some r,L.nx M H n _ _ (R.setS (s:=.ex a m o q) rfl (λ_ z=>by cases z) #[rfl,t]) w]
 .exact w.elim
end
def gy(g:Fm->Prop)(X:Cx)(e:jx)(h:Kd)(w:DW):Prop:=∃t,PE X e t/\∀(C:Fm) (M:Ch->Prop) (H:Hp) (n:Sg) (b:v_ Slot) (c:L2.St) (P:D->Sg->Prop) (Q:VK),g C->Rel X.K C M H n b c->w n b P->(∀v a d f,Ext C.U H a->zk X.K C.F M a f->VR X.K C.V M H a h v d->P d f->Q v a)->t c H Q
def Yw(g:Fm->Prop)(X:Cx)(h:v_ jx)(w:NC):Prop:=∃t,PA X h t/\∀(C:Fm) (M:Ch->Prop) (H:Hp) (n:Sg) (b:v_ Slot) (c:L2.St) (P:v_ Slot->Sg->Prop) (Q:v_ V->Hp->Prop),g C->Rel X.K C M H n b c->w n b P->
 (∀d a e f,Ext C.U H a->zk X.K C.F M a f->Paired (D6 X.K C.F C.V M a) d e->P e f->Q d a)->t c H Q
def Pss(a:Fm->Prop)(X:Cx)(b:PX):Prop:=∃R:XK,Cq (Kb X.prog X.w) X R/\∀(C:Fm) (M:Ch->Prop) (H:Hp) (n:Sg) (c:v_ Slot) (d:L2.St),a C->Rel X.K C M H n c d->kS X.K C.F C.U M H b R
def Pss.mk(m:Cq (Kb X.prog X.w) X R)(o:kS X.K i j k l h R)(b:∀C,g C->C.F=i/\C.U=j/\C.M0=k/\C.H0=l):Pss g X h:=by
 refine#[R,m,λC M H n N O q r=>?_];let#[rfl,rfl,rfl,rfl]:=b C q;intro s t u v x y A c B e f D xd E G p;have a:zg M c _ c:=zg.less r.sub;refine o s t u v x y A c B (r.ext.trans e) (f.q4 a (λ_ _ _ z=>z) λ_ _ z=>z) D ?_ E (G.q4 a) p
 rcases xd with z|⟨d,I,J,L⟩
 .exact .inl z
 .exact .inr #[d,I,λz=>J^r.sub d z,L]
section

def YY(h:Ow X es was):Yw Φ X es was:=let #[t,a,b]:=h;#[t,a,λC M H n c d P Q _=>b C M H n c d P Q]
def YX(h:gy Φ X e κ wa)(j:Yw Φ X es was)(k:κ≠.tp:=by intro z;cases z)(l:X.sE e es:=by rfl):Yw Φ X (e::es)^AH (AS wa) was:=by
 let#[t,r,s]:=h;let#[u,y,A]:=j;refine#[_,Ax r y l,λC M H n a b P Q c R w q=>?_];refine s C M H n a b _ _ c R w λv H1 d B f D E p=>?_;have g:=R.step f D;exact A C M H1 B a b _ _ c g p λL H2 F G i I J K=>q _ H2 (.sh d::F) G (f.trans i) I (.cons #[#[v,rfl,(E.vD R.dom k).q4^g.q4 i],rfl] J) K
def WN(c:Cls X.K C)(G:Tp X.prog X.w X.K X.mg X.base C m k ps κ W)(I:zy k X.A)(J:DE X o zK wo)(L:Yw Φ X (e::es) was)
  (i:X.sE e es:=by rfl) (j:(backTo pos^starEach es X.env).any (·.1)=u_:=by rfl)
  (N:eval (.Call (.Attribute o m apos) (e::es) [] pos) X.env=(do
   let ov ←eval o X.env
   standAt apos.atName
   let (f,first) ←holding [ov] (getMethod ov m pl)
   callWith pos f first (backTo pos^starEach (e::es) X.env) (backToKw pos^keywordEach [] X.env)):=by rfl):gy Φ X (.Call (.Attribute o m apos) (e::es) [] pos) κ^HL C m W wo was:=by
 let#[f,fd,G,O,S,T]:=G;let#[to,U,Y]:=J;let#[t,Z,a2]:=L;refine#[_,Qy U c O G I S .nil HU Z i j N,λC0 M H n s u P Q hC R w q=>?_];refine Y C0 M H n s u _ _ R w λv H1 d n1 l y r1 zz=>?_;let#[a,ks,ds,ed,hw,hl,w1]:=zz;subst ed;have z:=R.step l y;let#[dx,vs,B,g2,g3,g4]:=y.2 a _ hw;have ev:=Fe^r1.vv R.dom R.vM;subst ev;exists a,dx,_,rfl,B,E9 hl;refine a2 C0 M H1 n1 s u _ _ hC z w1 λa0 H2 ss n2 g D E p=>?_;have R2:=z.step g D;rw[j5];have r:∃o,H2 a=P3 o:=let #[o',h,_]:=g a _ B;#[o',h]
 have b:D6 X.K C0.F C0.V M H2 (.ref a)^.sh^.ob a:=#[#[_,rfl,rfl,r],rfl];exact#[(Paired.length^Paired.cons b E).trans^T _ _ _ p,_,_,_,M,n2,_,P,#[R2.dom,R2.fU,R2.uV,R2.vM,D,Paired.cons b E],p,λv H3 d n3 e3 f3 r3 p3=>q v H3 d n3 ((l.trans g).trans e3) f3 (VR.back (l.trans g) r3) p3]
def WF(h:gy Φ X e zT wa)(c:swapsWith e s_ pos.line X.env=pure u_:=by rfl):c0 Φ X κ (.Expr e pos)^HM wa:=by
 let#[t,f,g]:=h;exact#[_,IF f c,λC M H n a b r E i R L w=>g C M H n a b _ _ i R w λv j d k l q s p=>L.nx M j k a b (R.step l q) p]
def iU{K:Frag}{e:Str->w_ Db}{i:PX->AY}(F:Fun K x q d f fd)(S:A8 N ps^AK d)
  (j:∀{c:Db}{A:kA}{a:v_ Env}{s:Go}{H:Hp}{E:XK}{Pr:PX}{Φ:Fm->Prop},zy k^A.deeper^envOfC q (AK d) s.heap.objs.size f c->Pss Φ (C5 (Kb P w) P w K e b N q (AK d) f c A a s H E) Pr->Ka Φ (C5 (Kb P w) P w K e b N q (AK d) f c A a s H E) κ (Aj d)^i Pr)
  (r:∀{ss n Pd Pr},W ss n Pd Pr->i Pr {nx:=λn _=>κ=.sh/\Pd .non n,rt:=Pd} n (ss++jk (N.length - ps.length) .no)) (g:ps.length<=N.length:=by decide):
  zL P w K e b (Kb P w) (k+1) f fd ps (eE K κ W ps.length):=fnX F S g (λc A a s H E Pr u U M l t=>j t^Pss.mk Nl l λC h=>h) λ_ _ _ _ _ h=>r h
end
end Dp
namespace L2
open PySem.AutoSeq1 (wpAny_loadPart')
end L2
namespace Dp
open L2
end Dp
namespace L2
end L2
namespace Dp
open L2
end Dp
namespace L2
end L2
namespace Dp
open L2
def dS(i:Nat):Fv:=λn a P=>match a[i]? with
 |some (.ex _ _ _ _)=>P u_ n
 |some (.sh .non)=>P t_ n
 |_=>False
set_option tactic.hygienic true in
def b7{j}(f:X.N[i]?=P3 x:=by rfl)(g:Ov X.env.scope x:=by first|exact kF rfl|exact k6 (kF rfl)|exact k6 (k6 rfl))(b:dbN x:=by decide)
  (c:(x==("__classdict__":Str))=u_:=by decide) (h:behindInMarks .Is^.Constant .none j q=u_:=by rfl):DT X (.Compare (.Name x p) [.Is] [.Constant .none j q] pos)^dS i:=by
 refine#[_,E5 MK (DB f g b c) VE h,λC M H n k l P Q R w q=>?_];unfold dS at w
 split at w
 .rename_i a m o r b
  let#[d,_]:=R.sl i _ b;exact#[.ref a,getD_some d,rfl,u_,rfl,q u_ H n (Ext.refl _ _) R.feed w]
 .rename_i b
  let#[v,d,e]:=R.sl i _ b;have e:v=.non:=e;subst e;exact#[.non,getD_some d,rfl,t_,rfl,q t_ H n (Ext.refl _ _) R.feed w]
 .exact w.elim
end Dp
namespace L2
section

theorem RE{K:Frag}(c:XC K a C U):∀{b:v_ Ch}{d:v_ Str},Paired (fun(D:Ch) (n:Str)=>n ≠ "ThinError"/\∃f,XC K n D f) b d->PySem.W.kitAny K (.ref C)^b.map Uf=P3 (decide (a∈d))
 |[],_,.nil=>by simp[PySem.W.kitAny]
 | D::b,_,@Paired.cons _ _ _ _ n _ d #[g,f,h] r=>by
  rw[jy];unfold PySem.W.kitAny;rw[c.kit h g]
  by_cases e:a=n
  .simp[e]
  .simp only[e,decide_false]
   rw[RE c r];simp[e]
theorem NI:∀{a:v_ Ch}{b:v_ Db},zv (a.map V.ref) b->b=a.map Uf
 |[],_,r=>by rw[rq]at r;cases r;rfl
 |D::a,_,r=>by
  rw[jy]at r;cases r with
  |cons h t=>rw[jy,NI t];cases h;rfl
def Td:zS X (.builtin "isinstance") (λm H Q=>∃a C U g u i t j k,m=[.ref a,.ref t]/\H a=P3 u/\XT C g a u/\(∀d,g=P3 d->∃p,H d=P3^.ext^XF d p)/\XC X.K i C U/\H t=P3^.tup^j.map V.ref/\Paired (fun(D:Ch) (n:Str)=>n ≠ "ThinError"/\∃A,XC X.K n D A) j k/\Q (.bl (decide (i∈k))) H):=by
 intro Z s σ H m us Q I r h;let#[a,C,U,g,u,i,t,j,k,rfl,B,E,F,v,G,L,q]:=h;let#[M,N,rfl,O,P]:=vals2 r;cases(show M=Uf a from O);cases(show N=Uf t from P)
 have J:=E.inst I B λd e=>by
  let#[p,l]:=F d e;let#[#[mA,#[o,_,_,R,_],_],_]:=(show zh X.prog X.w H s.heap d _ from I.hok d _ l);exact#[o,R]
 let#[_,S,T,o,l,x,n,b,c,f]:=(show zh X.prog X.w H s.heap t _ from I.hok t _ G);let#[Y,dd,y,sl]:=o;simp only at x b c f;subst x b c f;have e:=NI T;subst e;exact PySem.W.kia_tup v.kitX I.kIn J l (RE v L) (by intro z;cases z) λtk=>#[.bl _,H,I.tok _,rfl,q]
end
end L2
namespace Dp
open L2
section

def CN(X:Cx)(es:v_ jx)(b:v_ Str):Prop:=∃a:v_ Ch,PA X es (λ_ H Q=>Q (a.map V.ref) H)/\Paired (fun(D:Ch) (n:Str)=>n ≠ "ThinError"/\∃c,XC X.K n D c) a b
def cN:CN X [] []:=#[[],B6,.nil]
def FH{a:Str}{D U:Ch}(f:a ≠ "ThinError")(xd:XC X.K a D U)(b:Gl X a)(c:X.mg a=P3^.ref D)(g:CN X es e)(h:starEach (.Name a p::es) X.env=(u_,eval (.Name a p) X.env)::starEach es X.env:=by rfl)(d:dbN a:=by decide):
  CN X (.Name a p::es) (a::e):=by
 let#[j,k,l]:=g;exact#[D::j,Ax (MH (v:=.ref D) b c rfl d) k h,.cons #[f,U,xd] l]
def Y0(i:Nat)(a:v_ Str):DW:=λn b P=>match b[i]? with
 |some (.ex _ c _ _)=>P (.bl (decide (c∈a))) n
 |_=>False
set_option tactic.hygienic true in
theorem YQ{j}(h:CN X es c)(hl:es.length<=100)(D:Gl X "isinstance")(E:X.mg "isinstance"=s_)(F:X.N[i]?=P3 x:=by rfl)(G:Ov X.env.scope x:=by first|exact kF rfl|exact k6 (kF rfl)|exact k6 (k6 rfl))(k:dbN x:=by decide)
  (l:(x==("__classdict__":Str))=u_:=by decide) (hn:c.length<=100:=by decide) (v:starEach [.Name x p1,.Tuple es j tpos] X.env=(u_,eval (.Name x p1) X.env)::starEach [.Tuple es j tpos] X.env:=by rfl) (m:starEach [.Tuple es j tpos] X.env=[(u_,eval (.Tuple es j tpos) X.env)]:=by rfl) (r:(backTo pos^starEach [.Tuple es j tpos] X.env).any (·.1)=u_:=by rfl):
  DE X (.Call (.Name "isinstance" p) [.Name x p1,.Tuple es j tpos] [] pos) .sh (Y0 i c):=by
 let#[e,I,y]:=h;refine#[_,Cf Td D E (by decide +kernel) (Ax (DB F G k l) (Ax (VC I) B6 m) v) (by cbv) (by cbv) v r,λC M H n ρ σ P Q R w q=>?_];unfold Y0 at w
 split at w
 .rename_i a J ks ds k
  let#[K,L,O,S,u,vs,T,#[na,U],W,Y,Z,hs]:=R.sl i _ k;have hz:(e.map V.ref).length<=sizeLine:=by rw[Ev,Paired.length y,kJ];lk
  refine#[.ref a,getD_some K,hz,λt A=>?_];have g:vJ H^AX H t^.tup^e.map V.ref:=AV A;have B:∀b o,H b=P3 o->AX H t (.tup^e.map V.ref) b=P3 o:=λb o q=>by rw[AG λz=>by subst z;rw[A]at q;cases q];exact q
  refine#[a,L,O,S,u,J,t,e,c,rfl,B _ _ U,W,λd f=>?_,T,AI,y,q _ _ (.bl _) n g.ext (R.feed.grow g) rfl w]
  rcases Y with⟨z,_⟩|⟨dd,z,_,s⟩
  .rw[z]at f;cases f
  .rw[z]at f;cases f;exact#[_,B _ _ s]
 .exact w.elim
end
section

theorem TK{V:Fm->Prop}(a0:∀C k p,V C->V {C with kp:=k,zF:=p})(hp:pP (model X.prog X.w) X.A X.env X.xe)(hc:X.calm=t_)(a1:Gl X "enumerate")(hm:X.mg "enumerate"=s_)(h:PE X (.Name x p)^Bs i)(hg:DG X (.Tuple es j tpos) b)(hb:Ka V X κ body wb)
  (hs:∀y,foldedSetIterable (.Call (.Name "enumerate" cp) [.Name x p] [] pos) X.env y=pure y:=by intro _;rfl) (a2:starEach [.Name x p] X.env=[(u_,eval (.Name x p) X.env)]:=by rfl):
  c0 V X κ (.For (.Tuple es j tpos) (.Call (.Name "enumerate" cp) [.Name x p] [] pos) body [] fpos) (T6 i b wb):=by
 let#[g,g1,g2]:=hg;let#[tb,b1,b2]:=hb;refine#[_,JD hp hc (Xc a1 hm h a2) g1 b1 hs,λC M H n J W I E hC R L w=>?_];let#[d,hi,w]:=w;let#[v,e1,a3]:=R.sl i _ hi;let#[a,Y,rfl,nV,hH,a4]:=a3
 obtain⟨o,ho,N,F⟩:∃o,H a=P3 o/\¬Tl o/\∀c:Hp,c a=P3 o->SqL X.K c a Y:=by
  rcases hH with z|⟨u,z⟩
  .exact#[_,z,(by rintro⟨_,z⟩;cases z),λc e=>.inl^.inl e]
  .exact#[_,z,(by rintro⟨_,z⟩;cases z),λc e=>.inl^.inr #[u,e]]
 exists .ref a,getD_some e1,t_,a,Y,rfl,F H ho
 obtain⟨f,R1,D,st⟩:∃f,Rel X.K {C with kp:=f} M H n J W/\(∀{M H n J W},Rel X.K {C with kp:=f} M H n J W->Rel X.K C M H n J W)/\(∀l c r s B,Rel X.K {C with kp:=f,zF:=(M,H)::C.zF} l c r s B->SqL X.K c a Y):=by
  by_cases hM:M a
  .refine#[(a,o)::C.kp,#[R.len,R.sub,R.dom,R.ext,R.fU,R.uV,R.vM,R.feed,R.sl,R.pin,R.br0,R.new,R.two,λq O=>?_],λR=>R.lessKp,λl c r s B t=>F c (t.kept (a,o) No).1]
   rcases UF.mp O with rfl|O
   .refine#[ho,#[hM,N],nV,λj e q z=>?_]
    let#[u,hu]:=R.br0 i _ a hi e1
    have:=(R.new j _ a q rfl z).2
    rw[hu]at this;cases this
   .exact R.kept q O
  .exact#[C.kp,R,λR=>R,λl c r s B t=>F c^(t.pin (M,H) No).1 a o ho hM N]
 have el:=HB 0 d;exists λi m B c=>m=d.length - i/\i<=d.length/\∃l r s,Rel X.K {C with kp:=f,zF:=(M,H)::C.zF} l c r s B/\BF b wb I ((Ck 0 d).drop i) r s,#[d.length,by simp,jp _,M,n,J,R1.pinned,w];rintro i m B c ⟨rfl,a6,l,r,s,t,Z⟩;have pr:zg M H l c:=t.pin (M,H) No;have O:=st l c r s B t;have y:=OK (κ:=t_) a4 (i:=i) pr (show SqK t_ X.K c a Y from O) t.dom
 by_cases a5:i<d.length
 .have ed:(Ck 0 d).drop i=(Ck 0 d)[i]::(Ck 0 d).drop (i+1):=lX^by lk
  rw[ed]at Z;let#[go,yl]:=y.1 _ (Op^by lk);refine .inr #[go,λzN H2=>∃M2 n2 zM,Rel X.K {C with kp:=f,zF:=(M,H)::C.zF} M2 H2 n2 zM zN/\BF b wb I ((Ck 0 d).drop (i+1)) n2 zM,λzN H2 #[M2,n2,zM,G,w2]=>#[d.length - (i+1),by lk,rfl,a5,M2,n2,zM,G,w2],λx H2 hy=>?_];let#[gr,hx]:=yl x H2 hy;have G:=t.step gr.ext^t.feed.grow gr;refine g2 _ l H2 r s B _ x _ _ G hx Z λzP zV R3 w3=>?_;refine b2 _ l H2 r zP zV {I with nx:=BF b wb I^(Ck 0 d).drop (i+1),ct:=BF b wb I^(Ck 0 d).drop (i+1),bk:=I.nx} _ (a0 C _ _ hC) R3 #[λP H4 Q S zQ T U=>#[P,Q,S,T,U],L.rt,λP H4 Q S zQ T U=>L.nx P H4 Q S zQ (D T.yZ) U,λP H4 Q S zQ T U=>#[P,Q,S,T,U]] w3
 .have e:i=d.length:=by lk
  rw[List.drop_eq_nil_of_le^by lk]at Z;exact .inl #[y.2^by lk,L.nx l c r s B (D t.yZ) Z]
end
section

def TQ(r:Pss Φ X Pr)(G:QS X.prog X.w X.K X.mg X.base x k ps κ W)(s:zy k X.A)(u:Gl X x)(y:Ow X (e::es) was)
  (b:dbN x:=by decide) (z:X.sE e es:=by rfl) (c:(backTo pos^starEach es X.env).any (·.1)=u_:=by rfl):
  gy Φ X (.Call (.Name x p) (e::es) [] pos) κ (Ae (λg n P=>W g n P Pr) was):=by
 let#[E,B,D]:=r;let#[f,fd,G,F,I,J,L]:=G;let#[t,N,O]:=y;refine#[_,II G s u F I J .nil B N b z c,λC M H n i j P Q S R w q=>?_];refine O C M H n i j _ _ R w λvs H1 g l h m o p=>?_;have a:=R.step h m;rw[j5];exact#[(Paired.length o).trans^L _ _ _ _ p,_,_,_,M,l,g,P,Pr,#[a.dom,a.fU,a.uV,a.vM,m,o],p,λv H2 d T U V Y Z=>q v H2 d T (h.trans U) V (VR.back h Y) Z,D C M H1 l i j S a]
def P_(h:Pss Φ X Pr)(G:cv X.prog X.w X.K X.mg X.base nm ks k)(i:zy (k+1) X.A)(j:Gl X nm)(l:W3 X (e::es) d)(a:dbN nm:=by decide)(m:X.sE e es:=by rfl)(b:(backTo cpos^starEach es X.env).any (·.1)=u_:=by rfl)
  (o:(e::es).length<=sizeLine:=by decide):c0 Φ X κ (.Raise (P3^.Call (.Name nm p) (e::es) [] cpos) s_ pos) (λc=>O0 nm ks d c Pr):=by
 let#[E,q,s]:=h;let#[t,u,v]:=TJ (κ:=κ) (pos:=pos) (cpos:=cpos) (p:=p) G i j l a m b o;exact#[_,SK q u,λC M H n f g c y z r L w=>v C M H n f g c y E Pr r L (s C M H n f g z r) w]
def T_(i:Nat):Sg->v_ Slot->(Slot->Sg->Prop)->Prop:=λn b P=>match b[i]? with
 |some (.ex a nm ks c)=>P (.ex a nm ks c) n
 |some (.sh .non)=>P (.sh .non) n
 |_=>False
set_option tactic.hygienic true in
def cH(i:Nat)(f:X.N[i]?=P3 x:=by rfl)(g:Ov X.env.scope x:=by first|exact kF rfl|exact k6 (kF rfl)|exact k6 (k6 rfl))(b:dbN x:=by decide)
  (c:(x==("__classdict__":Str))=u_:=by decide):gY X (.Name x pos)^T_ i:=by
 refine#[_,DB f g b c,λC M H n j k P Q R w q=>?_];unfold T_ at w
 split at w
 .rename_i a nm ks h b
  let#[d,e]:=R.sl i _ b;exact#[_,getD_some d,q _ H (.ex a nm ks h) n (Ext.refl _ _) R.feed #[#[rfl,e],rfl] w]
 .rename_i b
  let#[v,d,e]:=R.sl i _ b;exact#[v,getD_some d,q _ H (.sh .non) n (Ext.refl _ _) R.feed #[#[v,rfl,e],rfl] w]
 .exact w.elim
end
def iV{K:Frag}{r:PX->AY}(F:Fun K x q d f fd)(S:A8 N g^AK d)
  (t:∀{c:Db}{A:kA}{a:v_ Env}{s:Go}{H:Hp}{E:XK}{e:PX}{i:Fm->Prop},zy k^A.deeper^envOfC q (AK d) s.heap.objs.size f c->Pss i (C5 (Kb P w) P w K j b N q (AK d) f c A a s H E) e->(∀C k p,i C->i {C with kp:=k,zF:=p})->Ka i (C5 (Kb P w) P w K j b N q (AK d) f c A a s H E) m (Aj d)^r e)
  (u:∀{ss n Pd e},W ss n Pd e->r e {nx:=λn _=>m=.sh/\Pd .non n,rt:=Pd} n (ss++jk (N.length - g.length) .no)) (o:g.length<=N.length:=by decide):
  zL P w K j b (Kb P w) (k+1) f fd g (eE K m W g.length):=fnX F S o (λc A a s H E e y U M l v=>t v (Pss.mk Nl l λC h=>h) λ_ _ _ h=>h) λ_ _ _ _ _ h=>u h
def V1{K:Frag}(h:∀j n P,v j n P->W j n P λ_ _ _ _=>False)(G:QS P w K p i x k t u W):Got P w K p i x k t u v:=by
 let#[f,fd,F,a,b,c,d]:=G;refine#[f,fd,#[λy H Q E z=>z.1,λA m s H o C y Q E D I J L N=>?_],a,b,c,λj n P g=>d j n P _^h j n P g];let#[l,O,U,R,M,n,j,S,T,V,q]:=N;refine mR (F.run A m s H o C y Q (λ_ _ _=>False) D I J L #[l,O,U,R,M,n,j,S,_,T,h _ _ _ V,q,λ_ _ _ _ _ _ _ _ _ _ _ _ _ _ _ z=>z]) λr Y B=>?_;cases r with
 |ok X=>cases X <;>exact B
 |error e=>
  let#[_,_,_,_,_,_,_,z]:=B;exact z.elim
end Dp
set_option maxHeartbeats 400000
namespace Nt
open L2 Dp
def QW(a:v_ Str)(i:Nat):Str:=a.getD i ""
def O9(a:v_ Str):Af:=#[QW a 1,QW a 2,(PySem.NumText.digitsVal^cs^QW a 3:Int)]
def A6:Nat->v_ Str->v_ Af->v_ Str->Sum (Nat×Nat) (v_ Str×v_ Af)
 |_,b,c,[]=>.inr (b,c)
 |a,b,c,x::r=>match DD (Txt.split x sp) b c with
  |some k=>.inl (a,k)
  |none=>if(QW (Txt.split x sp) 0=="place")=t_ then A6 (a+1) (b++[QW (Txt.split x sp) 1]) c r else A6 (a+1) b (c++[O9^Txt.split x sp]) r
def Rt:WX:=λb n P c=>∃a:v_ Str,b=[.br^.lst^a.map .str]/\(∀x∈a,ND x)/\a.length<=1000/\match A6 0 [] [] a with
 |.inr (d,e)=>P (.tup [.tup^d.map .str,.tup^e.map AZ]) n
 |.inl (r,k)=>c "NoLine" ["row","word"] [.int (r:Int),.int (k:Int)] n
def Oc(a:PX):AY:=(Au (Bj 5^i_ "str" V5 (AJ 4)^AM (wC^D.str " ") Ag)
 (Au (Bj 6^Ae Zw^AH (AS^AJ 5)^AH (B9^BC 1)^AH (B9^BC 2) AW)
 (Au (Cv (Am^Ak (OI t_) (AJ 6)^wC D.non) (λb=>(O0 "NoLine" ["row","word"]^AM (AJ 3)^AM (AJ 6) Ag) b a) B0)
 (Cv (Am^Ak (RN u_) (Ak CI (AJ 5)^wC^D.int 0)^wC^D.str "place") (Ww 1 "list" Kw^AM (Ak CI (AJ 5)^wC^D.int 1) Ag)^Ww 2 "list" Kw^AM (D7^AM (Ak CI (AJ 5)^wC^D.int 1)^AM (Ak CI (AJ 5)^wC^D.int 2)^AM (EZ Zg^AM (Ak CI (AJ 5)^wC^D.int 3) Ag) Ag) Ag))))
def GW(a:PX):AY:=(Au (Ic 1^L4 Ag)
 (Au (Ic 2^L4 Ag)
 (Au (T6 0 (Od 2^CG (Bm 3)^CG (Bm 4) KC)^Oc a)
 (Cd^D7^AM (EZ Cb^AM (BC 1) Ag)^AM (EZ Cb^AM (BC 2) Ag) Ag))))
def Qx(h:Bn a d e=s_):∃b w,a=[b,w]/\e=[]/\d.length≠24/\Du w:=by
 unfold Bn at h
 split at h
 .cases h
 .rename_i c
  simp only[oh,mU,beq_iff_eq,not_or,qe]at c
  match a,h with
  |[],h=>cases h
  |[_],h=>cases h
  | b::w::r,h=>
   rw[ZP]at h
   split at h
   .cases h
   .rename_i f
    split at h
    .rename_i g
     simp only[oh,mU,not_or,qe]at f;let#[x,ex,i]:=yG.mp f.1;cases ex;exact#[b,w,by rw[rC.mp g],rC.mp c.1,c.2,i]
    .cases h
def Qc(h:B5 d e f=s_):∃g a b c,d=[g,a,b,c]/\f.length≠60/\e.contains a=t_/\PN a b e f=t_/\Fi c=t_:=by
 unfold B5 at h
 split at h
 .cases h
 .rename_i i
  match d,h with
  |[],h=>cases h
  |[_],h=>cases h
  | g::a::r,h=>
   rw[aN]at h
   split at h
   .cases h
   .rename_i j
    match r,h with
    |[],h=>cases h
    | b::r,h=>
     rw[dg]at h
     split at h
     .cases h
     .rename_i k
      match r,h with
      |[],h=>cases h
      | c::r,h=>
       rw[df]at h
       split at h
       .cases h
       .rename_i l
        split at h
        .rename_i m
         exact#[g,a,b,c,by rw[rC.mp m],by simpa using i,by simpa using j,by simpa using k,by simpa using l]
        .cases h
theorem LK:∀(G:v_ Str) (d:Nat) (f:v_ Str) (g:v_ Af) (t u v A:Slot),(∀x∈G,ND x)->(∀p∈f,Du p)->f.length<=24->g.length<=60->(match A6 d f g G with
   |.inr (B,C)=>B.length<=24->C.length<=60->∀t u v A,D2.nx n [.br all,.ow^.lst^B.map .str,.ow^.lst^C.map AZ,t,u,v,A]
   |.inl (r,k)=>Pr "NoLine" ["row","word"] [.int (r:Int),.int (k:Int)] n)->
  BF (Od 2^CG (Bm 3)^CG (Bm 4) KC) (Oc Pr) D2 (Ck d^G.map .str) n [.br all,.ow^.lst^f.map .str,.ow^.lst^g.map AZ,t,u,v,A]
 |[],_,f,g,t,u,v,A,_,_,E,H,h=>h E H t u v A
 | x::r,d,f,g,t,u,v,A,I,s,E,H,h=>by
  have Y:=PySem.sizeLine_eq;let#[#[O,P,Q,R,_],ok]:=NG^I x No;have S:=LK (Pr:=Pr) (n:=n) (all:=all) (D2:=D2) r (d+1);rw[A6]at h;exists rfl,rfl,rfl,x,sp,rfl,rfl,O,P,Q,R;exists Txt.split x sp,f,g,rfl,ok,s,E,H;clear O P Q R;generalize Txt.split x sp=l at h ok ⊢
  obtain⟨w,q,J⟩:∃w q,l=w::q:=by
   cases l with
   |nil=>exact absurd rfl ok.1
   |cons w q=>exact#[w,q,rfl]
  have Z:(l.map D.str)[0]?=P3^D.str w:=by rw[J];rfl
  have K:QW l 0=w:=by rw[J];rfl
  cases e:DD l f g with
  |some k=>
   rw[e]at h;exact#[rfl,.inr #[rfl,rfl,h]]
  | none=>
   rw[e,K]at h;exists rfl,_,AE (j:=0) Z;show if(w==("place":Str))=t_ then _ else _
   have o:DD l f g=if(w=="place")=t_ then Bn l f g else if(w=="tie")=t_ then B5 l f g else P3 0:=by rw[J];rfl
   rw[e]at o;cases T:w==("place":Str)with
   | true=>
    rw[T]at h o;let#[F,y,ey,rfl,hn,hy]:=Qx o.symm;subst ey;refine BE #[_,rfl,rfl,_,AE (j:=1) rfl,_,_,rfl,rfl,by rw[Ev];lk,?_]
    have z:=S (f++[y]) [] (.sh^.int (d:Int)) (.sh^.str x) (.sh^.lst [.str F,.str y]) (.sh .non) (λx L=>I x^Rs _ L) (λp M=>by
     rcases jj.mp M with N|N
     .exact s p N
     .rw[Re.mp N];exact hy) (by rw[eq,kN];lk) (jp _) h
    rw[j8]at z;exact z
   | false=>
    rw[T]at h o;cases U:w==("tie":Str)with
    |false=>rw[U]at o;cases o
    |true=>
    rw[U]at o;let#[F,a,b,c,ec,hn,ha,hs,V]:=Qc o.symm;subst ec
    have hg:Dv c=t_:=by
     unfold Fi at V;exact(jv _ _▸V).1
    let#[i,i1,i2,X,_]:=G8 hg
    have hv:(PySem.NumText.digitsVal^cs c:Int)=i:=by
     let#[m,rfl,_,em]:=Gy i1;rw[X,em,PySem.W.KIN.val_back]
    refine Ay #[_,rfl,rfl,_,AE (j:=1) rfl,_,AE (j:=2) rfl,_,AE (j:=3) rfl,i,by rw[X];rfl,by lk,by lk,z3,_,_,rfl,rfl,by rw[Ev];lk,?_]
    have z:=S f (g++[#[a,b,i]]) (.sh^.int (d:Int)) (.sh^.str x) (.sh^.lst [.str F,.str a,.str b,.str c]) (.sh .non) (λx L=>I x^Rs _ L) s E (by rw[eq,kN];lk) (by
     rw[show O9 [F,a,b,c]=#[a,b,i] by show(#[a,b,(PySem.NumText.digitsVal^cs c:Int)]:Af)=_;rw[hv]]at h;exact h)
    rw[j8]at z;exact z
def Kf(h:Rt a n b c):GW c (EE b) n (a++jk 6 .no):=by
 let#[d,rfl,f,i,h]:=h;have g:=PySem.sizeLine_eq;unfold GW;exists z0,z0,_,rfl;refine LK d 0 [] [] .no .no .no .no f (λ_ z=>absurd z jw) (jp _) (jp _) ?_;cases e:A6 0 [] [] d with
 |inl q=>rw[e]at h;exact h
 |inr q=>
  rw[e]at h;exact λj k l m o p=>#[z2,h]
end Nt
set_option maxHeartbeats 4000000
namespace Nt
open L2 Dp
end Nt
namespace L2
end L2
namespace Dp
open L2
end Dp
namespace Nt
open L2 Dp
end Nt
namespace L2
section

theorem PF(I:Inv X zF σ H s)(f:StrsAre d j)(g:d.length<64)
  (q:∀(c:v_ Str) (l:Ch),c.Perm j->sortedS c=t_->H l=s_->Q (.ref l)^AX H l^.lst^c.map V.str):
  wpAny (model X.prog X.w) u (lm.«list.sort» #[[.ref s.heap.objs.size],[]]) (λh x=>h=.done^.ret .none/\EP X zF σ Q (.ref s.heap.objs.size) x) v {s with heap:=s.heap.push^seqObj "list" d.toArray 0}:=by
 have k:(s.heap.push^seqObj "list" d.toArray 0).get? s.heap.objs.size=P3^seqObj "list" d.toArray 0:=TW _ rfl;refine list_sort_treeK strKind_oneLt k f.keysOf (λm n p e=>keyKind_strs^by rw[←e];exact f) g λi y A=>#[rfl,?_];let#[c,r,t,B]:=sorted_out_str f y A;let#[e,C]:=sortedHeap_at (out:=(arrOf i).map (·.2)) k;have D:H s.heap.objs.size=s_:=I.fresh;have E:=(B_ r).length;have F:=(B_ f).length;have G:=t.length_eq;rw[Ev]at E F;refine#[.ref s.heap.objs.size,AX H s.heap.objs.size^.lst^c.map V.str,I.laid (t':=s.toks) (λb o z=>?_) (Sc _) #[by rw[Ev,kJ];lk,_,e,B_ r,C],rfl,q c _ t B D];rw[sortedHeap_old (jo^Tk z)^by rw[size_push'];exact lL^Tk z];exact FM _ z
end
end L2
namespace Dp
open L2
end Dp
namespace L2
section
variable {X:Cx}
def Um(K:Frag):v_ V->Hp->VK->Prop:=λc H Q=>∃(p:Ch) (b:v_ Str),c=[.ref p]/\SqT K H p^b.map V.str/\b.length<64/\∀(a:v_ Str) (l:Ch),a.Perm b->sortedS a=t_->H l=s_->Q (.ref l)^AX H l^.lst^a.map V.str
theorem QG:zS X (.builtin "sorted")^Um X.K:=by
 intro i s j H k b Q I r h;let#[p,l,rfl,c,d,q]:=h;let#[u,rfl,e]:=vals1 r;cases e;exact Cy (args_sorted1 _) (λx=>args_list_sort _)^Jz (κ:=u_) I c λb m a f g=>#[by rw[←a.length];exact f,PF g (Ip a) (by have:=a.length;rw[Ev]at this;lk) q]
end
end L2
namespace Dp
open L2
def bu(c:v_ D)(P:D->Prop):Prop:=∃b:v_ Str,c=[.tup^b.map .str]/\b.length<64/\∀a:v_ Str,a.Perm b->sortedS a=t_->P^.lst^a.map .str
def Yf{K:Frag}:Bw K .fr (Um K) bu:=by
 intro U M H t u P Q m y n w q;let#[b,rfl,g,w]:=w;let#[v,rfl,i]:=CJ n;let#[a,c,rfl,o,j]:=i.tup
 have d:∀{b:v_ Str}{c:v_ V},Ats K M H (b.map D.str) c->c=b.map V.str:=by
  intro b
  induction b with
  |nil=>intro c h;exact h
  |cons x b p=>
   rintro c ⟨v,r,e,f,d⟩;rw[e,f.1,p d];rfl
 have e:=d j;subst e;exact#[a,b,rfl,o.sq,g,λs l f d k=>q _ _ _ (AV k) (Bg k^Ats.strs λx i=>j.yw x^f.mem_iff.mp i)^w _ f d]
end Dp
namespace Nt
open L2 Dp
def tD(t b:Int):D:=.tup [.int t,.int b]
def NQ(t b:Int):Prop:=1<=b/\b<=1000000/\1<=t/\t<=1000000
def kc(C:Ch)(t b:Int)(N M:Net):Wc:=.ins C ["times","whole","kept"] [tD t b,enc N,enc M]
def IsT(N:Net)(t b:Int)(M:Net):Prop:=∃a:v_ Af,a.Perm N.ts/\Fs a/\M=sub N^Ct N t b [] a
def OutT(A B l:v_ Af):Prop:=l.Perm (A.filter λt=>decide (t∉B))/\Fs l
def Mt(n:Sg)(a b:Ch)(x y:v_ Af):Sg:=(n.put a^.pl^.lst^x.map AZ).put b^.pl^.lst^y.map AZ
def Lx(C:Ch)(n:Sg)(a:Ch)(t b:Int)(M N:Net)(P:D->Sg->Prop):Prop:=∀(T:Net) (c d:v_ Af) (e f:Ch),IsT N t b T->OutT T.ts M.ts c->OutT M.ts T.ts d->n.w e=s_->n.w f=s_->e≠f->P (.tup [.ob e,.ob f])^Mt (n.put a^kc C t b N T) e f c d
def Te(x y:Str)(u:Af):Prop:=(u.a=x/\u.b=y)\/(u.a=y/\u.b=x)
noncomputable def A_(x y:Str)(u:Af):Bool:=@decide (Te x y u)^mZ _
noncomputable def Tg(x:Str)(u:Af):Bool:=@decide (u.a=x\/u.b=x)^mZ _
def Yp:W2:=λa n P=>∃N M:Net,a=[.sh^enc N,.sh^enc M]/\okN N/\okN M/\∀l,OutT N.ts M.ts l->P (.lst^l.map AZ) n
def Rq:W2:=λb n P=>∃(N:Net) (a:v_ Af),b=[.sh^enc N,.br^.lst^a.map AZ]/\okN N/\(∀u∈a,u∈N.ts)/\P (enc #[N.ps,N.ts.filter λt=>decide (t∉a)]) n
def KR:W2:=λa n P=>a=[.fd]/\1<=n.n/\∀t b:Int,1<=b->b<=t->t<=1000000->P (tD t b) (n - 1)
def Rw(C:Ch):W2:=λc n P=>∃(a:Ch) (t b:Int),c=[.sh^.ob a,.sh^tD t b]/\n.w a=P3^.ins C [] []/\P .non^n.put a^kc C t b #[[],[]] #[[],[]]
def M6(C:Ch):W2:=λc n P=>∃(a:Ch) (t b:Int) (d M N:Net),c=[.sh^.ob a,.sh^enc N]/\n.w a=P3^kc C t b d M/\okN N/\okN M/\NQ t b/\Lx C n a t b M N P
def NE(C:Ch)(n:Sg)(a:Ch)(t b:Int)(N M:Net):Prop:=n.w a=P3^kc C t b N M/\okN N/\okN M/\NQ t b
def Wq(C:Ch):W2:=λc n P=>∃(a:Ch) (t b:Int) (N M:Net) (x:Str),c=[.sh^.ob a,.sh^.str x]/\NE C n a t b N M/\x∈N.ps/\P .non n
def Wn(C:Ch):W2:=λc n P=>∃(a:Ch) (t b:Int) (N M:Net) (x y:Str),c=[.sh^.ob a,.sh^.str x,.sh^.str y]/\NE C n a t b N M/\x∈N.ps/\y∈N.ps/\x≠y/\P (.lst^(N.ts.filter^A_ x y).map AZ) n
def Yk(C:Ch):W2:=λc n P=>∃(a:Ch) (t b:Int) (N M:Net) (x y:Str) (u:Af),c=[.sh^.ob a,.sh^.str x,.sh^.str y]/\NE C n a t b N M/\x∈N.ps/\y∈N.ps/\x≠y/\N.ts.filter^A_ x y=[u]/\P (AZ u) n
inductive Dd where
 |come (x:Str)|go (x:Str)|lay (x y:Str) (l:Int)|take (x y:Str)
def Lf:Dd->D
 |.come x=>.tup [.str "come",.str x]
 |.go x=>.tup [.str "go",.str x]
 |.lay x y l=>.tup [.str "lay",.str x,.str y,.int l]
 |.take x y=>.tup [.str "take",.str x,.str y]
def lo(x y:Str):Str:=if cs x<cs y then x else y
def hi(x y:Str):Str:=if cs x<cs y then y else x
def QT(N:Net):Dd->Net->Prop
 |.come x,a=>Du x/\x∉N.ps/\a.ps.Perm (x::N.ps)/\a.ts=N.ts
 |.go x,a=>x∈N.ps/\a=#[N.ps.filter λy=>decide (y≠x),N.ts.filter λu=>!Tg x u]
 |.lay x y l,a=>x∈N.ps/\y∈N.ps/\x≠y/\1<=l/\l<=1000000/\a.ps=N.ps/\a.ts.Perm (#[lo x y,hi x y,l]::N.ts.filter λu=>!A_ x y u)
 |.take x y,a=>(∃u,N.ts.filter^A_ x y=[u])/\x∈N.ps/\y∈N.ps/\x≠y/\a=#[N.ps,N.ts.filter λu=>!A_ x y u]
def OF(N:Net):Prop:=N.ps.length<=20/\N.ts.length<=50
def Yr(C:Ch):W2:=λd n P=>∃(a:Ch) (t b:Int) (N M c:Net) (x:Str),d=[.sh^.ob a,.sh^.str x]/\NE C n a t b N M/\OF N/\QT N (.come x) c/\okN c/\Lx C n a t b M c P
def Zx(C:Ch):W2:=λd n P=>∃(a:Ch) (t b:Int) (N M c:Net) (x:Str),d=[.sh^.ob a,.sh^.str x]/\NE C n a t b N M/\OF N/\QT N (.go x) c/\okN c/\Lx C n a t b M c P
def ce(C:Ch):W2:=λd n P=>∃(a:Ch) (t b:Int) (N M c:Net) (x y:Str) (l:Int),d=[.sh^.ob a,.sh^.str x,.sh^.str y,.sh^.int l]/\NE C n a t b N M/\OF N/\QT N (.lay x y l) c/\okN c/\Lx C n a t b M c P
def Yl(C:Ch):W2:=λd n P=>∃(a:Ch) (t b:Int) (N M c:Net) (x y:Str),d=[.sh^.ob a,.sh^.str x,.sh^.str y]/\NE C n a t b N M/\OF N/\QT N (.take x y) c/\okN c/\Lx C n a t b M c P
def cZ(C:Ch):W2:=λc n P=>∃(a:Ch) (t b:Int) (N M:Net),c=[.sh^.ob a]/\n.w a=P3^kc C t b N M/\P (enc N) n
def cY(C:Ch):W2:=λc n P=>∃(a:Ch) (t b:Int) (N M:Net),c=[.sh^.ob a]/\n.w a=P3^kc C t b N M/\P (enc M) n
def Yq(C:Ch):W2:=λc n P=>∃(a:Ch) (t b:Int) (N M:Net) (x y:Str),c=[.sh^.ob a,.sh^.str x,.sh^.str y]/\NE C n a t b N M/\N.ps=M.ps/\x∈N.ps/\y∈N.ps/\∀o,gv M x y o->P (bM o) n
def tk(u:Af):v_ Key:=[.inr u.a,.inr u.b]
def Hx(a:v_ Str):D:=.lst^a.map .str
def Fx(a:v_ Af):D:=.dit (a.map tk)^a.map λu=>.int u.len
def M_(N:Net)(a:v_ Str)(b:v_ Af):Prop:=N.ps.Perm a/\N.ts.Perm b/\okN N
def EV(x y:D):D:=.dic [.inr "places",.inr "ties"] [x,y]
def Ex:W2:=λc n P=>∃(N:Net) (a:v_ Str) (b:v_ Af),c=[.sh^EV (Hx a)^Fx b]/\M_ N a b/\P (enc N) n
def Ym:W2:=λa n P=>∃x y:Str,a=[.sh^.str x,.sh^.str y]/\Du x/\Du y/\x≠y/\P (.tup [.str^lo x y,.str^hi x y]) n
def Rx:W2:=λi n P=>∃(l t:Ch) (N f:Net) (g:v_ Str) (h:v_ Af) (d:Dd),i=[.sh^EV (.ob l)^.ob t,.sh^Lf d]/\l≠t/\n.w l=P3^.pl^Hx g/\n.w t=P3^.pl^Fx h/\M_ N g h/\QT N d f/\okN f /\
 ∀(a:Sg) (c:v_ Str) (e:v_ Af),a.n=n.n->a.w l=P3^.pl^Hx c->a.w t=P3^.pl^Fx e->M_ f c e->(∀b,b≠l->b≠t->a.w b=n.w b)->P .non a
def FJ(C:Ch):W2:=λe n P=>∃(a:Ch) (t b:Int) (N M c:Net) (d:Dd),e=[.sh^.ob a,.sh^Lf d]/\NE C n a t b N M/\OF N/\QT N d c/\okN c/\Lx C n a t b M c P
def IY:W2:=λe n P=>∃(N:Net) (b:v_ Str) (c:v_ Af) (a:v_ Str) (k:Int),e=[.fd,.sh^EV (Hx b)^Fx c,.sh^.tup^a.map .str,.sh^.int k]/\M_ N b c/\a.Nodup/\(∀x∈a,Du x)/\2<=a.length/\a.length<=20/\(∀x∈b,x∈a)/\c.length<=50/\0<=k/\k<=4/\5<=n.n /\
 ∀(d:Dd) (m:Nat),(match d with|.come x=>x∈a/\x∉b|.go x=>x∈b|.lay x y l=>x∈b/\y∈b/\x≠y/\1<=l/\l<=1000000|.take x y=>∃u∈c,Te x y u)->n.n<=m+5->P (Lf d) #[m,n.w]
def Rf(C_Keeper:Ch):AY:=(Au (HM^HL C_Keeper "ask_place" (Wq C_Keeper) (AJ 0)^AH (AS^AJ 1) AW)
 (Au (Bj 2^HN [P3 1,s_] (FV^Ak CI (T8 C_Keeper "whole"^AJ 0)^wC^D.int 0) (Bm 1) (Am^Ak (RN t_) (AJ 1)^AJ 0)^AJ 1)
 (Au (Bj 3^HN [P3 1,s_] (FV^Ak CI (T8 C_Keeper "whole"^AJ 0)^wC^D.int 1) (Bm 1) (Am^Ak (V8 t_) (AJ 0)^Z8 OH (AJ 1) D8^Ie^wC^D.int 2)^AJ 1)
 (Cd^HL C_Keeper "turn_to" (M6 C_Keeper) (AJ 0)^AH (AS^D7^AM (EZ Cb^AM (AJ 2) Ag)^AM (EZ Cb^AM (AJ 3) Ag) Ag) AW))))
def MF(n:Sg)(a:Ch)(c d:Wc):(n.put a c).put a d=n.put a d:=by
 unfold Sg.put
 congr 1
 funext b
 by_cases h:b=a
 .simp only[h,if_pos]
 .simp only[if_neg h]
def CB(n:Sg)(a:Ch)(c:Wc):(n.put a c).w a=P3 c:=if_pos rfl
def CM{n:Sg}(h:b≠a):(n.put a c).w b=n.w b:=if_neg h
def NP(a:v_ Str):flat^.tup^a.map .str=t_:=by
 show A7 _=t_
 induction a with
 |nil=>rfl
 |cons x a b=>show(t_&&A7^a.map D.str)=t_;rw[b];rfl
def Fo(a:v_ Af):A7^a.map AZ=t_:=by
 induction a with
 |nil=>rfl
 |cons u a b=>show(flat^AZ u&&A7^a.map AZ)=t_;rw[b];rfl
def Dx(N:Net):flat^enc N=t_:=by
 show(flat^.tup^N.ps.map .str&&(flat^.tup^N.ts.map AZ&&t_))=t_;rw[NP,show flat^.tup^N.ts.map AZ=t_ from Fo N.ts];rfl
theorem IsT.okN(h:IsT N t b T)(ok:okN N):okN T:=by
 let#[a,_,_,rfl]:=h;exact L8 ok _
def IsT.uniq(h:IsT N t b T)(c:IsT N t b a):T=a:=by
 let#[i,d,e,rfl]:=h;let#[j,f,g,rfl]:=c;rw[HS (d.trans f.symm) e g]
def OutT.uniq(h:OutT A B l)(b:OutT A B a):l=a:=HS (h.1.trans b.1.symm) h.2 b.2
section
def OE(A B:v_ Af):(A.map AZ).filter (λd=>!((B.map AZ).any λy=>Fn y d))=(A.filter λt=>decide (t∉B)).map AZ:=by
 rw[oi]
 congr 1
 refine mW λt _=>?_;show(!((B.map AZ).any λy=>Fn y^AZ t))=decide (t∉B);rw[Yd,decide_not]
def X1{N:Net}(ok:N.Ok):CT^.tup^N.ts.map AZ:=(N5 ok λ_ h=>h).1
def Hc{N:Net}(ok:N.Ok):CT^.tup^N.ps.map .str:=FA ok.names
def FD(x y:Str):Fn (.str x)^.str y=(x==y):=rfl
def Mz{a:v_ Str}:((a.map D.str).any λy=>Fn y^.str x)=decide (x∈a):=by
 rw[kR,nO,decide_eq_true_eq];constructor
 .rintro⟨d,b,e⟩
  let#[y,c,rfl]:=TM.mp b;rw[FD,beq_iff_eq]at e;rw[←e];exact c
 .exact λh=>#[.str x,TM.mpr #[x,h,rfl],by rw[FD,beq_self_eq_true]]
end
def gZ:1<=sizeLine:=by cbv
def F2(h:rising c):c.Nodup:=h.imp λ{a b} z e=>by rw[e]at z;exact BK _ z
def LC(x y:Str):cs x<cs y\/x=y\/cs y<cs x:=by
 by_cases a:cs x<cs y
 .exact .inl a
 .by_cases b:cs y<cs x
  .exact .inr^.inr b
  .refine .inr^.inl ?_
   have:=LP (.inr x) (.inr y) (decide_eq_false a)^decide_eq_false b
   exact mG this
def ES(h:cs x<cs y):¬cs y<cs x:=λg=>BK _^nX h g
def Vf(h:x≠y):(if decide (cs y<cs x)=t_ then y else x)=lo x y:=by
 unfold lo
 rcases LC x y with g|g|g
 .rw[if_pos g,if_neg^by rw[decide_eq_true_eq];exact ES g]
 .exact absurd g h
 .rw[if_neg^ES g,if_pos^decide_eq_true g]
def Vg(h:x≠y):(if decide (cs x<cs y)=t_ then y else x)=hi x y:=by
 unfold hi
 rcases LC x y with g|g|g
 .rw[if_pos g,if_pos^decide_eq_true g]
 .exact absurd g h
 .rw[if_neg^ES g,if_neg^by rw[decide_eq_true_eq];exact ES g]
def ZX(h:x≠y):cs^lo x y<cs^hi x y/\(lo x y=x/\hi x y=y\/lo x y=y/\hi x y=x):=by
 unfold lo hi
 rcases LC x y with g|g|g
 .rw[if_pos g,if_pos g];exact#[g,.inl #[rfl,rfl]]
 .exact absurd g h
 .rw[if_neg^ES g,if_neg^ES g];exact#[g,.inr #[rfl,rfl]]
def Ew(h:x≠y)(i:cs u.a<cs u.b):Te x y u↔u.a=lo x y/\u.b=hi x y:=by
 let#[l,c]:=ZX h;unfold Te;constructor
 .rintro(⟨f,g⟩|⟨f,g⟩)
  .rcases c with⟨d,e⟩|⟨d,e⟩
   .rw[d,e];exact#[f,g]
   .rw[d,e]at l;rw[f,g]at i;exact absurd l^ES i
  .rcases c with⟨d,e⟩|⟨d,e⟩
   .rw[d,e]at l;rw[f,g]at i;exact absurd l^ES i
   .rw[d,e];exact#[f,g]
 .rintro⟨f,g⟩
  rcases c with⟨d,e⟩|⟨d,e⟩
  .exact .inl #[f.trans d,g.trans e]
  .exact .inr #[f.trans d,g.trans e]
def vV:A_ x y u=t_↔Te x y u:=by
 unfold A_;exact @decide_eq_true_iff _^mZ _
def yF:Tg x u=t_↔u.a=x\/u.b=x:=by
 unfold Tg;exact @decide_eq_true_iff _^mZ _
def YD(a b c d:Str):Fn (.tup [.str a,.str b])^.tup [.str c,.str d]=t_↔a=c/\b=d:=by
 show((a==c)&&((b==d)&&t_))=t_↔_;simp
def E_(b:Du x)(c:Du y):CT^.tup [.str x,.str y]:=FA (ps:=[x,y]) λp a=>by
 rcases UF.mp a with rfl|a
 .exact b
 .rw[Re.mp a];exact c
def Ss(a:Du x)(b:Du y):Du^lo x y/\Du^hi x y:=by
 unfold lo hi
 split <;>exact#[by assumption,by assumption]
def V4(x:Str)(a:v_ Str):(a.map D.str).filter (λd=>match d with|.str y=>!(y==x)|_=>u_)=(a.filter λy=>decide (y≠x)).map .str:=by
 rw[oi]
 congr 1
 refine mW λy _=>?_;show(!(y==x))=decide (y≠x);rw[decide_not,pV]
def Qa:([D.str a,D.str b].any λy=>Fn y^.str x)=(decide (a=x)||decide (b=x)):=by
 show((a==x)||((b==x)||false))=_;rw[Bool.or_false,pV,pV]
section
variable {ss:v_ Slot}{n:Sg}{Pd:D->Sg->Prop}{C:Addr}
theorem XU(h:Zx C ss n Pd):Rf C (EE Pd) n (ss++jk 2 .no):=by
 let#[a,t,b,N,M,G,x,rfl,k,#[v,w],#[q,rfl],g,p]:=h;have ok:=k.2.1;have r:=ok.1.names x q;unfold Rf;exists a,_,_,rfl,k.1,by cbv,a,t,b,N,M,x,rfl,k,q;refine#[a,_,_,_,rfl,k.1,rfl,_,AE (j:=0) rfl,by show(N.ps.map D.str).length<=10000000;rw[Ev];lk,?_];refine Cg (λd=>match d with|.str y=>!(y==x)|_=>u_) id (λf=>∃s,f=[.sh^.str x,s]) _ _ _ _ ?_ #[_,rfl] ?_
 .rintro d i f m r z ⟨s,rfl⟩ l o
  let#[y,H,rfl]:=TM.mp i;show if(!(y==x))=t_ then _ else _
  exact Eo (λc=>l _ #[_,rfl] c) λc=>o _ #[_,rfl]^lC.mpr c
 rw[j7,oX,V4];refine#[a,_,_,_,rfl,k.1,rfl,_,AE (j:=1) rfl,by show(N.ts.map AZ).length<=10000000;rw[Ev];lk,?_];refine Cg (λd=>!Tg x (TR d)) id (λf=>∃s,f=[.sh^.str x,s]) _ _ _ _ ?_ #[_,rfl] ?_
 .rintro d i f m A z ⟨s,rfl⟩ l o
  let#[u,B,rfl]:=TM.mp i;let#[E,F,I,_]:=ok.1.tin u B;exists Cj r,E_ (ok.1.names _ E)^ok.1.names _ F,_,rfl
  have e:([D.str u.a,D.str u.b].any λy=>Fn y^.str x)=Tg x u:=by
   rw[Qa,kR,yF,oh,decide_eq_true_eq,decide_eq_true_eq]
  show if(!([D.str u.a,D.str u.b].any λy=>Fn y^.str x))=t_ then _ else _
  rw[e];exact Eo (λc=>l _ #[_,rfl] c) λc=>o _ #[_,rfl]^lC.mpr c
 rw[j7,oX,oi];exists a,_,_,rfl,k.1,by cbv,z2;exact#[a,t,b,N,M,_,rfl,k.1,g,k.2.2.1,k.2.2.2,p]
end
def tk_eq:tk s=tk t↔s.a=t.a/\s.b=t.b:=by
 unfold tk;simp
def O8{N:Net}(ok:N.Ok):(N.ts.map tk).Nodup:=pD.mpr (ok.vQ.imp λ{s t} h e=>by
 let#[a,b]:=tk_eq.mp e
 rcases h with h|⟨_,h⟩
 .rw[a]at h;exact BK _ h
 .rw[b]at h;exact BK _ h)
def aL(h:BU s t):Be (tk t)^tk s=u_:=by
 show(if(mB t.a:Key)=.inr s.a then(if(mB t.b:Key)=.inr s.b then u_ else decide (t.b.cps.toList<s.b.cps.toList))else decide (t.a.cps.toList<s.a.cps.toList))=u_
 rcases h with h|⟨e,h⟩
 .rw[if_neg λz=>by rw[mG z]at h;exact BK _ h]
  exact decide_eq_false^ES h
 .rw[if_pos (by rw[e]),if_neg λz=>by rw[mG z]at h;exact BK _ h]
  exact decide_eq_false^ES h
def NR{N:Net}(ok:N.Ok)(e:N.ts.Perm d)(h1:c.Perm^d.map tk)(f:c.Pairwise λa b=>Be b a=u_):c=N.ts.map tk:=
 E6 (λa b x y=>CS _ _ y x) (h1.trans (e.map tk).symm) f (pD.mpr^ok.vQ.imp λ{s t} h=>aL h)
theorem O3:∀{a:v_ Af}{t:Af},(a.map tk).Nodup->t∈a->Ea (a.map tk) (a.map λu=>.int u.len)^tk t=P3^.int t.len
 |[],_,_,h=>by cases h
 |u::a,t,b,h=>by
  rw[jy,j6]at b;show(if tk u=tk t then P3^D.int u.len else Ea (a.map tk) (a.map λu=>D.int u.len)^tk t)=_
  rcases UF.mp h with rfl|h
  .rw[if_pos rfl]
  .rw[if_neg (λz=>b.1^by rw[z];exact TM.mpr #[t,h,rfl]),O3 b.2 h]
def Qh(h:P x):CK (EV x y) (.str "places") P:=#[_,_,.inr "places",x,rfl,rfl,rfl,h]
def HP(h:P y):CK (EV x y) (.str "ties") P:=#[_,_,.inr "ties",y,rfl,rfl,by
 show(if(mB "places":Key)=.inr "ties" then P3 x else if(mB "ties":Key)=.inr "ties" then P3 y else s_)=P3 y;rw[if_neg^by cbv,if_pos rfl],h]
theorem V3{N:Net}(ok:N.Ok)(e:N.ts.Perm d):∀k∈d.map tk,∀x∈k,EJ x:=λk f x c=>by
 let#[u,g,rfl]:=TM.mp f;let#[h,i,_]:=ok.tin u^e.mem_iff.mpr g;have j:=PySem.sizeLine_eq;have l:=(ok.names _ h).2.1;have m:=(ok.names _ i).2.1
 rcases UF.mp c with rfl|c
 .show u.a.length<=sizeLine;lk
 .rw[Re.mp c];show u.b.length<=sizeLine;lk
section
theorem UM(b:okN N)(d:N.ts.Perm a):(a.map tk).length=(a.map λu=>D.int u.len).length/\(a.map tk).length<64/\(∀x∈a.map tk,∀y∈a.map tk,BI x y=t_)/\(∀x∈a.map tk,x≠[]):=by
 have e:=b.2.2;have g:=d.length_eq;refine#[by rw[Ev,Ev],by rw[Ev];lk,λx c y f=>?_,λx c=>?_]
 .let#[u,_,rfl]:=TM.mp c
  let#[v,_,rfl]:=TM.mp f;rfl
 .let#[u,_,rfl]:=TM.mp c
  exact k_ _ _
end
def Im(a:v_ Str):A7^a.map .str=t_:=NP a
def P2(a:v_ Af):A7 (a.map λu=>D.int u.len)=t_:=by
 induction a with
 |nil=>rfl
 |cons u a b=>show(t_&&A7^a.map λu=>D.int u.len)=t_;rw[b];rfl
def O7(a:v_ Af):A7^(a.map tk).map tupK=t_:=by
 induction a with
 |nil=>rfl
 |cons u a b=>show(flat^tupK^tk u&&A7^(a.map tk).map tupK)=t_;rw[b];rfl
def XY(a:v_ Str):Ll^Hx a:=Im a
def Qb(a:v_ Af):Ll^Fx a:=P2 a
def Zj(a:v_ Af)(j:Nat):D.dit ((a.map tk).eraseIdx j)^(a.map λu=>D.int u.len).eraseIdx j=Fx^a.eraseIdx j:=by
 rw[HA,HA];rfl
theorem Rh{b:Type}[DecidableEq b]:∀{a:v_ b}{x:b},x∈a->∃j:Nat,a[j]?=P3 x/\(∀m y,m<j->a[m]?=P3 y->y≠x)/\(x::a.eraseIdx j).Perm a
 |[],_,h=>by cases h
 | y::a,x,h=>by
  by_cases e:y=x
  .subst e
   exact#[0,rfl,λm _ c=>absurd c^Nat.not_lt_zero _,List.Perm.refl _]
  .let#[j,f,g,i]:=Rh^(UF.mp h).resolve_left λz=>e z.symm
   exists j+1,f,λm z c d=>?_
   .cases m with
    |zero=>cases d;exact e
    |succ m=>exact g m z (by lk) d
   .show(x::y::a.eraseIdx j).Perm (y::a)
    exact(rX ..).trans^i.cons y
def GL{c:Type}[DecidableEq c]{a:v_ c}{x:c}(nd:a.Nodup)(h:(x::a.eraseIdx j).Perm a):(a.eraseIdx j).Perm (a.filter λy=>decide (y≠x)):=by
 have b:=h.nodup_iff.mpr nd;rw[j6]at b;have f:=h.filter λy=>decide (y≠x);rw[o9^by simp]at f;have e:((a.eraseIdx j).filter λy=>decide (y≠x))=a.eraseIdx j:=qA.mpr λy d=>decide_eq_true fun(z:y=x)=>b.1 (by rw[←z];exact d);rw[e]at f;exact f
def dY:([D.str u.a,D.str u.b].any λy=>Fn y^.str x)=Tg x u:=by
 rw[Qa,kR,yF,oh,decide_eq_true_eq,decide_eq_true_eq]
section
variable {n:Sg}
theorem G9{N:Net}(ok:N.Ok)(k:Du x){d1:D}(g:atI [D.str "go",D.str x] 1=P3^.str x):∀(d e:v_ Af) (m:Sg) (j:Slot),(∀u∈e++d,u∈N.ts)->(e++d).length<=60->((e++d).map tk).Nodup->m.w t=P3^.pl^Fx ((e.filter λu=>!Tg x u)++d)->
  (∀(h:Sg) (s:Slot),h.n=m.n->h.w t=P3 (.pl^Fx^(e++d).filter λu=>!Tg x u)->(∀b,b≠t->h.w b=m.w b)->r.nx h [.sh^EV (.ob l)^.ob t,.sh^Lf^.go x,s])->
  BF (Bm 2) (Cv (Am^Ak (V8 u_) (Ak CI (AJ 1)^wC^D.int 1)^AJ 2) (HM^i9 "dict" Zc (Ak CK (AJ 0)^wC^D.str "ties")^AM (AJ 2) Ag) B0) r ((d.map tk).map tupK) m [.sh^EV (.ob l)^.ob t,.sh^Lf^.go x,j]
 |[],e,m,j,_,_,_,i,q=>q m j rfl (by rw[j5]at i ⊢;exact i) λ_ _=>rfl
 | u::d,e,m,j,f,o,p,i,q=>by
  have B:u∈N.ts:=f u^jm _ No;let#[C,E,H,_]:=ok.tin u B;have F:e++u::d=(e++[u])++d:=by rw[kj];rfl
  exists _,g,Cj k,E_ (ok.names _ C)^ok.names _ E,_,rfl;show if([D.str u.a,D.str u.b].any λy=>Fn y^.str x)=t_ then _ else _
  rw[dY];rw[F]at f o p q;cases c:Tg x u with
  |false=>
   refine Ay ?_;refine G9 ok k (d1:=d1) g d (e++[u]) m _ f o p ?_ q;rw[i,List.filter_append,rD (by rw[c];rfl),rJ,kj];rfl
  | true=>
   refine BE ?_;refine HP ?_;exists t,rfl,#[_,i,rfl],rfl,_,i
   have v:((e.filter λu=>!Tg x u)++u::d)[(e.filter λu=>!Tg x u).length]?=P3 u:=by
    rw[mz^Sc _,Nat.sub_self];rfl
   refine#[_,_,_,tk u,(e.filter λu=>!Tg x u).length,.int u.len,rfl,rfl,rfl,by rw[ji,v];rfl,by rw[ji,v];rfl,?_];rw[Zj];exists Qb _,rfl;refine G9 ok k (d1:=d1) g d (e++[u]) _ _ f o p ?_ λh s a b G=>q h s a b λz A=>(G z A).trans^CM A;rw[CB,List.filter_append,o9 (by rw[c];simp),rJ,j5,List.eraseIdx_append_of_length_le^Sc _,Nat.sub_self];rfl
end
def DQ{ps:v_ Str}(h:∀x∈ps,Du x):CT^.lst^ps.map .str:=G3 λd a=>by
 let#[x,b,rfl]:=TM.mp a;exact Dt^h x b
section
def XX{a:v_ Af}(nd:(a.map tk).Nodup):∃c:v_ Af,D.dit (Eg (a.map tk)^tk v)^CO (a.map tk) (a.map λu=>D.int u.len) (tk v)^.int v.len=Fx c/\c.Perm (v::a.filter λu=>decide (tk u≠tk v)):=by
 unfold Eg CO
 by_cases h:Jd (a.map tk)^tk v=t_
 .rw [if_pos h,if_pos h]
  exists a.map λu=>if tk u=tk v then v else u,?_
  .unfold Fx
   congr 1
   .rw[ke]
    refine lV λu _=>?_;show tk u=tk (if tk u=tk v then v else u)
    split
    .assumption
    .rfl
   .clear nd h
    induction a with
    |nil=>rfl
    |cons u a f=>
     rw[jy,jy,jy,jy,←f];show(if tk u=tk v then D.int v.len else D.int u.len)::_=D.int (if tk u=tk v then v else u).len::_
     split <;>rfl
  .have g:=yQ.mp h
   clear h
   induction a with
   |nil=>cases g
   | cons u a f=>
    rw[jy,j6]at nd;rw[jy]
    by_cases e:tk u=tk v
    .rw[if_pos e,o9^by simp[e]]
     have d:∀w∈a,tk w≠tk v:=λw b z=>nd.1^by rw[e,←z];exact TM.mpr #[w,b,rfl]
     rw[qA.mpr λw b=>decide_eq_true^d w b,show(a.map λu=>if tk u=tk v then v else u)=a from by
      refine(lV λw b=>if_neg^d w b).trans^List.map_id' a]
    .rw[if_neg e,rD^by simp[e]]
     rw[jy]at g;exact((f nd.2^(UF.mp g).resolve_left λz=>e z.symm).cons u).trans (rX ..)
 .rw[if_neg h,if_neg h]
  refine#[a++[v],by unfold Fx;rw[j8,j8];rfl,?_];have d:∀w∈a,tk w≠tk v:=λw b z=>h (yQ.mpr^by rw[←z];exact TM.mpr #[w,b,rfl]);rw[qA.mpr λw b=>decide_eq_true^d w b];exact m8 _ _
end
theorem LV{c:Type}[DecidableEq c]:∀{a ys:v_ c},a.Nodup->(∀x∈a,x∈ys)->a.length<=ys.length
 |[],_,_,_=>jp _
 |x::a,ys,b,h=>by
  rw[j6]at b;let#[j,_,_,d]:=Rh^h x No
  have:=LV (ys:=ys.eraseIdx j) b.2 λz f=>(UF.mp^d.mem_iff.mpr^h z^Rs _ f).resolve_left λe=>b.1^by rw[←e];exact f
  have e:=d.length_eq;rw[f8]at e ⊢;lk
theorem E8{xs:v_ Str}{r:Int}(a:0<=r)(h1:r<xs.length):∃x∈xs,atI (xs.map D.str) r=P3^.str x/\xs[r.toNat]?=P3 x:=by
 have h:r.toNat<xs.length:=by lk
 refine#[xs[r.toNat],lJ _,?_,Op h]
 have:=AE (xs:=xs.map D.str) (j:=r.toNat) (v:=.str xs[r.toNat])^by rw[ji,Op h];rfl
 rwa[show((r.toNat:Nat):Int)=r by lk]at this
theorem P5{f:Type}{r:f->f->Prop}(g:∀a b c,r a b->r b c->r a c)(x:f):∀{e:v_ f},e.Pairwise r->(∀y∈e,r x y\/r y x)->∃l:v_ f,l.Perm (x::e)/\l.Pairwise r
 |[],_,_=>#[[x],.refl _,nS _ _]
 | y::e,h,t=>by
  let#[i,j]:=k7.mp h
  rcases t y No with z|z
  .refine#[x::y::e,.refl _,k7.mpr #[λw d=>?_,h]]
   rcases UF.mp d with rfl|d
   .exact z
   .exact g _ _ _ z^i w d
  .let#[l,p,q]:=P5 g x j λw d=>t w^Rs _ d
   refine#[y::l,(p.cons y).trans^rX x y e,k7.mpr #[λw d=>?_,q]]
   rcases UF.mp^p.mem_iff.mp d with rfl|d
   .exact z
   .exact i w d
def RQ(h:BU a b)(g:BU b c):BU a c:=by
 rcases h with h|⟨h,d⟩ <;>rcases g with g|⟨g,e⟩
 .exact .inl^nX h g
 .exact .inl (g▸h)
 .exact .inl (h▸g)
 .exact .inr #[h.trans g,nX d e]
theorem Ju{f:v_ Str}(S:M_ N E Y)(Z:∀x∈f,Du x)(hp:∀x∈E,x∈f)(l1:N.ps.length<=18)(l2:N.ts.length<=18)
  (hd:match d with|.come x=>x∈f/\x∉E|.go x=>x∈E|.lay x y l=>x∈E/\y∈E/\x≠y/\1<=l/\l<=1000000|.take x y=>∃u∈Y,Te x y u):
  ∃G:Net,QT N d G/\okN G/\(∀x∈G.ps,x∈f)/\G.ps.length<=N.ps.length+1/\G.ts.length<=N.ts.length+1:=by
 let#[H,s2,i]:=S;have ok:=i.1;have M:∀x∈N.ps,x∈f:=λx B=>hp x^H.mem_iff.mp B;have I:∀p:Af->Bool,(N.ts.filter p).length<=N.ts.length:=λp=>k9 _ _;cases d with
 | come x=>
  have B:x∉N.ps:=λz=>hd.2^H.mem_iff.mp z;let#[O,n,D]:=P5 (r:=λx y=>cs x<cs y) (λa b c h g=>nX h g) x ok.rise λy j=>(LC x y).elim .inl λz=>z.elim (λe=>absurd (e▸j) B) .inr;have lq:O.length=N.ps.length+1:=n.length_eq;refine#[#[O,N.ts],#[Z x hd.1,B,n,rfl],#[#[λy j=>?_,D,λt o=>?_,ok.vQ],by show O.length<=25;lk,i.2.2],λy j=>?_,by show O.length<=_;lk,kL _]
  .rcases UF.mp^n.mem_iff.mp j with rfl|z
   .exact Z y hd.1
   .exact ok.names y z
  .let#[Q,R,T]:=ok.tin t o
   exact#[n.mem_iff.mpr^Rs _ Q,n.mem_iff.mpr^Rs _ R,T]
  .rcases UF.mp^n.mem_iff.mp j with rfl|z
   .exact hd.1
   .exact M y z
 |go x=>
  refine#[_,#[H.mem_iff.mpr hd,rfl],#[#[λy j=>ok.names y (kI.mp j).1,ok.rise.filter _,λt o=>?_,ok.vQ.filter _],jr (k9 _ _) i.2.1,jr (I _) i.2.2],λy j=>M y (kI.mp j).1,pC^k9 _ _,pC^I _];let#[n,D]:=kI.mp o;let#[Q,R,T]:=ok.tin t n;have h3:¬(t.a=x\/t.b=x):=λz=>by rw[yF.mpr z]at D;cases D
  exact#[kI.mpr #[Q,decide_eq_true λz=>h3^.inl z],kI.mpr #[R,decide_eq_true λz=>h3^.inr z],T]
 | lay x y l=>
  let#[B,j,m,n,D]:=hd;have B:=H.mem_iff.mpr B;have j:=H.mem_iff.mpr j;let#[lh,lc]:=ZX m
  have J:∀t∈N.ts.filter λu=>!A_ x y u,t∈N.ts/\¬(t.a=lo x y/\t.b=hi x y):=λt o=>by
   let#[C,F]:=kI.mp o;refine#[C,λz=>?_];rw[vV.mpr^(Ew m (ok.tin t C).2.2.1).mpr z]at F;cases F
  let#[U,C,F]:=P5 (r:=BU) (λ_ _ _=>RQ) (#[lo x y,hi x y,l]:Af) (ok.vQ.filter λu=>!A_ x y u) λt o=>by
   let#[_,k]:=J t o
   rcases LC (lo x y) t.a with z|z|z
   .exact .inl^.inl z
   .rcases LC (hi x y) t.b with w|w|w
    .exact .inl^.inr #[z,w]
    .exact absurd #[z.symm,w.symm] k
    .exact .inr^.inr #[z.symm,w]
   .exact .inr^.inl z
  have lt:U.length<=N.ts.length+1:=by
   have:=C.length_eq
   have:=I λu=>!A_ x y u
   rw[f8]at *;lk
  refine#[#[N.ps,U],#[B,j,m,n,D,rfl,C],#[#[ok.names,ok.rise,λt o=>?_,F],i.2.1,by show U.length<=60;lk],M,kL _,lt]
  rcases UF.mp^C.mem_iff.mp o with rfl|z
  .have:lo x y∈N.ps/\hi x y∈N.ps:=by
    rcases lc with⟨q,s⟩|⟨q,s⟩ <;>rw[q,s] <;>exact#[by assumption,by assumption]
   exact#[this.1,this.2,lh,n,D]
  .exact ok.tin t (J t z).1
 | take x y=>
  let#[u,P,V]:=hd;have P:=s2.mem_iff.mpr P;let#[u1,u2,u3,_]:=ok.tin u P
  have m:x≠y:=by
   rintro rfl
   rcases V with⟨q,s⟩|⟨q,s⟩ <;>rw[q,s]at u3 <;>exact BK _ u3
  have K:x∈N.ps/\y∈N.ps:=by
   rcases V with⟨q,s⟩|⟨q,s⟩ <;>rw[←q,←s] <;>exact#[by assumption,by assumption]
  have A:u∈N.ts.filter^A_ x y:=kI.mpr #[P,vV.mpr V]
  have W:N.ts.filter^A_ x y=[u]:=by
   have pw:=ok.vQ.filter^A_ x y
   have L:∀v∈N.ts.filter^A_ x y,v.a=lo x y/\v.b=hi x y:=λv X=>by
    let#[C,F]:=kI.mp X;exact(Ew m (ok.tin v C).2.2.1).mp^vV.mp F
   have no:∀v∈N.ts.filter^A_ x y,∀w∈N.ts.filter^A_ x y,¬BU v w:=λv X w hw h=>by
    let#[q,s]:=L v X;let#[f1,f2]:=L w hw
    rcases h with h|⟨_,h⟩
    .rw[q,f1]at h;exact BK _ h
    .rw[s,f2]at h;exact BK _ h
   cases e:N.ts.filter^A_ x y with
   |nil=>rw[e]at A;cases A
   | cons v r=>
    cases r with
    |nil=>rw[e]at A;rw[Re.mp A]
    |cons w r=>
     rw[e]at pw no;exact absurd ((k7.mp pw).1 w No)^no v No w^Rs _ No
  exact#[_,#[#[u,W],K.1,K.2,m,rfl],#[#[ok.names,ok.rise,λt o=>ok.tin t (kI.mp o).1,ok.vQ.filter _],i.2.1,jr (I _) i.2.2],M,kL _,pC^I _]
def Jv{N N':Net}(S:M_ N a b):a.length=N.ps.length/\b.length=N.ts.length:=#[S.1.length_eq.symm,S.2.1.length_eq.symm]
def F3(w:Ch->w_ Wc)(a:v_ Str):(a.map D.str).map^FK w=a.map .str/\(a.map D.str).flatMap^GC w=[]:=by
 induction a with
 |nil=>exact#[rfl,rfl]
 | cons x a b=>
  exists ?_
  .show D.str x::(a.map D.str).map^FK w=_
   rw[b.1];rfl
  .show([]:v_ Ch)++(a.map D.str).flatMap^GC w=_
   rw[b.2];rfl
def FI(s:Sg)(L:v_ Ch):Sg.back (s.drop L) s L=s:=Sg.kB s L s.n
def DX(h1:w l=P3^.pl x)(a:w t=P3^.pl y):Dp.ET w^EV (.ob l)^.ob t=EV x y/\FL w^EV (.ob l)^.ob t=[l,t]:=by
 exists ?_
 .show D.dic _ [FK w^.ob l,FK w^.ob t]=_
  rw[E4 h1,E4 a];rfl
 .show GC w^.ob l++(GC w^.ob t++[])=_
  rw[GB h1,GB a];rfl
def UZ(h1:w l=P3^.pl x)(a:w t=P3^.pl y):Dp.ET w^.tup [.ob l,.ob t]=.tup [x,y]:=by
 show D.tup [FK w^.ob l,FK w^.ob t]=_;rw[E4 h1,E4 a]
def BG(s:Sg)(a:Ch)(c:Wc):(s.put a c).w a=P3 c:=if_pos rfl
def Ab{s:Sg}(h:b≠a):(s.put a c).w b=s.w b:=if_neg h
def VM(h:OutT A B l):∀u∈l,u∈A:=λu a=>(kI.mp^h.1.mem_iff.mp a).1
def Q1(h:OutT A B l):l.length<=A.length:=by rw[h.1.length_eq];exact k9 _ _
theorem PK(e:∀d∈b,item d)(f:∀d∈c,item d)(g:b.length<=60)(h:c.length<=60):Iv^.tup [.lst b,.lst c]:=by
 have i:=Gn λd a=>nL (e d a).2.1;have j:=Gn λd a=>nL (f d a).2.1;have k:=v7.mpr λd a=>(e d a).2.2;have l:=v7.mpr λd a=>(f d a).2.2;refine IE (B:=1000001) (by cbv) #[vX.mpr λd a=>(e d a).1,vX.mpr λd a=>(f d a).1,trivial] ?_ ?_
 .show max (Lg b+1)^max (Lg c+1) 0+1<=100
  lk
 .show NV b+1+(NV c+1+0)<=200000
  lk
theorem D_(ok:okN N):Iv^enc N:=by
 let#[a,b,c]:=aX ok;exact IE (by cbv) a (by lk)^by lk
def Gr{x:Str}{t e:Prop}(h:e):if(if t_=t_ then !(x==x)else x==x)=t_ then t else e:=by
 rw[if_pos rfl,beq_self_eq_true];exact h
def RX(d:Dd):flat^Lf d=t_:=by cases d <;>rfl
structure jf (C:Ch) (t b:Int) (pool:List Str) (k:Nat) (n:Sg) (a l tt:Ch) (N M:Net) (ps:List Str) (us:List Af):Prop where
 nn:7*k<=n.n
 wa:n.w a=P3 (kc C t b N M)
 wl:n.w l=P3 (.pl^Hx ps)
 wt:n.w tt=P3 (.pl^Fx us)
 al:a≠l
 at':a≠tt
 lt:l≠tt
 st:M_ N ps us
 ok:okN M
 inp:∀x∈ps,x∈pool
 l1:N.ps.length+k<=18
 l2:N.ts.length+k<=18
def KW(C:Ch):W2:=λc n P=>∃(a:Ch) (t b:Int) (N M:Net),c=[.sh^.ob a]/\NE C n a t b N M/\N.ps.length<=24/\P (.lst^(linesOf N).map .str) n
section
theorem Su(ok:okN N)(l:N.ps.length<=24):CT^.lst^(linesOf N).map .str:=by
 let#[a,b,c]:=JX ok.1 l ok.2.2;exact Me (by cbv) a^by lk
end
structure Ho70 (C:Ch) (t b:Int) (pool:List Str) (k:Nat) (n:Sg) (a l tt:Ch) (N M:Net) (ps:List Str) (us:List Af):Prop where
 kp:NE C n a t b N M
 tn:IsT N t b M
 wl:n.w l=P3 (.pl^Hx ps)
 wt:n.w tt=P3 (.pl^Fx us)
 al:a≠l
 at':a≠tt
 lt:l≠tt
 st:M_ N ps us
 inp:∀x∈ps,x∈pool
 l1:N.ps.length+k<=18
 l2:N.ts.length+k<=18
theorem Ho70.to(h:Ho70 C t b c k n a l d N M m o)(x:i<=k)(e:∀y∈[a,l,d],j.w y=n.w y):Ho70 C t b c i j a l d N M m o:=by
 let#[p,q,r,s,u,f,lt,v,g,z,A]:=h;exact#[#[(e a^by simp).trans p.1,p.2],q,(e l^by simp).trans r,(e d^by simp).trans s,u,f,lt,v,g,by lk,by lk]
def C1{n:Sg}(h:n.w x=P3 c)(g:n.w y=s_):x≠y:=λz=>by rw[z,g]at h;cases h
def fI(a:v_ Str)(w:Str):Bool:=a.all λp=>decide (cs p<cs w)
def ZS(c:v_ Af)(a b:Str):Bool:=c.all λt=>Bu [.inr t.a,.inr t.b] [.inr a,.inr b]
def KZ(a:v_ Str)(b:v_ Af):Prop:=(#[a,b]:Net).Ok/\a.length<=24/\b.length<=60
def Sf(h:rising b):fI b w=DZ b w:=by
 unfold DZ fI;cases e:b.getLast? with
 |none=>rw[nE.mp e];rfl
 | some y=>
  let#[f,rfl]:=lg.mp e;show _=decide (cs y<cs w)
  by_cases a:cs y<cs w
  .rw[decide_eq_true a]
   refine lE.mpr λx d=>decide_eq_true ?_
   rcases jj.mp d with c|c
   .exact nX ((lw.mp h).2.2 x c y No) a
   .rw[Re.mp c];exact a
  .rw[decide_eq_false a,List.all_append,qT,decide_eq_false a,oz,rY]
def N4(h:Bu [.inr s.a,.inr s.b] [.inr a,.inr b]=t_)(l:Int):BU s #[a,b,l]:=by
 unfold Bu Bu Bu at h
 split at h
 .rename_i e
  split at h
  .cases h
  .exact .inr #[mG e,of_decide_eq_true h]
 .exact .inl^of_decide_eq_true h
def Ps(h:c.Pairwise BU):ZS c a b=DR c a b:=by
 unfold DR ZS;cases e:c.getLast? with
 |none=>rw[nE.mp e];rfl
 | some y=>
  let#[i,rfl]:=lg.mp e;show _=Bu [.inr y.a,.inr y.b] [.inr a,.inr b];cases d:Bu [.inr y.a,.inr y.b] [.inr a,.inr b]with
  |true=>
   refine lE.mpr λx g=>?_
   rcases jj.mp g with f|f
   .exact OL (t:=#[a,b,0])^RQ ((lw.mp h).2.2 x f y No)^N4 d 0
   .rw[Re.mp f];exact d
  |false=>rw[List.all_append,qT,d,oz,rY]
def Xe(h:Bn a b d=s_):DZ b^QW a 1=t_:=by
 unfold Bn at h
 split at h
 .cases h
 .match a,h with
  |[],h=>cases h
  |[_],h=>cases h
  | e::w::r,h=>
   rw[ZP]at h
   split at h
   .cases h
   .rename_i c
    simp only[oh,mU,not_or,qe]at c;exact c.2
def aZ(inv:KZ g h)(o:d≠[])(e:DD d g h=s_):(QW d 0=="place")=t_/\d.length=2/\KZ (g++[QW d 1]) h\/(QW d 0=="place")=u_/\QW d 0="tie"/\d.length=4/\KZ g (h++[O9 d])/\Fi^QW d 3=t_:=by
 let#[ok,E,lt]:=inv
 obtain⟨w,q,A⟩:∃w q,d=w::q:=by
  cases d with
  |nil=>exact absurd rfl o
  |cons w q=>exact#[w,q,rfl]
 have f:DD d g h=if(w=="place")=t_ then Bn d g h else if(w=="tie")=t_ then B5 d g h else P3 0:=by rw[A];rfl
 have F:QW d 0=w:=by rw[A];rfl
 rw[e]at f;rw[F];cases B:w==("place":Str)with
 | true=>
  rw[B,if_pos rfl]at f;have k:=Xe f.symm;let#[G,y,H,rfl,o,I]:=Qx f.symm;subst H;rw[←Sf ok.rise]at k;refine .inl #[rfl,rfl,#[?_,?_,λt p=>absurd p jw,r_],?_,jp _]
  .intro x l
   rcases jj.mp l with j|j
   .exact ok.names x j
   .rw[Re.mp j];exact I
  .refine lw.mpr #[ok.rise,nS _ _,λx l z r=>?_]
   rw[Re.mp r];exact of_decide_eq_true^lE.mp k x l
  .show(g++[y]).length<=24
   rw[eq,kN];lk
 | false=>
  rw[B,if_neg^by cbv]at f;cases s:w==("tie":Str)with
  |false=>rw[s]at f;cases f
  |true=>
  rw[s,if_pos rfl]at f;let#[G,a,b,c,J,o,K,u,n]:=Qc f.symm;subst J;unfold PN at u;simp only[jv,decide_eq_true_eq]at u;let#[#[L,v],k]:=u;rw[←Ps ok.vQ]at k
  have M:Dv c=t_:=by
   unfold Fi at n;exact(jv _ _▸n).1
  let#[i,C,R,N,O]:=G8 M
  have D:(PySem.NumText.digitsVal^cs c:Int)=i:=by
   let#[m,rfl,_,P]:=Gy C;rw[N,P,PySem.W.KIN.val_back]
  have Q:i<=1000000:=of_decide_eq_true (O▸n);refine .inr #[rfl,by rw[eq_of_beq s],rfl,#[#[ok.names,ok.rise,λt p=>?_,?_],E,?_],n]
  .rcases jj.mp p with j|j
   .exact ok.tin t j
   .rw[Re.mp j]
    exists oM.mp K,oM.mp L,v,?_
    .show 1<=(PySem.NumText.digitsVal^cs c:Int);rw[D];exact C
    .show(PySem.NumText.digitsVal^cs c:Int)<=1000000;rw[D];exact Q
  .refine lw.mpr #[ok.vQ,nS _ _,λx l z r=>?_]
   rw[Re.mp r];exact N4 (lE.mp k x l) _
  .show(h++[_]).length<=60
   rw[eq,kN];lk
theorem Ef:∀(f:v_ Str) (a:Nat) (b:v_ Str) (c:v_ Af),(∀x∈f,ND x)->KZ b c->(match A6 a b c f with
  |.inr (g,h)=>KZ g h
  |.inl (r,k)=>r<=a+f.length/\k<=4)
 |[],a,b,c,_,d=>d
 | x::q,a,b,c,l,d=>by
  have ok:=(NG^l x No).2;have m:∀x∈q,ND x:=λy n=>l y^Rs _ n;rw[A6];cases e:DD (Txt.split x sp) b c with
  | some k =>
   exists qw _ _;revert e;generalize Txt.split x sp=ws;intro e;unfold DD Bn B5 at e
   split at e
   .split at e
    .split at e
     .cases e;decide
     .unfold ZP at e;split at e
      .split at e
       .cases e;decide
       .split at e
        .cases e
        .cases e;decide
      .cases e;decide
    .split at e
     .split at e
      .cases e;decide
      .unfold aN at e;split at e
       .split at e
        .cases e;decide
        .unfold dg at e;split at e
         .split at e
          .cases e;decide
          .unfold df at e;split at e
           .split at e
            .cases e;decide
            .split at e
             .cases e
             .cases e;decide
           .cases e;decide
         .cases e;decide
       .cases e;decide
     .cases e;decide
   .cases e;decide
  | none=>
   rcases aZ d ok.1 e with⟨i,_,j⟩|⟨i,_,_,j,_⟩
   .rw[if_pos i]
    have z:=Ef q (a+1) _ _ m j;revert z;cases A6 (a+1) (b++[QW (Txt.split x sp) 1]) c q with
    |inl z=>exact λz=>#[by have:=z.1;rw[f8];lk,z.2]
    |inr z=>exact id
   .rw[i,if_neg^by cbv]
    have z:=Ef q (a+1) _ _ m j;revert z;cases A6 (a+1) b (c++[O9^Txt.split x sp]) q with
    |inl z=>exact λz=>#[by have:=z.1;rw[f8];lk,z.2]
    |inr z=>exact id
def Q9(h:1<=i):(PySem.NumText.digitsVal^cs^CH i:Int)=i:=by
 let#[m,rfl,_,a]:=Gy h;rw[a,PySem.W.KIN.val_back]
theorem VW(h:1<=i)(f:i<=1000000):Fi^CH i=t_:=by
 let#[c,r,e,d]:=VX h;have g:=GD h f;have j:=Q9 h;unfold Fi Dv;simp only[jv,decide_eq_true_eq];refine#[#[#[#[by rw[e];exact k_ _ _,by rw[e];exact λz=>d^ZB z],g],lE.mpr λc d=>?_],by lk];let#[a,b]:=IK h c d;simp only[jv,decide_eq_true_eq];lk
theorem ZU:(("tie":Str)=="place")=u_:=by decide +kernel
theorem Na:∀(c a:v_ Str) (b:Nat) (R:v_ Str),rising (a++c)->(∀x∈c,Du x)->(a++c).length<=24->A6 b a [] (c.map Ej++R)=A6 (b+c.length) (a++c) [] R
 |[],a,b,R,_,_,_=>by rw[j5];rfl
 | y::c,a,b,R,d,f,g=>by
  have h:=f y No;have e:=(Nh h).2.2.2.2;have i:rising ((a++[y])++c):=by rw[kj];exact d
  have j:DZ a y=t_:=by
   unfold DZ;cases k:a.getLast? with
   |none=>rfl
   |some l=>
    have m:=List.mem_of_getLast? k;unfold rising at d;rw[lw]at d;exact decide_eq_true^d.2.2 l m y No
  have n:DD ["place",y] a []=s_:=by
   have o:(("place":Str)=="place")=t_:=beq_self_eq_true _;show(if(("place":Str)=="place")=t_ then Bn ["place",y] a []else if(("place":Str)=="tie")=t_ then B5 ["place",y] a []else P3 0)=s_;rw[o,if_pos rfl];unfold Bn;rw[eq,f8]at g;rw[if_neg^by simp;lk];show(if(!Hd (.str y)||!DZ a y)=t_ then P3 1 else if([]:v_ Str).isEmpty=t_ then s_ else P3 2)=s_;rw[Vb h,j];rfl
  show A6 b a [] (Ej y::(c.map Ej++R))=_;rw[A6,e,n];show(if(("place":Str)=="place")=t_ then A6 (b+1) (a++[y]) [] (c.map Ej++R)else A6 (b+1) a ([]++[O9 ["place",y]]) (c.map Ej++R))=_;rw[beq_self_eq_true,if_pos rfl,Na c (a++[y]) (b+1) R i (λx p=>f x^Rs _ p) (by rw[kj];exact g),kj,show b+1+c.length=b+(y::c).length by rw[f8];lk];rfl
theorem NZ:∀(g c:v_ Af) (d:Nat),(#[f,c++g]:Net).Ok->(c++g).length<=60->A6 d f c^g.map Ei=.inr (f,c++g)
 |[],c,d,_,_=>by rw[j5];rfl
 | t::g,c,d,ok,h=>by
  have i:t∈c++t::g:=jm _ No;have m:=Gw ok i;let#[n,o,p,j,q]:=ok.tin t i;have e:=(R8 m).2.2.2.2
  have r:DR c t.a t.b=t_:=by
   unfold DR;cases s:c.getLast? with
   |none=>rfl
   |some l=>
    have k:=ok.vQ;rw[show(#[f,c++t::g]:Net).ts=c++t::g from rfl,lw]at k;exact OL^k.2.2 l (List.mem_of_getLast? s) t No
  have u:DD ["tie",t.a,t.b,CH t.len] f c=s_:=by
   show(if(("tie":Str)=="place")=t_ then Bn ["tie",t.a,t.b,CH t.len] f c else if(("tie":Str)=="tie")=t_ then B5 ["tie",t.a,t.b,CH t.len] f c else P3 0)=s_;rw[ZU,beq_self_eq_true,if_pos rfl];rw[if_neg^by cbv];unfold B5;rw[eq,f8]at h;rw[if_neg^by simp;lk];show(if(!f.contains t.a)=t_ then P3 1 else if(!PN t.a t.b f c)=t_ then P3 2 else if(!Fi (CH t.len))=t_ then P3 3 else s_)=s_
   have v:PN t.a t.b f c=t_:=by
    unfold PN;rw[oM.mpr o,decide_eq_true p,r];rfl
   rw[oM.mpr n,v,VW j q];rfl
  have w:O9 ["tie",t.a,t.b,CH t.len]=t:=by
   show(#[t.a,t.b,(PySem.NumText.digitsVal^cs^CH t.len:Int)]:Af)=t;rw[Q9 j]
  show A6 d f c (Ei t::g.map Ei)=_;rw[A6,e,u];show(if(("tie":Str)=="place")=t_ then A6 (d+1) (f++[t.a]) c^g.map Ei else A6 (d+1) f (c++[O9 ["tie",t.a,t.b,CH t.len]])^g.map Ei)=_;rw[ZU,if_neg^by cbv,w,NZ g (c++[t]) (d+1) (by rw[kj];exact ok) (by rw[kj];exact h),kj];rfl
def Nb(ok:N.Ok)(a:N.ps.length<=24)(b:N.ts.length<=60):A6 0 [] []^Nt.linesOf N=.inr (N.ps,N.ts):=by
 unfold Nt.linesOf;rw[Na N.ps [] 0 _ (by rw[j7];exact ok.rise) ok.names^by rw[j7];exact a];exact NZ N.ts [] _ (by rw[j7];exact ok)^by rw[j7];exact b
theorem XR{lo:Int}(h:Gs lo n=a++d::b):d=.int (lo+(a.length:Int))/\a.length<n:=by
 have c:=congrArg pE h;rw[Ce]at c;have e:(Gs lo n)[a.length]?=P3 d:=by grind
 unfold Gs at e
 simp_all
def KU(C:Ch):W2:=λd n P=>∃(t b:Int) (N:Net),d=[.br^.lst^(linesOf N).map .str,.sh^tD t b]/\okN N/\N.ps.length<=24/\NQ t b/\∀(a:Ch) (T:Net) (c:Sg),IsT N t b T->n.w a=s_->c.n=n.n->c.w a=P3^kc C t b N T->(∀y,n.w y≠s_->c.w y=n.w y)->P (.ob a) c
def bZ:∀a n P,Wb g a n P->a.length=1:=λ_ _ _ h=>by
 let#[d,rfl,_]:=h.out;rfl
def Pp:okN #[[],[]]:=#[#[λx a=>(by cases a),.nil,λx a=>(by cases a),.nil],jp _,jp _]
end Nt
namespace L2
section
variable {X:Cx}
def ZI:R2:=λx y H Q=>∃l n a,x=.ref l/\y=.int n/\Rd H l^.lst a/\0<=n/\n<1000/\a.length*n.toNat<=sizeLine/\∀p,H p=s_->Q (.ref p)^AX H p^.lst (jk n.toNat a).flatten
theorem Xn:OpR X (binaryOp .Mult) ZI:=by
 intro G s J H x y v u Q I g h #[l,k,K,ex,i,j,L,M,f,q];subst ex i;cases g;let#[t,rfl]:=h;let#[z,b,n,r,o,e]:=I.rdl j;have p:b.toArray.size*k.toNat<=sizeLine:=by rw[jn,←o];exact f
 have N:(sizeLine:Nat)<=(2 ^ 63 - 1) / 8:=by cbv
 have w:¬(!Builtin.List.listFitsIndex k)=t_:=by rw[fitsIndex_both (by lk)^by lk];exact jt
 have A:¬nN (b.toArray.size*k.toNat)=t_:=by rw[Nq p];exact jt
 have B:List.foldl (λc d=>c++d) #[]^jk (if b.toArray.isEmpty=t_ then 0 else k.toNat) b.toArray=(jk k.toNat b).flatten.toArray:=by
  have C:∀m:Nat,List.foldl (λc d=>c++d) #[]^jk m b.toArray=(jk m b).flatten.toArray:=λm=>(foldl_rep b m []).trans (by rw[j7]);rw[C];cases b with
  |nil=>simp
  |cons a O=>rw[if_neg^by simp]
 have D:=AutoListH.list___mul___list_int_3 l b.toArray n k t w (by lk) A;refine wpAny_binaryOp_repeat_ref (T:="list") (U:="int") (by cbv) #[_,e,rfl] (λE=>typeIs_int E k t) noFill_list_mul PySem.F.fills_int_mul PySem.F.slot_int_rmul repeat_list PySem.F.slot_int_index.lookup ?_;refine oP PySem.F.slot_int_rmul (typeIs_int s k t) PySem.F.entry_int_rmul (PySem.F.args_int_rmul_2 _ _) (int___rmul___int_list k t l b.toArray n) #[e,rfl,#[_,e,rfl],?_];refine oP PySem.F.slot_list_mul #[_,e,rfl] PySem.F.entry_list_mul (PySem.F.args_list_mul_2 _ _) D #[e,?_];rw[B];exact#[.ref _,_,I.lnew (t':=s.toks) (r.rep k.toNat) (by rw[len_rep,Nat.mul_comm];exact f),rfl,q _ I.fresh]
end
end L2
namespace Dp
open L2
section
variable {K:Frag}
def V7(d e:D)(P:D->Prop):Prop:=match d,e with
 |.lst a,.int n=>0<=n/\n<1000/\a.length*n.toNat<=sizeLine/\P^.lst (jk n.toNat a).flatten
 |_,_=>False
theorem Og(h:Ats K M H a b):∀k,Ats K M H (jk k a).flatten (jk k b).flatten
 |0=>rfl
 |k+1=>by
  rw[p9,p9,List.flatten_cons,List.flatten_cons];exact h.append^Og h k
set_option tactic.hygienic true in
def cS:Dg K .fr ZI V7:=λU M H d e x y P Q f k g h w q=>by
 unfold V7 at w
 split at w
 .rename_i l n
  let#[a,i,rfl,_,j,b]:=g;cases h.int;exact#[a,n,i,rfl,rfl,j,w.1,w.2.1,by rw[b.length];exact w.2.2.1,λp c=>q _ _ (.lst _) (AV c) (Bg c^Og b _) w.2.2.2]
 .exact w.elim
end
end Dp
namespace Nt
open L2 Dp
def Keeps(n a:Sg):Prop:=a.n=n.n/\∀y,n.w y≠s_->a.w y=n.w y
def Om(C:Ch):WX:=λg n P h=>∃(t b:Int) (d:v_ Str),g=[.br^.lst^d.map .str,.sh^tD t b]/\NQ t b/\(∀x∈d,ND x)/\d.length<=1000/\match A6 0 [] [] d with
 |.inr (e,f)=>∀(a:Ch) (T:Net) (c:Sg),IsT #[e,f] t b T->n.w a=s_->c.w a=P3^kc C t b #[e,f] T->Keeps n c->P (.ob a) c
 |.inl (r,k)=>∀c,Keeps n c->h "NoLine" ["row","word"] [.int (r:Int),.int (k:Int)] c
def Lw(C:Ch):W2:=λc n P=>∃(a:Ch) (t b:Int) (N M:Net),c=[.sh^.ob a,.sh^enc N,.sh^tD t b]/\NE C n a t b N M/\IsT N t b M/\P (.bl t_) n
def S9:Sum (Nat×Nat) (v_ Str×v_ Af)->Str
 |.inr _=>"ok"
 |.inl (r,k)=>C_^.tup [.int (r:Int),.int (k:Int)]
def KY:W2:=λa n P=>(a=[.sh .non]/\P (.str "ok") n)\/∃(e:Ch) (r k:Nat),a=[.ex e "NoLine" ["row","word"] [.int (r:Int),.int (k:Int)]]/\r<=1000/\k<=4/\P (.str^C_^.tup [.int (r:Int),.int (k:Int)]) n
def HJ(C:Ch):W2:=λd n P=>∃(t b:Int) (a:v_ Str),d=[.br^.lst^a.map .str,.sh^tD t b]/\NQ t b/\(∀x∈a,ND x)/\a.length<=1000/\∀c,Keeps n c->P (.lst [.str^S9^A6 0 [] [] a,.str^S9^A6 0 [] [] a]) c
def Oq(C:Ch):W2:=λg n P=>∃(a:Ch) (t b:Int) (c:v_ Str) (k:Int),g=[.fd,.sh^.ob a,.sh^.tup^c.map .str,.sh^.int k]/\c.Nodup/\(∀x∈c,Du x)/\2<=c.length/\c.length<=20/\0<=k/\k<=4/\NE C n a t b #[[],[]] #[[],[]]/\60<=n.n /\
 ∀(l u:Ch) (N T:Net) (e:v_ Str) (f:v_ Af) (d:Sg),n.n<=d.n+60->NE C d a t b N T->IsT N t b T->d.w l=P3^.pl^Hx e->d.w u=P3^.pl^Fx f->a≠l->a≠u->l≠u->M_ N e f->(∀x∈e,x∈c)->N.ps.length<=10->N.ts.length<=10->P (EV (.ob l)^.ob u) d
def Rc(C_Keeper:Ch):AY:=(Au (Bj 2^Ae KR^AH (Bc 1) AW)
 (Au (Bj 3^Ae KR^AH (Bc 1) AW)
 (Au (Bj 4^Ae Oo^AH (Bc 1)^AH (AS^wC^D.int 7) AW)
 (Au (Bj 5^Ae Cu^AH (Bc 1)^AH (AS^wC^D.int 5) AW)
 (Au (Bj 6^Y3 C_Keeper (Rw C_Keeper)^AH (AS^AJ 2) AW)
 (Au (Bj 7^Ae (Oq C_Keeper)^AH (Bc 1)^AH (AS^AJ 6)^AH (AS^AJ 4)^AH (AS^AJ 5) AW)
 (Au (Bj 8^EY Ex^AH (AS^AJ 7) AW)
 (Au (Bj 9^HL C_Keeper "lines" (KW C_Keeper) (AJ 6) AW)
 (Au (Cv (Am^Ak (RN t_) (EZ GK^AM (AJ 9) Ag)^EZ GK^AM (Ae M7^AH (AS^AJ 8) AW) Ag) (Cd^wC^D.bl u_) B0)
 (Au (Ic 10^EZ P8^AM (AJ 9) Ag)
 (Au (Bj 11^L4^AM (Ae (KU C_Keeper)^AH (B9^BC 10)^AH (AS^AJ 2) AW)^AM (Ae (KU C_Keeper)^AH (B9^BC 10)^AH (AS^AJ 3) AW) Ag)
 (Au (Cv (L0 (Am^Ak fe (BC 10)^AJ 9)^L0 (K6^Am^Ae (Lw C_Keeper)^AH (AS^Ak CI (AJ 11)^wC^D.int 0)^AH (AS^AJ 8)^AH (AS^AJ 2) AW)^K6^Am^Ae (Lw C_Keeper)^AH (AS^Ak CI (AJ 11)^wC^D.int 1)^AH (AS^AJ 8)^AH (AS^AJ 3) AW) (Cd^wC^D.bl u_) B0)
 (Au (dO 10 "list" Zh)
 (Au (T7 (Y2^AM (Ae Cu^AH (Bc 1)^AH (AS^wC^D.int 6) AW) Ag) (Bm 12) (Au (Bj 13^EY IY^AH (Bc 1)^AH (AS^AJ 7)^AH (AS^AJ 4)^AH (AS^AJ 5) AW)
 (Au (Cv (Am^Ak (RN t_) (O2 .sh GK^AM (Ae (FJ C_Keeper)^AH (AS^Ak CI (AJ 11)^wC^D.int 0)^AH (AS^AJ 13) AW) Ag)^O2 .sh GK^AM (Ae (FJ C_Keeper)^AH (AS^AJ 6)^AH (AS^AJ 13) AW) Ag) (Cd^wC^D.bl u_) B0)
 (HM^Ae Rx^AH (AS^AJ 7)^AH (AS^AJ 13) AW))))
 (Au (Cv (L0 (K6^Am^Ae (Lw C_Keeper)^AH (AS^Ak CI (AJ 11)^wC^D.int 0)^AH (AS^EY Ex^AH (AS^AJ 7) AW)^AH (AS^AJ 2) AW)^K6^Am^Ae (Lw C_Keeper)^AH (AS^AJ 6)^AH (AS^EY Ex^AH (AS^AJ 7) AW)^AH (AS^AJ 2) AW) (Cd^wC^D.bl u_) B0)
 (Au (Cv (K6^Am^Ae (Lw C_Keeper)^AH (AS^Ak CI (AJ 11)^wC^D.int 1)^AH (AS^AJ 8)^AH (AS^AJ 3) AW) (Cd^wC^D.bl u_) B0)
 (Au (Bj 14^Ae Cu^AH (Bc 1)^AH (AS^Ak CL (EZ IB^AM (AJ 9) Ag)^wC^D.int 1) AW)
 (Au (Bj 15^Ak CI (L4^AM (wC^D.str "")^AM (wC^D.str "place")^AM (wC^D.str "place a")^AM (wC^D.str "tie a b")^AM (wC^D.str "tie a b 0")^AM (wC^D.str "places a")^AM (wC^D.str "place zzzzzzzz") Ag)^Ae Cu^AH (Bc 1)^AH (AS^wC^D.int 7) AW)
 (Au (T7 (FV^L4^AM (Ak CL (Ak CL (Z8 OH (AJ 9) D8^Ie^AJ 14)^L4^AM (AJ 15) Ag)^Z8 OH (AJ 9) (Ie^AJ 14) D8)^AM (Ak CL (Z8 OH (AJ 9) D8^Ie^AJ 14)^Z8 OH (AJ 9) (Ie^Ak CL (AJ 14)^wC^D.int 1) D8)^AM (Ak V7 (Z8 OH (AJ 9) D8^Ie^AJ 14)^wC^D.int 2) Ag) (Bm 16) (Au (Bj 17^Ae (HJ C_Keeper)^AH (B9^AJ 16)^AH (AS^AJ 2) AW)
 (Cv (L0 (Am^Ak (V8 u_) (wC^D.str "none")^AJ 17)^Am^Ak (RN t_) (Ak CI (AJ 17)^wC^D.int 0)^Ak CI (AJ 17)^wC^D.int 1) (Cd^wC^D.bl u_) B0)))
 (Cd^Ak (RN u_) (EZ GK^AM (HL C_Keeper "lines" (KW C_Keeper) (AJ 6) AW) Ag)^EZ GK^AM (Ae M7^AH (AS^EY Ex^AH (AS^AJ 7) AW) AW) Ag))))))))))))))))))))
end Nt
set_option maxHeartbeats 1000000
namespace Nt
open L2 Dp
def LD(t:Af):("tie ":Str)++t.a++sp++t.b++sp++CH t.len=Ei t:=by
 rw[←N1];show _=("tie ":Str)++(t.a++sp++(t.b++sp++CH t.len));rw[Ba,Ba,Ba,Ba,Ba,Ba]
def bp:KZ [] []:=#[Pp.1,jp _,jp _]
def X6(h:KZ a b):okN #[a,b]:=#[h.1,jr h.2.1^by cbv,h.2.2]
theorem LQ(ok:N.Ok):∀x∈Nt.linesOf N,ND x:=λx d=>by
 unfold Nt.linesOf at d
 rcases jj.mp d with d|d
 .let#[y,g,rfl]:=TM.mp d
  have e:=ok.names y g;rw[←GG];refine#[by rw[len_app,show("place ":Str).length=6 by decide +kernel];have:=e.2.1;lk,λc a=>?_];rw[BY]at a
  rcases jj.mp a with a|a
  .exact(show ∀c∈cs "place ",c<128 by decide +kernel) c a
  .have:=e.2.2 c a;lk
 .let#[t,h,rfl]:=TM.mp d
  have b:=Gw ok h;have i:=GD b.2.2.2.1 b.2.2.2.2;have j:=b.1.2.1;have k:=b.2.1.2.1;rw[←LD];refine#[by rw[len_app,len_app,len_app,len_app,len_app,show("tie ":Str).length=4 by decide +kernel,show sp.length=1 by decide +kernel];lk,λc a=>?_];rw[BY,BY,BY,BY,BY]at a;simp only[jj]at a;have f:∀c∈cs sp,c<128:=by decide +kernel
  rcases a with((((a|a)|a)|a)|a)|a
  .exact(show ∀c∈cs "tie ",c<128 by decide +kernel) c a
  .have:=b.1.2.2 c a;lk
  .exact f c a
  .have:=b.2.1.2.2 c a;lk
  .exact f c a
  .have:=(IK b.2.2.2.1 c a).2;lk
theorem O_:∀c n P,KU C c n P->Om C c n P (λ_ _ _ _=>False):=by
 rintro c n P ⟨t,b,N,rfl,ok,d,f,p⟩;exists t,b,_,rfl,f,LQ ok.1,?_
 .unfold Nt.linesOf
  rw[eq,Ev,Ev]
  have:=ok.2.2
  lk
 rw[Nb ok.1 d ok.2.2];exact λa T g h i j e=>p a T g h i e.1 j e.2
def fL(d e:D):lj ("row":Str)^(["row","word"]:v_ Str).zip [d,e]=P3 d:=rfl
theorem fK(d e:D):lj ("word":Str)^(["row","word"]:v_ Str).zip [d,e]=P3 e:=by
 show(match ("word":Str)=="row" with|true=>P3 d|false=>lj ("word":Str) [("word",e)])=P3 e;rw[show(("word":Str)=="row")=u_ by decide +kernel];rfl
theorem XN{r k:Nat}(a:r<=1000)(b:k<=4):Iv^.tup [.int (r:Int),.int (k:Int)]:=by
 refine IE (B:=1000001) (by cbv) #[?_,?_,trivial] ?_ ?_
 .show(r:Int).natAbs<=1000001;lk
 .show(k:Int).natAbs<=1000001;lk
 .show max 0^max 0 0+1<=100;decide
 .show 200+1+(200+1+0)<=200000;decide
end Nt
set_option maxHeartbeats 2000000
namespace Nt
open L2 Dp
def fO(C:Ch):AY:=(Au (Bj 6^EY IY^AH (Bc 0)^AH (AS^AJ 4)^AH (AS^AJ 2)^AH (AS^AJ 3) AW)
 (Au (HM^Ae (FJ C)^AH (AS^AJ 1)^AH (AS^AJ 6) AW)
 (HM^Ae Rx^AH (AS^AJ 4)^AH (AS^AJ 6) AW)))
def fN(C:Ch):AY:=(Au (Bj 13^EY IY^AH (Bc 1)^AH (AS^AJ 7)^AH (AS^AJ 4)^AH (AS^AJ 5) AW)
 (Au (Cv (Am^Ak (RN t_) (O2 .sh GK^AM (Ae (FJ C)^AH (AS^Ak CI (AJ 11)^wC^D.int 0)^AH (AS^AJ 13) AW) Ag)^O2 .sh GK^AM (Ae (FJ C)^AH (AS^AJ 6)^AH (AS^AJ 13) AW) Ag) (Cd^wC^D.bl u_) B0)
 (HM^Ae Rx^AH (AS^AJ 7)^AH (AS^AJ 13) AW)))
theorem W9(nd:c.Nodup)(hq:∀x∈c,Du x)(p2:2<=c.length)(K:c.length<=20)(k0:0<=h)(k4:h<=4)
  (I:Ho70 C t b c (k+1) n a l g N M r s) (nn:5<=n.n)
  (q:∀(O:Sg) (N' M':Net) (i:v_ Str) (j:v_ Af) (L:Slot),n.n<=O.n+5->Ho70 C t b c k O a l g N' M' i j->D2.nx O [.fd,.sh^.ob a,.sh^.tup^c.map .str,.sh^.int h,.sh^EV (.ob l)^.ob g,s5,L]):
  fO C D2 n [.fd,.sh^.ob a,.sh^.tup^c.map .str,.sh^.int h,.sh^EV (.ob l)^.ob g,s5,L]:=by
 let#[H,a2,u,v,P,o,lt,J,y,l1,l2]:=I;have Q:=H.1;have R:=H.2.1;have S:=H.2.2.1;have tm:=H.2.2.2;have el:=Jv (N':=N) J;unfold fO;exists[l,g],[.fd,.sh^EV (Hx r)^Fx s,.sh^.tup^c.map .str,.sh^.int h],?_,?_
 .show [Slot.fd,.sh^Dp.ET n.w^EV (.ob l)^.ob g,.sh^.tup^(c.map D.str).map^FK n.w,.sh^.int h]=_
  rw[(DX u v).1,(F3 _ _).1]
 .show([]:v_ Ch)++(FL n.w^EV (.ob l)^.ob g++((c.map D.str).flatMap^GC n.w++([]++[])))=_
  rw[(DX u v).2,(F3 _ _).2];rfl
 refine#[N,r,s,c,h,rfl,J,nd,hq,p2,K,y,by lk,k0,k4,(by show 5<=n.n;lk),λd m hd hm=>#[RX d,?_]];have hm:n.n<=m+5:=hm;rw[Sg.kB];let#[N',dN,e,z,a3,a4]:=Ju J hq y (by lk) (by lk) hd;refine#[a,t,b,N,M,N',d,rfl,#[Q,R,S,tm],#[by lk,by lk],dN,e,λT A B x1 x2 hT hc hw E F a5=>?_];have U:=hT.okN e;have E:n.w x1=s_:=E;have F:n.w x2=s_:=F;have V:=C1 Q E;have W:=C1 Q F;have X:=C1 u E;have Y:=C1 u F;have Z:=C1 v E;have a0:=C1 v F;obtain⟨p,f⟩:∃p,p=Mt ((⟨m,n.w⟩:Sg).put a^kc C t b N' T) x1 x2 A B:=#[_,rfl];rw[←f];have a6:p.n=m:=by rw[f];rfl
 have w3:p.w a=P3^kc C t b N' T:=by rw[f];exact(Ab W).trans^(Ab V).trans (BG ..)
 have w4:p.w l=P3^.pl^Hx r:=by rw[f];exact(Ab Y).trans^(Ab X).trans^(Ab P.symm).trans u
 have w5:p.w g=P3^.pl^Fx s:=by rw[f];exact(Ab a0).trans^(Ab Z).trans^(Ab o.symm).trans v
 refine#[l,g,N,N',r,s,d,rfl,lt,w4,w5,J,dN,e,λn3 i j a7 v4 v5 G a1=>?_];exact q n3 N' T i j _ (by lk) #[#[(a1 _ P o).trans w3,e,U,tm],hT,v4,v5,P,o,lt,G,λx hx=>z x^G.1.mem_iff.mpr hx,by lk,by lk]
structure yP (C:Ch) (t b t' b':Int) (pool:List Str) (k:Nat) (n:Sg) (a l u a1 a2:Ch) (N M N0 M2:Net) (ps:List Str) (us:List Af):Prop where
 h:Ho70 C t b pool k n a l u N M ps us
 k1:NE C n a1 t b N M
 k2:NE C n a2 t' b' N0 M2
 d1:a1≠a/\a1≠l/\a1≠u
 d2:a2≠a/\a2≠l/\a2≠u/\a2≠a1
def yP.to{N M p M2:Net}(I:yP C t b g i d k n a l u m o N M p M2 q r)(x:j<=k)(e:∀y,n.w y≠s_->f.w y=n.w y):yP C t b g i d j f a l u m o N M p M2 q r:=by
 have s:∀{y:Ch}{c:Wc},n.w y=P3 c->f.w y=P3 c:=λ{y c} h=>(e y^by rw[h];exact λz=>by cases z).trans h
 exact#[I.h.to x λy v=>by
  simp only[UF,jw,or_false]at v
  rcases v with rfl|rfl|rfl
  .exact e _^by rw[I.h.kp.1];exact λz=>by cases z
  .exact e _^by rw[I.h.wl];exact λz=>by cases z
  .exact e _ (by rw[I.h.wt];exact λz=>by cases z),#[s I.k1.1,I.k1.2],#[s I.k2.1,I.k2.2],I.d1,I.d2]
def dC(t b e f:Int)(c:v_ Str)(g:Int)(a l u h i:Ch)(d:Net)(r:v_ Slot):v_ Slot:=[.no,.fd,.sh^tD t b,.sh^tD e f,.sh^.tup^c.map .str,.sh^.int g,.sh^.ob a,.sh^EV (.ob l)^.ob u,.sh^enc d,.sh^.lst^(Nt.linesOf d).map .str,.ow^.lst [],.sh^.lst [.ob h,.ob i]]++r
theorem aJ(nd:e.Nodup)(hq:∀x∈e,Du x)(p2:2<=e.length)(b1:e.length<=20)(k0:0<=G)(k4:G<=4){N M N0 M2:Net}{S H U V W Y:Slot}
  (I:yP C t b t' b' e (k+1) n a l u E a2 N M N0 M2 ps us) (nn:5<=n.n)
  (q:∀(n':Sg) (N' M':Net) (J:v_ Str) (K:v_ Af) (H:Slot),n.n<=n'.n+5->yP C t b t' b' e k n' a l u E a2 N' M' N0 M2 J K->D2.nx n'^dC t b t' b' e G a l u E a2 N0 [S,H,U,V,W,Y]):
  fN C D2 n (dC t b t' b' e G a l u E a2 N0 [S,H,U,V,W,Y]):=by
 let#[#[kp,c1,wl,wt,al,L,lt,st,Z,l1,l2],k1,k2,#[A,O,P],#[a0,a3,a4,a5]]:=I;have wa:=kp.1;have a6:=k1.1;have b2:=k2.1;have b3:=kp.2.1;have Q:=kp.2.2.1;have tm:=kp.2.2.2;have el:=Jv (N':=N) st;unfold fN;exists[l,u],[.fd,.sh^EV (Hx ps)^Fx us,.sh^.tup^e.map .str,.sh^.int G],?_,?_
 .show [Slot.fd,.sh^Dp.ET n.w^EV (.ob l)^.ob u,.sh^.tup^(e.map D.str).map^FK n.w,.sh^.int G]=_
  rw[(DX wl wt).1,(F3 _ _).1]
 .show([]:v_ Ch)++(FL n.w^EV (.ob l)^.ob u++((e.map D.str).flatMap^GC n.w++([]++[])))=_
  rw[(DX wl wt).2,(F3 _ _).2];rfl
 refine#[N,ps,us,e,G,rfl,st,nd,hq,p2,b1,Z,by lk,k0,k4,(by show 5<=n.n;lk),λd m hd hm=>#[RX d,?_]];have hm:n.n<=m+5:=hm;rw[Sg.kB];let#[N',dN,o,a7,c2,c3]:=Ju st hq Z (by lk) (by lk) hd;refine#[_,AE (j:=0) rfl,E,t,b,N,M,N',d,rfl,k1,#[by lk,by lk],dN,o,λT f i x1 x2 hT hc hw e1 e2 b4=>?_];have B:=hT.okN o;have e1:n.w x1=s_:=e1;have e2:n.w x2=s_:=e2;obtain⟨z,s⟩:∃z,z=Mt ((⟨m,n.w⟩:Sg).put E^kc C t b N' T) x1 x2 f i:=#[_,rfl];rw[←s];have b5:z.n=m:=by rw[s];rfl
 have p:∀{y:Ch}{c:Wc},n.w y=P3 c->y≠E->z.w y=P3 c:=λ{y c} h g=>by rw[s];exact(Ab^C1 h e2).trans^(Ab^C1 h e1).trans^(Ab g).trans h
 have v1:z.w x1=P3^.pl^.lst^f.map AZ:=by rw[s];exact(Ab b4).trans (BG ..)
 have v2:z.w x2=P3^.pl^.lst^i.map AZ:=by rw[s];exact BG ..
 have v3:z.w E=P3^kc C t b N' T:=by rw[s];exact(Ab^C1 a6 e2).trans^(Ab^C1 a6 e1).trans (BG ..)
 have i1:∀d∈f.map AZ,item d:=λd hd=>by
  let#[u,hu,rfl]:=TM.mp hd;exact En B.1 _^List.mem_map_of_mem^VM hc u hu
 have i2:∀d∈i.map AZ,item d:=λd hd=>by
  let#[u,hu,rfl]:=TM.mp hd;exact En Q.1 _^List.mem_map_of_mem^VM hw u hu
 have j1:(f.map AZ).length<=60:=by rw[Ev];exact jr (Q1 hc) B.2.2
 have j2:(i.map AZ).length<=60:=by rw[Ev];exact jr (Q1 hw) Q.2.2
 have sh:=PK i1 i2 j1 j2;refine#[[.tup [.lst^f.map AZ,.lst^i.map AZ]],?_,#[_,rfl,sh,rfl,?_]]
 .show [Dp.ET z.w^.tup [.ob x1,.ob x2]]=_
  rw[UZ v1 v2]
 refine#[a,t,b,N,M,N',d,rfl,#[p wa A.symm,b3,Q,tm],#[by lk,by lk],dN,o,λT' b6 b7 y1 y2 a8 b8 b9 f1 f2 c0=>?_];have eT:T'=T:=a8.uniq hT;subst eT;rw[b8.uniq hc,b9.uniq hw];obtain⟨F,v⟩:∃F,F=Mt (z.put a^kc C t b N' T') y1 y2 f i:=#[_,rfl];rw[←v];have c4:F.n=m:=by rw[v];exact b5
 have r:∀{y:Ch}{c:Wc},z.w y=P3 c->y≠a->F.w y=P3 c:=λ{y c} h g=>by rw[v];exact(Ab^C1 h f2).trans^(Ab^C1 h f1).trans^(Ab g).trans h
 have u1:F.w y1=P3^.pl^.lst^f.map AZ:=by rw[v];exact(Ab c0).trans (BG ..)
 have u2:F.w y2=P3^.pl^.lst^i.map AZ:=by rw[v];exact BG ..
 have a9:z.w a=P3^kc C t b N M:=p wa A.symm;have u3:F.w a=P3^kc C t b N' T':=by rw[v];exact(Ab^C1 a9 f2).trans^(Ab^C1 a9 f1).trans (BG ..)
 refine#[[.tup [.lst^f.map AZ,.lst^i.map AZ]],?_,#[_,rfl,sh,rfl,?_]]
 .show [Dp.ET F.w^.tup [.ob y1,.ob y2]]=_
  rw[UZ u1 u2]
 generalize C_^D.tup [.lst^f.map AZ,.lst^i.map AZ]=X;refine Gr ?_;refine#[l,u,N,N',ps,us,d,rfl,lt,r (p wl O.symm) al.symm,r (p wt P.symm) L.symm,st,dN,o,λn4 J K c5 z4 z5 b0 R=>?_];refine q n4 N' T' J K _ (by lk) #[#[#[(R _ al L).trans u3,o,B,tm],a8,z4,z5,al,L,lt,b0,λx hx=>a7 x^b0.1.mem_iff.mpr hx,by lk,by lk],#[(R _ O P).trans^r v3 A,o,B,tm],#[(R _ a3 a4).trans^r (p b2 a5) a0,k2.2],#[A,O,P],#[a0,a3,a4,a5]]
theorem aj:∀r∈kH 101,∀k∈kH 5,(cs^C_^.tup [.int ((r:Nat):Int),.int ((k:Nat):Int)]).all (λc=>decide (c<1114112))=t_/\(cs^C_^.tup [.int ((r:Nat):Int),.int ((k:Nat):Int)]).head?=P3 40:=by decide +kernel
theorem fX(f:∀x∈a,ND x)(i:a.length<=100):CT^.str^S9^A6 0 [] [] a/\(S9^A6 0 [] [] a=="none")=u_:=by
 have b:=Ef a 0 [] [] f bp;cases e:A6 0 [] [] a with
 |inr q=>exact#[#[rfl,Dn (show ∀c∈cs "ok",c<1114112 by decide +kernel),jp _],show(("ok":Str)=="none")=u_ by decide +kernel]
 |inl q=>
  let#[r,k]:=q;rw[e]at b;let#[g,d]:=aj r (lR.mpr^by lk) k (lR.mpr^by lk);show CT^.str^C_^.tup [.int (r:Int),.int (k:Int)]/\(C_^.tup [.int (r:Int),.int (k:Int)]=="none")=u_;refine#[#[rfl,Dn λc h=>of_decide_eq_true^lE.mp g c h,jp _],beq_eq_false_iff_ne.mpr λz=>?_];rw[z]at d;exact absurd d^by decide +kernel
def Sx(h:CT^.str s):CT^.lst [.str s,.str s]:=by
 let#[b,a,c]:=h;refine#[rfl,?_,show(1:Nat)<=100 by cbv];show((toPy^.str s).canLay0&&((toPy^.str s).canLay0&&t_))=t_;rw[a];rfl
theorem F1(ok:okN N)(l:N.ps.length<=24):Iv^.lst^(Nt.linesOf N).map .str:=by
 let#[a,b,c]:=JX ok.1 l ok.2.2;exact IE (by cbv) a (by lk)^by lk
def fM(C:Ch):AY:=(Au (Bj 17^Ae (HJ C)^AH (B9^AJ 16)^AH (AS^AJ 2) AW)
 (Cv (L0 (Am^Ak (V8 u_) (wC^D.str "none")^AJ 17)^Am^Ak (RN t_) (Ak CI (AJ 17)^wC^D.int 0)^Ak CI (AJ 17)^wC^D.int 1) (Cd^wC^D.bl u_) B0))
theorem VZ:CT^.str "none":=#[rfl,Dn (show ∀c∈cs "none",c<1114112 by decide +kernel),jp _]
theorem cP(D:NQ t b){d:v_ Str}(y:∀x∈d,ND x)(E:d.length<=100)
  (q:∀i s,Keeps n i->z.nx i^dC t b m o c p a l u r v w [e,f,g,h,.sh^.lst^d.map .str,s]):fM C z n^dC t b m o c p a l u r v w [e,f,g,h,.sh^.lst^d.map .str,k]:=by
 unfold fM;refine#[t,b,d,rfl,D,y,by lk,λi F=>?_];let#[A,B]:=fX y E;replace q:=λs=>q i s F;generalize S9^A6 0 [] [] d=X at A B ⊢;exists VZ,Sx A,_,rfl;show if((X=="none")||((X=="none")||false))=t_ then _ else _
 rw[B];refine Ay #[_,AE (j:=0) rfl,_,AE (j:=1) rfl,?_];exact Gr^q _
def HD(a:v_ Str)(lo hi:w_ Int):Dp.cutD (a.map D.str) lo hi=(Dp.cutD a lo hi).map D.str:=by
 unfold Dp.cutD;rw[Ev,List.map_take,List.map_drop]
def C8{b:Type}(a:v_ b)(lo hi:w_ Int):(Dp.cutD a lo hi).Sublist a:=(qX _ _).trans^List.drop_sublist _ _
def i7(d:D):Prop:=∃a:v_ Str,d=.lst^a.map .str/\(∀x∈a,ND x)/\a.length<=100
def Fh(h:w.length<=1000/\(cs w).all (λc=>decide (c<128))=t_):ND w:=#[h.1,λc a=>of_decide_eq_true^lE.mp h.2 c a]
theorem fG(a:0<=r)(b:r<7):∃o:Str,atI [D.str "",.str "place",.str "place a",.str "tie a b",.str "tie a b 0",.str "places a",.str "place zzzzzzzz"] r=P3^.str o/\ND o:=by
 rcases(show r=0\/r=1\/r=2\/r=3\/r=4\/r=5\/r=6 by lk)with rfl|rfl|rfl|rfl|rfl|rfl|rfl
 .exact#[_,rfl,Fh^by decide +kernel]
 .exact#[_,rfl,Fh^by decide +kernel]
 .exact#[_,rfl,Fh^by decide +kernel]
 .exact#[_,rfl,Fh^by decide +kernel]
 .exact#[_,rfl,Fh^by decide +kernel]
 .exact#[_,rfl,Fh^by decide +kernel]
 .exact#[_,rfl,Fh^by decide +kernel]
theorem PR(b6:400<=P.n):Rc C {nx:=λ_ _=>False,rt:=λd _=>d=.bl t_} P (.no::.fd::jk 16 .no):=by
 unfold Rc;refine#[rfl,by lk,λt b b0 bt tt=>?_];refine#[rfl,(by show 1<=P.n - 1;lk),λE F a9 b7 b1=>?_];have tm:NQ t b:=#[b0,by lk,by lk,tt];have a4:NQ E F:=#[a9,by lk,by lk,b1];refine#[7,rfl,by cbv,(by show 2<=P.n - 1 - 1;lk),λg lp hq a5=>?_];refine#[5,rfl,by cbv,by cbv,(by show 1<=P.n - 1 - 1 - 2;lk),λkk k0 k5=>?_];have nd:=F2 a5;refine λa ha=>#[a,t,b,rfl,BG ..,rfl,?_];generalize a6:Sg.put (Sg.put (P - 1 - 1 - 2 - 1) a^.ins C [] []) a^kc C t b #[[],[]] #[[],[]]=n1;have b8:n1.n=P.n - 1 - 1 - 2 - 1:=by rw[←a6];rfl
 have w1:n1.w a=P3^kc C t b #[[],[]] #[[],[]]:=by rw[←a6];exact BG ..
 refine#[a,t,b,g,kk,rfl,nd,hq,by lk,by lk,k0,by lk,#[w1,Pp,Pp,tm],by lk,λl u N T ps us n2 hn R hT wl wu al au lu st b2 lN lT=>?_];have i:=R.2.1;have a7:=F1 i (by lk);exists[l,u],[.sh^EV (Hx ps)^Fx us],?_,?_,N,ps,us,rfl,st,Dx N
 .show [Slot.sh^Dp.ET n2.w^EV (.ob l)^.ob u]=_
  rw[(DX wl wu).1]
 .show FL n2.w^EV (.ob l)^.ob u++[]=_
  rw[(DX wl wu).2];rfl
 rw[FI];refine#[a,_,_,rfl,R.1,by cbv,a,t,b,N,T,rfl,R,by lk,_,rfl,a7,N,rfl,i.1,by lk,i.2.2,_,rfl,a7,Gr ?_];refine#[t,b,N,rfl,i,by lk,tm,λK T1 n3 S f1 m3 v1 o3=>#[E,F,N,rfl,i,by lk,a4,λL U V W f2 m4 v2 o4=>#[z2,?_]]]
 have Y:∀{y:Ch}{c:Wc},n2.w y=P3 c->V.w y=P3 c:=λ{y c} h=>by
  have h3:n3.w y=P3 c:=(o3 y^by rw[h];exact λz=>by cases z).trans h;exact(o4 y^by rw[h3];exact λz=>by cases z).trans h3
 have b3:V.w K=P3^kc C t b N T1:=(o4 _^by rw[v1];exact λz=>by cases z).trans v1;have K1:NE C V K t b N T1:=#[b3,i,S.okN i,tm];have K2:NE C V L E F N U:=#[v2,i,W.okN i,a4];have lay:=Su i (by lk);exists lay,lay;show if(!Fn (.lst^(Nt.linesOf N).map .str) (.lst^(Nt.linesOf N).map .str))=t_ then _ else _
 rw[TF];refine Ay #[_,AE (j:=0) rfl,K,t,b,N,T1,rfl,K1,S,Ay #[_,AE (j:=1) rfl,L,E,F,N,U,rfl,K2,W,Ay ?_]];exists _,rfl,rfl,_,rfl,rfl;have eT:T1=T:=S.uniq hT;subst eT;have Z:∀{y:Ch}{c:Wc},n2.w y=P3 c->y≠L:=λ{y c} h=>C1 ((o3 y^by rw[h];exact λz=>by cases z).trans h) f2;have I0:yP C t b E F g 8 V a l u K L N T1 N U ps us:=#[#[#[Y R.1,R.2],hT,Y wl,Y wu,al,au,lu,st,b2,by lk,by lk],K1,K2,#[(C1 R.1 f1).symm,(C1 wl f1).symm,(C1 wu f1).symm],#[(Z R.1).symm,(Z wl).symm,(Z wu).symm,(C1 v1 f2).symm]];have b9:P.n<=V.n+65:=by lk
 refine#[6,rfl,by cbv,by cbv,(by lk),λr r0 r6=>#[_,rfl,#[by lk,by lk],?_]];refine G1 (λk' m ρ=>50+5*k'<=m.n/\∃q M ps us O G a0 a3 A B,yP C t b E F g (k'+3) m a l u K L q M N U ps us/\ρ=dC t b E F g kk a l u K L N [O,G,a0,a3,A,B]) ?_ ?_ _ _ _ #[?_,N,T1,ps,us,_,_,_,_,_,_,I0.to (by rw[Ce];lk) λ_ _=>rfl,rfl]
 .rintro m ρ ⟨hm,q,M,k,p,O,G,a0,a3,A,B,I,rfl⟩
  have b4:=I.h.kp;have H:=I.h.st;have c0:=I.h.l1
  have e1:[Slot.sh^EV (.ob l)^.ob u].map^am m.w=[.sh^EV (Hx k)^Fx p]:=by
   show [Slot.sh^Dp.ET m.w^EV (.ob l)^.ob u]=_;rw[(DX I.h.wl I.h.wt).1]
  have e2:[Slot.sh^EV (.ob l)^.ob u].flatMap^Xs m.w=[l,u]:=by
   show FL m.w^EV (.ob l)^.ob u++[]=_;rw[(DX I.h.wl I.h.wt).2];rfl
  exists _,AE (j:=0) rfl,[l,u],_,e1,e2,q,k,p,rfl,H,Dx q;rw[FI];refine#[K,t,b,q,M,rfl,I.k1,I.h.tn,Ay #[[l,u],_,e1,e2,q,k,p,rfl,H,Dx q,?_]];rw[FI];refine#[a,t,b,q,M,rfl,b4,I.h.tn,Ay #[_,AE (j:=1) rfl,L,E,F,N,U,rfl,I.k2,W,Ay ?_]];have len:(Nt.linesOf N).length=N.ps.length+N.ts.length:=by unfold Nt.linesOf;rw[eq,Ev,Ev]
  have J:=LQ i.1;have c1:=Ev (f:=D.str) (as:=Nt.linesOf N);refine#[_,_,rfl,rfl,_,rfl,(by lk),(by lk),(by lk),λe c2 c3=>?_];refine#[(by cbv:7<=sizeLine),7,rfl,by cbv,by cbv,(by show 1<=m.n - 1;lk),λo o0 o7=>?_];let#[od,eo,lo]:=fG o0 o7;exists _,eo;have L1:=(C8 (Nt.linesOf N) s_^P3 e).length_le;have L2:=(C8 (Nt.linesOf N) (P3 e) s_).length_le;have L3:=(C8 (Nt.linesOf N) (P3 (e+1)) s_).length_le;have S1:=λx v=>J x^(C8 (Nt.linesOf N) s_^P3 e).subset v;have S2:=λx v=>J x^(C8 (Nt.linesOf N) (P3 e) s_).subset v;have S3:=λx v=>J x^(C8 (Nt.linesOf N) (P3 (e+1)) s_).subset v;have E1:=HD (Nt.linesOf N) s_^P3 e;have E2:=HD (Nt.linesOf N) (P3 e) s_;have E3:=HD (Nt.linesOf N) (P3 (e+1)) s_;have z:1000<=sizeLine:=by cbv
  generalize Dp.cutD (Nt.linesOf N) s_^P3 e=A1 at L1 S1 E1;generalize Dp.cutD (Nt.linesOf N) (P3 e) s_=A2 at L2 S2 E2;generalize Dp.cutD (Nt.linesOf N) (P3 (e+1)) s_=A3 at L3 S3 E3;have M1:(Dp.cutD ((Nt.linesOf N).map D.str) s_^P3 e).length<=20:=by rw[E1,Ev];lk
  have M2:(Dp.cutD ((Nt.linesOf N).map D.str) (P3 e) s_).length<=20:=by rw[E2,Ev];lk
  have M3:(Dp.cutD ((Nt.linesOf N).map D.str) (P3 (e+1)) s_).length<=20:=by rw[E3,Ev];lk
  have M4:(Dp.cutD ((Nt.linesOf N).map D.str) s_^P3 e++[D.str od]).length<=21:=by rw[eq];exact qF M1^Sc 1
  exists(by cbv:1<=sizeLine),jr (qF M1^Sc 1) (by cbv:21<=sizeLine),jr (qF M4 M2) (by cbv:41<=sizeLine),jr (qF M1 M3) (by cbv:40<=sizeLine),(by cbv:(0:Int)<=2),(by cbv:(2:Int)<1000),jr (Nat.mul_le_mul_right 2 M1) (by cbv:40<=sizeLine),(by cbv:3<=sizeLine);rw[E1,E2,E3];refine G0 (all:=[D.lst (A1.map D.str++[D.str od]++A2.map D.str),.lst (A1.map D.str++A3.map D.str),.lst (jk 2^A1.map D.str).flatten]) (λ_ m' ρ=>∃A B,yP C t b E F g 3 m' a l u K L q M N U k p/\ρ=dC t b E F g kk a l u K L N [O,G,.sh^.int e,.sh^.str od,A,B]) ?_ ?_ _ [] _ _ rfl #[_,_,I.to (by lk) λ_ _=>rfl,rfl]
  .rintro m' ρ ⟨A,B,I,rfl⟩
   have Q:=F1 I.h.kp.2.1 (by lk);exists a,_,_,rfl,I.h.kp.1,by cbv,a,t,b,q,M,rfl,I.h.kp,by lk,_,rfl,Q,[l,u],[.sh^EV (Hx k)^Fx p],?_,?_,q,k,p,rfl,H,Dx q
   .show [Slot.sh^Dp.ET m'.w^EV (.ob l)^.ob u]=_
    rw[(DX I.h.wl I.h.wt).1]
   .show FL m'.w^EV (.ob l)^.ob u++[]=_
    rw[(DX I.h.wl I.h.wt).2];rfl
   rw[FI];exists q,rfl,H.2.2.1,by lk,H.2.2.2.2,_,rfl,Q;generalize C_^.lst^(Nt.linesOf q).map .str=X;show D.bl (X==X)=.bl t_;rw[beq_self_eq_true]
  .rintro c4 d b5 m' ρ nx a8 ⟨A,B,I,rfl⟩ h
   have hd:i7 d:=by
    have md:=(a8▸jm _ No:d∈[D.lst (A1.map D.str++[D.str od]++A2.map D.str),.lst (A1.map D.str++A3.map D.str),.lst (jk 2^A1.map D.str).flatten]);simp only[UF,jw,or_false]at md
    rcases md with rfl|rfl|rfl
    .refine#[A1++[od]++A2,by rw[j8,j8];rfl,λx v=>?_,by rw[eq,eq,kN];lk]
     simp only[jj,Re]at v
     rcases v with(v|rfl)|v
     .exact S1 x v
     .exact lo
     .exact S2 x v
    .refine#[A1++A3,by rw[j8],λx v=>?_,by rw[eq];lk]
     exact(jj.mp v).elim (S1 x)^S3 x
    .refine#[A1++A1,?_,λx v=>(jj.mp v).elim (S1 x)^S1 x,by rw[eq];lk]
     show D.lst (A1.map D.str++(A1.map D.str++[]))=_;rw[j5,j8]
   let#[ls,rfl,hl,hn]:=hd;exact cP tm hl hn λn' s kq=>h _ _ #[_,_,I.to (Sc _) kq.2,rfl]
 .rintro k' d m ρ nx ⟨hm,q,M,k,p,O,G,a0,a3,A,B,I,rfl⟩ h
  have I':yP C t b E F g ((k'+3)+1) m a l u K L q M N U k p:=I.to (by lk) λ_ _=>rfl;exact aJ nd hq (by lk) (by lk) k0 (by lk) I' (by lk) λn' q M k p G c5 I2=>h _ _ #[by lk,q,M,k,p,_,_,_,_,_,_,I2,rfl]
 .rw[Ce];show 50+5*r.toNat<=V.n - 1;lk
end Nt
set_option maxHeartbeats 4000000
namespace K75
open L2 Dp Nt
section
variable (P:Program)(w:World)(K:Frag)(mg:Str->w_ Value)(base:Heap)(C:Addr)
abbrev QQ:Prop:=Got P w K mg base "steps_of" 1 ["net"] .sh Wo
abbrev QR:Prop:=QS P w K mg base "read_net" 6 ["lines"] .sh Rt
abbrev Gb:Prop:=cw P w K mg base "Keeper" C 1 ["self","times"]^Rw C
abbrev Ol:Prop:=Got P w K mg base "_law_next" 1 ["_law_feed_here","_law_many"] .sh Cu
end
def Xz:∀a n P,KY a n P->a.length=1:=λ_ _ _ h=>by rcases h with⟨rfl,_⟩|⟨_,_,_,rfl,_⟩ <;>rfl
def ik{b:v_ Str}(c:∀f:Nat->Db,bindArgs d #[(kH n).map f,[]]=pure^b.zip^(kH n).map f)(a:v_ Db)(h:a.length=n):bindArgs d #[a,[]]=pure^b.zip a:=by
 have e:a=(kH n).map λi=>a.getD i .none:=by
  apply qz <;>simp_all
 rw[e];exact c _
local macro_rules|`(tactic|walk_at "R")=>`(tactic|(intro _ _ _ _ h;repeat (first|(obtain⟨e,_⟩:=h;subst e;rfl)|(obtain⟨_,h⟩:=h))))
local macro_rules|`(tactic|walk_at "L")=>`(tactic|(first|exact bZ|exact Xz|(intro _ _ _ h;repeat (first|(obtain⟨e,_⟩:=h;subst e;rfl)|(obtain⟨_,h⟩:=h)))))
local macro_rules|`(tactic|walk_at "B")=>`(tactic|(intro _ _ _ _ _ _;exact ik λ_=>rfl))
def Ht(K:Frag)(x:Str)(a:kn):Prop:=∃(f:Ch) (c:Db) (d e:w_ Ch) (g:Array^w_ Db) (kV h i b j:Db),nsIn K mainGlobals x=P3^P3^.ref f/\K.lookup f=P3 #[c,d,.func^fnOf x x (BH a) (Aj a) (AK a) .none kV h i e b j,g]/\codeIn K b x=t_/\keepIn K^.ref f=t_
def Hn(K:Frag)(x:Str):Prop:=nsIn K mainGlobals x=P3 s_
def Hi(K:Frag)(x:Str)(i:Int):Prop:=∃t,nsIn K mainGlobals x=P3^P3^.int i t
def Ht.mk{K:Frag}{kV j m d n:Db}(a:nsIn K mainGlobals x=P3^P3^.ref f)(l:K.lookup f=P3 #[e,g,.func^fnOf x x (BH b) (Aj b) (AK b) .none kV j m h d n,i])(c:codeIn K d x=t_)(k:keepIn K^.ref f=t_):Ht K x b:=#[f,e,g,h,i,kV,j,m,d,n,a,l,c,k]
def Hi.mk{K:Frag}(a:nsIn K mainGlobals x=P3^P3^.int i t):Hi K x i:=#[t,a]
def Hn.mk{K:Frag}(a:nsIn K mainGlobals x=P3 s_):Hn K x:=a
def Hm(K:Frag)(C:Ch)(x q:Str)(a:kn):Prop:=∃(f:Ch) (c:Db) (d e:w_ Ch) (g:Array^w_ Db) (kV h i b j:Db),PySem.W.findIn K (.ref C) x=P3^P3^.ref f/\K.lookup f=P3 #[c,d,.func^fnOf x q (BH a) (Aj a) (AK a) .none kV h i e b j,g]/\codeIn K b q=t_/\PySem.W.isFn K^.ref f=t_/\keepIn K^.ref f=t_
def Hm.mk{K:Frag}{kV j m d o:Db}(a:PySem.W.findIn K (.ref C) x=P3^P3^.ref f)(l:K.lookup f=P3 #[e,g,.func^fnOf x q (BH b) (Aj b) (AK b) .none kV j m h d o,i])(c:codeIn K d q=t_)(n:PySem.W.isFn K^.ref f=t_)(k:keepIn K^.ref f=t_):Hm K C x q b:=#[f,e,g,h,i,kV,j,m,d,o,a,l,c,n,k]
def Ha(K:Frag)(x y:Str):Prop:=∃f:Ch,nsIn K mainGlobals x=P3^P3^.ref f/\nsIn K mainGlobals y=P3^P3^.ref f
def Ha.mk{K:Frag}(a:nsIn K mainGlobals x=P3^P3^.ref f)(b:nsIn K mainGlobals y=P3^P3^.ref f):Ha K x y:=#[f,a,b]
def xc_mk{K:Frag}{bs c sub a:v_ Db}(at_:nsIn K mainGlobals i=P3^P3^.ref C)(j:nsIn K mainGlobals "ThinError"=P3^P3^.ref U)
  (o:K.lookup C=P3^excClassObj i q C N bs (.ref U::[.type "ValueError",.type "Exception",.type "BaseException",.type "object"]) t_ m sub n g p r s t v w "ValueError.__new__")
  (u:K.lookup U=P3^excClassObj "ThinError" k U l c [.type "ValueError",.type "Exception",.type "BaseException",.type "object"] f d a e b h x y z A B "ValueError.__new__")
  (D:keepIn K^.ref C=t_) (E:PySem.W.findIn K (.ref C) "__getattribute__"=P3^P3^.builtin "BaseException.__getattribute__") (F:PySem.W.findIn K (.ref C) "__getattr__"=P3 s_) (G:PySem.W.findIn K (.ref C) "__setattr__"=P3^P3^.builtin "object.__setattr__") (H:PySem.W.findIn K (.ref C) "__class__"=P3^P3^.builtin "object.__class__")
  (I:PySem.W.findIn K (.ref C) "word"=P3 s_) (J:PySem.W.findIn K (.ref C) "number"=P3 s_) (L:PySem.W.findIn K (.ref C) "row"=P3 s_):XC K i C U:=
 #[#[q,N,bs,m,sub,n,g,p,r,s,t,v,w,o],#[k,l,c,d,a,e,b,h,x,y,z,A,B,f,u],D,E,F,G,at_,j,H,I,J,L]
def H1(K:Frag)(a:Str):Prop:=∃C U,XC K a C U
def H2(K:Frag)(d a:Str)(b:kn):Prop:=∃C U,XC K d C U/\∃(f:Ch) (e:Db) (g h:w_ Ch) (i:Array^w_ Db) (kV j k c l:Db),PySem.W.findIn K (.ref C) "__init__"=P3^P3^.ref f/\PySem.W.typeIn K^.ref f=P3^.type "function"/\K.lookup f=P3 #[e,g,.func^fnOf "__init__" a (BH b) (Aj b) (AK b) .none kV j k h c l,i]/\codeIn K c a=t_/\keepIn K^.ref f=t_
def H1.mk{K:Frag}(c:XC K a C U):H1 K a:=#[C,U,c]
def H2.mk{K:Frag}{kV n o d p:Db}(c:XC K e C U)(i:PySem.W.findIn K (.ref C) "__init__"=P3^P3^.ref f)(ty:PySem.W.typeIn K^.ref f=P3^.type "function")
  (l:K.lookup f=P3 #[g,h,.func^fnOf "__init__" a (BH b) (Aj b) (AK b) .none kV n o j d p,m]) (q:codeIn K d a=t_) (k:keepIn K^.ref f=t_):H2 K e a b:=#[C,U,c,f,g,h,j,m,kV,n,o,d,p,i,ty,l,q,k]
def H2.h1{K:Frag}(H:H2 K b a d):H1 K b:=let #[C,U,c,_]:=H;#[C,U,c]
def H1.xm{K:Frag}(H:H1 K a)(X:K.In h)(G:h.Ns mainGlobals b):∃C U,XC K a C U/\b a=P3^.ref C:=let #[C,U,c]:=H;#[C,U,c,mg_of X G c.at_]
def H1.u{K:Frag}(H:H1 K b)(X:K.In h)(G:h.Ns mainGlobals a):∃U,dG K U/\a "ThinError"=P3^.ref U/\nsIn K mainGlobals "ThinError"=P3^P3^.ref U:=let #[C,U,c]:=H;#[U,c.isU,mg_of X G c.atU,c.atU]
structure C0 (K:Frag) (mg:Str->Option Db) (h:jq) (C:Ch):Prop where
 X:K.In h
 G:h.Ns mainGlobals mg
 c_Keeper:nsIn K mainGlobals "Keeper"=P3 (P3^.ref C)
 zq:Cls K C
 vN:vz K C "times"
 zj:vz K C "whole"
 zw:vz K C "kept"
 mk_Keeper:PySem.W.makesIn K C=t_
 kp_Keeper:keepIn K^.ref C=t_
 h00:Ht K "is_whole" (top 14)
 h01:Ht K "is_number" (top 15)
 h02:Ht K "is_name" (top 16)
 h03:Ht K "rank_of" (top 17)
 h04:Ht K "order_of" (top 18)
 h05:Ht K "steps_of" Fc
 h06:Ht K "only" (top 20)
 h07:Ht K "without" (top 21)
 h08:Ht K "left_out" (top 22)
 h09:Ht K "tie_texts" (top 24)
 h0a:Ht K "shown" (top 25)
 h0b:Ht K "is_length" (top 26)
 h0c:Ht K "place_fault" (top 27)
 h0d:Ht K "is_second_end" (top 28)
 h0e:Ht K "tie_fault" (top 29)
 h0f:Ht K "line_fault" (top 30)
 h0g:Ht K "read_net" Iz
 h0h:Ht K "length_of" (top 33)
 h0i:Ht K "nearest_of" (top 34)
 h0j:Ht K "least_ways" (top 35)
 h0k:Ht K "far" (top 36)
 h0l:Ht K "way_of" (top 38)
 h0m:Ht K "is_within" (top 40)
 h0n:Ht K "near_way" (top 41)
 h0o:Ht K "thinned" (top 42)
 h0p:Ht K "taken_up" (top 45)
 h0q:Ht K "_law_feed" Ee
 h0r:Ht K "_law_next" DP
 h0s:Ht K "_law_names" (top 49)
 h0t:Ht K "_law_places" (top 50)
 h0u:Ht K "_law_length" (top 51)
 h0v:Ht K "_law_times" (top 52)
 h0w:Ht K "_law_rank" (top 53)
 h0x:Ht K "_law_order" (top 54)
 h0y:Ht K "_law_reach" (top 55)
 h0z:Ht K "_law_thinned" (top 56)
 h10:Ht K "_law_net_of" (top 57)
 h11:Ht K "_law_pair" (top 58)
 h12:Ht K "_law_do" (top 59)
 h13:Ht K "_law_told" (top 60)
 h14:Ht K "_law_deed" (top 61)
 h15:Ht K "_law_lines" (top 62)
 h16:Ht K "_law_is" (top 63)
 h17:Ht K "_law_fault" (top 64)
 h18:Ht K "_law_faults" (top 65)
 h19:Ht K "_law_begun" (top 66)
 h1a:Ht K "law" I_
 h1b:Hm K C "__init__" "Keeper.__init__" Aq
 h1c:Hm K C "turn_to" "Keeper.turn_to" (DU 1^top 44)
 h1d:Hm K C "come" "Keeper.come" (DU 5^top 44)
 h1e:Hm K C "ask_place" "Keeper.ask_place" (DU 2^top 44)
 h1f:Hm K C "far" "Keeper.far" (DU 11^top 44)
 h1g:Hm K C "go" "Keeper.go" (DU 6^top 44)
 h1h:Hm K C "ties_between" "Keeper.ties_between" (DU 3^top 44)
 h1i:Hm K C "lay" "Keeper.lay" (DU 7^top 44)
 h1j:Hm K C "tie_between" "Keeper.tie_between" (DU 4^top 44)
 h1k:Hm K C "take" "Keeper.take" (DU 8^top 44)
 h1l:Hm K C "net" "Keeper.net" (DU 9^top 44)
 h1m:Hm K C "thin" "Keeper.thin" (DU 10^top 44)
 h1n:Hm K C "lines" "Keeper.lines" (DU 12^top 44)
 a_far_ways:Ha K "far" "far_ways"
 y_NoLine:H2 K "NoLine" "NoLine.__init__" CW
 yg:H1 K "NoPaper"
 y_TooMany:H1 K "TooMany"
 y_Twice:H1 K "Twice"
 y_NoPlace:H1 K "NoPlace"
 y_NoTie:H1 K "NoTie"
 y_NoRow:H1 K "NoRow"
 z0:Hn K "ValueError"
 z1:Hn K "all"
 z2:Hn K "bool"
 z3:Hn K "enumerate"
 z4:Hn K "int"
 z5:Hn K "isinstance"
 z6:Hn K "len"
 z7:Hn K "list"
 z8:Hn K "max"
 z9:Hn K "min"
 z10:Hn K "range"
 z11:Hn K "repr"
 z12:Hn K "reversed"
 z13:Hn K "sorted"
 z14:Hn K "str"
 z15:Hn K "tuple"
 z16:Hn K "zip"
 v0:Hi K "MOST_SIGNS" 8
 v1:Hi K "MOST_NUMBER" 1000000
 v2:Hi K "MOST_PLACES" 24
 v3:Hi K "MOST_TIES" 60
def Ctx(P:ju)(w:j4)(K:Frag)(b:Str->w_ Db)(a h:jq)(C:Ch):Prop:=C0 K b h C
abbrev Ctx.Y{P:ju}{w:j4}{K:Frag}{b:Str->w_ Db}{a h:jq}{C:Ch}(A:Ctx P w K b a h C)(x:Str)(k:Nat)(c:v_ Str)(d:Kd)(W:W2):Prop:=Got P w K b a x k c d W
abbrev Ctx.Z{P:ju}{w:j4}{K:Frag}{b:Str->w_ Db}{a h:jq}{C:Ch}(A:Ctx P w K b a h C)(x:Str)(k:Nat)(c:v_ Str)(d:Kd)(W:W2):Prop:=Tp P w K b a C x k c d W
abbrev Ctx.YR{P:ju}{w:j4}{K:Frag}{b:Str->w_ Db}{a h:jq}{C:Ch}(A:Ctx P w K b a h C)(x:Str)(k:Nat)(c:v_ Str)(d:Kd)(W:WX):Prop:=QS P w K b a x k c d W
section
variable {P:Program}{w:World}{K:Frag}{mg:Str->w_ Value}{h base:Heap}{x:Str}{st:Stmt}
def Ht.fn(X:K.In h)(G:h.Ns mainGlobals mg)(H:Ht K x st):∃f fd,mg x=P3^.ref f/\Fun K x x st f fd:=by
 let#[f,b,d,e,g,i,j,m,n,o,a,l,c,k]:=H;exact#[f,_,mg_of X G a,Jg (st:=st) l c k]
variable {C:Addr}
def C0.T(A:C0 K mg h C):Txt K mg:=#[mg_none_of A.X A.G A.z0,mg_none_of A.X A.G A.z1,mg_none_of A.X A.G A.z2,mg_none_of A.X A.G A.z3,mg_none_of A.X A.G A.z4,mg_none_of A.X A.G A.z5,mg_none_of A.X A.G A.z6,mg_none_of A.X A.G A.z7,mg_none_of A.X A.G A.z8,mg_none_of A.X A.G A.z9,mg_none_of A.X A.G A.z10,mg_none_of A.X A.G A.z11,mg_none_of A.X A.G A.z12,mg_none_of A.X A.G A.z13,mg_none_of A.X A.G A.z14,mg_none_of A.X A.G A.z15,mg_none_of A.X A.G A.z16,(let #[t,e]:=A.v0;#[t,mg_of A.X A.G e]),(let #[t,e]:=A.v1;#[t,mg_of A.X A.G e]),(let #[t,e]:=A.v2;#[t,mg_of A.X A.G e]),(let #[t,e]:=A.v3;#[t,mg_of A.X A.G e]),A.y_NoLine.h1.xm A.X A.G,A.yg.xm A.X A.G,A.y_TooMany.xm A.X A.G,A.y_Twice.xm A.X A.G,A.y_NoPlace.xm A.X A.G,A.y_NoTie.xm A.X A.G,A.y_NoRow.xm A.X A.G,A.yg.u A.X A.G]
def Ctx.got(A:Ctx P w K mg base h C)(H:Ht K x st)
  (ok:∀{f:Ch}{fd:kX},Txt K mg->Fun K x x st f fd->mg x=P3^.ref f->Binds K fd a []->zL P w K mg base EW k f fd a^SG K e W a.length)
  (j:∀g n P,W g n P->g.length=a.length:=by walk_at "L") (i:∀(kV b l:Db) (o:w_ Ch) (c p:Db) (d:v_ Db),d.length=a.length->bindArgs (fnOf x x (BH st) (Aj st) (AK st) .none kV b l o c p) #[d,[]]=pure^a.zip d:=by walk_at "B"):Got P w K mg base x k a e W:=by
 let#[f,fd,m,F]:=H.fn A.X A.G;exact#[f,fd,ok A.T F m^F.binds i,m,F.kp,F.binds i,j]
def Ctx.gotM(A:Ctx P w K mg base h C)(H:Hm K C x q st)
  (ok:∀{f:Ch}{fd:kX},Txt K mg->Fun K x q st f fd->zL P w K mg base EW k f fd b^SG K i W b.length)
  (s:∀j n P,W j n P->j.length=b.length:=by walk_at "L") (t:∀(m d o:Db) (p:w_ Ch) (e r:Db) (g:v_ Db),g.length=b.length->bindArgs (fnOf x q (BH st) (Aj st) (AK st) .none m d o p e r) #[g,[]]=pure^b.zip g:=by walk_at "B"):Tp P w K mg base C x k b i W:=by
 let#[f,u,v,p,y,m,z,o,B,r,a,l,c,n,k]:=H;have F:=Jg (st:=st) l c k;exact#[f,_,ok A.T F,#[a,n,k],F.binds t,s]
def Ctx.gotR(A:Ctx P w K mg base h C)(H:Ht K x st)
  (ok:∀{f:Ch}{fd:kX},Txt K mg->Fun K x x st f fd->zL P w K mg base (Kb P w) k f fd a^eE K e W a.length)
  (i:∀g n P j,W g n P j->g.length=a.length:=by walk_at "R") (l:∀(kV b o:Db) (p:w_ Ch) (c q:Db) (d:v_ Db),d.length=a.length->bindArgs (fnOf x x (BH st) (Aj st) (AK st) .none kV b o p c q) #[d,[]]=pure^a.zip d:=by walk_at "B"):QS P w K mg base x k a e W:=by
 let#[f,fd,m,F]:=H.fn A.X A.G;exact#[f,fd,ok A.T F,m,F.kp,F.binds l,i]
def Ctx.gotC(A:Ctx P w K mg base h C)
  (ok:∀{f:Ch}{fd:kX},Txt K mg->Fun K "__init__" "Keeper.__init__" Aq f fd->zL P w K mg base EW k f fd b^SG K .sh W b.length)
  (q:∀i n P,W i n P->i.length=b.length:=by walk_at "L") (r:∀(j d m:Db) (o:w_ Ch) (e p:Db) (g:v_ Db),g.length=b.length->bindArgs (fnOf "__init__" "Keeper.__init__" (BH Aq) (Aj Aq) (AK Aq) .none j d m o e p) #[g,[]]=pure^b.zip g:=by walk_at "B"):cw P w K mg base "Keeper" C k b W:=by
 let#[f,s,t,o,u,j,v,m,y,p,a,l,c,n,k]:=A.h1b;have F:=Jg (st:=Aq) l c k;exact#[f,_,ok A.T F,#[A.mk_Keeper,a,n,A.kp_Keeper],mg_of A.X A.G A.c_Keeper,F.binds r,q]
theorem Iy:A8 ["self","row","word"] ["self","row","word"]^AK CW:=by constructor <;>first|rfl|decide +kernel
def JQ(c:XC K "NoLine" C U)(F:Fun K "__init__" "NoLine.__init__" CW f fd):zL P w K mg base EW 1 f fd ["self","row","word"]^Iq C "row" "word":=by
 refine F.ok Iy (λj H Q E h=>by let#[a,b,g,rfl,_]:=h;rfl) λk A i s H j Q E o h=>?_;let#[a,b,g,rfl,l,m]:=h;exists _,Az (e7 c c.nr (pv 0) (pv 1) rfl)^CY (ej c c.nw (pv 0) (pv 2) rfl);refine#[b,rfl,V.ref a,rfl,a,rfl,l,λd n e=>#[g,rfl,V.ref a,rfl,a,d,[(("row":Str),b)],rfl,AI,?_,(by cbv:1<1000),?_]]
 .rw[AG e,AI]
 .rw[show Cz "word" g [(("row":Str),b)]=[(("row":Str),b),(("word":Str),g)]from by unfold Cz;rw[if_neg^by cbv];rfl]
  exact m d n e
def S8(A:Ctx P w K mg base h C):cv P w K mg base "NoLine" ["row","word"] 1:=by
 let#[C,U,c,f,b,d,e,g,j,m,n,o,p,i,ty,l,a,k]:=A.y_NoLine;have F:=Jg (st:=CW) l a k;exact#[C,U,c,mg_of A.X A.G c.at_,.inr #[_,_,f,_,_,_,_,rfl,i,ty,JQ c F,F.binds λ_ _ _ _ _ _=>ik λ_=>rfl]]
def Ctx.gk(A:Ctx P w K mg base h C)(H:Ht K x st)(N:v_ Str)
  (m:∀{f:Ch}{a:Db}{A:kA}{c:v_ Env}{s:Go}{H:Hp}{E:XK},Txt K mg->N.Nodup->zy k^A.deeper^envOfC x (AK st) s.heap.objs.size f a->Ou (C5 EW P w K mg base N x (AK st) f a A c s H E).nox e (Aj st) l)
  (o:∀{d n Pd},W d n Pd->l {nx:=λn _=>e=.sh/\Pd .non n,rt:=Pd} n (d++jk (N.length - b.length) .no)) (S:A8 N b^AK st:=by constructor <;>first|rfl|decide +kernel) (g:b.length<=N.length:=by decide) (p:∀d n P,W d n P->d.length=b.length:=by walk_at "L") (q:∀(kV i r:Db) (t:w_ Ch) (a u:Db) (j:v_ Db),j.length=b.length->bindArgs (fnOf x x (BH st) (Aj st) (AK st) .none kV i r t a u) #[j,[]]=pure^b.zip j:=by walk_at "B"):Got P w K mg base x (k+1) b e W:=
 A.got H (λT F _ _=>jd F S (m T S.nd) o g) p q
def Ctx.gm(A:Ctx P w K mg base h C)(H:Hm K C x q st)(N:v_ Str)
  (m:∀{f:Ch}{a:Db}{A:kA}{c:v_ Env}{s:Go}{H:Hp}{E:XK},Txt K mg->N.Nodup->zy k^A.deeper^envOfC q (AK st) s.heap.objs.size f a->Ou (C5 EW P w K mg base N q (AK st) f a A c s H E).nox e (Aj st) l)
  (o:∀{d n Pd},W d n Pd->l {nx:=λn _=>e=.sh/\Pd .non n,rt:=Pd} n (d++jk (N.length - b.length) .no)) (S:A8 N b^AK st:=by constructor <;>first|rfl|decide +kernel) (g:b.length<=N.length:=by decide) (p:∀d n P,W d n P->d.length=b.length:=by walk_at "L") (r:∀(kV i t:Db) (u:w_ Ch) (a v:Db) (j:v_ Db),j.length=b.length->bindArgs (fnOf x q (BH st) (Aj st) (AK st) .none kV i t u a v) #[j,[]]=pure^b.zip j:=by walk_at "B"):Tp P w K mg base C x (k+1) b e W:=
 A.gotM H (λT F=>jF F S (m T S.nd) o g) p r
def Ctx.gr{m:PX->AY}(A:Ctx P w K mg base h C)(H:Ht K x st)(N:v_ Str)
  (p:∀{f:Ch}{a:Db}{A:kA}{b:v_ Env}{s:Go}{H:Hp}{E:XK}{d:PX}{o:Fm->Prop},Txt K mg->N.Nodup->zy k^A.deeper^envOfC x (AK st) s.heap.objs.size f a->Pss o (C5 (Kb P w) P w K mg base N x (AK st) f a A b s H E) d->Ka o (C5 (Kb P w) P w K mg base N x (AK st) f a A b s H E) g (Aj st)^m d)
  (q:∀{e n Pd d},W e n Pd d->m d {nx:=λn _=>g=.sh/\Pd .non n,rt:=Pd} n (e++jk (N.length - c.length) .no)) (S:A8 N c^AK st:=by constructor <;>first|rfl|decide +kernel) (i:c.length<=N.length:=by decide) (r:∀e n P d,W e n P d->e.length=c.length:=by walk_at "R") (t:∀(kV j u:Db) (v:w_ Ch) (a y:Db) (l:v_ Db),l.length=c.length->bindArgs (fnOf x x (BH st) (Aj st) (AK st) .none kV j u v a y) #[l,[]]=pure^c.zip l:=by walk_at "B"):QS P w K mg base x (k+1) c g W:=
 A.gotR H (λT F=>iU F S (p T S.nd) q i) r t
end
section
variable {P:Program}{w:World}{K:Frag}{mg:Str->w_ Value}{base:Heap}
variable {h:Heap}{C:Addr}(A:Ctx P w K mg base h C)
include A
theorem Np:A.Y "is_whole" 1 ["thing"] .sh cX:=A.gk A.h00 ["thing"] (λT _ b=>(AD^AN^Mr (Jx X2 (dv 0) rfl T.Gab rfl T.Gaq (by decide +kernel))^Jw^cF (Jx Vq (dv 0) rfl T.Gab rfl T.Gat (by decide +kernel)))) (@λc n e h=>by
 let#[d,rfl,a,q]:=h.out;cases d <;>first|exact q|cases a)
theorem MR:A.Y "is_number" 2 ["thing"] .sh Yn:=by
 let#[_,a]:=A.T.Gad;exact A.gk A.h01 ["thing"] (λ_ _ b=>(AD^AN^Mr (cg b (Np A)^Bl 0 AF)^Jw^OT ED GZ ED GZ AC (dv 0) (EN rfl a))) (@λe n f h=>by
 let#[d,rfl,c,q]:=h.out;exists[d],rfl,rfl,c;cases d with
 |int i=>exact We (k:=λP=>P _ n) (λ_ h=>h) q
 |_=>exact q)
theorem Pn:A.Y "is_name" 1 ["thing"] .sh gJ:=by
 let#[_,f]:=A.T.Gai;exact A.gk A.h02 ["thing"] (λT _ F=>(AB (Ai (DTW.dt^CD (Bq^By (Jx RD (dv 0) rfl T.Gab rfl T.Gal (by decide +kernel)))^Bx^Bq^WD ED GZ ED GZ AC (Ky T.Gaa^dv 0) (EN rfl f)) (AD^AN ER) AT)
 (AD^AN (Ac (KA rfl) Wm rfl T.Gap pW (AR (TX ["sign"] [s_] (BQ^dv 0) (λt=>FN 0 t) CF^OT ED GZ ED GZ AO (dv 0) AO) AU))))) (@λG n l o=>by
 let#[d,rfl,u,h]:=o.out;clear o;cases d with
 | str x=>
  have b:l (.bl ((decide (1<=x.length)&&decide (x.length<=8))&&(cs x).all λc=>decide (97<=c)&&decide (c<=122))) n:=h;exists _,_,rfl,rfl
  by_cases g:1<=x.length
  .have e:decide ((1:Int)<=(x.length:Int))=t_:=decide_eq_true^by lk
   by_cases q:x.length<=8
   .have i:decide ((x.length:Int)<=8)=t_:=decide_eq_true^by lk
    rw[decide_eq_true g,decide_eq_true q,rg,rg]at b;show(match (.bl (decide ((1:Int)<=(x.length:Int))):D)with|.bl t_=>_|.bl u_=>_|_=>False);rw[e];show(if(!decide ((x.length:Int)<=8))=t_ then _ else _);rw[i];refine Ay #[by rw[LH];lk,?_];refine BJ (λd=>match d with|.str z=>.bl ((!(decide (z.cps.toList<("a":Str).cps.toList)))&&(!(decide (("z":Str).cps.toList<z.cps.toList))))|_=>.non) (λr=>∃s,r=[s]) _ _ _ _ ?_ #[_,rfl] ?_
    .rintro d v r m B ⟨s,rfl⟩ j
     let#[c,H,rfl]:=TM.mp v;exact We (P:=λy E=>B y E [.sh^.str #[#[ c]]]) (k:=λP=>P (.bl _) m) (λ_ h=>h)^j _ #[_,rfl]
    .rw[j7]
     unfold Dp.signs;rw[ke];show bx [.lst^x.cps.toList.map λc=>.bl ((!(decide ([c]<("a":Str).cps.toList)))&&(!(decide (("z":Str).cps.toList<[c]))))] λz=>l z n;refine V9 (p:=λc=>(!(decide ([c]<("a":Str).cps.toList)))&&(!(decide (("z":Str).cps.toList<[c])))) ?_;rw[show(λc=>(!(decide ([c]<("a":Str).cps.toList)))&&(!(decide (("z":Str).cps.toList<[c]))))=λc=>decide (97<=c)&&decide (c<=122)from funext UN];exact b
   .have i:decide ((x.length:Int)<=8)=u_:=decide_eq_false^by lk
    rw[decide_eq_true g,decide_eq_false q,rY,oz]at b;show(match (.bl (decide ((1:Int)<=(x.length:Int))):D)with|.bl t_=>_|.bl u_=>_|_=>False);rw[e];show(if(!decide ((x.length:Int)<=8))=t_ then _ else _);rw[i];exact BE b
  .have e:decide ((1:Int)<=(x.length:Int))=u_:=decide_eq_false^by lk
   rw[decide_eq_false g,oz,oz]at b;show(match (.bl (decide ((1:Int)<=(x.length:Int))):D)with|.bl t_=>_|.bl u_=>_|_=>False);rw[e];exact BE b
 |ob a=>cases u
 |_=>exact h)
theorem Pm:A.Y "rank_of" 1 ["tie"] .sh Ru:=A.gk A.h03 ["tie"] (λ_ _ a=>(AD^AN^Ad^AA (BA (dv 0) AC)^AA (BA (dv 0) AC)^AA (BA (dv 0) AC) AL)) (@λb n c h=>by
 let#[x,y,z,rfl,p]:=h;exact#[_,AE rfl,_,AE rfl,_,AE rfl,z3,p])
theorem HY:A.Y "order_of" 4 ["ties"] .fr M8:=A.gk A.h04 ["ties"] (λT _ e=>(AD^AN (OQ (Pm A) (e.mono^by cbv) rfl T.Gaf rfl (dv 0)))) (@λB n D h=>by
 let#[d,f,rfl,i,b,p]:=h;refine#[f.map AZ,Ui,i,by rw[Ev];exact b,λx a Q j=>?_,#[λx a=>?_,λx a y k l m o q=>?_],λr s v=>?_]
 .let#[t,_,rfl]:=TM.mp a
  exact#[_,_,_,rfl,j]
 .let#[t,_,rfl]:=TM.mp a
  exact#[JA t,rfl,k_ _ _]
 .let#[t,_,rfl]:=TM.mp a
  let#[u,_,rfl]:=TM.mp k;cases(show P3^JA t=P3 l from o);cases(show P3^JA u=P3 m from q);rfl
 .let#[c,z,rfl]:=QY (g:=TR) (λ_=>rfl) s
  exact p c z^Nm v)
omit A in
theorem sB:A8 ["net","steps","place","a","b","length"] ["net"]^AK Fc:=#[rfl,rfl,rfl,by decide +kernel,rfl,by decide +kernel,by decide +kernel]
omit A in
theorem ja{f:Ch}{fd:kX}(F:Fun K "steps_of" "steps_of" Fc f fd):zL P w K mg base EW 1 f fd ["net"]^SG K .sh Wo 1:=by
 refine F.ok (k:=0) sB (λvs H Q E h=>h.1) λcdv A outer s H vs Q E hr h=>?_;let#[hl,F0,U,V',M,n,ss,Pd,ra,#[N,rfl,ok,lp,lt,p],q]:=h;let#[dom,fU,uV,vM,fd0,pa]:=ra;cases pa with
 |cons r1 pa=>
 cases pa;let#[v,e1,h1]:=r1.1;cases e1;let#[an,vs,rfl,hn,v1,r,rfl,hp,v2,r2,rfl,ht,e2]:=h1;cases(show r2=[]from e2);let#[ap,us,rfl,hpn,hps]:=hp;let#[at_,ws,rfl,htn,hts]:=ht;have nd:=sB.nd;have hu:=GI hr;have szl:=PySem.sizeLine_eq;have lus:us.length=N.ps.length:=by rw[hps.length,Ev]
 have lws:ws.length=N.ts.length:=by rw[hts.length,Ev]
 refine#[_,Az (EA (i:=1) nd rfl (kF rfl) JH)
  (Az (JD kg rfl (U9^EQ ix_tup (pv 0) An λ_ _=>rfl) (F6 (i:=2) nd rfl (kF rfl)) (CY (IG hu (pv 1) (pv 2) JH rfl)))
  (Az (JD kg rfl (U9^EQ ix_tup (pv 0) An λ_ _=>rfl) (VA rfl (F5 (F6 (i:=3) nd rfl (kF rfl))^F5 (F6 (i:=4) nd rfl (kF rfl))^F5 (F6 (i:=5) nd rfl (kF rfl)) Qw))
   (Az (IG hu (IH hu (pv 1) (pv 3) λ_ _=>rfl) (pv 4) (pv 5) rfl)^CY (IG hu (IH hu (pv 1) (pv 4) λ_ _=>rfl) (pv 3) (pv 5) rfl)))
  (CY^Fd^bF^pv 1))),?_]
 refine λd hd=>?_;have old0:∀b o,H b=P3 o->AX H d (.dK []) b=P3 o:=λb o e=>by rw[AG^Aa e hd];exact e
 have SqN:∀H':Hp,(∀b o,H b=P3 o->H' b=P3 o)->SqT K H' an [.ref ap,.ref at_]:=λH' o=>SqT.of^o _ _ hn;have SqP:∀H':Hp,(∀b o,H b=P3 o->H' b=P3 o)->SqT K H' ap us:=λH' o=>SqT.of^o _ _ hpn;have SqW:∀H':Hp,(∀b o,H b=P3 o->H' b=P3 o)->SqT K H' at_ ws:=λH' o=>SqT.of^o _ _ htn;refine#[_,rfl,an,_,0,_,rfl,rfl,SqN _ old0,rfl,ap,rfl,#[_,SqP _ old0],?_];refine RK (xs:=us) (λi σ H'=>∃(as:v_ (Str×Ch)) (x2 x3 x4 x5:w_ V),σ=[P3^.ref an,P3^.ref d,x2,x3,x4,x5]/\as.map (·.1)=N.ps.take i/\Stp H d as (λ_=>[]) H') ?_ (λi σ H' hi #[as,x2,x3,x4,x5,e,hm,st]=>SqP _ st.old) ?_ ?_
 .exact#[[],_,_,_,_,rfl,rfl,old0,hd,AI,(λx hx=>by cases hx),ki,ki]
 .rintro i x σ H' hx ⟨as,x2,x3,x4,x5,rfl,hm,st⟩
  have hi:i<N.ps.length:=by rw[←lus];exact(XV.mp hx).1
  let#[x',hx',hAt]:=hps.get (i:=i) (d:=.str N.ps[i]) (by rw[ji,Op hi];rfl);rw[hx]at hx';cases hx';let#[rfl,_]:=hAt;intro q hq;have las:as.length<=i:=by have:=congrArg pE hm;rw[Ev,pL]at this;lk
  have nq:d≠q:=λe=>by rw[←e,st.top]at hq;cases hq
  have las2:(as.map λx=>((.inr x.1:Key),V.ref x.2)).length=as.length:=Ev ..;refine#[_,rfl,_,rfl,d,_,rfl,yJ.k (k:=.inr N.ps[i]) (by rw[AG nq];exact st.top)^by lk,?_];refine#[as++[(N.ps[i],q)],_,_,_,_,rfl,?_,st.more hq ?_ rfl]
  .rw[j8,hm,List.take_succ,Op hi];rfl
  .rw[hm];exact Pq (MD ok.rise) hi
 .rintro σ H' ⟨as,x2,x3,x4,x5,rfl,hm,st⟩
  rw[lus,qv]at hm;refine#[_,rfl,an,_,1,_,rfl,rfl,SqN _ st.old,rfl,at_,rfl,#[_,SqW _ st.old],?_];refine RK (xs:=ws) (λi σ H'=>∃(x2 x3 x4 x5:w_ V),σ=[P3^.ref an,P3^.ref d,x2,x3,x4,x5]/\Stp H d as (λp=>(Do (N.ts.take i) p).map kv) H') #[_,_,_,_,rfl,st] (λi σ H' hi #[x2,x3,x4,x5,e,st]=>SqW _ st.old) ?_ ?_
  .rintro i x σ H' hx ⟨x2,x3,x4,x5,rfl,st⟩
   have hi:i<N.ts.length:=by rw[←lws];exact(XV.mp hx).1
   let#[x',hx',hAt]:=hts.get (i:=i) (d:=AZ N.ts[i]) (by rw[ji,Op hi];rfl);rw[hx]at hx';cases hx';have hmem:N.ts[i]∈N.ts:=lJ hi;have hsnoc:N.ts.take (i+1)=N.ts.take i++[N.ts[i]]:=by rw[List.take_succ,Op hi];rfl
   have hpre:(N.ts.take (i+1)).Pairwise BU:=ok.vQ.sublist^qX _ _;have hlt2:∀s∈N.ts.take (i+1),cs s.a<cs s.b:=λs hs=>(ok.tin s^List.mem_of_mem_take hs).2.2.1;rw[hsnoc]at hpre hlt2;have new:=WB hpre hlt2;have ltk:(N.ts.take i).length<=1000:=by rw[pL];lk
   generalize N.ts[i]=t at hAt hmem hsnoc new;generalize N.ts.take i=ts at hsnoc new st ltk;let#[m1,m2,m3,_]:=ok.tin t hmem;have hab:t.a≠t.b:=λe=>by rw[e]at m3;exact nJ _ m3
   let#[ta,tb,tl]:=t;let#[tt,us3,rfl,htt,hit]:=hAt;let#[va,r3,rfl,#[rfl,_],vb,r4,rfl,#[rfl,_],vl,r5,rfl,rfl,e5]:=hit;cases(show r5=[]from e5);rw[←hm]at m1 m2;let#[#[xa,pa],ha,ea]:=TM.mp m1;let#[#[xb,pb],hb,eb]:=TM.mp m2;have ea':ta=xa:=ea.symm;have eb':tb=xb:=eb.symm;subst ea' eb';clear ea eb;replace hab:ta≠tb:=hab;replace new:tb∉(Do ts ta).map (·.1)/\ta∉(Do ts tb).map (·.1):=new;have ga:=vS.k (k:=.inr ta) st.top;rw[ID st.nms ha]at ga;have l1:=Q_ ts ta;refine#[tt,_,rfl,SqT.of^st.old _ _ htt,rfl,_,_,rfl,_,_,rfl,_,_,rfl,rfl,?_];refine#[_,rfl,_,rfl,_,rfl,d,_,rfl,ga,_,rfl,pa,_,rfl,yJ.k (k:=.inr tb) (st.inn _ ha).2.2 (by show((Do ts ta).map kv).length<sizeLine;rw[Ev];lk),?_];have st1:=st.put (tb2:=λp=>(Do ts p++if ta=p then [(tb,tl)]else []).map kv) ha (kvs:=putK ((Do ts ta).map kv) (.inr tb)^.int tl) (by rw[Qq new.1,if_pos rfl]) (λq hq=>by rw[if_neg^kM hq,j5]);have gb:=vS.k (k:=.inr tb) st1.top;rw[ID st1.nms hb]at gb;have l2:=Q_ ts tb;have ib:=(st1.inn _ hb).2.2;simp only[if_neg hab,j5]at ib;refine#[_,rfl,_,rfl,_,rfl,d,_,rfl,gb,_,rfl,pb,_,rfl,yJ.k (k:=.inr ta) ib (by rw[Ev];lk),?_];refine#[_,_,_,_,rfl,st1.put hb ?_ λq hq=>?_]
   .show(Do (N.ts.take (i+1)) tb).map kv=_
    rw[hsnoc,Nu,Qq new.2];show((Do ts tb++((if ta=tb then [(tb,tl)]else [])++if tb=tb then [(ta,tl)]else [])).map kv)=_;rw[if_neg hab,if_pos rfl];rfl
   .show(Do (N.ts.take (i+1)) q).map kv=_
    rw[hsnoc,Nu];show((Do ts q++((if ta=q then [(tb,tl)]else [])++if tb=q then [(ta,tl)]else [])).map kv)=_;rw[if_neg^kM hq,j5]
  .rintro σ H' ⟨x2,x3,x4,x5,rfl,st⟩
   rw[lws,qv]at st
   have old:∀(f:Ch->Obj) b o,H b=P3 o->Fj H' (as.map (·.2)) f b=P3 o:=λf b o e=>by
    rw[Dw λhm=>by let#[x,hx,e2]:=TM.mp hm;have:=(st.inn x hx).1;rw[e2,e]at this;cases this];exact st.old b o e
   refine#[_,rfl,(as.map fun(x:Str×Ch)=>x.2),λb hb=>?_,λf=>q (.ref d) (Fj H' (as.map fun(x:Str×Ch)=>x.2) f) (Eb N) n (λb o e=>#[o,old f b o e,λ_ _=>rfl,λ_ _=>rfl]) #[λg hg=>?_,λb k hk=>(fd0.2 b k hk).to (λ_ _ z=>z) (λb vs e=>old f b _ e) (λb o e=>#[o,old f b o e]) λu e=>old f b _ e] (show At K M (Fj H' (as.map fun(x:Str×Ch)=>x.2) f) (Eb N)^.ref d from st.at_ dom hm f) p]
   .let#[x,hx,rfl]:=TM.mp hb
    exact#[_,(st.inn x hx).2.2]
   .let#[a,r,cells,hf,hcf,hc,rest]:=fd0.1 g hg
    exact#[a,r,cells,old f _ _ hf,hcf,#[hc.1,old f _ _ hc.2],rest]
def HW:QQ P w K mg base:=A.got A.h05 λ_ F _ _=>ja F
theorem IJ:A.Y "only" 1 ["net","ties"] .sh M9:=A.gk A.h06 ["net","ties"] (λT _ s=>(AD^AN^Ad^AA (BA (dv 0) AC)^AA (Zk T.Gac (Ac J8 Rm rfl T.Gaf n_ (AR (C6 1) AU))) AL)) (@λv n B h=>by
 let#[N,z,D,rfl,c,d,p]:=h;refine#[_,AE (j:=0) rfl,z,_,rfl,c,by simp_all,#[λx a=>?_,λx a y e f i k l=>?_],λm o q=>?_]
 .let#[t,_,rfl]:=TM.mp a
  exact#[FY t,rfl,k_ _ _]
 .let#[t,_,rfl]:=TM.mp a
  let#[u,_,rfl]:=TM.mp e;cases(show P3^FY t=P3 f from k);cases(show P3^FY u=P3 i from l);rfl
 .let#[b,r,rfl]:=QY (g:=TR) (λ_=>rfl) o
  exact#[z2,p b r^Q3 q])
theorem JJ:A.Y "without" 2 ["net","ties"] .sh Rq:=A.gk A.h07 ["net","ties"] (λ_ _ f=>(AD^AN^cg f (IJ A)^Bl 0^AQ (Br^TX ["ties","tie"] [P3 1,s_] (BQ^BA (dv 0) AC) (λi=>FN 1 i) (FF^B3 (CP f) FU (dv 1)^C6 0)^dv 1) AF)) (@λu n v h=>by
 let#[N,a,rfl,ok,k,p]:=h;have o:=ok.2.2;refine#[_,AE (j:=1) rfl,by show(N.ts.map AZ).length<=10000000;rw[Ev];lk,?_];refine Cg (λd=>!((a.map AZ).any λy=>Fn y d)) id (λg=>∃s,g=[.br^.lst^a.map AZ,s]) _ _ _ _ ?_ #[_,rfl] ?_
 .rintro d q g m x z ⟨s,rfl⟩ b e
  let#[t,r,rfl]:=TM.mp q;exists RC ok.1 r,(N5 ok.1 k).2,_,rfl;exact Eo (λc=>b _ #[_,rfl] c) λc=>e _ #[_,rfl]^lC.mpr c
 .rw[j7,oX,OE]
  refine#[N,_,N.ts.filter λt=>decide (t∉a),rfl,rfl,nh (k9 _ _)^by lk,λl b e=>?_];rw[show l=N.ts.filter λt=>decide (t∉a)from FZ b e^Fq^ok.1.vQ.filter _];exact p)
theorem HZ:A.Y "left_out" 5 ["net","thin"] .fr Yp:=A.gk A.h08 ["net","thin"] (λ_ _ f=>(AD^AN^cg f (HY A)^Bv (TX ["thin","tie"] [P3 1,s_] (BQ^BA (dv 0) AC) (λi=>FN 1 i) (FF^B3 (CP f) FU (dv 1)^BA (dv 0) AC)^dv 1) AF)) (@λr n u h=>by
 let#[N,M,rfl,ok,a,p]:=h;have k:=ok.2.2;refine#[_,AE (j:=1) rfl,by show(N.ts.map AZ).length<=10000000;rw[Ev];lk,?_];refine Cg (λd=>!((M.ts.map AZ).any λy=>Fn y d)) id (λg=>∃s,g=[.sh^enc M,s]) _ _ _ _ ?_ #[_,rfl] ?_
 .rintro d o g m v x ⟨s,rfl⟩ b e
  let#[t,q,rfl]:=TM.mp o;exists _,AE (j:=1) rfl,RC ok.1 q,X1 a.1,_,rfl;exact Eo (λc=>b _ #[_,rfl] c) λc=>e _ #[_,rfl]^lC.mpr c
 .rw[j7,oX,OE]
  exact#[_,_,rfl,rfl,nh (k9 _ _)^by lk,λl b e=>p l #[b,e]])
theorem MN:A.Y "tie_texts" 1 ["ties"] .fr gE:=A.gk A.h09 ["ties"] (λ_ _ G=>(AD^AN^TX ["a","b","length"] [s_,s_,s_] (BQ^dv 0) (λe=>dA^A5 (FN 0 e)^A5 (FN 1 e)^A5 (FN 2 e) EL) CF^YO^GQ (QC^dv 0)^GQ AO^GQ (QC^dv 1)^GQ AO^GQ (QC^dv 2) cB)) (@λH n I h=>by
 let#[y,rfl,f,J,p]:=h;have g:=PySem.sizeLine_eq;refine#[by show(y.map AZ).length<=10000000;rw[Ev];lk,?_];refine BJ de (λj=>∃k l m,j=[k,l,m]) _ _ _ _ ?_ #[_,_,_,rfl] ?_
 .rintro d z j L M ⟨k,l,m,rfl⟩ i
  let#[t,B,rfl]:=TM.mp z;let#[D,E,_,o,q]:=f t B;have N:=Gz D;have O:=Gz E;have F:=GD o q;have r:(mo++t.a).length=t.a.length:=by rw[RR]
  have s:(mo++t.a++sp).length=t.a.length+1:=by rw[len_app,r];rfl
  have u:(mo++t.a++sp++t.b).length=t.a.length+1+t.b.length:=by rw[len_app,s]
  have v:(mo++t.a++sp++t.b++sp).length=t.a.length+1+t.b.length+1:=by rw[len_app,u];rfl
  have x:(mo++t.a++sp++t.b++sp++CH t.len).length=t.a.length+1+t.b.length+1+(CH t.len).length:=by rw[len_app,v]
  have c:=i [.sh^.str t.a,.sh^.str t.b,.sh^.int t.len] #[_,_,_,rfl];rw[show de^AZ t=.str^Il t from rfl,←XA t.a t.b t.len]at c;exact#[rfl,rfl,t.a,rfl,by rw[r];lk,sp,rfl,by rw[s];lk,t.b,rfl,by rw[u];lk,sp,rfl,by rw[v];lk,MX o q,jr F (by rw[g];decide),CH t.len,rfl,by rw[x];lk,by rw[x];lk,c]
 .rw[j7,ke]
  exact p)
theorem VT:A.Y "shown" 2 ["net"] .fr M7:=A.gk A.h0a ["net"] (λ_ _ l=>(AD^AN^Ar Q7 Lv (TX ["place"] [s_] (BQ^BA (dv 0) AC) (λg=>FN 0 g) CF^Ar Ap BB AO^dv 0)^TX ["text"] [s_] (BQ^cg l (MN A)^Bv (BA (dv 0) AC) AF) (λg=>FN 0 g) CF^Ar Ap BB AO^dv 0)) (@λs n u h=>by
 let#[N,rfl,ok,v,lt,p]:=h;have m:=PySem.sizeLine_eq;refine#[_,AE (j:=0) rfl,by show(N.ps.map D.str).length<=10000000;rw[Ev];lk,?_];refine BJ c9 (λb=>∃c,b=[c]) _ _ _ _ ?_ #[_,rfl] ?_
 .rintro d i b o q ⟨c,rfl⟩ a
  let#[x,r,rfl]:=TM.mp i;have f:=a [.sh^.str x] #[_,rfl];rw[show c9^.str x=.str^Ej x from rfl,←GG]at f;exact#[LS^ok.names x r,f]
 .exists _,AE (j:=1) rfl,N.ts,rfl,λt k=>Gw ok k,lt,by show(N.ts.map λt=>D.str^Il t).length<=10000000;rw[Ev];lk
  refine BJ jA (λb=>∃c,b=[c]) _ _ _ _ ?_ #[_,rfl] ?_
  .rintro d i b o q ⟨c,rfl⟩ a
   let#[t,k,rfl]:=TM.mp i;exact#[Sv^Gw ok k,a [.sh^.str^Il t] #[_,rfl]]
  .have e:(Nt.linesOf N).map D.str=([]++(N.ps.map D.str).map c9)++([]++(N.ts.map λt=>D.str^Il t).map jA):=by
    unfold Nt.linesOf;rw[j8,ke,ke,ke,ke,j7,j7]
    congr 1
   exists ?_
   .rw[←eq,←e,Ev]
    unfold Nt.linesOf;rw[eq,Ev,Ev];lk
   .rw[e]at p
    exact p)
theorem MS:A.Y "is_length" 3 ["word"] .sh gK:=by
 let#[_,q]:=A.T.Gad;exact A.gk A.h0b ["word"] (λT _ B=>(AB (Ai (DTW.dt^CD (B3 Bb Co (dv 0) AO)^CD (B3 Bb Co (BA (dv 0) AC) AO)^Bx^B3 ML Ro (Ky T.Gaa^dv 0)^Ky T.Gaa (B8 Lm Wf rfl T.Gal boot_str (AR (EN rfl q) AU))) (AD^AN ER) AT)
 (AD^AN^Mr (Ac (KA rfl) Wm rfl T.Gap pW (AR (TX ["sign"] [s_] (BQ^dv 0) (λE=>FN 0 E) CF^HC bQ f_ (dv 0) AO^by with_unfolding_all rfl) AU))^Jw^cg B (MR A)^Bv (B8 Ln Wl rfl T.Gaq boot_int (AR (dv 0) AU)) AF))) (@λL n u h=>by
 let#[w,rfl,#[M,_],p]:=h;have s:=PySem.sizeLine_eq;have a:Dv w=u_->u (.bl u_) n:=λg=>by rw[X0 g]at p;exact p
 show if(w==("":Str))=t_ then _ else _
 by_cases l:w=""
 .rw[show(w==("":Str))=t_ by rw[l];rfl]
  exact BE^BE^a^by rw[l];rfl
 rw[show(w==("":Str))=u_ from beq_eq_false_iff_ne.mpr l]
 obtain⟨c,r,m⟩:∃c r,cs w=c::r:=by
  cases e:cs w with
  |nil=>exact absurd (D9 (y:="") e) l
  |cons c r=>exact#[c,r,rfl]
 refine Ay #[c,AE (j:=0) (by show(cs w)[0]?=_;rw[m];rfl),?_];show if((#[#[ c]]:Str)==("0":Str))=t_ then _ else _
 by_cases o:c=48
 .rw[show((#[#[ c]]:Str)==("0":Str))=t_ by rw[o];decide +kernel]
  refine BE^BE^a ?_;unfold Dv;rw[m,o];simp
 rw[show((#[#[ c]]:Str)==("0":Str))=u_ by
  rw[beq_eq_false_iff_ne];intro z
  have:=congrArg cs z
  rw[show cs ("0":Str)=[48] by decide +kernel]at this;exact o (pJ this).1]
 refine Ay #[_,_,rfl,rfl,MX (by cbv)^by cbv,by rw[ZW,s];decide,_,_,rfl,rfl,?_];show if decide (((kU^toString (1000000:Int)).length:Int)<(w.length:Int))=t_ then _ else _
 rw[ZW]
 by_cases N:7<w.length
 .rw[decide_eq_true^by lk]
  refine BE^a ?_;unfold Dv;rw[decide_eq_false (show ¬w.length<=7 by lk)];simp
 rw[decide_eq_false^by lk];refine Ay #[by rw[LH];lk,?_];refine BJ fq (λv=>∃x,v=[x]) _ _ _ _ ?_ #[_,rfl] ?_
 .rintro d F v O Q ⟨x,rfl⟩ t
  let#[c,R,rfl]:=TM.mp F;exact t [.sh^.str #[#[ c]]] #[_,rfl]
 .rw[j7]
  unfold Dp.signs;rw[ke];rw[show List.map (fq∘λc=>D.str #[#[ c]]) w.cps.toList=(cs w).map λc=>D.bl (decide (48<=c)&&decide (c<=57))from lV λc _=>by show D.bl _=_;rw[cC]];exists _,_,rfl,KJ (λc=>decide (48<=c)&&decide (c<=57))^cs w
  have G:Dv w=((cs w).map λc=>decide (48<=c)&&decide (c<=57)).all id:=by
   unfold Dv;rw[decide_eq_true (show cs w≠[] by rw[m];intro z;cases z),decide_eq_true (show(cs w).head?≠P3 48 by rw[m];intro z;exact o^ZB z),decide_eq_true (show w.length<=7 by lk),rp];rfl
  rw[←G];cases g:Dv w with
  |false=>exact a g
  |true=>
   let#[i,H,S,e,I]:=G8 g;rw[I]at p;exists i,by rw[e];rfl,by lk,by lk,[.int i],rfl,rfl;exists rfl;show u (.bl (decide (1<=i)&&decide (i<=1000000))) n;rw[decide_eq_true H];exact p)
theorem JK:A.Y "place_fault" 2 ["words","places","ties"] .sh gH:=by
 let#[_,o]:=A.T.Gae;exact A.gk A.h0c ["words","places","ties"] (λT _ u=>(AB (Ai (DTW.dt^CD (Jk^C6 2)^Bx^B3 Bb Co (Ky T.Gaa^C6 1) (EN rfl o)) (AD^AN AC) AT)
 (AB (Ai (DTW.dt^CD (B3 (EC u) GY (Ky T.Gaa^dv 0) AC)^Bx^Bq^By^cg u (Pn A)^Bv (BA (dv 0) AC) AF) (AD^AN AC) AT)
 (AB (Ai (DTW.dt^Jj (Jk^C6 1)^GN^B3 ED GZ (BA (dv 0) AC)^BA (C6 1)^WO AC) (AD^AN AC) AT)
 (AD^AN^OR (B3 ML Ro (Ky T.Gaa^dv 0) AC) AC Bz))))) (@λI n F h=>by
 let#[f,d,q,rfl,J,L,M,p]:=h;obtain⟨l,s⟩:∃l,f.map D.str=l:=#[_,rfl];have c:l.length=f.length:=by rw[←s,Ev]
 unfold KG;rw[s];exists !(q.map AZ).isEmpty,rfl;cases q with
 |cons t q=>
  refine BE^BE ?_;exact p
 |nil=>
 refine Ay #[_,_,rfl,rfl,?_];show if(((d.map D.str).length:Int)==24)=t_ then _ else _
 by_cases v:d.length=24
 .rw[show(((d.map D.str).length:Int)==24)=t_ by rw[beq_iff_eq,Ev];lk]
  refine BE ?_;rw[show Bn f d []=P3 0 by unfold Bn;rw[v];rfl]at p;exact p
 rw[show(((d.map D.str).length:Int)==24)=u_ by rw[beq_eq_false_iff_ne,Ev];lk];have G:Bn f d []=ZP d f:=by unfold Bn;rw[if_neg^by simp[v]]
 rw[G]at p;refine Ay #[_,_,rfl,rfl,?_];show if decide ((l.length:Int)<2)=t_ then _ else _
 by_cases N:l.length<2
 .rw[decide_eq_true^by lk]
  refine BE^BE ?_
  rw[show ZP d f=P3 1 by
   match f,c with
   |[],_=>rfl
   |[_],_=>rfl
   |_::_::_,c=>simp only[f8]at c;lk]at p
  exact p
 rw[decide_eq_false^by lk]
 obtain⟨z,w,r,rfl⟩:∃z w r,f=z::w::r:=by
  match f,c with
  |[],c=>simp only[j_]at c;lk
  |[_],c=>simp only[f8,j_]at c;lk
  |a::b::r,_=>exact#[a,b,r,rfl]
 have B:l[1]?=P3^D.str w:=by rw[←s];rfl
 refine Ay #[_,AE (j:=1) B,[.str w],rfl,rfl,?_];exists rfl;show if(!(Hd^.str w))=t_ then _ else _
 cases E:Hd^.str w with
 |false=>
  refine BE ?_;simp only[ZP,E]at p;exact p
 |true=>
 simp only[ZP,E,pK,Bool.false_or]at p;refine Ay #[!(d.map D.str).isEmpty,rfl,?_]
 have m:DZ d w=t_->(Cd^gc (Am^Ak (f2 λi j=>D.bl (decide (j<i))) (EZ IB^AM (AJ 0) Ag)^wC^D.int 2) (wC^D.int 2)^wC D.non) (EE F) n [.sh^.lst l,.br^.lst^d.map .str,.br^.lst []]:=λH=>by
  rw[H]at p;exists _,_,rfl,rfl;show if decide ((2:Int)<(l.length:Int))=t_ then _ else _
  simp only[f8]at c;cases r with
  |nil=>
   rw[decide_eq_false^by simp only[j_]at c;lk];exact Ay p
  |cons x r=>
   rw[decide_eq_true^by simp only[f8]at c;lk];exact BE p
 cases e:d.getLast? with
 |none=>
  have:d=[]:=nE.mp e
  subst this;exact Ay^Ay (m rfl)
 | some y=>
  rw[Sy e];refine BE #[_,AE (j:=1) B,1,rfl,_,Vp e,?_];show if(!(decide (cs y<cs w)))=t_ then _ else _
  have k:DZ d w=decide (cs y<cs w):=by unfold DZ;rw[e]
  by_cases g:cs y<cs w
  .rw[decide_eq_true g]
   exact Ay^m^by rw[k];exact decide_eq_true g
  .rw[decide_eq_false g]
   rw[k,decide_eq_false g]at p;exact BE p)
theorem Gx:A.Y "is_second_end" 1 ["a","b","places","ties"] .sh gG:=A.gk A.h0d ["a","b","places","ties"] (λ_ _ j=>(AB (Ai (DTW.dt^CD (B3 (CP j) FU (dv 1)^C6 2)^Bx^B3 ED GZ (dv 1)^dv 0) (AD^AN ER) AT)
 (AD^AN^fu (YM^C6 3)^Jw^HC (bR j) gA (Ad^AA (dv 0)^AA (dv 1) AL) (GR MA GX (BA (C6 3)^WO AC) C4^C3 AC)^Cp _))) (@λo n q h=>by
 let#[a,b,f,c,rfl,r,l,g,p]:=h;exists LX l,FA g,_,rfl;rw[Wd];cases k:f.contains b with
 |false=>
  rw[show PN a b f c=u_ by unfold PN;rw[k];rfl]at p;exact p
 |true=>
 show if(!(decide (cs a<cs b)))=t_ then _ else _
 by_cases d:cs a<cs b
 .rw[decide_eq_true d]
  have m:PN a b f c=DR c a b:=by unfold PN;rw[k,decide_eq_true d];rfl
  rw[m]at p;refine Ay #[!(c.map AZ).isEmpty,rfl,?_];cases e:c.getLast? with
  |none=>
   have:c=[]:=nE.mp e
   subst this;exact p
  | some s=>
   have i:(!(c.map AZ).isEmpty)=t_:=by
    let#[t,rfl]:=lg.mp e;simp
   rw[i];exists z2,1,rfl,_,Vo e,[.inr a,.inr b],[.inr s.a,.inr s.b],rfl,rfl,rfl;rw[show DR c a b=Bu [.inr s.a,.inr s.b] [.inr a,.inr b] by unfold DR;rw[e]]at p;exact p
 .rw[decide_eq_false d]
  rw[show PN a b f c=u_ by unfold PN;rw[decide_eq_false d];simp]at p;exact BE p)
theorem MO:A.Y "tie_fault" 4 ["words","places","ties"] .sh gF:=by
 let#[_,s]:=A.T.Gag;exact A.gk A.h0e ["words","places","ties"] (λT _ o=>(AB (Ai (B3 Bb Co (Ky T.Gaa^C6 2) (EN rfl s)) (AD^AN AC) AT)
 (AB (Ai (DTW.dt^CD (B3 (EC o) GY (Ky T.Gaa^dv 0) AC)^Bx^B3 (CP o) FU (BA (dv 0) AC)^C6 1) (AD^AN AC) AT)
 (AB (Ai (DTW.dt^CD (B3 (EC o) GY (Ky T.Gaa^dv 0) AC)^Bx^Bq^By^cg o (Gx A)^Bv (BA (dv 0) AC)^Bv (BA (dv 0) AC)^AQ (Br^C6 1)^AQ (Br^C6 2) AF) (AD^AN AC) AT)
 (AB (Ai (DTW.dt^CD (B3 (EC o) GY (Ky T.Gaa^dv 0) AC)^Bx^Bq^By^cg o (MS A)^Bv (BA (dv 0) AC) AF) (AD^AN AC) AT)
 (AD^AN^OR (B3 ML Ro (Ky T.Gaa^dv 0) AC) AC Bz)))))) (@λJ n L h=>by
 let#[g,k,f,rfl,t,q,M,N,p]:=h;obtain⟨l,u⟩:∃l,g.map D.str=l:=#[_,rfl];have d:l.length=g.length:=by rw[←u,Ev]
 have m:∀{i:Nat}{w:Str},g[i]?=P3 w->l[i]?=P3^D.str w:=λ{i w} e=>by rw[←u,ji,e];rfl
 unfold KG;rw[u];exists _,_,rfl,rfl;show if(((f.map AZ).length:Int)==60)=t_ then _ else _
 by_cases v:f.length=60
 .rw[show(((f.map AZ).length:Int)==60)=t_ by rw[beq_iff_eq,Ev];lk]
  rw[show B5 g k f=P3 0 by unfold B5;rw[v];rfl]at p;exact BE p
 rw[show(((f.map AZ).length:Int)==60)=u_ by rw[beq_eq_false_iff_ne,Ev];lk];have G:B5 g k f=aN k f g:=by unfold B5;rw[if_neg^by simp[v]]
 rw[G]at p;refine Ay #[_,_,rfl,rfl,?_];show if decide ((l.length:Int)<2)=t_ then _ else _
 by_cases O:l.length<2
 .rw[decide_eq_true^by lk]
  refine BE^BE ?_
  rw[show aN k f g=P3 1 by
   match g,d with
   |[],_=>rfl
   |[_],_=>rfl
   |_::_::_,d=>simp only[f8]at d;lk]at p
  exact p
 rw[decide_eq_false^by lk]
 obtain⟨y,a,r,rfl⟩:∃y w r,g=y::w::r:=by
  match g,d with
  |[],d=>simp only[j_]at d;lk
  |[_],d=>simp only[f8,j_]at d;lk
  |a::b::r,_=>exact#[a,b,r,rfl]
 have z:=t.2.2 a^Rs _ No;refine Ay #[_,AE (j:=1) (m rfl),LX z,FA q,_,rfl,?_];rw[Wd];show if(!k.contains a)=t_ then _ else _
 cases B:k.contains a with
 |false=>
  simp only[aN,B]at p;exact BE p
 |true=>
 simp only[aN,B,pK,kG,if_false]at p;refine Ay #[_,_,rfl,rfl,?_];show if decide ((l.length:Int)<3)=t_ then _ else _
 simp only[f8]at d;cases r with
 |nil=>
  rw[decide_eq_true^by simp only[j_]at d;lk];exact BE^BE p
 |cons b r=>
 simp only[f8]at d;rw[decide_eq_false^by lk];have H:=t.2.2 b^Rs _^Rs _ No;refine Ay #[_,AE (j:=1) (m rfl),_,AE (j:=2) (m rfl),a,b,k,f,rfl,z,H,q,?_];show if(!PN a b k f)=t_ then _ else _
 cases E:PN a b k f with
 |false=>
  simp only[dg,E]at p;exact BE p
 |true=>
 simp only[dg,E,pK,kG,if_false]at p;refine Ay #[_,_,rfl,rfl,?_];show if decide ((l.length:Int)<4)=t_ then _ else _
 cases r with
 |nil=>
  rw[decide_eq_true^by simp only[j_]at d;lk];exact BE^BE p
 |cons c r=>
 simp only[f8]at d;rw[decide_eq_false^by lk];have I:=t.2.2 c^Rs _^Rs _^Rs _ No;refine Ay #[_,AE (j:=3) (m rfl),c,rfl,I,?_];show if(!Fi c)=t_ then _ else _
 cases F:Fi c with
 |false=>
  simp only[df,F]at p;exact BE p
 |true=>
 simp only[df,F,pK,kG,if_false]at p;refine Ay #[_,_,rfl,rfl,?_];show if decide ((4:Int)<(l.length:Int))=t_ then _ else _
 cases r with
 |nil=>
  rw[decide_eq_false^by simp only[j_]at d;lk];exact Ay p
 |cons x r=>
  rw[decide_eq_true^by simp only[f8]at d;lk];exact BE p)
theorem Ki:A.Y "line_fault" 5 ["words","places","ties"] .sh Zw:=A.gk A.h0f ["words","places","ties"] (λ_ _ f=>(AB (Ai (B3 Bb Co (BA (dv 0) AC) AO) (AD^AN^cg f (JK A)^Bl 0^AQ (Br^C6 1)^AQ (Br^C6 2) AF) AT)
 (AD^AN^OR (B3 Bb Co (BA (dv 0) AC) AO) (cg f (MO A)^Bl 0^AQ (Br^C6 1)^AQ (Br^C6 2) AF) AC))) (@λs n t h=>by
 let#[a,b,c,rfl,d,e,g,i,p]:=h
 obtain⟨w,r,k⟩:∃w r,a=w::r:=by
  cases a with
  |nil=>exact absurd rfl d.1
  |cons w r=>exact#[w,r,rfl]
 have l:(a.map D.str)[0]?=P3^D.str w:=by rw[k];rfl
 have q:DD a b c=if(w=="place")=t_ then Bn a b c else if(w=="tie")=t_ then B5 a b c else P3 0:=by rw[k];rfl
 rw[q]at p;exists _,AE (j:=0) l;show if(w==("place":Str))=t_ then _ else _
 cases m:w==("place":Str)with
 |true=>
  rw[m]at p;exact BE #[a,b,c,rfl,d,g,i,p]
 |false=>
 rw[m]at p;refine Ay #[_,AE (j:=0) l,?_];show if(w==("tie":Str))=t_ then _ else _
 cases o:w==("tie":Str)with
 |true=>
  rw[o]at p;exact BE #[a,b,c,rfl,d,e,g,i,p]
 |false=>
  rw[o]at p;exact Ay p)
omit A in
theorem sC:A8 ["lines","places","ties","row","line","words","fault"] ["lines"]^AK Iz:=by walk_at "s"
def HX:QR P w K mg base:=A.gotR A.h0g λT F=>have b:=Ki A;have GX_NoLine:=S8 A;iV F sC (λa c d=>(B7 (Jm (Mm (i:=1) sC.nd rfl (kF rfl) (BV AL)))
 (B7 (Jm (Mm (i:=2) sC.nd rfl (kF rfl) (BV AL)))
 (B7 (TK d Xl rfl rfl T.Gao (pv 0) (WM rfl (A5 (EM (i:=3) sC.nd rfl (kF rfl))^A5 (EM (i:=4) sC.nd rfl (kF rfl)) EL)) (B7 (Jm (QA (i:=5) sC.nd rfl (kF rfl) (fw PySem.F.plainAttrs_str PySem.F.slot_str_split PySem.F.type_str_split Vd Ye (dv 4)^AR AO AU)))
 (B7 (Jm (QA (i:=6) sC.nd rfl (kF rfl) (cg a b^AQ (Zp^dv 5)^AQ (Br^C6 1)^AQ (Br^C6 2) AF)))
 (B7 (b9 (P9 Q5 Wh (dv 6) Bz^Cp _) (WE (P_ c GX_NoLine (a.mono^by cbv) rfl (AA (dv 3)^AA (dv 6) AL)))^IQ AT)
 (IQ^AD^Ai (P9 Bb Co (Lh G7 Th (dv 5) AC) AO^Cp _) (AD^GO 1 PySem.F.plainAttrs_list PySem.F.slot_list_append PySem.F.type_list_append Bt Hr (pv 1)^AA (Lh G7 Th (dv 5) AC) AL)^AD^GO 2 PySem.F.plainAttrs_list PySem.F.slot_list_append PySem.F.type_list_append Bt Hr (pv 2)^AA (Ad^AA (Lh G7 Th (dv 5) AC)^AA (Lh G7 Th (dv 5) AC)^AA (B8 Ln Wl rfl T.Gaq boot_int (AR (Lh G7 Th (dv 5) AC) AU)) AL) AL)))))
 (IQ^AD^AN^Ad^AA (B8 Df KP rfl T.Gac boot_tuple (AR (C6 1) AU))^AA (B8 Df KP rfl T.Gac boot_tuple (AR (C6 2) AU)) AL))))) Kf
theorem MP:A.Y "length_of" 2 ["net","thing"] .sh ip:=A.gk A.h0h ["net","thing","steps","length","here","there"] (λT o f=>(AB (Ai (DTW.dt^CD (Bq^By (Jx kit_tuple (dv 1) rfl T.Gab rfl T.Gac (by decide +kernel)))^Bx^B3 Bb Co (Ky T.Gaa^dv 1) AC) (AD^AN Bz) AT)
 (AB (Ai (Bq^By (Ac (KA rfl) Wm rfl T.Gap pW (AR (TX ["place"] [s_] (BQ^dv 1) (λE=>FN 0 E) CF (Jx RD (dv 0) rfl T.Gab rfl T.Gal (by decide +kernel))) AU))) (AD^AN Bz) AT)
 (AB (C7 2 o^cg f (HW A)^Bl 0 AF)
 (AB (Ai (B3 (E7 f) Ga (BA (dv 1) AC)^dv 2) (AD^AN Bz) AT)
 (AB (C7 3 o AC)
 (AB (De kg rfl (cD rfl T.Gau (AA (dv 1)^AA (GR MA GX (dv 1) (C3 AC) C4) AL)) (dA^A5 (FN 4 o)^A5 (FN 5 o) EL) (AB (Ai (B3 (E7 f) Ga (dv 5)^As f (dv 2)^dv 4) (AD^AN Bz) AT)
 (AD (YI (i:=3) o rfl (kF rfl) (As f (As f (dv 2)^dv 4)^dv 5)))))
 (AD^AN^dv 3)))))))) (@λJ n z F=>by
 let#[N,d,rfl,ok,L,lt,fd,p]:=F;cases d with
 | tup g=>
  have M:=Qg g;have O:NV g<=160000:=fd.2.1;have k:z (if g.all Ep then bY N^strsOf g else .non) n:=p;exists _,_,rfl,rfl;show if((g.length:Int)==0)=t_ then _ else _
  cases g with
  |nil=>exact BE k
  | cons q t=>
   rw[show(((q::t).length:Int)==0)=u_ from beq_eq_false_iff_ne.mpr^by rw[f8];lk];refine Ay #[by lk,?_];refine BJ (λd=>.bl^Ep d) (λB=>∃s,B=[s]) _ _ _ _ ?_ #[_,rfl] ?_
   .rintro d G B m Q ⟨s,rfl⟩ u
    have:=u [.sh d] #[_,rfl]
    have H:=vX.mp (show Ji _ _ from fd.1) d G;cases d <;>first|exact this|exact H.elim
   rw[j7];exists _,_,rfl,KL Ep (q::t);rw[cQ];show if(!(q::t).all Ep)=t_ then _ else _
   cases v:(q::t).all Ep with
   |false=>rw[v]at k;exact BE k
   | true=>
    rw[v]at k;let#[I,e]:=NW v;rw[e,Io]at k;cases I with
    |nil=>cases e
    | cons y r=>
     rw[jy]at e;cases e;refine Ay #[N,rfl,ok,by lk,by lk,?_];exists .str y,AE (j:=0) rfl,_,_,.inr y,rfl,rfl;show if(!(BO (N.ps.map .inr) (N.ps.map^Wy N.ts)^.inr y).isSome)=t_ then _ else _
     rw[L5];have b:z (if y∈N.ps then ET^Md N.ts y r 0 else .non) n:=k
     by_cases x:y∈N.ps
     .rw[if_pos x]at b ⊢
      refine Ay #[_,_,(y::r).map .str,r.map .str,rfl,rfl,by show P3^Dp.cutD (D.str y::r.map .str) (P3 1) s_=_;rw[ig];rfl,?_];refine Ny ok r y 0 _ _ x ?_;cases c:Md N.ts y r 0 with
      |none=>rw[c]at b;exact b
      |some l=>rw[c]at b;exact λ_ _=>b
     .rw[if_neg x]at b ⊢
      exact BE b
 |ob a=>exact(show False from fd.1).elim
 |_=>exact p)
theorem Kh:A.Y "nearest_of" 1 ["waiting","found"] .sh gI:=A.gk A.h0i ["waiting","found"] (λT _ l=>(AD^AN^BA (Ac (Tb l) cT rfl T.Gak boot_min (AR (TX ["found","place"] [P3 1,s_] (BQ^C6 0) (λG=>FN 1 G) CF^Ad^AA (BA (As l (C6 0)^dv 1) AC)^AA (dv 1) AL) AU)) AC)) (@λW n X h=>by
 let#[g,t,B,F,rfl,M,H,i,Z,p]:=h;exists by show(g.map D.str).length<=10000000;rw[Ev];lk
 have c:∀x∈g,∃d q,F x=P3 (d,q):=λx b=>by
  cases e:F x with
  |none=>exact absurd e^H x b
  |some a=>exact#[a.1,a.2,rfl]
 refine BJ (λd=>match d with|.str x=>.tup [.int ((F x).getD (0,s_)).1,.str x]|d=>d) (λE=>∃s,E=[.br^.dic t B,s]) _ _ _ _ ?_ #[_,rfl] ?_
 .rintro d I E m nx ⟨s,rfl⟩ J
  let#[x,b,rfl]:=TM.mp I;let#[L,q,ex]:=c x b;exists t,B,_,IC (L,q),rfl,rfl,by rw[M.at_,ex];rfl,_,AE (j:=0) rfl,(by cbv:2<=sizeLine)
  grind
 rw[j7,ke];refine#[_,rfl,?_,#[λx b=>?_,λx b y k N O Q R=>?_],λx b f=>?_]
 .rw[Ev]
  cases g with
  |nil=>exact absurd rfl i
  |cons a r=>exact Nat.succ_pos _
 .let#[z,_,rfl]:=TM.mp b
  exact#[_,rfl,k_ _ _]
 .let#[z,_,rfl]:=TM.mp b
  let#[u,_,rfl]:=TM.mp k;cases(show P3 [pO _,mB _]=P3 N from Q);cases(show P3 [pO _,mB _]=P3 O from R);rfl
 .let#[v,S,rfl]:=TM.mp b
  refine#[_,AE (j:=1) rfl,p v S λy k dv pv dy py U V=>?_]
  have:=ii (f _ (TM.mpr #[y,k,rfl]) _ _ rfl rfl)
  rw[U,V]at this;exact this)
theorem FP:A.Y "least_ways" 2 ["net","start"] .fr cb:=A.gk A.h0j ["net","start","steps","found","waiting","place","other","step","length"] (λ_ R I=>(AB (C7 2 R^cg I (HW A)^Bl 0 AF)
 (AB (Zm 3 R^OS (dv 1)^Ad^AA AC^AA Bz AL)
 (AB (Zm 4 R^BV^AA (dv 1) AL)
 (AB (Jn kg (Jk^C6 4) (AB (C7 5 R^cg I (Kh A)^AQ (Br^C6 4)^AQ (Br^C6 3) AF)
 (AB (GO 4 Wx PySem.F.slot_list_remove PySem.F.type_list_remove (LO I) Zs (pv 4)^AA (dv 5) AL)
 (AD (De kg rfl (WL^As I (dv 2)^dv 5) (dA^A5 (FN 6 R)^A5 (FN 7 R) EL) (AB (C7 8 R^Ar Ap BB (BA (As I (C6 3)^dv 5) AC)^dv 7)
 (AD (Ai (B3 (E7 I) Ga (dv 6)^C6 3) (AB (GO 4 Wx c8 c7 Bt Hr (pv 4)^AA (dv 6) AL)
 (AD^Mo (i:=3) I (pv 3) (dv 6)^Ad^AA (dv 8)^AA (dv 5) AL))^AD^Ai (B3 (EC I) GY (dv 8)^BA (As I (C6 3)^dv 6) AC) (AD^Mo (i:=3) I (pv 3) (dv 6)^Ad^AA (dv 8)^AA (dv 5) AL) AT))))))))
 (AD^IR 3^pv 3)))))) (@λss n Pd h=>by
 let#[N,s,rfl,#[ok,lp,lt],hs,p]:=h;have a8:=PySem.sizeLine_eq;refine#[N,rfl,ok,by lk,by lk,?_];exists(by cbv:2<=sizeLine),_,Aw s,(by cbv:1<=sizeLine);refine Gi (λm Z ρ=>Z=n/\∃(B:v_ Str) (g:v_ Key) (o:v_ D) (F:Ot) (s5 T U V:Slot),ρ=[.sh^enc N,.sh^.str s,.sh^Eb N,.ow^.dic g o,.ow^.lst^B.map .str,s5,T,U,V]/\vg g o IC F/\Dj N s F B/\m+g.length=N.ps.length+B.length) (N.ps.length) #[rfl,[s],[.inr s],[IC (0,s_)],_,_,_,_,_,rfl,vg.one,Dj.init hs,rfl] ?_ ?_
 .rintro m Z ρ N' ⟨rfl,B,g,o,F,s5,T,U,V,rfl,M,J,hm⟩ hN
  cases B with
  |nil=>
   exact#[u_,rfl,_,rfl,p g o F M J.told]
  | cons E G=>
   exists t_,rfl;have u:∀x∈E::G,x∈N.ps:=λx W=>J.ins x^J.vW x W;have wl:=Oy J.nd u;refine#[E::G,g,o,F,rfl,M,J.vW,k_ _ _,by lk,λv X a0=>?_]
   obtain⟨dv,pv,ev⟩:∃d q,F v=P3 (d,q):=by
    cases e:F v with
    |none=>exact absurd e^J.vW v X
    |some a=>exact#[a.1,a.2,rfl]
   have H:=J.take X ev λy hy dy q L=>a0 y hy dv pv dy q ev L;have a1:=u v X;have a2:(E::G).idxOf v<(E::G).length:=List.idxOf_lt_length_of_mem X;have a3:(E::G)[(E::G).idxOf v]?=P3 v:=by rw[Op a2,List.getElem_idxOf]
   have ee:((E::G).map D.str).eraseIdx^(E::G).idxOf v=((E::G).erase v).map D.str:=by
    rw[List.erase_eq_eraseIdx_of_idxOf (rfl:(E::G).idxOf v=_),Ld]
   exists _,rfl,rfl,_,_,(E::G).idxOf v,rfl,rfl,Si ok u,Cj^ok.names v a1,#[.str v,by rw[ji,a3];rfl,by show(v==v)=t_;exact beq_self_eq_true v],λk x hk W=>?_
   .rw[ji]at W
    let#[t,ht,rfl]:=kO.mp W;have a9:k<(E::G).length:=(XV.mp ht).1;have hh:=List.not_of_lt_findIdx (p:=λy=>y==v) (xs:=E::G) hk;have e2:(E::G)[k]=t:=(XV.mp ht).2;have h3:((E::G)[k]==v)=u_:=hh;rw[e2]at h3;exact h3
   rw[ee];exists _,_,_,Wy N.ts v,rfl,Aw v,SD a1,_,_,rfl,λk hk=>?_
   .let#[q,hq,rfl]:=TM.mp hk
    have:=(ok.names _ (Mb ok hq).1).2.1
    show q.1.length<=sizeLine;lk
   rw[W4];have el:=List.length_erase_of_mem X
   have S:∀(r f:v_ (Str×Int)) (B:v_ Str) (g:v_ Key) (o:v_ D) (F:Ot) (T U V:Slot),f++r=Do N.ts v->vg g o IC F->Dm N s F B v dv f->m+g.length=N.ps.length+B.length+1->
     BF (Od 2^CG (Bm 6)^CG (Bm 7) KC) (Au (Bj 8^Ak CL (Ak CI (Ak CK (BC 3)^AJ 5)^wC^D.int 0)^AJ 7)
 (Cv (Am^Ak (TB t_) (AJ 6)^BC 3) (Au (Ww 4 "list" Kw^AM (AJ 6) Ag)
 (K7 3 (AJ 6)^D7^AM (AJ 8)^AM (AJ 5) Ag))^Cv (Am^Ak P7 (AJ 8)^Ak CI (Ak CK (BC 3)^AJ 6)^wC^D.int 0) (K7 3 (AJ 6)^D7^AM (AJ 8)^AM (AJ 5) Ag) B0)) {EF Pd with nx:=N',ct:=N',bk:=T4 3^EF Pd} (r.map iO) Z [.sh^enc N,.sh^.str s,.sh^Eb N,.ow^.dic g o,.ow^.lst^B.map .str,.sh^.str v,T,U,V]:=by
    intro r
    induction r with
    |nil=>
     intro f B g o F T U V e M H hm;rw[j5]at e;exact hN (m - 1) Z _ (by have:=M.le H.ins;lk) #[rfl,B,g,o,F,_,_,_,_,rfl,M,H.finish λy l hy=>by rw[e];exact hy,by have:=M.le H.ins;lk]
    | cons q r ih=>
     intro f B g o F T U V e M H hm;let#[y,l]:=q;have he:Ed N v y l:=by show(y,l)∈Do N.ts v;rw[←e];exact jm _ No
     have e':(f++[(y,l)])++r=Do N.ts v:=by rw[kj];exact e
     let#[pv,ev]:=H.here;have kl:=M.le H.ins;have b0:=he.ins ok;have u:∀x∈B,x∈N.ps:=λx W=>H.ins x^H.vW x W;have wl:=Oy H.nd u;exists rfl,rfl;exists g,o,_,IC (dv,pv),rfl,Aw v,by rw[M.at_,ev];rfl,_,AE (j:=0) rfl;exists g,o,_,rfl,Aw y;show if(!(BO g o^.inr y).isSome)=t_ then _ else _
     cases L:F y with
     |none=>
      have a6:=(M.has (x:=y)).1 L;rw[M.at_,L];refine BE #[_,rfl,rfl,_,_,rfl,rfl,by rw[Ev];lk,?_];exists g,o,rfl,(by cbv:2<=sizeLine),_,Aw y,by lk
      have:=ih (f++[(y,l)]) (B++[y]) (Cr g^.inr y) (DA g o (.inr y)^IC (dv+l,P3 v)) _ (.sh^.str y) (.sh^.int l) (.sh^.int (dv+l)) e' (M.put y (dv+l,P3 v)) (H.find ok he L)^by rw[JB,if_neg (by rw[a6];decide),eq,kN];lk
      rw[j8]at this;exact this
     | some a=>
      let#[dy,qy]:=a;have a4:=(M.has (x:=y)).2 (by rw[L];intro z;cases z);rw[M.at_,L];refine Ay #[g,o,_,IC (dy,qy),rfl,Aw y,by rw[M.at_,L];rfl,_,AE (j:=0) rfl,?_];show if decide (dv+l<dy)=t_ then _ else _
      by_cases c:dv+l<dy
      .rw[decide_eq_true c]
       refine BE #[g,o,rfl,(by cbv:2<=sizeLine),_,Aw y,by lk,?_];exact ih (f++[(y,l)]) B (Cr g^.inr y) (DA g o (.inr y)^IC (dv+l,P3 v)) _ (.sh^.str y) (.sh^.int l) (.sh^.int (dv+l)) e' (M.put y (dv+l,P3 v)) (H.nearer ok he L c)^by rw[JB,if_pos a4];lk
      .rw[decide_eq_false c]
       exact Ay^ih (f++[(y,l)]) B g o F (.sh^.str y) (.sh^.int l) (.sh^.int (dv+l)) e' M (H.skip L^by lk) hm
   exact S (Do N.ts v) [] ((E::G).erase v) g o F _ _ _ rfl M H (by have:=List.length_pos_of_mem X;lk)
 .rintro Z ρ P Q a7 h
  unfold dL BC at h ⊢
  split at h
  all_goals first
   |exact h.elim
   |(let#[c,hc,h]:=h;exact#[c,hc,a7 _ _ h]))
theorem bV:A.Y "far" 3 ["net","a","b"] .sh gL:=A.gk A.h0k ["net","a","b","found"] (λ_ k d=>(AB (C7 3 k^cg d (FP A)^Bl 0^Bl 1 AF)
 (AD^AN^OR (B3 (VQ d) Zv (dv 2)^dv 3) (BA (As d (dv 3)^dv 2) AC) Bz))) (@λm n o h=>by
 let#[N,a,b,rfl,f,l,q,p]:=h;refine#[N,a,rfl,f,l,λg i F M T=>?_];exists g,i,_,rfl,Aw b;show if((BO g i^.inr b).isSome)=t_ then _ else _
 have c:=p _^T.far b;cases e:F b with
 |none=>
  rw[M.at_,e];rw[e]at c;exact Ay c
 |some x=>
  rw[M.at_,e];rw[e]at c;exact BE #[g,i,_,IC x,rfl,Aw b,by rw[M.at_,e];rfl,_,AE (j:=0) rfl,c])
def Oj:Got P w K mg base "far_ways" 3 ["net","a","b"] .sh gL:=by
 let#[f,a,b]:=A.a_far_ways;let#[c,fd,ok,m,r]:=bV A;cases m.symm.trans^mg_of A.X A.G a;exact#[f,fd,ok,mg_of A.X A.G b,r]
theorem SY:A.Y "way_of" 3 ["net","a","b"] .sh io:=A.gk A.h0l ["net","a","b","found","way","place"] (λT o u=>(AB (C7 3 o^cg u (FP A)^Bl 0^Bl 1 AF)
 (AB (Ai (B3 (E7 u) Ga (dv 2)^dv 3) (AD^AN Bz) AT)
 (AB (Zm 4 o^BV AL)
 (AB (C7 5 o^dv 2)
 (AB (Jn kg (B3 Q5 Wh (dv 5) Bz) (AB (GO 4 Wx c8 c7 Bt Hr (pv 4)^AA (dv 5) AL)
 (AD^C7 5 o^BA (As u (dv 3)^dv 5) AC)))
 (AD^AN (TU rfl (C6 4) rfl T.Gac rfl T.Gas)))))))) (@λss n Pd h=>by
 let#[N,a,b,rfl,f,L,hb,p]:=h;have O:=PySem.sizeLine_eq;have ok:=f.1;refine#[N,a,rfl,f,L,λs t F M T=>?_];exists s,t,_,rfl,Aw b;show if(!(BO s t^.inr b).isSome)=t_ then _ else _
 have d:=T.far b;cases g:F b with
 |none=>
  rw[M.at_,g];rw[g]at d;exact BE^p s_ d
 | some x=>
  let#[i,R]:=x;rw[M.at_,g];refine Ay #[z0,?_];refine Gi (λm v B=>v=n/\∃(c:v_ Str) (pl:w_ Str),B=[.sh^enc N,.sh^.str a,.sh^.str b,.sh^.dic s t,.ow^.lst^c.map .str,.sh^fD pl]/\WInv N F b i c pl/\m=wm F pl) (wm F^P3 b) #[rfl,[],P3 b,rfl,#[.inl #[rfl,rfl],ki,(λx k=>by cases k),(λ_ _ _ _ _ x k=>by cases k),λy e=>by cases e;rw[g];intro z;cases z],rfl] ?_ ?_
  .rintro m v B N' ⟨rfl,c,pl,rfl,J,rfl⟩ S
   have wl:=Oy J.nd J.ins;have U:=f.2.1;cases pl with
   | none=>
    exists rfl,_,rfl
    rcases J.st with⟨_,e⟩|⟨z,r,V,W,D,X,Z⟩
    .cases e
    .have hz:z=a:=by
      rcases T.prev z V s_ D with⟨_,w⟩|⟨w',a0,q',l,k1,_⟩
      .exact w
      .cases k1
     subst hz;rw[T.start]at D;cases D;rw[←List.map_reverse];refine p (P3 c.reverse) #[i - 0,r,W,Z,X,?_,by rw[p_];lk,λx k=>J.ins x^List.mem_reverse.mp k];rw[show i - 0=i by lk];exact T.least b i R g
   | some y=>
    cases E:F y with
    |none=>exact absurd E (J.fnd y rfl)
    |some q=>
     let#[dy,G]:=q;let#[J2,H]:=J.step ok T g E;exists rfl;refine#[_,rfl,rfl,_,_,rfl,rfl,by rw[Ev];lk,?_];exists s,t,_,IC (dy,G),rfl,Aw y,by rw[M.at_,E];rfl,_,AE (j:=1) rfl;refine S (wm F G) _ _ H #[rfl,c++[y],G,?_,J2,rfl];rw[j8];rfl
  .rintro v B P Q I h
   unfold Am Ak AJ wC OI at h ⊢
   split at h
   .exact#[h.1,I _ _ h.2]
   .exact h.elim)
theorem MQ:A.Y "is_within" 1 ["length","times","number"] .sh Yj:=A.gk A.h0m ["length","times","number"] (λ_ _ d=>(AD^AN^HC ED GZ (Ar F8 KQ (dv 0)^BA (dv 1) AC) (Ar F8 KQ (dv 2)^BA (dv 1) AC)^Cp _)) (@λe n f h=>by
 let#[l,t,b,x,rfl,g,a,i,c,p]:=h;exact#[_,AE rfl,ij (by lk) a,_,AE rfl,ij (by lk) c,p])
theorem Nn:A.Y "near_way" 4 ["net","times","tie"] .sh Wp:=A.gk A.h0n ["net","times","tie","way"] (λ_ x l=>(AB (C7 3 x^cg l (SY A)^Bl 0^Bv (BA (dv 2) AC)^Bv (BA (dv 2) AC) AF)
 (AB (Ai (DTW.dt^CD (B3 MK Wi (dv 3) Bz)^Bx^Bq^By^cg l (MQ A)^Bv (cg l (MP A)^Bl 0^Bl 3 AF)^Bl 1^Bv (BA (dv 2) AC) AF) (AD^AN Bz) AT)
 (AD^AN^dv 3)))) (@λI n J h=>by
 let#[N,u,t,b,rfl,f,y,B,D,E,F,G,p]:=h;refine#[_,AE (j:=0) rfl,_,AE (j:=1) rfl,N,u.a,u.b,rfl,f,y,B,λo m=>#[rfl,?_]];cases o with
 |none=>
  refine p s_ (λw e=>by cases e) λ_=>?_;rw[lC];intro z;let#[d,k,_]:=ky.mp z;exact m d k.1
 | some w=>
  have q:=m;let#[d,r,rfl,L,H,k,s,i]:=q
  have g:GF N t b u=decide (d*b<=u.len*t):=by
   rw[kR,ky,decide_eq_true_eq];exact#[fun#[d',hd',v]=>by rw[vC.unique k hd'];exact v,λv=>#[d,k,v]]
  exists N,.tup^(u.a::r).map .str,rfl,f.1,by have:=f.2.1;lk,f.2.2,Tw f.1 s i;rw[Xy f.1 (i _ No) H];exists _,AE (j:=2) rfl,d,t,b,u.len,rfl,D,E,F,G
  by_cases c:d*b<=u.len*t
  .rw[decide_eq_true c]
   exact p (P3 _) (λw e=>by cases e;exact#[m,by rw[g];exact decide_eq_true c]) λe=>by cases e
  .rw[decide_eq_false c]
   exact p s_ (λw e=>by cases e) λ_=>by rw[g];exact decide_eq_false c)
theorem Pl:A.Y "thinned" 5 ["net","times"] .sh KS:=A.gk A.h0o ["net","times","kept","tie"] (λ_ L s=>(AB (Zm 2 L^BV AL)
 (AB (De kg rfl (Js^cg s (HY A)^Bv (BA (dv 0) AC) AF) (FN 3 L) (AD^Ai (B3 MK Wi (cg s (Nn A)^Bv (cg s (IJ A)^Bl 0^AQ (Br^C6 2) AF)^Bl 1^Bl 3 AF) Bz) (AD^GO 2 Wx c8 c7 Bt Hr (pv 2)^AA (dv 3) AL) AT))
 (AD^AN^cg s (IJ A)^Bl 0^AQ (Br^C6 2) AF)))) (@λss n M h=>by
 let#[N,t,b,rfl,i,R,S,T,U,p]:=h;have ok:=i.1;have V:=i.2.2;have W:=PySem.sizeLine_eq;refine#[z0,_,AE (j:=1) rfl,_,N.ts,rfl,rfl,by lk,λd m X=>?_];have Z:=m.length_eq;have r:d.Nodup:=m.nodup_iff.mpr^Bp ok.vQ
 have go:∀(c done a:v_ Af) (B:Slot),done++c=d->(∀u∈a,u∈done)->a.Nodup->Ct N t b a c=Ct N t b [] d->
   BF (Bm 3) (Cv (Am^Ak (OI u_) (Ae Wp^AH (AS^Ae M9^AH (AS^AJ 0)^AH (B9^BC 2) AW)^AH (AS^AJ 1)^AH (AS^AJ 3) AW)^wC D.non) (Ww 2 "list" Kw^AM (AJ 3) Ag) B0) {EE M with nx:=Cd (Ae M9^AH (AS^AJ 0)^AH (B9^BC 2) AW)^EE M} (c.map AZ) n [.sh^enc N,.sh^.tup [.int t,.int b],.ow^.lst^a.map AZ,B]:=by
  intro c
  induction c with
  |nil=>
   intro done a B e q k l;rw[j5]at e;subst e;have f:∀u∈a,u∈N.ts:=λu E=>m.mem_iff.mp^q u E;have F:=sub_len k (Bp ok.vQ) f;refine#[N,_,a,rfl,rfl,by lk,λG H I=>?_];rw[PD ok f k H I,show a=Ct N t b [] done from l];exact p done m X
  | cons u c O=>
   intro done a B e q k l;have f:∀v∈a,v∈N.ts:=λv g=>m.mem_iff.mp (by rw[←e];exact kW _^q v g);have F:=sub_len k (Bp ok.vQ) f;have E:u∈N.ts:=m.mem_iff.mp^by rw[←e];exact jm _ No
   have J:u∉done:=by
    rw[←e,lM]at r;exact λz=>r.2.2 u z u No rfl
   have Q:(done++[u])++c=d:=by rw[kj];exact e
   let#[m1,m2,_]:=ok.tin u E;refine#[N,_,a,rfl,rfl,by lk,λG H I=>?_];rw[PD ok f k H I];refine#[sub N a,u,t,b,rfl,L8 i a,m1,m2,R,S,T,U,λo hs hn=>#[rfl,?_]];rw[JZ]at l;cases o with
   |some w=>
    rw[(hs w rfl).2,if_pos rfl]at l;exact O (done++[u]) a _ Q (λv g=>kW _^q v g) k l
   | none=>
    rw[hn rfl,if_neg^by cbv]at l;exists _,rfl,rfl,_,_,rfl,rfl,by rw[Ev];lk
    have:=O (done++[u]) (a++[u]) (.sh^AZ u) Q (λv g=>by
     rcases jj.mp g with g|g
     .exact kW _^q v g
     .exact jm _ g) (by
     rw[lM];exact#[k,j6.mpr #[jw,ki],λx hx y hy z=>J^by rw[←Re.mp hy,←z];exact q x hx]) l
    rw[j8]at this;exact this
 exact go d [] [] _ rfl (λu h=>by cases h) ki rfl)
omit A in
theorem Fb:A8 ["self","times"] ["self","times"]^AK Aq:=by walk_at "s"
def DC:Gb P w K mg base C:=A.gotC λT F=>jF F Fb (λd=>(AB (Jo A.zq A.vN (dv 0)^dv 1)
 (AB (Jo A.zq A.zj (dv 0)^Ad^AA (Ad AL)^AA (Ad AL) AL)
 (AD^Jo A.zq A.zw (dv 0)^Ad^AA (Ad AL)^AA (Ad AL) AL)))) (@λe n f h=>by
 let#[a,t,b,rfl,c,p]:=h;refine#[rfl,a,[],[],rfl,c,by cbv,?_];refine#[z0,z0,z2,rfl,a,["times"],[tD t b],rfl,CB _ _ _,by cbv,?_];refine#[z0,z0,z2,rfl,a,["times","whole"],[tD t b,enc #[[],[]]],rfl,CB _ _ _,by cbv,?_];rw[MF,MF];exact#[rfl,p])
theorem BM:A.Z "turn_to" 6 ["self","net"] .sh^M6 C:=A.gm A.h1c ["self","net","before"] (λ_ x l=>(AB (C7 2 x^BX A.zq A.zw^dv 0)
 (AB (Jo A.zq A.zj (dv 0)^dv 1)
 (AB (Jo A.zq A.zw (dv 0)^cg l (Pl A)^Bl 1^Bv (BX A.zq A.vN^dv 0) AF)
 (AD^AN^Ad^AA (IW^cg l (HZ A)^Bv (BX A.zq A.zw^dv 0)^Bl 2 AF)^AA (IW^cg l (HZ A)^Bl 2^Bv (BX A.zq A.zw^dv 0) AF) AL))))) (@λF n G h=>by
 let#[a,t,b,H,M,N,rfl,s,ok,g,j,p]:=h;exists a,_,_,_,rfl,s,rfl;refine#[Dx N,a,_,_,rfl,s,by cbv,?_];refine#[a,_,_,tD t b,rfl,CB _ _ _,rfl,N,t,b,rfl,ok,j.1,j.2.1,j.2.2.1,j.2.2.2,λe y B=>?_];have m:IsT N t b^sub N^Ct N t b [] e:=#[e,y,B,rfl];generalize sub N^Ct N t b [] e=T at m;have i:=m.okN ok;refine#[Dx T,a,_,_,rfl,CB _ _ _,by cbv,?_];rw[MF];refine#[a,_,_,enc T,rfl,CB _ _ _,rfl,T,M,rfl,i,g,λc D=>#[Fo c,λo k=>?_]];have u:o≠a:=λz=>by rw[z,CB]at k;cases k
 refine#[a,_,_,enc T,rfl,(CM^kM u).trans^CB _ _ _,rfl,M,T,rfl,g,i,λd q=>#[Fo d,λr f=>#[z2,?_]]];have v:r≠o:=λz=>by rw[z,CB]at f;cases f
 rw[CM v]at f;have E:r≠a:=λz=>by rw[z,CB]at f;cases f
 exact p T c d o r m D q (by rw[CM u]at k;exact k) (by rw[CM E]at f;exact f)^kM v)
theorem HV:A.YR "taken_up" 7 ["lines","times"] .sh^Om C:=A.gr A.h0p ["lines","times","keeper"] (λ_ L m M=>(B7 (Jm^C7 2 L (RU (DC A) (m.mono^by cbv) rfl (Bl 1 AF)))
 (B7 (WF^WN A.zq (BM A) (m.mono^by cbv) (dv 2)^YX (TQ M (HX A) (m.mono^by cbv) rfl (AQ (Br^C6 0) AF))^YY AF)
 (IQ^AD^AN^dv 2)))) (@λV n W X h=>by
 let#[t,b,o,rfl,N,v,O,p]:=h;intro a s;exists a,t,b,rfl,BG ..,rfl
 have u:Keeps n^(n.put a^.ins C [] []).put a^kc C t b #[[],[]] #[[],[]]:=#[rfl,λy d=>by
  have c:y≠a:=λz=>d (z▸s);exact(Ab c).trans^Ab c]
 exists a,_,_,rfl,BG ..,by cbv,o,rfl,v,O;have f:=Ef o 0 [] [] v bp;cases e:A6 0 [] [] o with
 |inl q=>
  let#[r,k]:=q;rw[e]at p;exact p _ u
 |inr q=>
  let#[B,D]:=q;rw[e]at p f;have ok:okN #[B,D]:=X6 f;refine#[a,t,b,#[[],[]],#[[],[]],#[B,D],rfl,BG ..,ok,Pp,N,λT E F G H Q Y Z I J R=>?_];have i:a≠G:=C1 (BG ..) I;have j:a≠H:=C1 (BG ..) J;have l:∀{x:Ch},a≠x->((n.put a^.ins C [] []).put a^kc C t b #[[],[]] #[[],[]]).w x=s_->n.w x=s_:=λ{x} h g=>by rw[Ab h.symm,Ab h.symm]at g;exact g
  refine p a T _ Q s ((Ab j).trans^(Ab i).trans (BG ..)) #[rfl,λy d=>?_];have c:y≠a:=λz=>d (z▸s);have S:y≠G:=λz=>d (z▸l i I);have U:y≠H:=λz=>d (z▸l j J);exact(Ab U).trans^(Ab S).trans^(Ab c).trans^(Ab c).trans^Ab c)
def BL:Ol P w K mg base:=A.got A.h0r λT F _ _=>Xp F T.Gaa
theorem Km:A.Y "_law_names" 1 [] .sh Yo:=A.gk A.h0s ["_law_names_here"] (λ_ a b=>(AB (C7 0 a^BV^AA AO^AA AO^AA AO^AA AO^AA AO^AA AO^AA AO^AA AO^AA AO^AA AO^AA AO^AA AO^AA AO^AA AO^AA AO^AA AO^AA AO AL)
 (AD^AN^Ar Ap BB (dv 0)^BV^AA AO^AA AO^AA AO^AA AO^AA AO^AA AO^AA AO^AA AO^AA AO AL))) (@λc n d h=>by
 let#[rfl,p]:=h;exact#[(by cbv:17<=sizeLine),(by cbv:9<=sizeLine),(by cbv:26<=sizeLine),p])
theorem JL:A.Y "_law_places" 2 ["_law_feed_here","_law_many"] .sh Oo:=A.gk A.h0t ["_law_feed_here","_law_many","_law_names_here","_law_at","_law_step"] (λT a b=>(AB (C7 2 a (TV (Km A) (b.mono^by cbv) rfl))
 (AB (C7 3 a^cg b (BL A)^AQ (Bh 0)^Bv AC AF)
 (AB (C7 4 a^BA (BV^AA AC^AA AC^AA AC^AA AC AL)^cg b (BL A)^AQ (Bh 0)^Bv AC AF)
 (AD^AN^Zk T.Gac (Ac J9 Rn rfl T.Gaf n_ (AR (TX ["_law_names_here","_law_at","_law_step","_law_k"] [P3 2,P3 3,P3 4,s_] (DI.c (FG rfl T.Gaj (AR (dv 1) AU))) (λz=>FN 3 z) CF^BA (dv 0)^Ar EB HI (Ar Ap BB (dv 1)^Ar F8 KQ (dv 2)^dv 3) AC) AU))))))) (@λH n I h=>by
 let#[m,rfl,J,L,p]:=h;refine#[rfl,26,rfl,by cbv,by cbv,by lk,λfirst M N=>?_];obtain⟨f,rfl⟩:∃f:Nat,first=(f:Int):=#[first.toNat,by lk]
 refine#[(by cbv:4<=sizeLine),4,rfl,by cbv,by cbv,(by show 1<=n.n - 1;lk),λw O Q=>?_]
 obtain⟨s,B,E⟩:∃s:Nat,(s=1\/s=3\/s=5\/s=7)/\atI [D.int 1,D.int 3,D.int 5,D.int 7] w=P3^.int (s:Int):=by
  rcases(show w=0\/w=1\/w=2\/w=3 by lk)with rfl|rfl|rfl|rfl
  .exact#[1,.inl rfl,rfl]
  .exact#[3,.inr (.inl rfl),rfl]
  .exact#[5,.inr^.inr (.inl rfl),rfl]
  .exact#[7,.inr^.inr (.inr rfl),rfl]
 refine#[_,E,(m:Int),rfl,#[by lk,by lk],by rw[Ce];lk,?_];refine BJ (Pc f s) (λu=>∃v,u=[.sh^.lst^j3.map .str,.sh^.int f,.sh^.int s,v]) _ _ _ _ ?_ #[_,rfl] ?_
 .rintro d F u R S ⟨v,rfl⟩ g
  let#[k,i,rfl]:=UX F;have l:(f+s*k) % 26<26:=oy _ (by cbv);have o:(s:Int)*(0+(k:Int))=((s*k:Nat):Int):=by rw[Int.zero_add];exact(Int.natCast_mul s k).symm
  exists ij (by lk)^by lk,by show(0:Int)<26;decide,.str^C9 ((f+s*k) % 26),?_
  .rw[o,show((f:Int)+((s*k:Nat):Int)) % 26=(((f+s*k) % 26:Nat):Int) by lk]
   exact AE^Tv _ l
  .have:=g [.sh^.lst^j3.map .str,.sh^.int f,.sh^.int s,.sh^.int (0+(k:Int))] #[_,rfl]
   rw[Ni]at this;exact this
 .have e:[]++(Gs 0 ((m:Int)).toNat).map^Pc f s=((kH m).map λk:Nat=>C9 ((f+s*k) % 26)).map .str:=by
   unfold Gs;rw[j7,ke,ke,m_];refine lV λk _=>?_;exact Ni f s k
  rw[e];refine#[_,_,rfl,KI _,by rw[Ev,pB];lk,λq r t=>p q ?_ ?_ ?_]
  .rw[r.length_eq,Ev,pB]
  .intro y G
   let#[k,_,rfl]:=TM.mp^r.mem_iff.mp G;exact Oz _^oy _^by cbv
  .refine DV t^r.nodup_iff.mpr^LN List.nodup_range λj x k i e=>?_
   have e:=Rz _ _ (oy _^by cbv) (oy _^by cbv) e;have x:=lR.mp x;have i:=lR.mp i
   rcases B with rfl|rfl|rfl|rfl <;>lk)
theorem JN:A.Y "_law_length" 2 ["_law_feed_here","_law_sort"] .sh Rv:=A.gk A.h0u ["_law_feed_here","_law_sort"] (λ_ _ a=>(AB (Ai (B3 Bb Co (dv 1) AC) (AD^AN^Ar MI QL (Ar MJ HI AC AC)^cg a (BL A)^AQ (Bh 0)^Bv AC AF) AT)
 (AD^AN^Ar Ap BB AC^cg a (BL A)^AQ (Bh 0)^Bv (BA (BV^AA AC^AA AC^AA AC AL)^dv 1) AF))) (@λj n d h=>by
 let#[s,rfl,l,m,b,p]:=h;show if(s==3)=t_ then _ else _
 refine Eo (λc=>?_) λc=>?_
 .refine#[jH,_,rfl,by cbv,by cbv,b,λr e f=>?_]
  have g:(10:Int) ^ (6:Int).toNat=1000000:=by cbv
  show d (.int (10 ^ (6:Int).toNat - r)) (n - 1);rw[g];exact p _ (by lk)^by lk
 .have c:s≠3:=by simpa using c
  obtain⟨k,o,i⟩:∃k:Int,(1<=k/\k<=60)/\atI [D.int 3,D.int 9,D.int 60] s=P3^.int k:=by
   rcases(show s=0\/s=1\/s=2 by lk)with rfl|rfl|rfl
   .exact#[3,by cbv,rfl]
   .exact#[9,by cbv,rfl]
   .exact#[60,by cbv,rfl]
  refine#[(by cbv:3<=sizeLine),_,i,k,rfl,by lk,by lk,b,λr e f=>?_];exact p _ (by lk)^by lk)
theorem Kj:A.Y "_law_times" 2 ["_law_feed_here"] .sh KR:=A.gk A.h0v ["_law_feed_here","_law_some"] (λ_ a b=>(AB (C7 1 a^BV^AA (Ad^AA AC^AA AC AL)^AA (Ad^AA AC^AA AC AL)^AA (Ad^AA AC^AA AC AL)^AA (Ad^AA AC^AA AC AL)^AA (Ad^AA AC^AA AC AL)^AA (Ad^AA AC^AA AC AL)^AA (Ad^AA (Ar MJ HI AC AC)^AA AC AL)^AA (Ad^AA AC^AA AC AL) AL)
 (AD^AN^BA (dv 1)^cg b (BL A)^AQ (Bh 0)^Bv AC AF))) (@λd n e h=>by
 let#[rfl,c,p]:=h;refine#[z2,z2,z2,z2,z2,z2,jH,z2,z2,(by cbv:8<=sizeLine),8,rfl,by cbv,by cbv,c,λr f g=>?_]
 rcases(show r=0\/r=1\/r=2\/r=3\/r=4\/r=5\/r=6\/r=7 by lk)with rfl|rfl|rfl|rfl|rfl|rfl|rfl|rfl
 .exact#[_,rfl,p 1 1 (by cbv) (by cbv)^by cbv]
 .exact#[_,rfl,p 3 2 (by cbv) (by cbv)^by cbv]
 .exact#[_,rfl,p 2 1 (by cbv) (by cbv)^by cbv]
 .exact#[_,rfl,p 3 1 (by cbv) (by cbv)^by cbv]
 .exact#[_,rfl,p 5 2 (by cbv) (by cbv)^by cbv]
 .exact#[_,rfl,p 1000 999 (by cbv) (by cbv)^by cbv]
 .exact#[_,rfl,p (10 ^ (6:Int).toNat) 1 (by cbv) (by cbv)^by cbv]
 .exact#[_,rfl,p 2 2 (by cbv) (by cbv)^by cbv])
theorem MT:A.Y "_law_rank" 1 ["_law_tie"] .sh Ru:=A.gk A.h0w ["_law_tie"] (λ_ _ a=>(AD^AN^Ad^AA (BA (dv 0) AC)^AA (BA (dv 0) AC)^AA (BA (dv 0) AC) AL)) (@λb n c h=>PQ h)
theorem Kl:A.Y "_law_order" 4 ["_law_ties"] .fr M8:=A.gk A.h0x ["_law_ties"] (λT _ a=>(AD^AN (OQ (MT A) (a.mono^by cbv) rfl T.Gaf rfl (dv 0)))) (@λb n c h=>Nc h)
theorem Kk : A.Y "_law_reach" 1 ["_law_ties","_law_a"] .fr Gc:=A.gk A.h0y ["_law_ties","_law_a","_law_found","_law_fresh","_law_one","_law_other","_law_length_here","_law_here","_law_there"] (λ_ F S=>(AB (Zm 2 F^OS (dv 1) AC)
  (AB (C7 3 F ER)
  (AB (Jn kg (By^dv 3) (AB (C7 3 F ER)
  (AD (YH kg rfl (pv 0) (dA^A5 (FN 4 F)^A5 (FN 5 F)^A5 (FN 6 F) EL) (AD (De kg rfl (Js^BV^AA (Ad^AA (dv 4)^AA (dv 5) AL)^AA (Ad^AA (dv 5)^AA (dv 4) AL) AL) (dA^A5 (FN 7 F)^A5 (FN 8 F) EL) (AD (Ai (DTW.dt^Jj (B3 (VQ S) Zv (dv 7)^C6 2)^GN^B3 (EC S) GY (Ar Ap BB (As S (C6 2)^dv 7)^dv 6)^YT S (C6 2) (dv 8)^Ar MJ HI AC AC) (AB (Mo (i:=2) S (pv 2) (dv 8)^Ar Ap BB (As S (C6 2)^dv 7)^dv 6)
  (AD^C7 3 F ER)) AT))))))))
  (AD^IR 2^pv 2))))) (@λss n Pd h=>by
  let#[N,s,T,us,rfl,a3,V,W,hs,p]:=h;have b0:=PySem.sizeLine_eq;have ok:=W.1;have b1:=W.2.1;exists _,Aw s
  have step:∀ (D3:E2) (x y:Str) (l:Int),Ed N x y l → ∀ (f:v_ Key) (k:v_ D) (K:Kn) (g:Bool) (r v G H:Slot),vg f k D.int K → Bf N s f.length K →
      (∀ (J:v_ Key) (X:v_ D) (q:Kn) (g':Bool) (t7 t8:Slot),vg J X D.int q → Bf N s J.length q → ((g'=g ∧ q=K ∧ Ij K (x,y,l)) ∨ (g'=t_ ∧ Tr N.ps q < Tr N.ps K)) →
        D3.nx n [.br T,.sh^.str s,.ow^.dic J X,.sh^.bl g',r,v,.sh^.int l,t7,t8]) →
      (Cv (QX (Am^Ak (TB u_) (AJ 7)^BC 2)^Am^Ak P7 (Ak CL (Ak CK (BC 2)^AJ 7)^AJ 6)^T5 (BC 2) (AJ 8)^Ak (fm Wv λi j=>D.int (i ^ j.toNat)) (wC^D.int 10)^wC^D.int 9) (Au (K7 2 (AJ 8)^Ak CL (Ak CK (BC 2)^AJ 7)^AJ 6)
  (Bj 3^wC^D.bl t_)) B0) D3 n [.br T,.sh^.str s,.ow^.dic f k,.sh^.bl g,r,v,.sh^.int l,.sh^.str x,.sh^.str y]:=by
    intro D3 x y l he f k K g r v G H M B hD;have kl:=M.le B.ins;exists f,k,_,rfl,Aw x;show if((BO f k^.inr x).isSome)=t_ then _ else _
    cases ex:K x with
    | none=>
      rw[M.at_,ex];exact Ay^Ay^hD f k K g _ _ M B^.inl #[rfl,rfl,λd e=>by rw[show K x=P3 d from e]at ex;cases ex]
    | some d=>
      rw[M.at_,ex];refine BE #[f,k,_,_,rfl,Aw x,by rw[M.at_,ex];rfl,?_];exists f,k,rfl,#[by cbv,by cbv,by cbv],_,Aw y
      have Z:(K y=s_ ∨ ∃ I,K y=P3 I ∧ d + l < I) → (Au (K7 2 (AJ 8)^Ak CL (Ak CK (BC 2)^AJ 7)^AJ 6)^Bj 3^wC^D.bl t_) D3 n [.br T,.sh^.str s,.ow^.dic f k,.sh^.bl g,r,v,.sh^.int l,.sh^.str x,.sh^.str y]:=λL=>by
        refine#[f,k,rfl,f,k,_,.int d,rfl,Aw x,by rw[M.at_,ex];rfl,_,Aw y,by lk,?_];have E:=JB f^.inr y
        have a0:=B.put ok (c':=(Cr f^.inr y).length) (by rw[E];split <;>lk) (by rw[E];split <;>lk) ex he (λe=>by rw[E,if_neg^by rw[(M.has (x:=y)).1 e];decide]) (λI e=>by
          rcases L with L|⟨d2,L,a1⟩
          .rw[e]at L;cases L
          .rw[e]at L;cases L;exact a1)
        exact hD _ _ _ t_ _ _ (M.put y (d + l)) a0.1^.inr #[rfl,a0.2]
      rw[M.at_];cases ey:K y with
      | none=>
        show if decide (d + l < 10 ^ (9:Int).toNat)=t_ then _ else _
        rw [decide_eq_true (by have h1:=B.top x d ex;have h2:=(he.pos ok).2;have e9:(10:Int) ^ (9:Int).toNat=1000000000:=by cbv
                               rw[e9];lk)]
        exact BE^Z^.inl ey
      | some I=>
        show if decide (d + l < I)=t_ then _ else _
        by_cases c:d + l < I
        · rw[decide_eq_true c]
          exact BE^Z^.inr #[I,ey,c]
        · rw[decide_eq_false c]
          refine Ay^hD f k K g _ _ M B^.inl #[rfl,rfl,λd2 e=>?_];rw[show K x=P3 d2 from e]at ex;cases ex;exact#[I,ey,by show I ≤ d + l;lk]
  refine Gi (λm n' ρ=>n'=n ∧ ∃ (f:v_ Key) (k:v_ D) (K:Kn) (g:Bool) (r v U G H:Slot),ρ=[.br T,.sh^.str s,.ow^.dic f k,.sh^.bl g,r,v,U,G,H] ∧ vg f k D.int K ∧ Bf N s f.length K ∧ ((g=t_ ∧ m=Tr N.ps K + 1) ∨ (g=u_ ∧ m=0 ∧ ∀ t ∈ N.ts,Ij K (t.a,t.b,t.len) ∧ Ij K (t.b,t.a,t.len)))) _ #[rfl,_,_,_,t_,_,_,_,_,_,rfl,vg.one (enc:=D.int) (a:=(0:Int)),Bf.init hs,.inl #[rfl,rfl]] ?_ ?_
  · rintro m n' ρ N' ⟨rfl,f,k,K,g,r,v,U,G,H,rfl,M,B,O⟩ hN
    rcases O with⟨rfl,hm⟩|⟨rfl,_,ht⟩
    · have R:∀ (o done:v_ Af) (f:v_ Key) (k:v_ D) (q:Kn) (g:Bool) (r v U G H:Slot),done ++ o=us → vg f k D.int q → Bf N s f.length q → ((g=t_ ∧ Tr N.ps q < Tr N.ps K) ∨ (g=u_ ∧ Tr N.ps q ≤ Tr N.ps K ∧ ∀ t ∈ done,Ij q (t.a,t.b,t.len) ∧ Ij q (t.b,t.a,t.len))) →
          BF (Od 3^CG (Bm 4)^CG (Bm 5)^CG (Bm 6) KC) (T7 (FV^L4^AM (D7^AM (AJ 4)^AM (AJ 5) Ag)^AM (D7^AM (AJ 5)^AM (AJ 4) Ag) Ag) (Od 2^CG (Bm 7)^CG (Bm 8) KC)^Cv (QX (Am^Ak (TB u_) (AJ 7)^BC 2)^Am^Ak P7 (Ak CL (Ak CK (BC 2)^AJ 7)^AJ 6)^T5 (BC 2) (AJ 8)^Ak (fm Wv λi j=>D.int (i ^ j.toNat)) (wC^D.int 10)^wC^D.int 9) (Au (K7 2 (AJ 8)^Ak CL (Ak CK (BC 2)^AJ 7)^AJ 6)^Bj 3^wC^D.bl t_) B0) {EF Pd with nx:=N',ct:=N',bk:=T4 2^EF Pd} (o.map AZ) n' [.br T,.sh^.str s,.ow^.dic f k,.sh^.bl g,r,v,U,G,H]:=by
        intro o
        induction o with
        | nil=>
          intro done f k q g r v U G H e M B O;rw[j5]at e;subst e
          rcases O with⟨rfl,a1⟩|⟨rfl,_,ht⟩
          .exact hN (Tr N.ps q + 1) _ _ (by lk) #[rfl,f,k,q,t_,_,_,_,_,_,rfl,M,B,.inl #[rfl,rfl]]
          .exact hN 0 _ _ (by lk) #[rfl,f,k,q,u_,_,_,_,_,_,rfl,M,B,.inr #[rfl,rfl,λt h=>ht t^(V t).mpr h]]
        | cons t o ih=>
          intro done f k q g r v U G H e M B O;have a2:t ∈ N.ts:=(V t).mp (by rw[←e];exact jm _ No);have e':(done ++ [t]) ++ o=us:=by rw[kj];exact e
          have ed:=YF a2;exists rfl,rfl,z2,z2,z2;exists rfl,rfl;refine step _ t.a t.b t.len ed.1 f k q g _ _ G H M B λa4 a5 K1 g1 t7 t8 M1 B1 h1=>?_;exists rfl,rfl;refine step _ t.b t.a t.len ed.2 a4 a5 K1 g1 _ _ t7 t8 M1 B1 λa6 a7 K2 g2 u7 u8 M2 B2 h2=>?_;refine ih (done ++ [t]) a6 a7 K2 g2 _ _ _ _ _ e' M2 B2 ?_
          rcases h1 with⟨rfl,rfl,t1⟩|⟨rfl,b2⟩
          · rcases h2 with⟨rfl,rfl,t2⟩|⟨rfl,a8⟩
            · rcases O with z|⟨z1,z2,z3⟩
              .exact .inl z
              · refine .inr #[z1,z2,λu hu=>?_]
                rcases jj.mp hu with hu|hu
                .exact z3 u hu
                .rw[Re.mp hu];exact#[t1,t2]
            · refine .inl #[rfl,?_]
              rcases O with⟨_,z⟩|⟨_,z,_⟩ <;>lk
          · have base:Tr N.ps K1 < Tr N.ps K:=by rcases O with⟨_,z⟩|⟨_,z,_⟩ <;>lk
            rcases h2 with⟨rfl,rfl,t2⟩|⟨rfl,a8⟩
            .exact .inl #[rfl,base]
            .exact .inl #[rfl,by lk]
      exact#[T,_,rfl,a3,R us [] f k K u_ _ _ _ _ _ rfl M B (.inr #[rfl,Sc _,λt h=>by cases h])]
    .exact#[_,rfl,p f k K M^B.told ok (by have:=M.le B.ins;lk) ht]
  · rintro n' ρ P Q a9 h
    unfold Am AJ at h ⊢
    split at h
    · rename_i d hd
      cases d with
      |bl b=>exact a9 _ _ h
      |_=>exact h.elim
    .exact h.elim)
theorem Hy:A.Y "_law_thinned" 5 ["_law_net","_law_times_here"] .sh KS:=A.gk A.h0z ["_law_net","_law_times_here","_law_kept","_law_tie","_law_by"] (λT a b=>(AB (Zm 2 a^BV AL)
 (AB (De kg rfl (Js^cg b (Kl A)^Bv (BA (dv 0) AC) AF) (FN 3 a) (AB (C7 4 a^YU b (cg b (Kk A)^AQ (Br^C6 2)^Bv (BA (dv 3) AC) AF)^BA (dv 3) AC)
 (AD^Ai (DTW.dt^CD (B3 MK Wi (dv 4) Bz)^Bx^B3 ML Ro (Ar F8 KQ (dv 4)^BA (dv 1) AC)^Ar F8 KQ (BA (dv 3) AC)^BA (dv 1) AC) (AD^GO 2 Wx c8 c7 Bt Hr (pv 2)^AA (dv 3) AL) AT)))
 (AD^AN^Ad^AA (BA (dv 0) AC)^AA (Zk T.Gac (Ac J8 Rm rfl T.Gaf n_ (AR (C6 2) AU))) AL)))) (@λc n d h=>Gu h)
theorem JM:A.Y "_law_net_of" 1 ["_law_state"] .sh Ex:=A.gk A.h10 ["_law_state","_law_ties"] (λT j o=>(AB (C7 1 j^As o (dv 0) AO)
 (AD^AN^Ad^AA (Zk T.Gac (Ac J9 Rn rfl T.Gaf n_ (AR (As o (dv 0) AO) AU)))^AA (Zk T.Gac^TX ["_law_ties","_law_pair_here"] [P3 1,s_] (BQ (Ac (J7 rfl) Rl rfl T.Gaf n_ (AR (dv 1) AU))) (λF=>FN 1 F) CF^Ar Ap BB (dv 1)^Ad^AA (YL o (dv 0)^dv 1) AL) AL))) (@λss n G h=>by
 let#[N,H,f,rfl,#[q,i,c],p]:=h;have I:=c.2.1;have J:=c.2.2;have lp:=q.length_eq;have lu:=i.length_eq;have j:(f.map tk).Nodup:=(i.map tk).nodup_iff.mp^O8 c.1;refine HP ?_;refine Qh ?_;refine#[_,H,rfl,KI _,by lk,λr B L=>?_];have e:r=N.ps:=E6 (λa b x y=>absurd y^ES x) (B.trans q.symm) (DV L^(B.trans q.symm).nodup_iff.mpr^F2 c.1.rise) c.1.rise;subst e;let#[M,O,Q,R]:=UM c i;refine#[_,_,rfl,M,O,Q,R,V3 c.1 i,λS U V=>?_];have W:=NR c.1 i U V;subst W;refine#[by show((N.ts.map tk).map tupK).length<=10000000;rw[Ev,Ev];lk,?_];refine BJ (λd=>match d with|.tup [.str a,.str b]=>.tup [.str a,.str b,(Ea (f.map tk) (f.map λu=>.int u.len) [.inr a,.inr b]).getD .non]|d=>d) (λE=>∃s,E=[.sh^Fx f,s]) _ _ _ _ ?_ #[_,rfl] ?_
 .rintro d Z E m nx ⟨s,rfl⟩ v
  let#[k,hk,rfl]:=TM.mp Z;let#[t,z,rfl]:=TM.mp hk;have l:=O3 j^i.mem_iff.mp z
  have:=v [.sh^Fx f,.sh^.tup [.str t.a,.str t.b]] #[_,rfl]
  exists _,_,tk t,_,rfl,rfl,l,gZ,z3;have e:Ea (f.map tk) (f.map λu=>D.int u.len) [.inr t.a,.inr t.b]=P3^.int t.len:=l;rw[show(tupK^tk t)=.tup [.str t.a,.str t.b]from rfl]at this;simp only[e]at this;exact this
 .rw[j7]
  exists z2;rw[ke,ke];refine(congrArg (λX=>G (.tup [.tup^N.ps.map .str,.tup X]) n)^lV (g:=AZ) λt z=>?_).mpr p;have l:Ea (f.map tk) (f.map λu=>D.int u.len) [.inr t.a,.inr t.b]=P3^.int t.len:=O3 j^i.mem_iff.mp z;show D.tup [.str t.a,.str t.b,(Ea (f.map tk) (f.map λu=>D.int u.len) [.inr t.a,.inr t.b]).getD .non]=AZ t;rw[l];rfl)
theorem F_:A.Y "_law_pair" 1 ["_law_a","_law_b"] .sh Ym:=A.gk A.h11 ["_law_a","_law_b"] (λT _ d=>(AD^AN^Ad^AA (Ac (HG rfl) QN rfl T.Gak boot_min (AR (dv 0)^AR (dv 1) AU))^AA (Ac (HH rfl) QO rfl T.Gar boot_max (AR (dv 0)^AR (dv 1) AU)) AL)) (@λe n f h=>by
 let#[x,y,rfl,g,i,a,p]:=h;exists x,y,rfl,x,y,rfl,z2;have b:=Vf a;have c:=Vg a;rw[←b,←c]at p;exact p)
theorem JP:A.Y "_law_do" 2 ["_law_state","_law_deed_here"] .sh Rx:=A.gk A.h12 ["_law_state","_law_deed_here","_law_pair_here"] (λT I c=>(AB (Ai (B3 Bb Co (BA (dv 1) AC) AO) (AD^B4^RW Wx c8 c7 Bt Hr (As c (dv 0) AO)^AA (BA (dv 1) AC) AL) AT)
 (AB (Ai (B3 Bb Co (BA (dv 1) AC) AO) (AB (B4^RW Wx PySem.F.slot_list_remove PySem.F.type_list_remove (LO c) Zs (As c (dv 0) AO)^AA (BA (dv 1) AC) AL)
 (AD (De kg rfl (Js (QD (QH rfl) Yh rfl T.Gan boot_list (AR (As c (dv 0) AO) AU))) (FN 2 I) (AD^Ai (B3 (Pj c) FU (BA (dv 1) AC)^dv 2) (AD^B4^RW PySem.F.plainAttrs_dict PySem.F.slot_dict_pop PySem.F.type_dict_pop (RA c) Wg (As c (dv 0) AO)^AA (dv 2) AL) AT)))) AT)
 (AB (Ai (B3 Bb Co (BA (dv 1) AC) AO) (AD^YG c (As c (dv 0) AO) (cg c (F_ A)^Bv (BA (dv 1) AC)^Bv (BA (dv 1) AC) AF)^BA (dv 1) AC) AT)
 (AD^Ai (B3 Bb Co (BA (dv 1) AC) AO) (AD^B4^RW PySem.F.plainAttrs_dict PySem.F.slot_dict_pop PySem.F.type_dict_pop (RA c) Wg (As c (dv 0) AO)^AA (cg c (F_ A)^Bv (BA (dv 1) AC)^Bv (BA (dv 1) AC) AF) AL) AT))))) (@λss n Pd h=>by
 let#[l,t,N,N',k,i,d,rfl,f,B,E,#[r,e,a],J,o,p]:=h;have a4:=PySem.sizeLine_eq;have a5:=a.2.1;have a6:=a.2.2;have lp:=r.length_eq;have lu:=e.length_eq;have I:(i.map tk).Nodup:=(e.map tk).nodup_iff.mp^O8 a.1;have O:k.Nodup:=r.nodup_iff.mp^F2 a.1.rise;have Q:∀x∈k,Du x:=λx q=>a.1.names x^r.mem_iff.mpr q;cases d with
 |come x=>
  let#[q,hn,R,S]:=J;exists _,AE (j:=0) rfl;refine Qh ?_;refine#[l,rfl,#[_,B,rfl],_,AE (j:=1) rfl,rfl,_,B,_,_,rfl,rfl,by rw[Ev];lk,?_];exists EK (Im k) rfl,rfl;refine#[_,AE (j:=0) rfl,#[_,AE (j:=0) rfl,#[_,AE (j:=0) rfl,rfl,?_]]];refine p _ (k++[x]) i rfl (by rw[CB];unfold Hx;rw[j8];rfl) (by rw[CM^kM f];exact E) #[?_,by rw[S];exact e,o] λb G _=>CM G;exact R.trans^(r.cons x).trans (m8 x k).symm
 | go x=>
  let#[q,rfl]:=J;have nx:=a.1.names x q;let#[j,L,j2,U]:=Rh^r.mem_iff.mp q;exists _,AE (j:=0) rfl;exists _,AE (j:=0) rfl;refine Qh ?_;exists l,rfl,#[_,B,rfl],_,AE (j:=1) rfl,rfl,_,B,_,_,j,rfl,rfl,DQ Q,Cj nx,#[.str x,by rw[ji,L];rfl,by rw[FD,beq_self_eq_true]],λm y hm D=>?_
  .rw[ji]at D
   let#[z,hz,rfl]:=kO.mp D;rw[FD];exact beq_eq_false_iff_ne.mpr^j2 m z hm hz
  rw[HA];exists XY _,rfl;have H:((n.put l^.pl^.lst^(k.eraseIdx j).map .str).w t)=P3^.pl^Fx i:=by rw[CM^kM f];exact E
  refine HP ?_;exists[Fx i],by show [FK _^.ob t]=_;rw[E4 H],_,_,rfl,by rw[Ev,Ev],by rw[Ev];lk,V3 a.1 e,O7 i;refine G9 a.1 nx (d1:=.non) rfl i [] _ _ (λu h=>e.mem_iff.mpr h) (by show i.length<=60;lk) I H λm' s V W e3=>?_;refine#[_,AE (j:=0) rfl,#[_,AE (j:=0) rfl,rfl,?_]];refine p m' (k.eraseIdx j) (i.filter λu=>!Tg x u) V ((e3 l f).trans^CB _ _ _) W #[?_,e.filter _,o] λb X Z=>(e3 b Z).trans^CM X;exact(r.filter _).trans (GL O U).symm
 |lay x y v=>
  let#[q,D,g,v1,v2,a0,a1]:=J;let#[a2,V,W]:=XX (v:=#[lo x y,hi x y,v]) I;exists _,AE (j:=0) rfl;exists _,AE (j:=0) rfl;exists _,AE (j:=0) rfl;exists _,AE (j:=3) rfl,rfl;refine HP ?_;exists _,AE (j:=1) rfl,_,AE (j:=2) rfl,x,y,rfl,a.1.names x q,a.1.names y D,g;refine#[t,tk #[lo x y,hi x y,v],_,_,rfl,rfl,E,by rw[Ev];lk,?_];exists _,AE (j:=0) rfl,rfl;refine p _ k a2 rfl (by rw[CM f];exact B) (by rw[CB];exact congrArg _^congrArg _ V) #[by rw[a0];exact r,?_,o] λb _ G=>CM G;refine a1.trans^rK ?_ W.symm;refine List.Perm.cons _ ?_;refine rK (e.filter _)^List.Perm.of_eq^mW λu h=>?_;rw[kR,mU,decide_eq_true_eq,lC,Ne,vV,Ew g (a.1.tin u^e.mem_iff.mpr h).2.2.1,Ne,tk_eq]
 | take x y=>
  let#[#[u,hf],q,D,g,rfl]:=J;have M:=kI.mp (show u∈N.ts.filter (A_ x y) by rw[hf];exact Re.mpr rfl);have eu:=(Ew g (a.1.tin u M.1).2.2.1).mp^vV.mp M.2;let#[j,L,_,U]:=Rh^e.mem_iff.mp M.1;exists _,AE (j:=0) rfl;exists _,AE (j:=0) rfl;exists _,AE (j:=0) rfl;exists _,AE (j:=0) rfl;refine HP ?_;exists t,rfl,#[_,E,rfl],_,AE (j:=1) rfl,_,AE (j:=2) rfl,x,y,rfl,a.1.names x q,a.1.names y D,g,rfl,_,E;refine#[_,_,_,tk u,j,.int u.len,rfl,rfl,by rw[show tk u=[.inr^lo x y,.inr^hi x y] by unfold tk;rw[eu.1,eu.2]];rfl,by rw[ji,L];rfl,by rw[ji,L];rfl,?_];rw[Zj];exists Qb _,rfl,rfl;refine p _ k (i.eraseIdx j) rfl (by rw[CM f];exact B) (CB _ _ _) #[r,?_,o] λb _ G=>CM G;have a3:i.Nodup:=e.nodup_iff.mp^Bp a.1.vQ;refine(e.filter _).trans^rK (List.Perm.of_eq ?_) (GL a3 U).symm;refine mW λw hw=>?_;have X:w∈N.ts:=e.mem_iff.mpr hw
  have Z:A_ x y w=t_↔w=u:=by
   rw[show(A_ x y w=t_)=(A_ x y w=t_)from rfl];constructor
   .intro z
    have:=kI.mpr #[X,z]
    rw[hf]at this;exact Re.mp this
   .rintro rfl;exact M.2
  rw[kR,mU,decide_eq_true_eq,lC,Ne,Z])
theorem JT:A.Z "come" 7 ["self","name"] .sh^Yr C:=by
 let#[_,g]:=A.T.Gae;exact A.gm A.h1d ["self","name"] (λT _ i=>(AB (Ai (B3 (Pj i) FU (dv 1)^BA (BX A.zq A.zj^dv 0) AC) (AD Dz) AT)
 (AB (Ai (B3 Bb Co (Ky T.Gaa^BA (BX A.zq A.zj^dv 0) AC) (EN rfl g)) (AD Dz) AT)
 (AD^AN^BN A.zq (BM A) (i.mono^by cbv) (dv 0)^Bv (Ad^AA (Zk T.Gac (Ac QG Yf rfl T.Gaf n_ (AR (Ar Ap BB (BA (BX A.zq A.zj^dv 0) AC)^Ad^AA (dv 1) AL) AU)))^AA (BA (BX A.zq A.zj^dv 0) AC) AL) AF)))) (@λF n G h=>by
 let#[a,t,b,N,M,f,x,rfl,k,#[m,o],#[q,r,s,u],c,p]:=h;have ok:=k.2.1;have v:=PySem.sizeLine_eq;exists a,_,_,_,rfl,k.1,rfl,_,AE (j:=0) rfl,Cj q,Hc ok.1,_,rfl;show if((N.ps.map D.str).any λy=>Fn y^.str x)=t_ then _ else _
 rw[Mz,decide_eq_false r];refine Ay ?_;exists a,_,_,_,rfl,k.1,rfl,_,AE (j:=0) rfl,_,_,rfl,rfl;show if(((N.ps.map D.str).length:Int)==24)=t_ then _ else _
 rw[Ev,show(((N.ps.length:Nat):Int)==24)=u_ from beq_eq_false_iff_ne.mpr^by lk];refine Ay ?_;refine#[a,_,_,rfl,k.1,by cbv,?_];refine#[a,_,_,_,rfl,k.1,rfl,_,AE (j:=0) rfl,gZ,by show(N.ps.map D.str).length+1<=sizeLine;rw[Ev];lk,N.ps++[x],by rw[j8];rfl,by rw[eq,kN];lk,λd z B=>?_];exists a,_,_,_,rfl,k.1,rfl,_,AE (j:=1) rfl,z2
 have e:d=f.ps:=by
  have l:d.Perm f.ps:=z.trans^(m8 x N.ps).trans s.symm;have E:d.Nodup:=l.nodup_iff.mpr^F2 c.1.rise;exact E6 (λa b x y=>absurd y^ES x) l (DV B E) c.1.rise
 subst e;refine#[a,t,b,N,M,f,?_,k.1,c,k.2.2.1,k.2.2.2,p];show [Slot.sh^.ob a,.sh^.tup [.tup^f.ps.map .str,.tup^N.ts.map AZ]]=_;rw[←u]
 rfl)
theorem A9:A.Z "ask_place" 1 ["self","name"] .sh^Wq C:=A.gm A.h1e ["self","name"] (λ_ _ d=>(AD^Ai (B3 (CP d) FU (dv 1)^BA (BX A.zq A.zj^dv 0) AC) (AD Dz) AT)) (@λg n i h=>by
 let#[a,t,b,N,M,x,rfl,#[e,ok,f,k],c,p]:=h;exists a,_,_,_,rfl,e,rfl,_,AE (j:=0) rfl,Cj^ok.1.names x c,Hc ok.1,_,rfl;show if(!((N.ps.map D.str).any λy=>Fn y^.str x))=t_ then _ else _
 rw[Mz,decide_eq_true c];exact Ay #[rfl,p])
theorem Kt:A.Z "far" 4 ["self","a","b"] .sh^Yq C:=have g:=Oj A;A.gm A.h1f ["self","a","b"] (λ_ _ c=>(AB (B4^BN A.zq (A9 A) (c.mono^by cbv) (dv 0)^Bl 1 AF)
 (AB (B4^BN A.zq (A9 A) (c.mono^by cbv) (dv 0)^Bl 2 AF)
 (AD^AN^cg c g^Bv (BX A.zq A.zw^dv 0)^Bl 1^Bl 2 AF)))) (@λi n j h=>by
 let#[a,t,b,N,M,x,y,rfl,k,e,d,f,p]:=h;exists a,_,_,rfl,k.1,by cbv,a,t,b,N,M,x,rfl,k,d;exists a,_,_,rfl,k.1,by cbv,a,t,b,N,M,y,rfl,k,f;exact#[a,_,_,_,rfl,k.1,rfl,M,x,y,rfl,k.2.2.1,e▸d,e▸f,p])
theorem MV:A.Z "go" 7 ["self","name"] .sh^Zx C:=A.gm A.h1g ["self","name","places","ties"] (λT b a=>(AB (B4^BN A.zq (A9 A) (a.mono^by cbv) (dv 0)^Bl 1 AF)
 (AB (Mn (i:=2) b rfl (kF rfl) rfl [("name":Str),("place":Str)] [P3 1,s_] (BQ^BA (BX A.zq A.zj^dv 0) AC) (λ_ _ _ _ _=>(EM (i:=1) (show rf [("name":Str),("place":Str)] by decide +kernel) rfl (kF rfl))) (λ_ _ _ _ _=>(FF^B3 Q6 Yg (dv 1)^dv 0)) (λ_ _ _ _ _=>(dv 1)) (by kernel_rfl))
 (AB (Mn (i:=3) b rfl (kF rfl) rfl [("name":Str),("tie":Str)] [P3 1,s_] (BQ^BA (BX A.zq A.zj^dv 0) AC) (λ_ _ _ _ _=>(EM (i:=1) (show rf [("name":Str),("tie":Str)] by decide +kernel) rfl (kF rfl))) (λ_ _ _ _ _=>(FF^B3 (CP a) FU (dv 0)^GR MA GX (dv 1) C4^C3 AC)) (λ_ _ _ _ _=>(dv 1)) (by kernel_rfl))
 (AD^AN^BN A.zq (BM A) (a.mono^by cbv) (dv 0)^Bv (Ad^AA (Zk T.Gac^dv 2)^AA (Zk T.Gac^dv 3) AL) AF))))) XU
theorem CC:A.Z "ties_between" 2 ["self","a","b"] .fr^Wn C:=A.gm A.h1h ["self","a","b"] (λT _ g=>(AB (B4^BN A.zq (A9 A) (g.mono^by cbv) (dv 0)^Bl 1 AF)
 (AB (B4^BN A.zq (A9 A) (g.mono^by cbv) (dv 0)^Bl 2 AF)
 (AD^AN^TX ["a","b","tie"] [P3 1,P3 2,s_] (BQ^BA (BX A.zq A.zj^dv 0) AC) (λr=>FN 2 r) (FF^B3 (bT g) gC (GR MA GX (dv 2) C4^C3 AC)^Ad^AA (Ac (HG rfl) QN rfl T.Gak boot_min (AR (dv 0)^AR (dv 1) AU))^AA (Ac (HH rfl) QO rfl T.Gar boot_max (AR (dv 0)^AR (dv 1) AU)) AL)^dv 2)))) (@λI n J h=>by
 let#[a,t,b,N,M,x,y,rfl,k,i,l,f,p]:=h;have ok:=k.2.1;have v:=ok.2.2;exists a,_,_,rfl,k.1,by cbv,a,t,b,N,M,x,rfl,k,i;exists a,_,_,rfl,k.1,by cbv,a,t,b,N,M,y,rfl,k,l;refine#[a,_,_,_,rfl,k.1,rfl,_,AE (j:=1) rfl,by show(N.ts.map AZ).length<=10000000;rw[Ev];lk,?_];refine Cg (λd=>A_ x y^TR d) id (λo=>∃s,o=[.sh^.str x,.sh^.str y,s]) _ _ _ _ ?_ #[_,rfl] ?_
 .rintro d z o m L O ⟨s,rfl⟩ B D
  let#[u,E,rfl]:=TM.mp z;let#[F,G,H,_]:=ok.1.tin u E;exists x,y,rfl,x,y,rfl,z2;rw[show(if decide (y.cps.toList<x.cps.toList)=t_ then y else x)=lo x y from Vf f,show(if decide (x.cps.toList<y.cps.toList)=t_ then y else x)=hi x y from Vg f];have q:=Ss (ok.1.names x i)^ok.1.names y l;exists E_ (ok.1.names _ F)^ok.1.names _ G,E_ q.1 q.2
  have e:Fn (.tup [.str u.a,.str u.b])^.tup [.str^lo x y,.str^hi x y]=A_ x y u:=by
   rw[kR,YD,vV,Ew f H]
  show if Fn (.tup [.str u.a,.str u.b]) (.tup [.str^lo x y,.str^hi x y])=t_ then _ else _
  rw[e];exact Eo (λc=>B _ #[_,rfl] c) λc=>D _ #[_,rfl]^lC.mpr c
 .rw[j7,oX,oi]
  exact p)
theorem Ks:A.Z "lay" 7 ["self","a","b","length"] .sh^ce C:=by
 let#[_,i]:=A.T.Gag;exact A.gm A.h1i ["self","a","b","length","ties","others"] (λT v g=>(AB (C7 4 v^BN A.zq (CC A) (g.mono^by cbv) (dv 0)^Bl 1^Bl 2 AF)
 (AB (Ai (B3 Bb Co (dv 1)^dv 2) (AD Dz) AT)
 (AB (Ai (DTW.dt^Jj (Bq^Jk^C6 4)^GN^B3 Bb Co (Ky T.Gaa^BA (BX A.zq A.zj^dv 0) AC) (EN rfl i)) (AD Dz) AT)
 (AB (C7 5 v^BA (cg g (JJ A)^Bv (BX A.zq A.zj^dv 0)^AQ (Br^C6 4) AF) AC)
 (AD^AN^BN A.zq (BM A) (g.mono^by cbv) (dv 0)^Bv (cg g (IJ A)^Bv (BX A.zq A.zj^dv 0)^AQ (Br^Ar Ap BB (dv 5)^Ad^AA (Ad^AA (Ac (HG rfl) QN rfl T.Gak boot_min (AR (dv 1)^AR (dv 2) AU))^AA (Ac (HH rfl) QO rfl T.Gar boot_max (AR (dv 1)^AR (dv 2) AU))^AA (dv 3) AL) AL) AF) AF)))))) (@λS n F h=>by
 let#[a,t,b,N,M,B,x,y,l,rfl,k,#[G,H],#[I,J,c,U,V,m,o],f,p]:=h;have ok:=k.2.1;have L:=PySem.sizeLine_eq;exists a,_,_,rfl,k.1,by cbv,a,t,b,N,M,x,y,rfl,k,I,J,c;show if(x==y)=t_ then _ else _
 rw[show(x==y)=u_ from beq_eq_false_iff_ne.mpr c];refine Ay ?_
 have next:Au (Bj 5^Ak CI (Ae Rq^AH (AS^T8 C "whole"^AJ 0)^AH (B9^BC 4) AW)^wC^D.int 1) (Cd^HL C "turn_to" (M6 C) (AJ 0)^AH (AS^Ae M9^AH (AS^T8 C "whole"^AJ 0)^AH (B9^Ak CL (AJ 5)^D7^AM (D7^AM (EZ Zd^AM (AJ 1)^AM (AJ 2) Ag)^AM (EZ Ze^AM (AJ 1)^AM (AJ 2) Ag)^AM (AJ 3) Ag) Ag) AW) AW) (EE F) n [.sh^.ob a,.sh^.str x,.sh^.str y,.sh^.int l,.sh^.lst^(N.ts.filter^A_ x y).map AZ,.no]:=by
  exists a,_,_,_,rfl,k.1,rfl,N,N.ts.filter^A_ x y,rfl,ok,λu q=>(kI.mp q).1,_,AE (j:=1) rfl
  have O:(N.ts.filter λu=>decide (u∉N.ts.filter^A_ x y))=N.ts.filter λu=>!A_ x y u:=mW λu q=>by
   rw[decide_not,Bool.not_inj_iff,kR,decide_eq_true_eq,kI];exact#[λz=>z.2,λz=>#[q,z]]
  rw[O];exists a,_,_,rfl,k.1,by cbv,a,_,_,_,rfl,k.1,rfl,x,y,rfl,x,y,rfl,z3,gZ;have W:=k9 (λu=>!A_ x y u) N.ts;refine#[by rw[Ev];show(N.ts.filter λu=>!A_ x y u).length+1<=sizeLine;lk,N,_,(N.ts.filter λu=>!A_ x y u)++[#[lo x y,hi x y,l]],rfl,?_,by rw[eq,kN];lk,λs Q R=>?_]
  .rw[show(if decide (y.cps.toList<x.cps.toList)=t_ then y else x)=lo x y from Vf c,show(if decide (x.cps.toList<y.cps.toList)=t_ then y else x)=hi x y from Vg c,j8]
   rfl
  .have e:s=B.ts:=FZ (Q.trans^(m8 _ _).trans o.symm) R^Fq f.1.vQ
   subst e;rw[←m];exact#[a,t,b,N,M,B,rfl,k.1,f,k.2.2.1,k.2.2.2,p]
 cases E:(N.ts.filter^A_ x y).map AZ with
 |nil=>
  rw[E]at next;exists u_,rfl,a,_,_,_,rfl,k.1,rfl,_,AE (j:=1) rfl,_,_,rfl,rfl;show if(((N.ts.map AZ).length:Int)==60)=t_ then _ else _
  rw[Ev,show(((N.ts.length:Nat):Int)==60)=u_ from beq_eq_false_iff_ne.mpr^by lk];exact Ay next
 |cons d r=>
  rw[E]at next;exact#[t_,rfl,next])
theorem EU:A.Z "tie_between" 3 ["self","a","b"] .sh^Yk C:=A.gm A.h1j ["self","a","b","ties"] (λ_ d e=>(AB (C7 3 d^BN A.zq (CC A) (e.mono^by cbv) (dv 0)^Bl 1^Bl 2 AF)
 (AB (Ai (Bq^Jk^C6 3) (AD Dz) AT)
 (AD^AN^BA (C6 3) AC)))) (@λl n m h=>by
 let#[a,t,b,N,M,x,y,u,rfl,k,f,g,c,i,p]:=h;exists a,_,_,rfl,k.1,by cbv,a,t,b,N,M,x,y,rfl,k,f,g,c;rw[i];exact#[t_,rfl,_,AE (j:=0) rfl,p])
theorem JS:A.Z "take" 7 ["self","a","b"] .sh^Yl C:=A.gm A.h1k ["self","a","b"] (λ_ _ c=>(AD^AN^BN A.zq (BM A) (c.mono^by cbv) (dv 0)^Bv (cg c (JJ A)^Bv (BX A.zq A.zj^dv 0)^AQ (Br^BV^AA (BN A.zq (EU A) (c.mono^by cbv) (dv 0)^Bl 1^Bl 2 AF) AL) AF) AF)) (@λr n s h=>by
 let#[a,t,b,N,M,B,x,y,rfl,k,#[i,j],#[#[u,d],l,m,e,rfl],f,p]:=h;have ok:=k.2.1;exists a,_,_,rfl,k.1,by cbv,a,_,_,_,rfl,k.1,rfl,a,_,_,rfl,k.1,by cbv,a,t,b,N,M,x,y,u,rfl,k,l,m,e,d,gZ;have o:u∈N.ts:=(kI.mp (by rw[d];exact Re.mpr rfl:u∈N.ts.filter^A_ x y)).1;exists N,[u],rfl,ok,λv g=>by rw[Re.mp g];exact o
 have q:(N.ts.filter λv=>decide (v∉[u]))=N.ts.filter λu=>!A_ x y u:=mW λv g=>by
  rw[decide_not,Bool.not_inj_iff,kR,decide_eq_true_eq,←d,kI];exact#[λz=>z.2,λz=>#[g,z]]
 rw[q];exact#[a,t,b,N,M,_,rfl,k.1,f,k.2.2.1,k.2.2.2,p])
theorem F9:A.Y "_law_told" 8 ["_law_keeper","_law_deed_here"] .sh^FJ C:=A.gk A.h13 ["_law_keeper","_law_deed_here"] (λ_ _ e=>(AB (Ai (B3 Bb Co (BA (dv 1) AC) AO) (AD^AN^BN A.zq (JT A) (e.mono^by cbv) (dv 0)^Bv (BA (dv 1) AC) AF) AT)
 (AB (Ai (B3 Bb Co (BA (dv 1) AC) AO) (AD^AN^BN A.zq (MV A) (e.mono^by cbv) (dv 0)^Bv (BA (dv 1) AC) AF) AT)
 (AB (Ai (B3 Bb Co (BA (dv 1) AC) AO) (AD^AN^BN A.zq (Ks A) (e.mono^by cbv) (dv 0)^Bv (BA (dv 1) AC)^Bv (BA (dv 1) AC)^Bv (BA (dv 1) AC) AF) AT)
 (AB (Ai (B3 Bb Co (BA (dv 1) AC) AO) (AD^AN^BN A.zq (JS A) (e.mono^by cbv) (dv 0)^Bv (BA (dv 1) AC)^Bv (BA (dv 1) AC) AF) AT)
 (AD^AN^BN A.zq (Kt A) (e.mono^by cbv) (dv 0)^Bv (BA (dv 1) AC)^Bv (BA (dv 1) AC) AF)))))) (@λm n o h=>by
 let#[a,t,b,N,M,g,d,rfl,k,f,i,c,p]:=h;cases d with
 |come x=>
  exists _,AE (j:=0) rfl;exact#[a,_,_,rfl,k.1,by cbv,_,AE (j:=1) rfl,a,t,b,N,M,g,x,rfl,k,f,i,c,p]
 |go x=>
  exists _,AE (j:=0) rfl;exists _,AE (j:=0) rfl;exact#[a,_,_,rfl,k.1,by cbv,_,AE (j:=1) rfl,a,t,b,N,M,g,x,rfl,k,f,i,c,p]
 |lay x y l=>
  exists _,AE (j:=0) rfl;exists _,AE (j:=0) rfl;exists _,AE (j:=0) rfl;exact#[a,_,_,rfl,k.1,by cbv,_,AE (j:=1) rfl,_,AE (j:=2) rfl,_,AE (j:=3) rfl,a,t,b,N,M,g,x,y,l,rfl,k,f,i,c,p]
 |take x y=>
  exists _,AE (j:=0) rfl;exists _,AE (j:=0) rfl;exists _,AE (j:=0) rfl;exists _,AE (j:=0) rfl;exact#[a,_,_,rfl,k.1,by cbv,_,AE (j:=1) rfl,_,AE (j:=2) rfl,a,t,b,N,M,g,x,y,rfl,k,f,i,c,p])
theorem GA:A.Y "_law_deed" 3 ["_law_feed_here","_law_state","_law_pool","_law_sort"] .sh IY:=have G:=BL A;A.gk A.h14 ["_law_feed_here","_law_state","_law_pool","_law_sort","_law_places_here","_law_new","_law_way","_law_pair_here","_law_side","_law_a","_law_b"] (λT H g=>(AB (C7 4 H^As g (dv 1) AO)
 (AB (Mn (i:=5) H rfl (kF rfl) rfl [("_law_places_here":Str),("_law_name":Str)] [P3 4,s_] (BQ^dv 2) (λ_ _ _ _ _=>(EM (i:=1) (show rf [("_law_places_here":Str),("_law_name":Str)] by decide +kernel) rfl (kF rfl))) (λ_ _ _ _ _=>(FF^B3 (CP g) FU (dv 1)^dv 0)) (λ_ _ _ _ _=>(dv 1)) (by kernel_rfl))
 (AB (C7 6 H^cg g G^AQ (Bh 0)^Bv AC AF)
 (AB (Ai (DTW.dt^Jj (B3 (VP g) Zt (dv 5)^BV AL)^GN^DTW.dt^CD (B3 (EC g) GY (dv 6) AC)^Bx^B3 (EC g) GY (Ky T.Gaa^dv 4) AC) (AD^AN^Ad^AA AO^AA (BA (dv 5)^cg g G^AQ (Bh 0)^Bv (Ky T.Gaa^dv 5) AF) AL) AT)
 (AB (Ai (B3 Bb Co (dv 6) AC) (AD^AN^Ad^AA AO^AA (BA (dv 4)^cg g G^AQ (Bh 0)^Bv (Ky T.Gaa^dv 4) AF) AL) AT)
 (AB (Ai (DTW.dt^Jj (B3 Bb Co (dv 6) AC)^GN^B3 (bO g) f7 (As g (dv 1) AO) WS) (AB (C7 7 H^BA (Ac (J7 rfl) Rl rfl T.Gaf n_ (AR (As g (dv 1) AO) AU))^cg g G^AQ (Bh 0)^Bv (Ac Tc cU rfl T.Gaa PySem.boot_len (AR (As g (dv 1) AO) AU)) AF)
 (AB (C7 8 H^cg g G^AQ (Bh 0)^Bv AC AF)
 (AD^AN^Ad^AA AO^AA (BA (dv 7)^dv 8)^AA (BA (dv 7)^Ar MI QL AC^dv 8) AL))) AT)
 (AB (C7 9 H^cg g G^AQ (Bh 0)^Bv (Ky T.Gaa^dv 4) AF)
 (AB (C7 10 H^Ar EB HI (Ar Ap BB (Ar Ap BB (dv 9) AC)^cg g G^AQ (Bh 0)^Bv (Ar MI QL (Ky T.Gaa^dv 4) AC) AF)^Ky T.Gaa^dv 4)
 (AD^AN^Ad^AA AO^AA (BA (dv 4)^dv 9)^AA (BA (dv 4)^dv 10)^AA (cg g (JN A)^AQ (Bh 0)^Bv (OR (B3 (EC g) GY (dv 3) AC) (dv 3)^cg g G^AQ (Bh 0)^Bv AC AF) AF) AL)))))))))) (@λss n X h=>by
 let#[N,ps,F,f,k,rfl,#[hp,Q,o],a2,hq,q2,a3,a4,lu,k0,k4,hn,p]:=h;have a8:=o.2.1;have a9:=o.2.2;have lp:=hp.length_eq;have b0:=PySem.sizeLine_eq;have H:(F.map tk).Nodup:=(Q.map tk).nodup_iff.mp^O8 o.1;have a5:ps.Nodup:=hp.nodup_iff.mp^F2 o.1.rise;have a6:∀x∈ps,Du x:=λx l=>hq x^a4 x l;refine Qh ?_;refine#[by show(f.map D.str).length<=10000000;rw[Ev];lk,?_];refine Cg (λd=>!((ps.map D.str).any λy=>Fn y d)) id (λρ=>∃s,ρ=[.sh^Hx ps,s]) _ _ _ _ ?_ #[_,rfl] ?_
 .rintro d hd ρ m nx sk ⟨s,rfl⟩ R h2
  let#[x,l,rfl]:=TM.mp hd;exists Cj^hq x l,DQ a6,_,rfl;exact Eo (λc=>R _ #[_,rfl] c) λc=>h2 _ #[_,rfl]^lC.mpr c
 have ef:(f.map D.str).filter (λd=>!((ps.map D.str).any λy=>Fn y d))=(f.filter λx=>decide (x∉ps)).map D.str:=by
  rw[oi]
  congr 1
  refine mW λx _=>?_;show(!((ps.map D.str).any λy=>Fn y^.str x))=decide (x∉ps);rw[Mz,decide_not]
 rw[j7,oX,ef];generalize B:(f.filter λx=>decide (x∉ps))=new
 have I:∀x∈new,x∈f/\x∉ps:=λx l=>by
  rw[←B]at l;let#[a,b]:=kI.mp l;exact#[a,of_decide_eq_true b]
 have a7:new.length<=20:=by rw[←B];exact jr (k9 _ _) a3
 have J:new=[]->2<=ps.length:=λe=>by
  rw[e]at B
  have:∀x∈f,x∈ps:=λx l=>by
   rcases oF (x∈ps)with z|z
   .exact z
   .have R:x∈f.filter λx=>decide (x∉ps):=kI.mpr #[l,decide_eq_true z]
    rw[B]at R;cases R
  have:=LV a2 this
  lk
 refine#[9,rfl,by cbv,by cbv,by lk,λt w0 w9=>?_];exists z0,DQ λx l=>hq x (I x l).1,DQ (ps:=[]) λx l=>by cases l
 have come:new≠[]->(Cd^D7^AM (wC^D.str "come")^AM (Ak CI (AJ 5)^Ae Cu^AH (Bc 0)^AH (AS^EZ IB^AM (AJ 5) Ag) AW) Ag) (EE X) (n - 1) [.fd,.sh^EV (Hx ps)^Fx F,.sh^.tup^f.map .str,.sh^.int k,.sh^Hx ps,.sh^.lst^new.map .str,.sh^.int t,.no,.no,.no,.no]:=λL=>by
  have l1:1<=new.length:=List.length_pos_iff.mpr L;refine#[_,_,rfl,rfl,((new.map D.str).length:Int),rfl,by rw[Ev];lk,by rw[Ev];lk,(by show 1<=n.n - 1;lk),λr M E=>?_];rw[Ev]at E;let#[x,l,ex,_]:=E8 M E;exact#[_,ex,z2,p (.come x) (n.n - 1 - 1) (I x l)^by lk]
 have S:∀Z:D,2<=ps.length->(Au (Cv (Am^Ak (RN u_) (AJ 6)^wC^D.int 2) (Cd^D7^AM (wC^D.str "go")^AM (Ak CI (AJ 4)^Ae Cu^AH (Bc 0)^AH (AS^EZ IB^AM (AJ 4) Ag) AW) Ag) B0)
 (Au (Cv (QX (Am^Ak (RN u_) (AJ 6)^wC^D.int 3)^Am^Ak fg (Ak CK (AJ 1)^wC^D.str "ties") T9) (Au (Bj 7^Ak CI (EZ V6^AM (Ak CK (AJ 1)^wC^D.str "ties") Ag)^Ae Cu^AH (Bc 0)^AH (AS^EZ Zf^AM (Ak CK (AJ 1)^wC^D.str "ties") Ag) AW)
 (Au (Bj 8^Ae Cu^AH (Bc 0)^AH (AS^wC^D.int 2) AW)
 (Cd^D7^AM (wC^D.str "take")^AM (Ak CI (AJ 7)^AJ 8)^AM (Ak CI (AJ 7)^Ak OG (wC^D.int 1)^AJ 8) Ag))) B0)
 (Au (Bj 9^Ae Cu^AH (Bc 0)^AH (AS^EZ IB^AM (AJ 4) Ag) AW)
 (Au (Bj 10^Ak (fm (λ_ j=>0<j) λi j=>D.int (i % j)) (Ak CL (Ak CL (AJ 9)^wC^D.int 1)^Ae Cu^AH (Bc 0)^AH (AS^Ak OG (EZ IB^AM (AJ 4) Ag)^wC^D.int 1) AW)^EZ IB^AM (AJ 4) Ag)
 (Cd^D7^AM (wC^D.str "lay")^AM (Ak CI (AJ 4)^AJ 9)^AM (Ak CI (AJ 4)^AJ 10)^AM (Ae Rv^AH (Bc 0)^AH (AS^gc (Am^Ak P7 (AJ 3)^wC^D.int 4) (AJ 3)^Ae Cu^AH (Bc 0)^AH (AS^wC^D.int 4) AW) AW) Ag)))))
   (EE X) (n - 1) [.fd,.sh^EV (Hx ps)^Fx F,.sh^.tup^f.map .str,.sh^.int k,.sh^Hx ps,.sh Z,.sh^.int t,.no,.no,.no,.no]:=λZ p2=>by
  have U:(ps.map D.str).length=ps.length:=Ev ..;show if(t==2)=t_ then _ else _
  refine Eo (λc=>?_) λc=>?_
  .refine#[_,_,rfl,rfl,((ps.map D.str).length:Int),rfl,by lk,by lk,(by show 1<=n.n - 1;lk),λr M E=>?_]
   rw[U]at E;let#[x,l,ex,_]:=E8 M E;exact#[_,ex,z2,p (.go x) (n.n - 1 - 1) l^by lk]
  have lay:(Au (Bj 9^Ae Cu^AH (Bc 0)^AH (AS^EZ IB^AM (AJ 4) Ag) AW)
 (Au (Bj 10^Ak (fm (λ_ j=>0<j) λi j=>D.int (i % j)) (Ak CL (Ak CL (AJ 9)^wC^D.int 1)^Ae Cu^AH (Bc 0)^AH (AS^Ak OG (EZ IB^AM (AJ 4) Ag)^wC^D.int 1) AW)^EZ IB^AM (AJ 4) Ag)
 (Cd^D7^AM (wC^D.str "lay")^AM (Ak CI (AJ 4)^AJ 9)^AM (Ak CI (AJ 4)^AJ 10)^AM (Ae Rv^AH (Bc 0)^AH (AS^gc (Am^Ak P7 (AJ 3)^wC^D.int 4) (AJ 3)^Ae Cu^AH (Bc 0)^AH (AS^wC^D.int 4) AW) AW) Ag))) (EE X) (n - 1) [.fd,.sh^EV (Hx ps)^Fx F,.sh^.tup^f.map .str,.sh^.int k,.sh^Hx ps,.sh Z,.sh^.int t,.no,.no,.no,.no]:=by
   refine#[_,_,rfl,rfl,((ps.map D.str).length:Int),rfl,by lk,by lk,(by show 1<=n.n - 1;lk),λa a0 a1=>?_];refine#[_,_,rfl,rfl,((ps.map D.str).length:Int) - 1,rfl,by lk,by lk,(by show 1<=n.n - 1 - 1;lk),λq q0 q1=>?_];exists _,_,rfl,rfl,(by show(0:Int)<((ps.map D.str).length:Int);lk);rw[U]at a1 q1 ⊢;have O:0<=(a+1+q) % (ps.length:Int)/\(a+1+q) % (ps.length:Int)<ps.length:=#[rG _^by lk,qM _^by lk]
   have V:(a+1+q) % (ps.length:Int)≠a:=by
    intro e
    rcases(show a+1+q<ps.length\/ps.length<=a+1+q by lk)with z|z
    .rw[Int.emod_eq_of_lt (by lk) z]at e;lk
    .have:(a+1+q) % (ps.length:Int)=a+1+q - ps.length:=by
      rw[←Int.sub_emod_right,Int.emod_eq_of_lt (by lk)^by lk]
     lk
   obtain⟨b,eb⟩:∃b,(a+1+q) % (ps.length:Int)=b:=#[_,rfl];rw[eb]at O V;let#[x,l,ex,ix]:=E8 a0 a1;let#[y,hy,ey,iy]:=E8 O.1 O.2
   have L:x≠y:=λe=>V (by
    subst e;have R:a.toNat<ps.length:=by lk
    have:=(List.getElem?_inj R a5).mp^ix.trans iy.symm
    lk)
   subst eb;exists _,ex,_,ey;have W:∀(s:Int) (m:Nat),0<=s->s<=3->n.n<=m+4->1<=m->Rv [.fd,.sh^.int s] #[m,n.w] λd n'=>Ag n' [.fd,.sh^EV (Hx ps)^Fx F,.sh^.tup^f.map .str,.sh^.int k,.sh^Hx ps,.sh Z,.sh^.int t,.no,.no,.sh^.int a,.sh^.int ((a+1+q) % (ps.length:Int))] λds n2=>[D.str "lay",.str x,.str y,d].length<=sizeLine/\X (.tup ([D.str "lay",.str x,.str y]++d::ds)) n2:=λs m s0 s3 hm m1=>#[s,rfl,s0,s3,m1,λr E r2=>#[(by cbv:4<=sizeLine),p (.lay x y r) (m - 1) #[l,hy,L,E,r2]^by lk]];show if decide (k<4)=t_ then _ else _
   refine Eo (λc=>?_) λc=>?_
   .exact W k (n.n - 1 - 1 - 1) k0 (by have:=of_decide_eq_true c;lk) (by lk)^by lk
   .exact#[4,rfl,by cbv,by cbv,(by show 1<=n.n - 1 - 1 - 1;lk),λr M E=>W r (n.n - 1 - 1 - 1 - 1) M (by lk) (by lk)^by lk]
  show if(t==3)=t_ then _ else _
  refine Eo (λc3=>?_) λc3=>Ay lay;refine HP ?_;exists _,_,rfl,by rw[Ev,Ev],rfl;show if(!decide ((F.map tk).length=0))=t_ then _ else _
  rw[Ev]
  by_cases e0:F.length=0
  .rw[decide_eq_true e0];exact Ay lay
  rw[decide_eq_false e0];refine BE ?_;let#[s1,s2,s3,s4]:=UM o Q;have lN:=Q.length_eq;refine HP ?_;refine#[_,_,rfl,s1,s2,s3,s4,V3 o.1 Q,λb1 h3 h4=>?_];have ek:=NR o.1 Q h3 h4;subst ek;refine HP ?_;refine#[_,_,rfl,by rw[Ev,Ev],((F.map tk).length:Int),rfl,by rw[Ev];lk,by rw[Ev];lk,(by show 1<=n.n - 1;lk),λr M E=>?_];rw[Ev]at E;have g:r.toNat<N.ts.length:=by lk
  exists tupK (tk N.ts[r.toNat]),?_
  .have:=AE (xs:=(N.ts.map tk).map tupK) (j:=r.toNat) (v:=tupK (tk N.ts[r.toNat]))^by rw[ji,ji,Op g];rfl
   rwa[show((r.toNat:Nat):Int)=r by lk]at this
  have hm:N.ts[r.toNat]∈F:=Q.mem_iff.mp^lJ _;generalize N.ts[r.toNat]=u at hm;refine#[2,rfl,by cbv,by cbv,(by show 1<=n.n - 1 - 1;lk),λv v0 v1=>?_]
  rcases(show v=0\/v=1 by lk)with rfl|rfl
  .exact#[_,AE (j:=0) rfl,_,AE (j:=1) rfl,z3,p (.take u.a u.b) (n.n - 1 - 1 - 1) #[u,hm,.inl #[rfl,rfl]]^by lk]
  .exact#[_,AE (j:=1) rfl,_,AE (j:=0) rfl,z3,p (.take u.b u.a) (n.n - 1 - 1 - 1) #[u,hm,.inr #[rfl,rfl]]^by lk]
 cases hc:new with
 |nil=>
  rw[hc]at J;exact Ay^Ay^S _ (J rfl)
 |cons x0 M=>
  rw[hc]at come;refine BE ?_;show if decide (t<2)=t_ then _ else _
  refine Eo (λ_=>BE^come^k_ _ _) λ_=>?_;exists _,_,rfl,rfl;show if decide (((ps.map D.str).length:Int)<2)=t_ then _ else _
  rw[Ev];refine Eo (λ_=>come^k_ _ _) λc=>S _^by have:=of_decide_eq_false^lC.mpr c;lk)
theorem Ko:A.Y "_law_lines" 1 ["_law_net"] .fr M7:=A.gk A.h15 ["_law_net","_law_lines_here"] (λT H V=>(AB (WH (i:=1) H rfl (kF rfl) rfl [("_law_name":Str)] [s_] (BQ^BA (dv 0) AC) (λ_ _ _ _ _=>(EM (i:=0) (show rf [("_law_name":Str)] by decide +kernel) rfl (kF rfl))) (λ_ _ _ _ _=>CF) (λ_ _ _ _ _=>(Ar Ap BB AO^dv 0)) (by kernel_rfl))
 (AB (GO 1 Wx PySem.F.slot_list_extend PySem.F.type_list_extend Sj gB (pv 1)^AA (TX ["_law_a","_law_b","_law_length_here"] [s_,s_,s_] (BQ^BA (dv 0) AC) (λm=>dA^A5 (FN 0 m)^A5 (FN 1 m)^A5 (FN 2 m) EL) CF^Ar Ap BB (Ar Ap BB (Ar Ap BB (Ar Ap BB (Ar Ap BB AO^dv 0) AO)^dv 1) AO) (B8 Lm Wf rfl T.Gal boot_str (AR (dv 2) AU))) AL)
 (AD^IR 1^pv 1)))) (@λW n X h=>by
 let#[N,rfl,ok,Z,lt,p]:=h;have o:=PySem.sizeLine_eq;refine#[_,AE (j:=0) rfl,by show(N.ps.map D.str).length<=10000000;rw[Ev];lk,?_];refine BJ c9 (λg=>∃k,g=[k]) _ _ _ _ ?_ #[_,rfl] ?_
 .rintro d q g I J ⟨k,rfl⟩ f
  let#[x,L,rfl]:=TM.mp q;have c:=f [.sh^.str x] #[_,rfl];rw[show c9^.str x=.str^Ej x from rfl,←GG]at c;exact#[LS^ok.names x L,c]
 .exists _,rfl,rfl,_,AE (j:=1) rfl,by show(N.ts.map AZ).length<=10000000;rw[Ev];lk
  refine BJ hX (λg=>∃k s u,g=[k,s,u]) _ _ _ _ ?_ #[_,_,_,rfl] ?_
  .rintro d q g I J ⟨k,s,u,rfl⟩ f
   let#[t,M,rfl]:=TM.mp q;let#[O,Q,_,v,y]:=Gw ok M;have la:=Gz O;have lb:=Gz Q;have R:=GD v y;have c:=f [.sh^.str t.a,.sh^.str t.b,.sh^.int t.len] #[_,_,_,rfl];rw[show hX^AZ t=.str^Ei t from rfl,←LD t]at c;have z:("tie ":Str).length=4:=by decide +kernel
   have r:sp.length=1:=by decide +kernel
   have B:(("tie ":Str)++t.a).length=4+t.a.length:=by rw[len_app,z]
   have E:(("tie ":Str)++t.a++sp).length=4+t.a.length+1:=by rw[len_app,B,r]
   have G:(("tie ":Str)++t.a++sp++t.b).length=4+t.a.length+1+t.b.length:=by rw[len_app,E]
   have S:(("tie ":Str)++t.a++sp++t.b++sp).length=4+t.a.length+1+t.b.length+1:=by rw[len_app,G,r]
   have l:(" ":Str).length=1:=r;have U:(kU^toString t.len).length<=7:=R;exact#[rfl,rfl,by rw[z];lk,by rw[B,l];lk,by show(("tie ":Str)++t.a++sp).length+_<=_;rw[E];lk,by show(("tie ":Str)++t.a++sp++t.b).length+_<=_;rw[G,l];lk,MX v y,by rw[o];lk,by show(("tie ":Str)++t.a++sp++t.b++sp).length+_<=_;rw[S];lk,c]
  .have e:(Nt.linesOf N).map D.str=([]++(N.ps.map D.str).map c9)++([]++(N.ts.map AZ).map hX):=by
    unfold Nt.linesOf;rw[j8,ke,ke,ke,ke,j7,j7];rfl
   exists _,_,rfl,rfl,?_
   .rw[←eq,←e,Ev]
    unfold Nt.linesOf;rw[eq,Ev,Ev];lk
   .rw[e]at p
    exact#[_,rfl,p])
theorem Kr:A.Z "net" 1 ["self"] .sh^cZ C:=A.gm A.h1l ["self"] (λ_ _ d=>(AD^AN^BX A.zq A.zj^dv 0)) (@λe n f h=>by
 let#[a,t,b,N,M,rfl,c,p]:=h;exact#[a,_,_,_,rfl,c,rfl,p])
theorem JR:A.Z "thin" 1 ["self"] .sh^cY C:=A.gm A.h1m ["self"] (λ_ _ d=>(AD^AN^BX A.zq A.zw^dv 0)) (@λe n f h=>by
 let#[a,t,b,N,M,rfl,c,p]:=h;exact#[a,_,_,_,rfl,c,rfl,p])
theorem Po:A.Y "_law_is" 6 ["_law_keeper","_law_net","_law_times_here"] .sh^Lw C:=A.gk A.h16 ["_law_keeper","_law_net","_law_times_here"] (λT _ c=>(AD^AN^Mr (HC Bb Co (Ac (BZ c) DM rfl T.Gah nG (AR (GS A.zq (Kr A) (c.mono^by cbv)^dv 0) AU)) (Ac (BZ c) DM rfl T.Gah nG (AR (dv 1) AU))^Cp _)^Jw^HC Bb Co (Ac (BZ c) DM rfl T.Gah nG (AR (GS A.zq (JR A) (c.mono^by cbv)^dv 0) AU)) (Ac (BZ c) DM rfl T.Gah nG (AR (cg c (Hy A)^Bl 1^Bl 2 AF) AU))^Cp _)) (@λl n f h=>by
 let#[a,t,b,N,M,rfl,k,g,p]:=h;have e:=k.2.2.2;exists a,_,_,rfl,k.1,by cbv,a,t,b,N,M,rfl,k.1,_,rfl,D_ k.2.1,_,rfl,D_ k.2.1;generalize C_^enc N=X;show(match (D.bl (if u_=t_ then !(X==X)else X==X))with|.bl t_=>_|.bl u_=>_|_=>False);rw[if_neg^by cbv,beq_self_eq_true];refine#[a,_,_,rfl,k.1,by cbv,a,t,b,N,M,rfl,k.1,_,rfl,D_ k.2.2.1,N,t,b,rfl,k.2.1,e.1,e.2.1,e.2.2.1,e.2.2.2,λd i j=>?_];rw[show sub N^Ct N t b [] d=M from IsT.uniq #[d,i,j,rfl] g];exists _,rfl,D_ k.2.2.1;generalize C_^enc M=Y;show f (.bl (if u_=t_ then !(Y==Y)else Y==Y)) n;rw[if_neg^by cbv,beq_self_eq_true];exact p)
theorem Kp:A.Y "_law_fault" 1 ["_law_caught"] .sh KY:=by
 let#[C_NoLine,U_NoLine,j,l]:=A.T.x_NoLine;let#[C_NoPaper,U_NoPaper,a,b]:=A.T.x_NoPaper;let#[C_NoPlace,U_NoPlace,c,d]:=A.T.x_NoPlace;let#[C_NoRow,U_NoRow,m,o]:=A.T.x_NoRow;let#[C_NoTie,U_NoTie,q,s]:=A.T.x_NoTie;let#[C_TooMany,U_TooMany,f,g]:=A.T.x_TooMany;let#[C_Twice,U_Twice,t,u]:=A.T.x_Twice;exact A.gk A.h17 ["_law_caught","_law_others"] (λT x v=>(AB (Ai (b7 (i:=0)) (AD^AN AO) AT)
 (AB (C7 1 x (YQ (i:=0) (FH (by cbv) a rfl b (FH (by cbv) c rfl d (FH (by cbv) m rfl o (FH (by cbv) q rfl s (FH (by cbv) f rfl g (FH (by cbv) t rfl u cN)))))) (by cbv) rfl T.Gab))
 (AB (Ai (DTW.dt^CD (By^dv 1)^CD (Bq^By (cG (i:=0) (by cbv) j rfl l rfl T.Gab))^Bx^Bq^By (YS (i:=0) rfl T.Gam rfl T.Gab)) (AD^AN AO) AT)
 (AD^AN (Ac (BZ v) DM rfl T.Gah nG (AR (Ad^AA (Zo (i:=0)^by cbv)^AA (Zo (i:=0)^by cbv) AL) AU))))))) (@λz n B h=>by
 rcases h with⟨rfl,p⟩|⟨e,r,k,rfl,v,y,p⟩
 .exact p
 .exact#[_,fL _ _,_,fK _ _,z2,_,rfl,XN v y,p])
theorem JO:A.Y "_law_faults" 8 ["_law_lines_here","_law_times_here"] .fr^HJ C:=by
 let#[C_ThinError,c,f,l]:=A.T.x_ThinError;exact A.gk A.h18 ["_law_lines_here","_law_times_here","_law_found","_law_way","_law_caught","e"] (λT I O=>(AB (Zm 2 I^BV AL)
 (AB (De kg rfl (FG rfl T.Gaj (AR AC AU)) (FN 3 I) (AB (C7 4 I Bz)
 (AB (b_ rfl rfl (λ_ _ h=>h) (Jl^b8 (B3 Bb Co (dv 3) AC) (Jl^OM (OP (HV A) (O.mono^by cbv) rfl (AQ (Br^C6 0)^Bl 1 AF)))^Jl^OM (OP (HX A) (O.mono^by cbv) rfl (AQ (Br^C6 0) AF)))
 (YJ (i:=5) I rfl rfl rfl f l (kF #[rfl,c]) rfl rfl (λa=>(AD (WG (i:=5) (j:=4) I rfl (kF rfl))))
 cE))
 (AD^GO 2 Wx c8 c7 Bt Hr (pv 2)^AA (cg O (Kp A)^AQ (cH 4) AF) AL))))
 (AD^IR 2^pv 2)))) (@λss n Pd h=>by
 let#[t,b,o,rfl,tm,Q,W,p]:=h;have a0:=PySem.sizeLine_eq;have J:=Ef o 0 [] [] Q bp;obtain⟨s,N⟩:∃s,S9^A6 0 [] [] o=s:=#[_,rfl];rw[N]at p;exists z0,2,rfl,#[by cbv,by cbv];refine G0 (all:=Gs 0 (2:Int).toNat) (λF m G=>∃R D E:Slot,Keeps n m/\G=[.br^.lst^o.map .str,.sh^tD t b,.ow^.lst^jk F.length^.str^s,R,D,E]) ?_ ?_ _ [] _ _ rfl #[_,_,_,#[rfl,λ_ _=>rfl],rfl]
 .rintro m G ⟨R,D,E,H,rfl⟩
  rw[Ce];exact#[_,rfl,p m H]
 .rintro F d X m G nx L ⟨R,D,E,H,rfl⟩ u
  let#[rfl,S]:=XR L;rw[eq,kN]at u;generalize F.length=i at S u ⊢;have S:i<2:=S
  have Z:∀{v:Sg},Keeps m v->Keeps n v:=λ{v} g=>#[g.1.trans H.1,λy hy=>by
   have h1:=H.2 y hy;exact(g.2 y^by rw[h1];exact hy).trans h1]
  have B:∀(U:E2) (v:Sg) (D E:Slot),(∀m G,nx m G->U.nx m G)->Keeps n v->((D=.sh .non/\s="ok")\/∃e r k,D=.ex e "NoLine" ["row","word"] [.int ((r:Nat):Int),.int ((k:Nat):Int)]/\A6 0 [] [] o=.inl (r,k))->(Ww 2 "list" Kw^AM (Ae KY^AH (T_ 4) AW) Ag) U v [.br^.lst^o.map .str,.sh^tD t b,.ow^.lst^jk i^.str^s,.sh^.int (0+(i:Int)),D,E]:=by
   rintro U v D E h3 M (⟨rfl,e⟩|⟨e,r,k,rfl,er⟩)
   .refine#[_,rfl,rfl,.inl #[rfl,?_]]
    refine#[_,_,rfl,rfl,by rw[oC];lk,?_];refine h3 _ _^u v _ #[.sh^.int (0+(i:Int)),.sh .non,E,M,?_];rw[List.replicate_succ',←e];rfl
   .rw[er]at J
    refine#[_,rfl,rfl,.inr #[e,r,k,rfl,by lk,J.2,?_]];refine#[_,_,rfl,rfl,by rw[oC];lk,?_];refine h3 _ _^u v _ #[.sh^.int (0+(i:Int)),.ex e "NoLine" ["row","word"] [.int ((r:Nat):Int),.int ((k:Nat):Int)],E,M,?_];rw[List.replicate_succ',←N,er];rfl
  show if((0+(i:Int))==0)=t_ then _ else _
  refine Eo (λ_=>?_) λ_=>?_
  .exists t,b,o,rfl,tm,Q,W
   cases e:A6 0 [] [] o with
   |inl q=>
    intro V g;show if(("NoLine":Str)="ThinError"\/("ThinError":Str)="ThinError")then _ else _
    rw[if_pos (.inr rfl)];intro x;exact B _ V _ _ (by exact λ_ _ z=>z) (Z g)^.inr #[x,q.1,q.2,rfl,e]
   |inr q=>exact λa T V hT ha wa g=>B _ V _ _ (by exact λ_ _ z=>z) (Z g)^.inl #[rfl,by rw[←N,e];rfl]
  .exists o,rfl,Q,W
   cases e:A6 0 [] [] o with
   |inl q=>
    show if(("NoLine":Str)="ThinError"\/("ThinError":Str)="ThinError")then _ else _
    rw[if_pos (.inr rfl)];intro x;exact B _ m _ _ (by exact λ_ _ z=>z) H^.inr #[x,q.1,q.2,rfl,e]
   |inr q=>exact B _ m _ _ (by exact λ_ _ z=>z) H^.inl #[rfl,by rw[←N,e];rfl])
theorem Kq:A.Y "_law_begun" 9 ["_law_feed_here","_law_keeper","_law_pool","_law_sort"] .sh^Oq C:=A.gk A.h19 ["_law_feed_here","_law_keeper","_law_pool","_law_sort","_law_state","_law_k","_law_deed_here"] (λT f j=>(AB (C7 4 f^WR (IW^BV AL)^IW WQ)
 (AB (De kg rfl (FG rfl T.Gaj (AR (cg j (BL A)^AQ (Bh 0)^Bv AC AF) AU)) (FN 5 f) (AB (C7 6 f (D1 (GA A) (j.mono^by cbv) rfl (AQ (Bh 0)^Bl 4^Bl 2^Bl 3 AF)))
 (AB (B4^cg j (F9 A)^Bl 1^Bl 6 AF)
 (AD^B4^cg j (JP A)^Bl 4^Bl 6 AF))))
 (AD^AN^dv 4)))) (@λss n Pd h=>by
 let#[a,t,b,c,k,rfl,f,J,L,y,O,Q,o,hn,p]:=h;refine#[z0,rfl,λl R=>#[rfl,λu H=>?_]];have q:a≠l:=C1 o.1 R;have z:a≠u:=C1 ((Ab q).trans o.1) H;have B:l≠u:=C1 (BG ..) H;generalize e:(n.put l^.pl^.lst []).put u^.pl^.dit [] []=n1;have S:n1.n=n.n:=by rw[←e];rfl
 have U:n1.w a=P3^kc C t b #[[],[]] #[[],[]]:=by rw[←e];exact(Ab z).trans^(Ab q).trans o.1
 have V:n1.w l=P3^.pl^Hx []:=by rw[←e];exact(Ab B).trans (BG ..)
 have W:n1.w u=P3^.pl^Fx []:=by rw[←e];exact BG ..
 have X:∀{t b:Int},IsT #[[],[]] t b #[[],[]]:=#[[],.refl _,.nil,rfl];refine#[11,rfl,by cbv,by cbv,(by lk),λr r0 Z=>?_];exists _,rfl,#[by lk,by lk];refine G1 (λs m D=>n.n+5*s<=m.n+1+5*r.toNat/\∃N M g i E v,Ho70 C t b c (s+8) m a l u N M g i/\D=[.fd,.sh^.ob a,.sh^.tup^c.map .str,.sh^.int k,.sh^EV (.ob l)^.ob u,E,v]) ?_ ?_ _ _ _ #[?_,#[[],[]],#[[],[]],[],[],_,_,#[#[U,Pp,Pp,o.2.2.2],X,V,W,q,z,B,#[.refl _,.refl _,Pp],(λx hx=>by cases hx),?_,?_],rfl]
 .rintro m D ⟨hm,N,M,g,i,E,v,I,rfl⟩
  have l1:=I.l1;have l2:=I.l2;exact p l u N M g i m (by lk) I.kp I.tn I.wl I.wt q z B I.st I.inp (by lk)^by lk
 .rintro s d m D nx ⟨hm,N,M,g,i,E,v,I,rfl⟩ h
  have I':Ho70 C t b c ((s+8)+1) m a l u N M g i:=I.to (by lk) λ_ _=>rfl;exact W9 f J L y O Q I' (by lk) λn' N' M' F G v a0 I2=>h _ _ #[by lk,N',M',F,G,_,_,I2,rfl]
 .rw[Ce];show n.n+5*r.toNat<=n1.n - 1+1+5*r.toNat;lk
 .rw[Ce];show 0+(r.toNat+8)<=18;lk
 .rw[Ce];show 0+(r.toNat+8)<=18;lk)
theorem Hz:A.Z "lines" 3 ["self"] .fr^KW C:=A.gm A.h1n ["self"] (λ_ _ d=>(AD^AN^cg d (VT A)^Bv (BX A.zq A.zj^dv 0) AF)) (@λe n f h=>by
 let#[a,t,b,N,M,rfl,k,c,p]:=h;exact#[a,_,_,_,rfl,k.1,rfl,N,rfl,k.2.1.1,c,k.2.1.2.2,p])
end
section
variable {P:Program}{w:World}{K:Frag}{mg:Str->w_ Value}{base:Heap}
theorem MB:A8 ["_law_script"] ["_law_script"]^AK Ee:=by constructor <;>first|rfl|decide +kernel
def MU(T:Txt K mg)(F:Fun K "_law_feed" "_law_feed" Ee f fd):zL P w K mg base EW 1 f fd ["_law_script"]^L9 K:=by
 refine F.ok MB (λi H Q E h=>?_) λj A d s H i Q E n h=>?_
 .let#[a,k,rfl,_]:=h
  rfl
 .let#[a,k,rfl,#[l,m],q]:=h
  exists _,CY^Fd^Ph^Ax (Gv GV rfl T.Gan boot_list (Ax (Nj sl_list (pv 0) Qv^Qu An) B6))^Ax An^Ax An B6;refine#[_,rfl,63,rfl,a,_,rfl,m,λp o=>#[p,_,rfl,.inl^SqL.of AI,λc r=>#[by show 3<=sizeLine;decide,λg e=>?_]]];rw[f6 l]at e ⊢;have b:c≠g:=λz=>by rw[←z,AI]at e;cases e
  exact q c g _ b (by rw[AG b,AI]) AI
theorem sG:A8 ["_law_script","_law_feed_here","_law_times_here","_law_more","_law_pool","_law_sort","_law_keeper","_law_state","_law_net","_law_lines_here","_law_handed","_law_others","_law_k","_law_deed_here","_law_at","_law_odd","_law_bent","_law_found"] ["_law_script"]^AK I_:=by walk_at "s"
def bU(A:Ctx P w K mg base h C_Keeper)(p:zL P w K mg base EW 1 j c ["_law_script"]^L9 K)(q:mg "_law_feed"=P3^.ref j)(r:keepIn K^.ref j=t_)(t:Binds K c ["_law_script"] [])(F:Fun K "law" "law" I_ f fd):zL P w K mg base EW 10 f fd ["_law_script"]^NY K:=by
 have u:=DC A;have l:=Hz A;have v:=Kq A;have x:=GA A;have y:=JP A;have z:=JO A;have d:=Po A;have m:=Ko A;have e:=JM A;have g:=BL A;have B:=JL A;have n:=Kj A;have o:=F9 A;have GC_taken_up:=V1 O_^HV A;have T:=A.T
 exact fY (n0:=3000) F sG rfl (by cbv) (λk C b s H E a=>EA (i:=1) sG.nd rfl (kF rfl) (II p (a.mono^by cbv) rfl q r t .nil HU (Ax (pv 0) B6)))
  (λk C b s H E a=>(AB (C7 2 sG.nd^cg a n^AQ (Bh 1) AF)
 (AB (C7 3 sG.nd^cg a n^AQ (Bh 1) AF)
 (AB (C7 4 sG.nd^cg a B^AQ (Bh 1)^Bv AC AF)
 (AB (C7 5 sG.nd^cg a g^AQ (Bh 1)^Bv AC AF)
 (AB (C7 6 sG.nd (RU u (a.mono^by cbv) rfl (Bl 2 AF)))
 (AB (C7 7 sG.nd^cg a v^AQ (Bh 1)^Bl 6^Bl 4^Bl 5 AF)
 (AB (C7 8 sG.nd (D1 e (a.mono^by cbv) rfl (Bl 7 AF)))
 (AB (C7 9 sG.nd^GS A.zq l (a.mono^by cbv)^dv 6)
 (AB (Ai (B3 Q6 Yg (Ac (BZ a) DM rfl T.Gah nG (AR (dv 9) AU)) (Ac (BZ a) DM rfl T.Gah nG (AR (cg a m^Bl 8 AF) AU))) (AD^AN ER) AT)
 (AB (Zm 10 sG.nd (B8 GV Yi rfl T.Gan boot_list (AR (dv 9) AU)))
 (AB (C7 11 sG.nd^BV^AA (Jy GC_taken_up (a.mono^by cbv) rfl (AQ (Br^C6 10)^Bl 2 AF))^AA (Jy GC_taken_up (a.mono^by cbv) rfl (AQ (Br^C6 10)^Bl 3 AF)) AL)
 (AB (Ai (DTW.dt^CD (B3 (VP a) Zt (C6 10)^dv 9)^CD (Bq^By^cg a d^Bv (BA (dv 11) AC)^Bl 8^Bl 2 AF)^Bx^Bq^By^cg a d^Bv (BA (dv 11) AC)^Bl 8^Bl 3 AF) (AD^AN ER) AT)
 (AB (cA 10 Wx PySem.F.slot_list_clear PySem.F.type_list_clear Ve cW^pv 10)
 (AB (De kg rfl (FG rfl T.Gaj (AR (cg a g^AQ (Bh 1)^Bv AC AF) AU)) (FN 12 sG.nd) (AB (C7 13 sG.nd (D1 x (a.mono^by cbv) rfl (AQ (Bh 1)^Bl 7^Bl 4^Bl 5 AF)))
 (AB (Ai (B3 Q6 Yg (Li (BZ a) DM rfl T.Gah nG (AR (cg a o^Bv (BA (dv 11) AC)^Bl 13 AF) AU)) (Li (BZ a) DM rfl T.Gah nG (AR (cg a o^Bl 6^Bl 13 AF) AU))) (AD^AN ER) AT)
 (AD^B4^cg a y^Bl 7^Bl 13 AF))))
 (AB (Ai (DTW.dt^CD (Bq^By^cg a d^Bv (BA (dv 11) AC)^Bv (D1 e (a.mono^by cbv) rfl (Bl 7 AF))^Bl 2 AF)^Bx^Bq^By^cg a d^Bl 6^Bv (D1 e (a.mono^by cbv) rfl (Bl 7 AF))^Bl 2 AF) (AD^AN ER) AT)
 (AB (Ai (Bq^By^cg a d^Bv (BA (dv 11) AC)^Bl 8^Bl 3 AF) (AD^AN ER) AT)
 (AB (C7 14 sG.nd^cg a g^AQ (Bh 1)^Bv (Ar Ap BB (Ky T.Gaa^dv 9) AC) AF)
 (AB (C7 15 sG.nd^BA (BV^AA AO^AA AO^AA AO^AA AO^AA AO^AA AO^AA AO AL)^cg a g^AQ (Bh 1)^Bv AC AF)
 (AB (De kg rfl (Js^BV^AA (Ar Ap BB (Ar Ap BB (GR MA GX (dv 9) C4^C3^dv 14)^BV^AA (dv 15) AL)^GR MA GX (dv 9) (C3^dv 14) C4)^AA (Ar Ap BB (GR MA GX (dv 9) C4^C3^dv 14)^GR MA GX (dv 9) (C3^Ar Ap BB (dv 14) AC) C4)^AA (Ar Xn cS (GR MA GX (dv 9) C4^C3^dv 14) AC) AL) (FN 16 sG.nd) (AB (C7 17 sG.nd^cg a z^AQ (Br^dv 16)^Bl 2 AF)
 (AD^Ai (DTW.dt^CD (B3 (Pj a) FU AO^dv 17)^Bx^B3 Q6 Yg (BA (dv 17) AC)^BA (dv 17) AC) (AD^AN ER) AT)))
 (AD^AN^HC Bb Co (Ac (BZ a) DM rfl T.Gah nG (AR (GS A.zq l (a.mono^by cbv)^dv 6) AU)) (Ac (BZ a) DM rfl T.Gah nG (AR (cg a m^Bv (D1 e (a.mono^by cbv) rfl (Bl 7 AF)) AF) AU))^Cp _))))))))))))))))))))) (PR^by cbv)
end
local macro_rules|`(tactic|walk_at "B")=>`(tactic|(intro _ _ _ _ _ _;exact ik λ_=>rfl))
def all_mk{l:PySem.W.OpenLaw}{K:Frag}(e:d "law"=P3^.ref i)(A:C0 K d h C_Keeper):∃fd:kX,(∀(s:Go) (v:Db),qk s fd #[[v],[]] [("_law_script",v)])/\∀b:jq,K.In b->b.Ns mainGlobals d->zL l.prog w K d b EW 10 i fd ["_law_script"]^NY K:=by
 let#[y,j,m,g]:=A.h0q.fn A.X A.G;have n:=g.binds (ps:=["_law_script"]) (by walk_at "B");let#[f,z,B,o,C,p,q,r,t,u,a,x,c,k]:=A.h1a;cases e.symm.trans^mg_of A.X A.G a;exact#[fnOf "law" "law" (BH I_) (Aj I_) (AK I_) .none p q r o t u,λs v=>.of_eq rfl,λb _ _=>bU A (MU A.T g) m g.kp n^Jg (st:=I_) x c k]
def walk{l:PySem.W.OpenLaw}{K:Params->Frag}(o:l.most=P3 63)(g:d.params.defaults=[])
  (p:∀(w:j4) (h:jq),i w h->(K w.params).In h)
  (F:∀(w:j4) (e:Str->w_ Db) (j:Ch) (h:jq),(K w.params).In h->h.Ns mainGlobals e->e d.name=P3^.ref j->
   ∃fd:kX,(∀(s:Go) (u:Db),qk s fd #[[u],[]] [("_law_script",u)])/\∀b:jq,(K w.params).In b->b.Ns mainGlobals e->zL l.prog w (K w.params) e b EW 10 j fd ["_law_script"]^NY^K w.params):
  PySem.W.WalkO q c m i l.row.toRowW d [] (λf r=>PySem.call f r):=
 L2.QU (n:=63) (k:=10) (x:="_law_script") (CX:=λ_=>EW) (sp:=λw=>NY^K w.params) o (by cbv) g #[rfl,by cbv,by cbv,rfl] p F (λ_ _ a t v _ y=>#[a,t,rfl,#[v,y],λ_=>rfl]) λ_ _ _ _ _ z=>z
end K75
end _p
namespace PySem.W.Fast
def tw18181163590446818153:True:=⟨⟩
def tw10398274519624502822:True:=⟨⟩
def tw11416616295349938128:True:=⟨⟩
def tw152169926310943279:True:=⟨⟩
def tw11095327905408915166:True:=⟨⟩
def tw10300978392058749289:True:=⟨⟩
def tw11391892740680897612:True:=⟨⟩
def tw17516131750607241052:True:=⟨⟩
def tw7088714704017253295:True:=⟨⟩
def tw10427480937170849472:True:=⟨⟩
def tw5224871141395209462:True:=⟨⟩
def tw13706196115065623813:True:=⟨⟩
def tw15053857302316042916:True:=⟨⟩
def tw14590388961933280106:True:=⟨⟩
def tw2884483359511229509:True:=⟨⟩
def tw7898391953105242798:True:=⟨⟩
def tw15858313088116712483:True:=⟨⟩
def tw15010135874912950753:True:=⟨⟩
def tw3307289660644475028:True:=⟨⟩
def tw15427321071021518400:True:=⟨⟩
def tw14255077057711599291:True:=⟨⟩
def tw1589412024049749540:True:=⟨⟩
def tw2376344613904660676:True:=⟨⟩
def tw17252519462203068252:True:=⟨⟩
def tw6364148079991377720:True:=⟨⟩
def tw17916168590213828675:True:=⟨⟩
def tw15067013903071653409:True:=⟨⟩
def tw1548452099294205041:True:=⟨⟩
def tw13191513722361526499:True:=⟨⟩
def tw8624087557970110113:True:=⟨⟩
def tw12546415738221904022:True:=⟨⟩
def tw11477044394237103471:True:=⟨⟩
def tw14473640577685817702:True:=⟨⟩
def tw7315004560848667232:True:=⟨⟩
def tw1783841187960460462:True:=⟨⟩
def tw13296945462368322011:True:=⟨⟩
def tw18137290737051572985:True:=⟨⟩
def tw14663140733067878651:True:=⟨⟩
def tw574217424820695840:True:=⟨⟩
def tw8493646443466748864:True:=⟨⟩
def tw10618541858123283249:True:=⟨⟩
def tw10270083552152380253:True:=⟨⟩
def tw5237830919648359907:True:=⟨⟩
def tw4443233053537977885:True:=⟨⟩
def tw6364742225861818983:True:=⟨⟩
def tw11019012573831032921:True:=⟨⟩
def tw13114433818863125241:True:=⟨⟩
def tw17643020463964189924:True:=⟨⟩
def tw16313127005625260865:True:=⟨⟩
def tw10503253415852773564:True:=⟨⟩
def tw10275493419609178690:True:=⟨⟩
def tw15174253137082272767:True:=⟨⟩
def tw1121814828286053532:True:=⟨⟩
def tw16904946952748247106:True:=⟨⟩
def tw1147912649048655348:True:=⟨⟩
def tw13094475133442150482:True:=⟨⟩
def tw7553709044263421309:True:=⟨⟩
def tw2110738994683602926:True:=⟨⟩
def tw16273460494222733589:True:=⟨⟩
def tw15722992907161473380:True:=⟨⟩
def tw4227645682290006184:True:=⟨⟩
def tw16550167977596878077:True:=⟨⟩
def tw11033210078336955181:True:=⟨⟩
def tw11855775760375584436:True:=⟨⟩
def tw9442344533132193799:True:=⟨⟩
def tw8556889831461007769:True:=⟨⟩
def tw2905277271124477873:True:=⟨⟩
def tw12326879173874490795:True:=⟨⟩
def tw3755609069412875800:True:=⟨⟩
def tw15369538939872675645:True:=⟨⟩
def tw15153404549132498002:True:=⟨⟩
def tw6811484716602207436:True:=⟨⟩
def tw8953818992704060061:True:=⟨⟩
def tw12237912022448031693:True:=⟨⟩
def tw5296101130420837569:True:=⟨⟩
def tw2333394531322754208:True:=⟨⟩
def tw1113448683496214133:True:=⟨⟩
def tw10245879185121261938:True:=⟨⟩
def tw10043895237762132401:True:=⟨⟩
def tw6127329611281528159:True:=⟨⟩
def tw4771749525103855910:True:=⟨⟩
def tw2015924668663919876:True:=⟨⟩
def tw12050779928855364850:True:=⟨⟩
def tw8228988634049272588:True:=⟨⟩
def tw16530736349055190713:True:=⟨⟩
def tw5871270373807164703:True:=⟨⟩
def tw5252274733723646304:True:=⟨⟩
def tw3216284982475199695:True:=⟨⟩
def tw14823072333706653044:True:=⟨⟩
def tw4503953811650522241:True:=⟨⟩
def tw1129321304578163448:True:=⟨⟩
def tw10659155420634464835:True:=⟨⟩
def tw838388243637246405:True:=⟨⟩
def tw2853807554819731887:True:=⟨⟩
def tw4841314678959436905:True:=⟨⟩
def tw18097104904964365616:True:=⟨⟩
def tw2393042956957822777:True:=⟨⟩
def tw7846334293071132522:True:=⟨⟩
def tw5969679372280776842:True:=⟨⟩
def tw321080866429590009:True:=⟨⟩
def tw7048791613103749776:True:=⟨⟩
def tw8018075827539185974:True:=⟨⟩
def tw15753407041892850480:True:=⟨⟩
def tw1501033353373031592:True:=⟨⟩
def tw10990226815471711837:True:=⟨⟩
def tw4439125557488319438:True:=⟨⟩
def tw3252654108791540880:True:=⟨⟩
def tw7370989955949692768:True:=⟨⟩
def tw8796614513014347297:True:=⟨⟩
def tw4392762543885491275:True:=⟨⟩
def tw12524758521247012420:True:=⟨⟩
def tw15313279231513972127:True:=⟨⟩
def tw1009970727105703992:True:=⟨⟩
def tw7512736833593371326:True:=⟨⟩
def tw16166498406938762553:True:=⟨⟩
def tw13161870302771250209:True:=⟨⟩
def tw7608626530012661718:True:=⟨⟩
def tw14686230811318058912:True:=⟨⟩
def tw15087486733376806137:True:=⟨⟩
def tw8560472702651436368:True:=⟨⟩
def tw5060246710382133573:True:=⟨⟩
def tw7654219183501206966:True:=⟨⟩
def tw7674549688117215400:True:=⟨⟩
def tw16167920313193875102:True:=⟨⟩
def tw3635852285045983130:True:=⟨⟩
def tw16033644918167390383:True:=⟨⟩
def tw11012290591453180627:True:=⟨⟩
def tw7541653271483168592:True:=⟨⟩
def tw231195522142524292:True:=⟨⟩
def tw16711458651090251746:True:=⟨⟩
def tw6333342372522303823:True:=⟨⟩
def tw7930382131761531957:True:=⟨⟩
def tw13304293917035870881:True:=⟨⟩
def tw11791885582636601886:True:=⟨⟩
def tw1220474354279342041:True:=⟨⟩
def tw2235773302176715613:True:=⟨⟩
def tw10611619524314269199:True:=⟨⟩
def tw2949002428491025722:True:=⟨⟩
def tw14294143934882045966:True:=⟨⟩
def tw16916702098074161564:True:=⟨⟩
def tw10392154032264564718:True:=⟨⟩
def tw13252334278272612568:True:=⟨⟩
def tw9920133442339238923:True:=⟨⟩
def tw16439601959985054791:True:=⟨⟩
def tw15132097155821806072:True:=⟨⟩
def tw2717441117009882501:True:=⟨⟩
def tw16437356085987555397:True:=⟨⟩
def tw5825968125888055681:True:=⟨⟩
def tw373751627951674036:True:=⟨⟩
def tw5046252581203594182:True:=⟨⟩
def tw10583796112967788612:True:=⟨⟩
def tw9073964169657326661:True:=⟨⟩
def tw16967051743356567867:True:=⟨⟩
def tw18273414112882073974:True:=⟨⟩
def tw16876450579364247758:True:=⟨⟩
def tw1570974482424691343:True:=⟨⟩
def tw6417935205772353317:True:=⟨⟩
def tw14262319774442437074:True:=⟨⟩
def tw4315742181513493086:True:=⟨⟩
def tw2375395632937247371:True:=⟨⟩
def tw16438587156427839042:True:=⟨⟩
def tw9849386970557306521:True:=⟨⟩
def tw4668088112810737776:True:=⟨⟩
def tw13813675194497006552:True:=⟨⟩
def tw12651500341691407218:True:=⟨⟩
def tw9092315058795942518:True:=⟨⟩
def tw3983308625328923535:True:=⟨⟩
def tw4056384992064810802:True:=⟨⟩
def tw878435728926940421:True:=⟨⟩
def tw14538619317134754666:True:=⟨⟩
def tw13500396346635689252:True:=⟨⟩
def tw12202465116616045990:True:=⟨⟩
def tw5416673363295749592:True:=⟨⟩
def tw18375422407767169785:True:=⟨⟩
def tw15737921942482648574:True:=⟨⟩
def tw15991092014865235551:True:=⟨⟩
def tw7859371429597409748:True:=⟨⟩
def tw3892761385628591462:True:=⟨⟩
def tw10968327306944227963:True:=⟨⟩
def tw5816052008221633729:True:=⟨⟩
def tw3473384170530828797:True:=⟨⟩
def tw14396168206784747856:True:=⟨⟩
def tw7571793510882304059:True:=⟨⟩
def tw12818943664640085787:True:=⟨⟩
def tw11677385413738122401:True:=⟨⟩
def tw7840738117175360595:True:=⟨⟩
def tw3004262753190816822:True:=⟨⟩
def tw5537871597422196646:True:=⟨⟩
def tw4787830130249113680:True:=⟨⟩
def tw8727155909533107847:True:=⟨⟩
def tw11317115181118652618:True:=⟨⟩
def tw9987216746669095664:True:=⟨⟩
def tw13032700269149616286:True:=⟨⟩
def tw12999945847648359013:True:=⟨⟩
def tw9902535193277978889:True:=⟨⟩
def tw2393250304697456929:True:=⟨⟩
def tw17026541577606988796:True:=⟨⟩
def tw14133936287743165284:True:=⟨⟩
def tw648496633843429741:True:=⟨⟩
def tw3859356551636688751:True:=⟨⟩
def tw34756100150425626:True:=⟨⟩
def tw3591111337580709384:True:=⟨⟩
def tw7981260498346433190:True:=⟨⟩
def tw16511953212368151329:True:=⟨⟩
def tw9381839339889834801:True:=⟨⟩
def tw14418918993131613148:True:=⟨⟩
def tw10475379533600617825:True:=⟨⟩
def tw11993058455900279498:True:=⟨⟩
def tw7012443170209585851:True:=⟨⟩
def tw14531117331223695770:True:=⟨⟩
def tw8654195707641119422:True:=⟨⟩
def tw4195305839638116571:True:=⟨⟩
def tw3726331997276118479:True:=⟨⟩
def tw16333506566901793527:True:=⟨⟩
def tw10901653610566539402:True:=⟨⟩
def tw3305650037694968327:True:=⟨⟩
def tw13782927172871530399:True:=⟨⟩
def tw12072040654323695144:True:=⟨⟩
def tw1133857095992164652:True:=⟨⟩
def tw6648063272244649706:True:=⟨⟩
def tw15004657977205163138:True:=⟨⟩
def tw12217981694076328455:True:=⟨⟩
def tw12013673057251466131:True:=⟨⟩
def tw8052948237961696275:True:=⟨⟩
def tw9029946475837275521:True:=⟨⟩
def tw1212238077772577400:True:=⟨⟩
def tw3742396313778588882:True:=⟨⟩
def tw9186742223989149398:True:=⟨⟩
def tw15513767494121116034:True:=⟨⟩
def tw12159880799640144549:True:=⟨⟩
def tw35328953414982340:True:=⟨⟩
def tw8366584795016411792:True:=⟨⟩
def tw9228822330784050911:True:=⟨⟩
def tw65312234120944013:True:=⟨⟩
def tw17068606429595525952:True:=⟨⟩
def tw14779147204307938462:True:=⟨⟩
def tw15741235119379026046:True:=⟨⟩
def tw9325909468549701949:True:=⟨⟩
def tw8618172027178011439:True:=⟨⟩
def tw13648140189904977690:True:=⟨⟩
def tw18028574467533920954:True:=⟨⟩
def tw665061702827683722:True:=⟨⟩
def tw8962736931967634199:True:=⟨⟩
def tw3138965983513743065:True:=⟨⟩
def tw619588442875950632:True:=⟨⟩
def tw6125258734587547593:True:=⟨⟩
def tw5739424709909171506:True:=⟨⟩
def tw8216650013913334297:True:=⟨⟩
def tw1822226094138010156:True:=⟨⟩
def tw1482210667448996545:True:=⟨⟩
def tw10801812892987028010:True:=⟨⟩
def tw17439832132791409446:True:=⟨⟩
def tw9510476523786817453:True:=⟨⟩
def tw8266936207917866681:True:=⟨⟩
def tw900035740941132784:True:=⟨⟩
end PySem.W.Fast
open _p
open PySem.W
set_option maxRecDepth 100000 in
set_option maxHeartbeats 0 in
theorem PySem.Challenge.cw_thinnet_k75_laid_down_and_taken_up_holds : PySem.Challenge.rw_thinnet_k75_laid_down_and_taken_up.Holds := by
 w_on;o_law;k_head;(case hw=>w_witness2)
 k_fill
 refine K75.walk (l:=PySem.Challenge.rw_thinnet_k75_laid_down_and_taken_up) rfl rfl (λw h Y=>PySem.W.kIn_of Y) ?F
 case F =>
  intro w mg fa h KX G hmg
  refine' K75.all_mk (h:=h) hmg (K75.C0.mk KX G ?cK (L2.Cls.mk ?pg ?hd ?po ?sa) ?_ ?_ ?_ ?_ ?_ ?_ ?_ ?_ ?_ ?_ ?_ ?_ ?_ ?_ ?_ ?_ ?_ ?_ ?_ ?_ ?_ ?_ ?_ ?_ ?_ ?_ ?_ ?_ ?_ ?_ ?_ ?_ ?_ ?_ ?_ ?_ ?_ ?_ ?_ ?_ ?_ ?_ ?_ ?_ ?_ ?_ ?_ ?_ ?_ ?_ ?_ ?_ ?_ ?_ ?_ ?_ ?_ ?_ ?_ ?_ ?_ ?_ ?_ ?_ ?_ ?_ ?_ ?_ ?_ ?_ ?_ ?_ ?_ ?_ ?_ ?_ ?_ ?_ ?_ ?_ ?_ ?_ ?_ ?_ ?_ ?_ ?_ ?_ ?_ ?_ ?_ ?_ ?_ ?_)
  case cK=>k_is
  case pg=>k_is
  case hd=>k_is
  case po=>k_is
  case sa=>k_is
  all_goals first
   | (refine' K75.Ht.mk ?a ?l ?c ?k;(case a=>k_is);(case l=>k_is);(case c=>k_is);(case k=>k_is))
   | (refine' K75.Hm.mk ?a ?l ?c ?n ?k;(case a=>k_is);(case l=>k_is);(case c=>k_is);(case n=>k_is);(case k=>k_is))
   | (refine' K75.Hn.mk ?a;(case a=>k_is))
   | (refine' K75.H2.mk ?c ?i ?ty ?l ?cc ?k;(case c=>(refine' K75.xc_mk ?at_ ?atU ?o ?u ?kp ?ga ?gt ?sa ?ca ?nw ?nn ?nr;(case at_=>k_is);(case atU=>k_is);(case o=>k_is);(case u=>k_is);(case kp=>k_is);(case ga=>k_is);(case gt=>k_is);(case sa=>k_is);(case ca=>k_is);(case nw=>k_is);(case nn=>k_is);(case nr=>k_is)));(case i=>k_is);(case ty=>k_is);(case l=>k_is);(case cc=>k_is);(case k=>k_is))
   | (refine' K75.H1.mk ?c;(case c=>(refine' K75.xc_mk ?at_ ?atU ?o ?u ?kp ?ga ?gt ?sa ?ca ?nw ?nn ?nr;(case at_=>k_is);(case atU=>k_is);(case o=>k_is);(case u=>k_is);(case kp=>k_is);(case ga=>k_is);(case gt=>k_is);(case sa=>k_is);(case ca=>k_is);(case nw=>k_is);(case nn=>k_is);(case nr=>k_is))))
   | (refine' K75.Hi.mk ?a;(case a=>k_is))
   | (refine' K75.Ha.mk ?a ?b;(case a=>k_is);(case b=>k_is))
   | (unfold L2.vz;k_is)
   | k_is
#print axioms PySem.Challenge.cw_thinnet_k75_laid_down_and_taken_up_holds

import PyProof.Rows.All
import Wide.All
import OpenK.AllK
import Wide.FinOn
import Lean
import PyProof.EqAt
import PyProof.EqKinds
import PyProof.TupleCall
import PyProof.StationsW
import PyProof.PassesOwn
import PyProof.RulesAs
import PyProof.ExcClass3
import PyProof.Rows.CatchOwn
import OpenK.KMake
import OpenK.KWalk
import PyProof.InstStoreFacts
import PyProof.ExcBaseAll.ValueError
import PyProof.RangeIter
import OpenK.KRaise
import PyProof.NsDelKeeps
import KE.KIsAll
import PyProof.P3In
import PyProof.NeData
import PyProof.ExcArgs
import KE.KSortTup
import PyProof.CompUse
import KE.KRevIter
import PyProof.TupleOfGen
import PyProof.CollectIter
import PyProof.ListMulRoad
import PyProof.Draws
import PyProof.EnumMake
import PyProof.ListNew
import PyProof.AttrMissHeap
import PyProof.FactsAll.dict
import KE.KEqDict
import PyProof.FactsAll.zip
import PyProof.StrBlockH
import PyProof.MeetsStr2
import KE.KIntText
import PyProof.Rows.FStr
import PyProof.ReprLen
import PyProof.SumAny
import PyProof.Rows.SeqCalls
import KE.KDictSum
import PyProof.ConsumeS
import PyProof.WalkInts
import PyProof.RulesTry
import PySem.Challenge.RW_thinnet_k60_least_by_all_choices
open PySem.W (Frag nsIn keepIn fnOf codeIn mg_of mg_none_of)
set_option Elab.async false
set_option linter.all false
set_option maxRecDepth 100000
open Array renaming length_toList->iH,getElem?_eq_getElem->iY,getElem?_eq_some_iff->kC,getElem?_eq_none->k9,getElem?_toList->lQ,getElem_mem->md
open Array.Perm renaming refl->nG
open Bool renaming false_ne_true->f6,and_eq_true->gj,false_eq_true->gm,eq_false_iff->io,eq_iff_iff->i8,true_and->lE
open Classical renaming byContradiction->mj
open False renaming elim->iP
open ForInStep renaming yield->i_
open Int renaming toNat_natCast->gz,zero_add->iM,le_refl->iV,mul_le_mul_of_nonneg_right->l7,mul_le_mul_of_nonneg_left->l8,emod_lt_of_pos->mQ,emod_nonneg->nI,add_assoc->oB
open List renaming getElem?_eq_getElem->FM,length_map->Go,mem_cons_of_mem->Rs,mem_cons_self->Sc,mem_singleton->TM,getElem?_map->T0,replicate->UF,mem_map->Uf,getElem?_eq_some_iff->ZB,length_cons->eq,mem_cons->fi,size_toArray->fk,getD_eq_getElem?_getD->fq,length_append->fw,mem_append_right->fz,map_cons->f9,mem_append->gA,length_singleton->gC,nodup_cons->gE,range->gF,not_mem_nil->gI,toArray->gJ,nil_append->gL,map_append->gR,nodup_nil->gW,map_map->gh,append_nil->gk,zipWith->gn,pairwise_cons->gq,mem_append_left->gu,append_assoc->gv,map_congr_left->h_,getElem_mem->iA,nodup_append->iC,mem_of_getElem?->iD,Nodup->iE,mem_filter->iG,length_nil->iL,getElem?_append_right->iT,mem_range->iU,lt_irrefl->ii,length_range->ip,length_set->iq,length_zip->ir,mem_flatMap->iu,mem_iff_getElem?->iy,getElem?_eq_none->iz,drop_eq_getElem_cons->i5,mem_iff_getElem->jB,length_take->jK,of_mem_zip->jP,forIn_cons->jQ,singleton_append->jS,length_filter_le->jT,getElem?_append_left->jX,pairwise_iff_getElem->ja,pairwise_append->jb,getElem?_zip_eq_some->jd,lookup_cons->ji,all_eq_true->jj,any_eq_true->jk,cons_ne_nil->jl,length_eq_zero_iff->jn,length_zipWith->kG,filter_sublist->kH,getLast?_eq_some_iff->kJ,idxOf_lt_length_iff->kT,getElem?_replicate->kZ,take_sublist->kg,reverse_cons->kh,getElem?_set->kj,ext_getElem?->ko,pairwise_map->kr,filter_congr->ku,length->kz,take_of_length_le->k_,map_id->lA,take_length->lI,getElem?_zipWith->lP,getElem?_set_ne->lT,mem_of_mem_take->lg,map_nil->lm,filter_map->lr,length_reverse->l_,forIn_nil->mE,mem_filterMap->mI,zip_cons_cons->mL,forIn_toArray->mN,find?_eq_none->mP,getElem_idxOf->mR,perm_ext_iff_of_nodup->mX,any_eq_false->mY,cons_eq_cons->me,mem_of_find?_eq_some->mn,getElem?_take_of_lt->mq,drop_length->my,map_fst_zip->m_,getElem?_cons_succ->nA,pairwise_singleton->nB,zip_append->nH,getElem?_set_self->nL,range_succ_eq_map->nP,zipWith_cons_cons->nS,length_replicate->nU,take_append_drop->nX,getElem?_toArray->ng,zipWith_nil_left->ni,take_succ->nj,any_cons->n9,all_cons->n_,lt_trans->oA
open List.Pairwise renaming nil->ki
open List.Perm renaming append_left->i4,trans->jw,refl->nc
open List.Sublist renaming refl->oK
open Nat renaming le_refl->Re,zero_le->fo,lt_of_lt_of_le->f8,ne_of_lt->f_,le_trans->gO,lt_irrefl->gY,le_succ->iO,lt_succ_of_lt->ik,ne_of_gt->i7,succ_le_succ->jg,le_of_lt->j7,lt_of_le_of_lt->kO,sub_self->kQ,not_lt->kX,min_le_right->lF,le_add_right->lK,le_of_eq->lX,lt_trans->mw,lt_succ_self->mx,mod_lt->n8
open Nat.succ renaming inj->li
open Ne renaming symm->gP
open Option renaming map_eq_some_iff->f7,isSome_map->mZ,isNone->oC
open Option.some renaming inj->ft
open Or renaming inl->XV,inr->gx
open PyProof.Rows renaming callWith_type1->hU,slot_tuple_getitem->iB,listUpdate_at->jV,get?_update_seq->ju,boot_tuple->jv,AllBare->jz,listItems_at->lc,seqEpoch_at->mH,boot_repr->mS,lt_int->nO,boot_sorted->nR
open PyProof.Rows.KeyOrd renaming kle_refl->ic,kle_of_klt->kn,kle_trans->lJ,kle_antisymm->oG
open PySem renaming wpAny_bind->Ch,Addr->Db,Value->Ev,Shared->On,wpAny_pure->Op,Heap->fu,Expr->gB,Program->gD,Stmt->gG,World->gK,wpAny_holding->gQ,Around->gS,wpAny_mono->gU,FuncData->gZ,sizeLine_eq->gc,wpAny_field->gf,wpAny_callSpecial?_slot->gw,codeAny_builtin->gy,wpAny_seqItems->hX,IsPair->hZ,wpAny_newObj_type->iI,plainId_quiet->iJ,wpAny_Call_Name_kw->iK,wpAny_call_entry->iN,Builtin->iS,wpAny_loadPart_at->iW,wpAny_isSubtype_exc->iX,wpAny_pyIter_tuple->ie,wpAny_pyIter_list->im,wpAny_setField_rec->iw,wpAny_typeOf->i9,wpAny_truthy_bool->jC,wpAny_attempt->jF,wpAny_typeNameOfWhole_keyiter->jH,Scope->jI,NameKind->jJ,wpAny_passesOwn->jO,wpAny_loadPart'->jR,IsZip->jZ,wpAny_setField->jf,wpAny_getItem_str_slice->jm,wpAny_execs_nil->jp,wpAny_call->jq,tupleKind_room_in1->jr,PyData->jt,wpAny_letGo->jx,Keyword->j8,wpAny_tryCatch->j_,codeAny_call_builtin->kA,ExceptHandler->kE,typeIs_str->kW,wpAny_rule->kY,wpAny_of_eq->k7,wpAny_standAt->lB,wpAny_onRaise->lD,wpAny_isInstance->lH,DictEntry->lM,wpAny_notOrdered_dict->lR,codeAny_mono->lU,IsPart->lV,call_meets->lW,post_val_or_str->lY,wpAny_updateSeq_pair->lZ,wpAny_updateSeq->lf,BindsTo->mB,wpAny_newTuple->mF,wpAny_newList->mW,wpAny_dictEntries->mh,wpAny_execs_cons->mo,noFill_tuple_add->mr,wpAny_pyIter_zip->mz,wpAny_specialOf->nC,codeAny_of_tree->nF,wpAny_dictEpoch->nJ
open PySem.Around renaming under_plainId->g_
open PySem.Builtin.Builtins renaming bindParams->mO
open PySem.Builtin.Dict renaming updateFrom->jo,pairItems->jy,addKeywords->m8,selfAndRest->m9,showsAll->nh
open PySem.Builtin.Dict_items renaming ownsTuple->mG
open PySem.Builtin.List renaming listExtendWith->jN,listTooLong->jh,listSameRef->m7
open PySem.Builtin.Slice renaming slicePlaces->kI,sliceAdjust->mi
open PySem.Builtin.SmallTypes renaming ownedTupleIsFree->gX,nextOf->gs,ownedTupleHandOut->kP
open PySem.Builtin.Tuple renaming tupleExact->kM,tupleItemsOf->mU,tupleIsExact->mV
open PySem.Calls renaming spliced_cons->kL,spliced_nil->ke,callWith_builtin->k6,Name_function_global->mT,evalArgs_plain->n6
open PySem.Code renaming quiet_builtin->mJ
open PySem.EntryCells renaming newEntry->oE
open PySem.Expr renaming Call->kR
open PySem.F renaming slot_dict_keyiterator_next->ij,slot_zip_next->jA,slot_tuple_iterator_next->jU,args_zip_next_1->km,entry_zip_next->lG,args_dict_keyiterator_next_1->lv,entry_dict_keyiterator_next->l9,args_tuple_iterator_next_1->mC,entry_tuple_iterator_next->mM,called_tuple->nW
open PySem.Heap renaming get?_push_of_some->No,get?_push_size->TW,lt_size->Tk,get?_update_other->fv,size_push->iF,get?_update_self->iQ,SameBut->i6,ExtBut->nQ,IsTuple->oJ
open PySem.Heap.SameBut renaming update->kF
open PySem.Heap.UpToSlots renaming refl->oF
open PySem.NameKind renaming free->g9,cell->lC
open PySem.Obj renaming mapSeq->hV,mapFields->jE,data_mapFields->jM,isFreed_of_fields->lO
open PySem.PassesOwn renaming never->gM
open PySem.PyData renaming depthAll->iZ,canLayAll0->jD,eqv->jY,hasDict->j9,hasDictAll->ma,leavesShortAll->nY
open PySem.SeqAt.EqAt renaming int_str->oH,str_int->oI
open PySem.Shared renaming heap->k8
open PySem.Str renaming ofString->ig
open PySem.Value renaming ref->fj,none->gH,builtin->jG,bool->jW,str->je,type->kU
open Std.Legacy.Range renaming size->nZ
open Sum renaming inr->gl,inl->lL
open Sum.inr renaming inj->iR
open True renaming intro->jL
open PySem PySem.Spec PyProof.Rows
local macro_rules | `(tactic| walk_at "s")=>`(tactic| (constructor <;> first | rfl | decide +kernel))
namespace _p
open Option renaming some->P3,none->q_
open Bool renaming true->r_,false->s_
abbrev t_(a:Type u):=List a
abbrev u_(a:Type u):=Option a
namespace L2
abbrev Key:=Sum Int Str
def L0:Key->Ev->Bool
 |.inl k,v=>Value.isInt k v
 |.inr x,v=>Value.isStrOf x v
def dk(w:gK):Key->Int
 |.inl k=>hashInt k
 |.inr x=>hashStr w x
theorem BH:∀{k:Key}{v:Ev},L0 k v=r_->(∃i t,k=lL i/\v=Value.int i t)\/(∃x t,k=gl x/\v=je x t)
 |.inl i,v,h=>by
  obtain⟨t,e⟩:=Value.isInt_shape h;exact .inl ⟨i,t,rfl,e⟩
 |.inr x,v,h=>by
  obtain⟨t,e⟩:=Value.isStrOf_shape h;exact .inr ⟨x,t,rfl,e⟩
theorem S1(i:Int)(t:Tok):L0 (.inl i) (.int i t)=r_:=by simp[L0,Value.isInt]
theorem S0(x:Str)(t:Tok):L0 (.inr x) (.str x t)=r_:=by simp[L0,Value.isStrOf]
theorem Z9(a b:Int):decide ((lL a:Key)=lL b)=(a==b):=by
 grind
theorem Z6(a b:Str):decide ((gl a:Key)=gl b)=decide (a=b):=by
 grind
theorem Z8(a:Int)(b:Str):decide ((lL a:Key)=gl b)=s_:=decide_eq_false (λq=>nomatch q)
theorem Z7(a:Str)(b:Int):decide ((gl a:Key)=lL b)=s_:=decide_eq_false (λq=>nomatch q)
def Ar(c:gD)(w:gK):PySem.KeyKind c w Key where
 is:=L0
 hash:=dk w
 inj:=λv a b l g=>by
  rcases BH l with⟨i,t,rfl,rfl⟩|⟨x,t,rfl,rfl⟩
  ·rcases BH g with⟨j,u,rfl,e⟩|⟨y,u,rfl,e⟩
   ·injection e with d _; rw[d]
   ·exact nomatch e
  ·rcases BH g with⟨j,u,rfl,e⟩|⟨y,u,rfl,e⟩
   ·exact nomatch e
   ·injection e with d _; rw[d]
 byValue:=λk v h=>by
  rcases BH h with⟨i,t,rfl,rfl⟩|⟨x,t,rfl,rfl⟩ <;>rfl
 pyHash:=λf h=>by
  rcases BH f with⟨i,t,rfl,rfl⟩|⟨x,t,rfl,rfl⟩
  ·exact wpAny_pyHash_int h
  ·exact wpAny_pyHash_str h
 eqBool:=λm f h=>by
  rcases BH m with⟨i,t,rfl,rfl⟩|⟨x,t,rfl,rfl⟩
  ·rcases BH f with⟨j,u,rfl,rfl⟩|⟨y,u,rfl,rfl⟩
   ·rw[Z9]at h; exact wpAny_eqBool_int h
   ·rw[Z8]at h; exact oH i t y u _ _ _ _ h
  ·rcases BH f with⟨j,u,rfl,rfl⟩|⟨y,u,rfl,rfl⟩
   ·rw[Z7]at h; exact oI x t j u _ _ _ _ h
   ·rw[Z6]at h; exact wpAny_eqBool_str h
 «strs»:=λk x t v h=>by
  rcases BH h with⟨i,u,rfl,e⟩|⟨y,u,rfl,e⟩
  ·exact nomatch e
  ·injection e with d _
   subst d
   cases v <;>rfl
theorem OY(a:gD)(w:gK)(i:Int)(t:Tok):(Ar a w).is (.inl i) (.int i t)=r_:=S1 i t
theorem OX(a:gD)(w:gK)(x:Str)(t:Tok):(Ar a w).is (.inr x) (.str x t)=r_:=S0 x t
inductive V where
 |non|bl (b:Bool)|int (i:Int)|str (x:Str)|byt (b:Array UInt8)|flt (b:UInt64)|ref (a:Db)|ty (n:String)
 deriving DecidableEq
def RelV:V->Ev->Prop
 |.non,u=>u=gH
 |.bl b,u=>u=jW b
 |.int i,u=>∃t,u=Value.int i t
 |.str x,u=>∃t,u=je x t
 |.byt b,u=>∃t,u=Value.bytes b t
 |.flt b,u=>∃t,u=Value.float b t
 |.ref a,u=>u=fj a
 |.ty n,u=>u=kU n
abbrev Vals:t_ V->t_ Ev->Prop:=Paired RelV
theorem Vals.length{a:t_ V}{b:t_ Ev}(r:Vals a b):a.length=b.length:=Paired.length r
theorem Vals.get:∀{a:t_ V}{b:t_ Ev}{i:Nat}{x:V},Vals a b->a[i]?=P3 x->∃u,b[i]?=P3 u/\RelV x u
 |_,_,_,_,.nil,e=>by simp at e
 |_,_,0,_,.cons r _,e=>by simp_all
 |_,_,i+1,x,.cons _ t,e=>by
  obtain⟨u,c,d⟩:=Vals.get t (by simpa using e)
  simp_all
theorem Vals.set{x:V}{u:Ev}(r:RelV x u):∀{a:t_ V}{b:t_ Ev} (i:Nat),Vals a b->Vals (a.set i x) (b.set i u)
 |_,_,_,.nil=>.nil
 |_,_,0,.cons _ t=>.cons r t
 |_,_,i+1,.cons q t=>.cons q (Vals.set r i t)
theorem Vals.append:∀{a b:t_ V}{c d:t_ Ev},Vals a c->Vals b d->Vals (a++b) (c++d)
 |_,_,_,_,.nil,s=>s
 |_,_,_,_,.cons r t,s=>.cons r (Vals.append t s)
theorem Vals.take:∀{a:t_ V}{b:t_ Ev} (n:Nat),Vals a b->Vals (a.take n) (b.take n)
 |_,_,0,_=>.nil
 |_,_,_+1,.nil=>.nil
 |_,_,n+1,.cons r t=>.cons r (Vals.take n t)
theorem Vals.drop:∀{a:t_ V}{b:t_ Ev} (n:Nat),Vals a b->Vals (a.drop n) (b.drop n)
 |_,_,0,r=>r
 |_,_,_+1,.nil=>.nil
 |_,_,n+1,.cons _ t=>Vals.drop n t
def RelO:u_ V->u_ Ev->Prop
 |some v,P3 u=>RelV v u
 |none,q_=>True
 |_,_=>False
def KV{a:Type}:t_ (a×V)->t_ (a×Ev)->Prop:=Paired fun(p:a×V) (q:a×Ev)=>p.1=q.1/\RelV p.2 q.2
def kV:Key->V
 |.inl i=>.int i
 |.inr x=>.str x
inductive HO where
 |lst (xs:List V)
 |tup (xs:List V)
 |dK (kvs:List (Key×V))|dT (kvs:List (List Key×V))
 |set (S:Int->Bool) (n:Nat)
 |ins (C dx:Db) (fs:List (Str×V))
 |own (x:Db)
 |xd (fs:List (Str×V))
 |met (f x:Db)
 |rng (lo hi:Int)
 |frz (o:Obj) (u:HO)
 |tbl (ps:Array Ev)
 |ext (φ:fu->Prop)
abbrev Hp:=Db->u_ HO
def A2(H:Hp)(a:Db)(o:HO):Hp:=λb=>if b=a then P3 o else H b
theorem AR{H:Hp}{a:Db}{o:HO}:A2 H a o a=P3 o:=by unfold A2; grind
theorem AM{H:Hp}{a b:Db}{o:HO}(h:b≠a):A2 H a o b=H b:=by unfold A2; rw[if_neg h]
theorem cC{H:Hp}{a b:Db}{o u:HO}(h:H a=P3 o)(c:H b=P3 u)(d:o≠u):a≠b:=by
 grind
theorem Ao{H:Hp}{a b:Db}{o:HO}(h:H a=P3 o)(c:H b=q_):a≠b:=by
 grind
def IsTupN(h:fu)(a:Db)(b:Array Ev):Prop:=∃o,h.get? a=P3 o/\o.cls=.type "tuple"/\∃n,o.data=.seq b n/\o.dict=q_/\o.slots=#[]
theorem IsTupN.tup{h:fu}{a:Db}{b:Array Ev}(x:IsTupN h a b):IsTup h a b:=let ⟨o,c,d,n,e,_⟩:=x; ⟨o,c,d,n,e⟩
theorem IsTupN.new(h:fu)(a:Array Ev):IsTupN (h.push {cls:=.type "tuple",data:=.seq a}) h.objs.size a:=⟨_,TW _ rfl,rfl,_,rfl,rfl,rfl⟩
section
variable (P:Program)(w:World)
def ObjOk(H:Hp)(h:fu)(a:Db):HO->Prop
 |.lst d=>d.length<=sizeLine/\∃(b:t_ Ev) (n:Nat),Vals d b/\h.get? a=P3 {cls:=.type "list",data:=.seq b.toArray n}
 |.tup d=>d.length<=sizeLine/\∃b:t_ Ev,Vals d b/\IsTupN h a b.toArray
 |.dK c=>c.length<=sizeLine/\(a==sysModules)=s_/\∃k,KV c k/\h.DictOf (Ar P w) a k
 | .dT c=>c.length<=sizeLine/\(a==sysModules)=s_/\∃d:t_ (t_ Key×Db×Ev),
   Paired (fun(p:t_ Key×V) (q:t_ Key×Db×Ev)=>p.1=q.1/\H q.2.1=P3 (.tup (p.1.map kV))/\RelV p.2 q.2.2) c d /\
   ∃o l y,h.get? a=P3 o/\o.ExactDict/\o.data=.dict l y/\l.toList=d.map (entryOfKey (tupleKind (Ar P w)))/\(d.map (·.1)).Nodup
 |.set S n=>h.SetOf (intKind P w) a S n
 | .ins C i g=>H i=P3 (.own a)/\g.length<=1000/\i≠a/\h.get? a=P3 (PySem.W.instObj C i) /\
   ∃e,h.Ns1 i e/\(∀f,RelO (g.lookup f) (e f))/\PySem.Within e (g.map (·.1))
 |.own _=>∃o,h.get? a=P3 o
 |.xd g=>∃e,h.Ns1 a e/\∀f,RelO (g.lookup f) (e f)
 |.rng z A=>∃t u v,h.get? a=P3 {cls:=.type "range",data:=.fields #[.int z t,.int A u,.int 1 v]}
 |.frz o u=>h.get? a=P3 o/\ObjOk H h a u
 |.tbl B=>h.get? a=P3 {cls:=.none,data:=.fields B}
 |.met f x=>h.get? a=P3 (PySem.W.methodObj (.ref f) (.ref x))
 |.ext j=>j h/\(∃o,h.get? a=P3 o)/\∀m r:fu,j m->(∀o,m.get? a=P3 o->r.get? a=P3 o)->j r
def HOk(H:Hp)(h:fu):Prop:=∀a o,H a=P3 o->ObjOk P w H h a o
end
section
variable {P:Program}{w:World}{H H':Hp}{h h':Heap}{a:Addr}{o:HO}
theorem ObjOk.lt(x:ObjOk P w H h a o):a<h.objs.size:=by
 cases o with
 |lst c=>obtain⟨_,_,_,_,e⟩:=x; exact Tk e
 |tup c=>obtain⟨_,_,_,p⟩:=x; exact p.tup.lt
 |dK b=>obtain⟨_,_,_,_,o,_,_,e,_⟩:=x; exact Tk e
 |dT b=>obtain⟨_,_,_,_,o,_,_,e,_⟩:=x; exact Tk e
 |set S n=>obtain⟨o,_,_,_,e,_⟩:=x; exact Tk e
 |ins C g d=>obtain⟨_,_,_,e,_⟩:=x; exact Tk e
 |own y=>obtain⟨_,e⟩:=x; exact Tk e
 |xd d=>obtain⟨_,⟨_,_,_,e,_⟩,_⟩:=x; exact Tk e
 |rng i j=>obtain⟨_,_,_,e⟩:=x; exact Tk e
 |frz k u=>obtain⟨e,_⟩:=x; exact Tk e
 |tbl l=>exact Tk (show h.get? a=P3 _ from x)
 |met f y=>exact Tk (show h.get? a=P3 _ from x)
 |ext m=>obtain⟨_,⟨_,e⟩,_⟩:=x; exact Tk e
theorem Paired.mapP{e g:Type}{F G:e->g->Prop}:∀{c:t_ e}{d:t_ g},Paired F c d->(∀a b,F a b->G a b)->Paired G c d
 |_,_,.nil,_=>.nil
 |_,_,.cons r t,f=>.cons (f _ _ r) (Paired.mapP t f)
theorem ObjOk.stay(x:ObjOk P w H h a o)(k:∀b u,(b=a\/H b=P3 (.own a))->h.get? b=P3 u->h'.get? b=P3 u)
  (F:∀b,H b=P3 (.own a)->H' b=P3 (.own a)) (G:∀b m,H b=P3 (.tup m)->H' b=P3 (.tup m)):ObjOk P w H' h' a o:=by
 induction o with
 |lst m=>obtain⟨z,l,n,r,e⟩:=x; exact⟨z,l,n,r,k _ _ (.inl rfl) e⟩
 |tup m=>obtain⟨z,l,r,g,e,c⟩:=x; exact⟨z,l,r,g,k _ _ (.inl rfl) e,c⟩
 |dK s=>obtain⟨z,y,I,r,g,i,j,e,c⟩:=x; exact⟨z,y,I,r,g,i,j,k _ _ (.inl rfl) e,c⟩
 |dT s=>
  obtain⟨z,y,m,r,g,i,j,e,c⟩:=x;exact⟨z,y,m,Paired.mapP r λp q z=>⟨z.1,G _ _ z.2.1,z.2.2⟩,g,i,j,k _ _ (.inl rfl) e,c⟩
 |set S n=>obtain⟨g,i,j,t,e,c⟩:=x; exact⟨g,i,j,t,k _ _ (.inl rfl) e,c⟩
 |ins C N J=>
  obtain⟨d,z,K,e,A,⟨B,i,j,L,c⟩,r⟩:=x;exact⟨F _ d,z,K,k _ _ (.inl rfl) e,A,⟨B,i,j,k _ _ (.inr d) L,c⟩,r⟩
 |own y=>obtain⟨g,e⟩:=x; exact⟨g,k _ _ (.inl rfl) e⟩
 |xd J=>obtain⟨A,⟨B,i,j,e,c⟩,r⟩:=x; exact⟨A,⟨B,i,j,k _ _ (.inl rfl) e,c⟩,r⟩
 |rng O Q=>obtain⟨t,u,v,e⟩:=x; exact⟨t,u,v,k _ _ (.inl rfl) e⟩
 |frz g u M=>obtain⟨e,q⟩:=x; exact⟨k _ _ (.inl rfl) e,M q⟩
 |tbl D=>
  have e:h.get? a=P3 {cls:=.none,data:=.fields D}:=x;show h'.get? a=P3 {cls:=.none,data:=.fields D};exact k a _ (.inl rfl) e
 |met f y=>
  have e:h.get? a=P3 (PySem.W.methodObj (.ref f) (.ref y)):=x;show h'.get? a=P3 (PySem.W.methodObj (.ref f) (.ref y));exact k a _ (.inl rfl) e
 |ext R=>obtain⟨p,⟨o,e⟩,E⟩:=x; exact⟨E _ _ p λo q=>k _ _ (.inl rfl) q,⟨o,k _ _ (.inl rfl) e⟩,E⟩
theorem HOk.lt(x:HOk P w H h)(e:H a=P3 o):a<h.objs.size:=(x a o e).lt
theorem HOk.fresh(x:HOk P w H h)(e:h.objs.size<=a):H a=q_:=by
 cases q:H a with
 |none=>rfl
 |some u=>exact absurd (f8 (x.lt q) e) (gY _)
theorem HOk.kept(x:HOk P w H h)(k:∀b u,h.get? b=P3 u->h'.get? b=P3 u):HOk P w H h':=λa o e=>
 (x a o e).stay (λb u _ q=>k b u q) (λ_ q=>q) λ_ _ q=>q
theorem HOk.laid(x:HOk P w H h)(k:∀b u,h.get? b=P3 u->h'.get? b=P3 u)(g:h.objs.size<=a)(new:ObjOk P w (A2 H a o) h' a o):HOk P w (A2 H a o) h':=λb u e=>by
 have d:=x.fresh g
 by_cases f:b=a
 ·subst f; rw[AR]at e; grind
 ·rw[AM f]at e
  exact(x b u e).stay (λc v _ q=>k c v q) (λc q=>by rw[AM (Ao q d)]; exact q) λc i q=>by rw[AM (Ao q d)]; exact q
end
def Rd(H:Hp)(a:Db)(u:HO):Prop:=H a=P3 u\/∃o,H a=P3 (.frz o u)
theorem Rd.ok{P:gD}{w:gK}{H:Hp}{h:fu}{a:Db}{u:HO}(r:Rd H a u)(x:HOk P w H h):ObjOk P w H h a u:=by
 rcases r with r|⟨o,r⟩
 ·exact x a u r
 ·obtain⟨_,q⟩:=x a _ r
  exact q
def cy:u_ HO->Prop
 |some (.lst _)=>True
 |some (.dK _)=>True
 |some (.dT _)=>True
 |some (.set _ _)=>True
 |some (.ins _ _ _)=>True
 |some (.ext _)=>True
 |_=>False
section
variable {P:Program}{w:World}{H:Hp}{h h':Heap}{x e:Addr}{o':HO}
theorem HOk.write(ok:HOk P w H h)(f:cy (H x))(o:e=x\/H e=P3 (.own x))(k:∀b u,b≠e->h.get? b=P3 u->h'.get? b=P3 u)(i:∃u,h'.get? e=P3 u)
  (new:ObjOk P w (A2 H x o') h' x o'):HOk P w (A2 H x o') h':=λb u q=>by
 have a:∀c y,H c=P3 (.own y)->c≠x:=λc y r z=>by subst z; rw[r]at f; exact f
 have d:∀c g,H c=P3 (.tup g)->c≠x:=λc g r z=>by subst z; rw[r]at f; exact f
 by_cases l:b=x
 ·subst l; rw[AR]at q; cases q; exact new
 ·rw[AM l]at q
  by_cases j:b=e
  ·have m:H b=P3 (.own x):=by
    grind
   rw[q]at m; cases m
   obtain⟨v,n⟩:=i;exact⟨v,by rw[j]; exact n⟩
  ·refine(ok b u q).stay (λc v p r=>k c v ?_ r) (λc r=>by rw[AM (a c b r)]; exact r) λc g r=>by rw[AM (d c g r)]; exact r
   grind
end
structure Un (fs ex:List Db) (H H':Hp) (h h':fu):Prop where
 keep:∀b o,h.get? b=P3 o->H b=q_->b∉fs->b∉ex->h'.get? b=P3 o
 slot:∀b o,h.get? b=P3 o->H b=q_->b∈fs->b∉ex->∃sl,h'.get? b=P3 {o with slots:=sl}
 free:∀b o,h.get? b=P3 o->H b=q_->b∉ex->H' b=q_
 there:∀b o,h.get? b=P3 o->b∉ex->∃o',h'.get? b=P3 o'
 tups:∀b xs,H b=P3 (.tup xs)->H' b=P3 (.tup xs)
 frzs:∀b o u,H b=P3 (.frz o u)->H' b=P3 (.frz o u)
 tbls:∀b ps,H b=P3 (.tbl ps)->∃more,H' b=P3 (.tbl (ps++more))
section
variable {fs ex:t_ Addr}{H H1:Hp}{h h1 h':Heap}{a x e:Addr}{o:HO}
theorem Un.any(u:Un fs ex H H1 h h1){b:Db}{c:Obj}(q:h.get? b=P3 c)(n:H b=q_)(d:b∉ex):∃f,h1.get? b=P3 {c with slots:=f}:=by
 by_cases e:b∈fs
 ·exact u.slot b c q n e d
 ·exact⟨_,u.keep b c q n e d⟩
theorem Un.kept(k:∀b u,h.get? b=P3 u->h'.get? b=P3 u):Un fs ex H H h h':=
 ⟨λb c q _ _ _=>k b c q,λb c q _ _ _=>⟨_,k b c q⟩,λ_ _ _ n _=>n,λb c q _=>⟨c,k b c q⟩,λ_ _ q=>q,λ_ _ _ q=>q,λ_ d q=>⟨#[],by rw[q]; simp⟩⟩
theorem Un.refl:Un fs ex H H h h:=Un.kept λ_ _ q=>q
theorem Un.laid(k:∀b u,h.get? b=P3 u->h'.get? b=P3 u)(d:h.objs.size<=a)(c:H a=q_):Un fs ex H (A2 H a o) h h' where
 keep:=λb u q _ _ _=>k b u q
 slot:=λb u q _ _ _=>⟨_,k b u q⟩
 free:=λb u q n _=>by rw[AM (f_ (f8 (Tk q) d))]; exact n
 there:=λb u q _=>⟨u,k b u q⟩
 tups:=λb e q=>by rw[AM (Ao q c)]; exact q
 frzs:=λb u e q=>by rw[AM (Ao q c)]; exact q
 tbls:=λb f q=>⟨#[],by rw[AM (Ao q c),q]; simp⟩
theorem Un.write(f:cy (H x))(m:e=x\/H e=P3 (.own x))(k:∀b u,b≠e->h.get? b=P3 u->h'.get? b=P3 u)(i:∃u,h'.get? e=P3 u):Un fs ex H (A2 H x o) h h':=by
 have j:∀b,H b=q_->b≠x:=λb n z=>by subst z; rw[n]at f; exact f
 have g:∀b,H b=q_->b≠e:=λb n z=>by
  grind
 have c:∀b u,H b=P3 u->¬cy (P3 u)->b≠x:=λb u q p z=>by grind
 refine⟨λb u q n _ _=>k b u (g b n) q,λb u q n _ _=>⟨u.slots,k b u (g b n) q⟩,λb u q n _=>by rw[AM (j b n)]; exact n,λb u q _=>?_,
  λb l q=>by rw[AM (c b _ q λz=>z)]; exact q,λb u l q=>by rw[AM (c b _ q λz=>z)]; exact q,λb r q=>⟨#[],by rw[AM (c b _ q λz=>z),q]; simp⟩⟩
 by_cases d:b=e
 ·simp_all
 ·exact⟨u,k b u d q⟩
end
def fH(h:fu)(H:Hp):t_ Db:=(gF h.objs.size).filter λa=>(H a).isSome
def M5(h:fu)(H:Hp):fu:=PySem.W.hideAll h (fH h H)
theorem S5(h:fu)(H:Hp):(M5 h H).objs.size=h.objs.size:=PySem.W.hideAll_size _ _
theorem Vk{h:fu}{H:Hp}{b:Db}{o:Obj}(e:h.get? b=P3 o)(n:H b=q_):(M5 h H).get? b=P3 o:=
 PySem.W.hideAll_get _ e λa=>by
  have q:=(iG.mp a).2
  grind
theorem Xc{h:fu}{H:Hp}{b:Db}{o:Obj}(e:(M5 h H).get? b=P3 o):h.get? b=P3 o/\H b=q_:=by
 have a:=PySem.W.of_hideAll _ e;refine⟨a,?_⟩;cases q:H b with
 |none=>rfl
 |some x=>
  have z:(M5 h H).get? b=q_:=PySem.W.hideAll_none _ (iG.mpr ⟨iU.mpr (Tk a),by simp[q]⟩)
  grind
structure Mod (K:Frag) (mg:Str->Option Ev) (base:fu):Prop where
 kin:K.In base
 glob:base.Ns mainGlobals mg
 blt:∃mb,base.Ns builtinsNs mb/\∀x:Str,x ≠ "__name__"->mb x=bootBuiltins x
 nolimit:base.NoLimit
/-- the context:a def's body (or a comprehension's block) running. base:fixed through the whole law; s₀,H₀:the entry; outer:the frames whose slots others may change (a def's callers); stack:all frames that run;
   ex:iterators that were made ahead of the entry and are walked here (a comprehension's); fn:the names whose cells were made at the entry (a def:all; a comprehension's block:its own); calm:not within an except suite; pn:zH that every state bears; xe:what is wanted of an exception that leaves the code -/
structure Cx where
 prog:gD
 w:gK
 K:Frag
 mg:Str->Option Ev
 base:fu
 A:gS
 N:List Str
 s₀:On
 H₀:Hp
 env:Env
 outer:List Env
 stack:List Env
 ex:List Db
 fn:Str->Bool
 calm:Bool
 pn:List (Db×Obj)
 xe:Ev->On->Prop
def L5(l:t_ Env):t_ Db:=l.filterMap (·.frame)
abbrev Cx.fs(X:Cx):t_ Db:=L5 X.outer
def Te(a:jI)(x:Str):Prop:=a.names.lookup x=P3 .local\/a.names.lookup x=P3 .cell\/a.names.lookup x=P3 .free
def Loc(a:jI)(x:Str):Prop:=a.names.lookup x=P3 .local\/a.names.lookup x=P3 .cell
def Look(a:Env)(h:fu)(m:Str->u_ Ev)(x:Str)(u:Ev):Prop:=
 (a.kindOf x=P3 .local/\m x=P3 u)\/((a.kindOf x=P3 .cell\/a.kindOf x=P3 .free)/\∃c,a.cells.lookup x=P3 c/\h.IsCell c (P3 u))
structure Cx.Ok (X:Cx):Prop where
 mod:Mod X.K X.mg X.base
 kind:X.env.scope.kind=.function
 glob:X.env.globals=mainGlobals
 blt:X.env.builtins=builtinsNs
 above:X.s₀.heap.objs.size<=X.env.locals
 inj:∀x y c,X.env.cells.lookup x=P3 c->X.env.cells.lookup y=P3 c->x=y
 has:∀x,(X.env.kindOf x=P3 .cell\/X.env.kindOf x=P3 .free)->∃c,X.env.cells.lookup x=P3 c
 cab:∀x c,X.fn x=r_->X.env.cells.lookup x=P3 c->X.s₀.heap.objs.size<=c
 hd:X.calm=r_->X.A.handled=q_
 frames:X.A.frames=P3 X.stack
 stk:X.stack=X.outer\/(X.stack=X.env::X.outer/\X.env.frame=P3 X.env.locals)
 exf:∀b∈X.ex,b≠X.env.locals/\∀x c,X.env.cells.lookup x=P3 c->c≠b
 bs:∀b o,X.base.get? b=P3 o->X.s₀.heap.get? b=P3 o/\X.H₀ b=q_
 bsz:X.base.objs.size<=X.s₀.heap.objs.size
 noex:∀b o,X.base.get? b=P3 o->b∉X.ex
 exfs:∀b∈X.ex,b∉X.fs
 funs:X.s₀.heap.FunFrames X.base X.outer
 frf:∀b∈X.fs,X.H₀ b=q_
structure Inv (X:Cx) (zH:List (Db×Obj)) (Z:List (Option V)) (H:Hp) (s:On):Prop where
 ok:X.Ok
 os:s.os=X.s₀.os
 bare:jz s.gens
 base:Un X.fs X.ex X.H₀ H X.s₀.heap s.heap
 loc:∃m,s.heap.Ns X.env.locals m/\∀(i:Nat) (x:Str) (v:V),X.N[i]?=P3 x->Z[i]?=P3 (P3 v)->Te X.env.scope x->∃u,RelV v u/\Look X.env s.heap m x u
 cell:∀x c,X.env.cells.lookup x=P3 c->∃v,s.heap.IsCell c v
 free:H X.env.locals=q_
 freeC:∀x c,X.env.cells.lookup x=P3 c->H c=q_
 pin:∀p∈X.pn++zH,s.heap.get? p.1=P3 p.2/\H p.1=q_/\p.1≠X.env.locals/\p.1∉X.fs/\∀v,p.2.data≠.cell v
 hok:HOk X.prog X.w H s.heap
 len:Z.length=X.N.length
section
variable {X:Cx}{zH:t_ (Addr×Obj)}{Z:t_ (u_ V)}{H H':Hp}{s:Shared}{h':Heap}
theorem Cx.Ok.nofr(ok:X.Ok){b:Db}{o:Obj}(e:X.base.get? b=P3 o):b∉X.fs:=λa=>by
 have:=(ok.funs.mem a).1
 grind
theorem Inv.bs(I:Inv X zH Z H s):∀b o,X.base.get? b=P3 o->s.heap.get? b=P3 o/\H b=q_:=λb o e=>
 ⟨I.base.keep b o (I.ok.bs b o e).1 (I.ok.bs b o e).2 (I.ok.nofr e) (I.ok.noex b o e),I.base.free b o (I.ok.bs b o e).1 (I.ok.bs b o e).2 (I.ok.noex b o e)⟩
theorem Inv.bk(I:Inv X zH Z H s):∀b o,X.base.get? b=P3 o->s.heap.get? b=P3 o:=λb o e=>(I.bs b o e).1
theorem Inv.mod(I:Inv X zH Z H s):Mod X.K X.mg X.base:=I.ok.mod
theorem Inv.kIn(I:Inv X zH Z H s):X.K.In s.heap:=I.ok.mod.kin.keeps I.bk
theorem Inv.lt(I:Inv X zH Z H s):X.env.locals<s.heap.objs.size:=let ⟨_,a,_⟩:=I.loc; a.lt
theorem Inv.sz(I:Inv X zH Z H s):X.s₀.heap.objs.size<=s.heap.objs.size:=gO I.ok.above (j7 I.lt)
theorem Inv.nofs(I:Inv X zH Z H s){a:Db}(h:s.heap.objs.size<=a):a∉X.fs:=λb=>by
 obtain⟨_,o,c,_⟩:=I.ok.funs.mem b;exact absurd (f8 (Tk c) (gO I.sz h)) (gY _)
theorem Inv.cne(I:Inv X zH Z H s):∀x c,X.env.cells.lookup x=P3 c->c≠X.env.locals:=λx c e z=>by
 obtain⟨v,o,d,f⟩:=I.cell x c e;obtain⟨m,⟨g,h,i,a,b,_⟩,_⟩:=I.loc
 grind
theorem Inv.funs(I:Inv X zH Z H s):s.heap.FunFrames X.base X.outer:=by
 have all:∀(l:t_ _),(∀b∈L5 l,b∈X.fs)->X.s₀.heap.FunFrames X.base l->s.heap.FunFrames X.base l:=by
  intro l
  induction l with
  |nil=>intro _ _; trivial
  |cons g r h=>
   intro d i;obtain⟨j,⟨L,o,f,k,m,n⟩,p⟩:=i;have a:=d L (by unfold L5; simp_all);obtain⟨q,e⟩:=I.base.slot L o m (I.ok.frf L a) a λz=>I.ok.exfs L z a;exact⟨j,⟨L,_,f,k,e,n⟩,h (λb c=>d b (by unfold L5; rw[List.filterMap_cons,f]; exact Rs _ c)) p⟩
 exact all _ (λ_ c=>c) I.ok.funs
theorem Inv.stack(I:Inv X zH Z H s):s.heap.FunFrames X.base X.stack:=by
 rcases I.ok.stk with e|⟨e,a⟩
 ·rw[e]; exact I.funs
 ·rw[e]
  obtain⟨m,b,_⟩:=I.loc;exact .cons (by rw[I.ok.kind]; decide) a b (Heap.get?_none_of_le (gO I.ok.bsz I.ok.above)) I.funs
theorem Inv.stkSub(I:Inv X zH Z H s):∀b∈L5 X.stack,b∈X.env.locals::X.fs:=λb a=>by
 rcases I.ok.stk with e|⟨e,c⟩
 ·grind
 ·rw[e]at a
  unfold L5 at a;rw[List.filterMap_cons,c]at a;exact a
theorem Inv.stkFree(I:Inv X zH Z H s):∀b∈L5 X.stack,H b=q_:=λb a=>by
 rcases fi.mp (I.stkSub b a)with e|a
 ·rw[e]; exact I.free
 ·obtain⟨_,o,c,_⟩:=I.ok.funs.mem a
  exact I.base.free b o c (I.ok.frf b a) λz=>I.ok.exfs b z a
theorem Inv.step{g':Array GenState}{t':Nat}{d':Drawn}{ch:t_ Db}(I:Inv X zH Z H s)
  (f:∀b∈ch,(b∈X.ex\/X.s₀.heap.objs.size<=b)/\b≠X.env.locals/\(∀x c,X.env.cells.lookup x=P3 c->c≠b)/\∀p∈X.pn++zH,p.1≠b)
  (keep:∀b o,b≠X.env.locals->b∉X.fs->b∉ch->s.heap.get? b=P3 o->H b=q_->h'.get? b=P3 o)
  (y:∀b o,b≠X.env.locals->b∈X.fs->b∉ch->s.heap.get? b=P3 o->H b=q_->∃N,h'.get? b=P3 {o with slots:=N}) (free:∀b o,b∉ch->s.heap.get? b=P3 o->H b=q_->H' b=q_)
  (B:∀b o,b∉ch->s.heap.get? b=P3 o->∃E,h'.get? b=P3 E)
  (tups:∀b A,H b=P3 (.tup A)->H' b=P3 (.tup A)) (F:∀b o u,H b=P3 (.frz o u)->H' b=P3 (.frz o u)) (G:∀b M,H b=P3 (.tbl M)->∃J,H' b=P3 (.tbl (M++J)))
  (V:∀m,s.heap.Ns X.env.locals m->h'.Ns X.env.locals m) (O:HOk X.prog X.w H' h') (W:jz g'):
  Inv X zH Z H' {s with heap:=h',gens:=g',drawn:=d',toks:=t'}:=by
 have K:∀b o,X.s₀.heap.get? b=P3 o->b≠X.env.locals:=λb o e=>f_ (f8 (Tk e) I.ok.above)
 have j:∀b o,X.s₀.heap.get? b=P3 o->b∉X.ex->b∉ch:=λb o e a C=>by
  rcases(f b C).1 with z|z
  ·exact a z
  ·exact absurd (f8 (Tk e) z) (gY _)
 have g:∀x c,X.env.cells.lookup x=P3 c->∀v,s.heap.IsCell c v->h'.IsCell c v:=λx c e v ⟨o,D,P⟩=>by
  have h:c∉ch:=λz=>(f c z).2.2.1 x c e rfl
  by_cases R:c∈X.fs
  ·obtain⟨N,q⟩:=y c o (I.cne x c e) R h D (I.freeC x c e)
   exact⟨_,q,P⟩
  ·exact⟨o,keep c o (I.cne x c e) R h D (I.freeC x c e),P⟩
 refine⟨I.ok,I.os,W,⟨λb o e n C a=>?_,λb o e n C a=>?_,λb o e n a=>?_,λb o e a=>?_,λb A e=>tups b A (I.base.tups b A e),λb o A e=>F b o A (I.base.frzs b o A e),λb M e=>?_⟩,?_,λx c e=>?_,?_,λx c e=>?_,λp S=>?_,O,I.len⟩
 ·exact keep b o (K b o e) C (j b o e a) (I.base.keep b o e n C a) (I.base.free b o e n a)
 ·obtain⟨N,t⟩:=I.base.slot b o e n C a
  obtain⟨Q,L⟩:=y b _ (K b o e) C (j b o e a) t (I.base.free b o e n a);exact⟨Q,L⟩
 ·obtain⟨E,t⟩:=I.base.there b o e a
  exact free b E (j b o e a) t (I.base.free b o e n a)
 ·obtain⟨E,t⟩:=I.base.there b o e a
  exact B b E (j b o e a) t
 ·obtain⟨Y,t⟩:=I.base.tbls b M e
  obtain⟨m2,L⟩:=G b _ t;exact⟨Y++m2,by rw[L,Array.append_assoc]⟩
 ·obtain⟨m,hn,hl⟩:=I.loc
  refine⟨m,V m hn,λi x v t L e3=>?_⟩;obtain⟨u,r,l⟩:=hl i x v t L e3;refine⟨u,r,?_⟩
  rcases l with l|⟨k,c,e,z⟩
  ·exact .inl l
  ·exact .inr ⟨k,c,e,g x c e _ z⟩
 ·obtain⟨v,z⟩:=I.cell x c e
  exact⟨v,g x c e v z⟩
 ·obtain⟨m,⟨o,_,_,D,_⟩,_⟩:=I.loc
  exact free _ o (λz=>(f _ z).2.1 rfl) D I.free
 ·obtain⟨v,o,D,P⟩:=I.cell x c e
  exact free c o (λz=>(f c z).2.2.1 x c e rfl) D (I.freeC x c e)
 ·obtain⟨e,n,T,U,d⟩:=I.pin p S
  have h:p.1∉ch:=λz=>(f p.1 z).2.2.2 p S rfl;exact⟨keep p.1 p.2 T U h e n,free p.1 p.2 h e n,T,U,d⟩
theorem Inv.un{g:Nat}(I:Inv X zH Z H s)(u:Un X.fs [] H H' s.heap h')(c:HOk X.prog X.w H' h'):Inv X zH Z H' {s with heap:=h',toks:=g}:=by
 obtain⟨m,⟨o,p,q,f,r⟩,_⟩:=id I.loc;obtain⟨t,h⟩:=u.any f I.free (by simp)
 exact I.step (ch:=[]) (λ_ z=>nomatch z) (λb o _ d _ e n=>u.keep b o e n d (by simp)) (λb o _ d _ e n=>u.slot b o e n d (by simp)) (λb o _ e n=>u.free b o e n (by simp)) (λb o _ e=>u.there b o e (by simp)) u.tups u.frzs u.tbls (λv i=>by
  obtain⟨x,j,k,a,l⟩:=i;rw[f]at a; cases a
  exact⟨_,_,_,h,l⟩) c I.bare
theorem Inv.call{i:Array GenState}{l:Nat}{q:Drawn}{j:t_ Db}(I:Inv X zH Z H s)(u:Un (L5 X.stack) j H H' s.heap h')(g:HOk X.prog X.w H' h')(t:jz i)
  (d:∀b∈j,(b∈X.ex\/X.s₀.heap.objs.size<=b)/\b≠X.env.locals/\(∀x c,X.env.cells.lookup x=P3 c->c≠b)/\∀p∈X.pn++zH,p.1≠b):
  Inv X zH Z H' {s with heap:=h',gens:=i,drawn:=q,toks:=l}:=by
 obtain⟨m,⟨o,D,E,k,r⟩,_⟩:=id I.loc;obtain⟨F,h⟩:=u.any k I.free λz=>(d _ z).2.1 rfl
 exact I.step d (λb o h v a e n=>u.keep b o e n (λz=>(fi.mp (I.stkSub b z)).elim h v) a) (λb o _ _ a e n=>u.any e n a) (λb o a e n=>u.free b o e n a) (λb o a e=>u.there b o e a) u.tups u.frzs u.tbls (λG y=>by
  obtain⟨J,A,B,f,C⟩:=y;rw[k]at f; cases f
  exact⟨_,_,_,h,C⟩) g t
theorem Inv.turned{t':Nat}{it:Db}(I:Inv X zH Z H s)(k:∀b o,b≠it->s.heap.get? b=P3 o->h'.get? b=P3 o)(A:H it=q_)(d:it≠X.env.locals)
  (f:it∈X.ex\/X.s₀.heap.objs.size<=it) (g:∀x c,X.env.cells.lookup x=P3 c->c≠it) (h:∀p∈X.pn++zH,p.1≠it):Inv X zH Z H {s with heap:=h',toks:=t'}:=by
 have i:∀b u,H b=P3 u->b≠it:=λb u e z=>by grind
 refine I.step (g':=s.gens) (d':=s.drawn) (ch:=[it]) (λb j=>?_) (λb o _ _ a e _=>k b o (λz=>a (by simp[z])) e) (λb o _ _ a e _=>⟨o.slots,k b o (λz=>a (by simp[z])) e⟩) (λ_ _ _ _ n=>n)
  (λb o a e=>⟨o,k b o (λz=>a (by simp[z])) e⟩) (λ_ _ e=>e) (λ_ _ _ e=>e) (λb B e=>⟨#[],by rw[e]; simp⟩) (λm l=>?_) (λb u e=>?_) I.bare
 ·have e:b=it:=by simpa using j
  subst e;exact⟨f,d,g,h⟩
 ·obtain⟨o,t,w,y,r⟩:=l
  exact⟨o,t,w,k _ o (gP d) y,r⟩
 ·refine(I.hok b u e).stay (λc v a q=>k c v ?_ q) (λ_ q=>q) λ_ _ q=>q
  grind
theorem Inv.tok(I:Inv X zH Z H s)(t:Nat):Inv X zH Z H {s with toks:=t}:=I.un Un.refl I.hok
theorem Inv.kept{t':Nat}(I:Inv X zH Z H s)(k:∀b u,s.heap.get? b=P3 u->h'.get? b=P3 u):Inv X zH Z H {s with heap:=h',toks:=t'}:=I.un (Un.kept k) (I.hok.kept k)
theorem Inv.laid{a:Db}{o:HO}{t':Nat}(I:Inv X zH Z H s)(k:∀b u,s.heap.get? b=P3 u->h'.get? b=P3 u)(c:s.heap.objs.size<=a)(d:ObjOk X.prog X.w (A2 H a o) h' a o):
  Inv X zH Z (A2 H a o) {s with heap:=h',toks:=t'}:=I.un (Un.laid k c (I.hok.fresh c)) (I.hok.laid k c d)
theorem Inv.write{x e:Db}{o:HO}{g:Nat}(I:Inv X zH Z H s)(d:cy (H x))(f:e=x\/H e=P3 (.own x))(k:∀b u,b≠e->s.heap.get? b=P3 u->h'.get? b=P3 u)(a:∃u,h'.get? e=P3 u)
  (c:ObjOk X.prog X.w (A2 H x o) h' x o):Inv X zH Z (A2 H x o) {s with heap:=h',toks:=g}:=I.un (Un.write d f k a) (I.hok.write d f k a c)
theorem Inv.pins_of{a:t_ (Db×Obj)}(I:Inv X zH Z H s)(h:∀p∈a,s.heap.get? p.1=P3 p.2/\H p.1=q_/\p.1≠X.env.locals/\p.1∉X.fs/\∀v,p.2.data≠.cell v):Inv X a Z H s:=
 ⟨I.ok,I.os,I.bare,I.base,I.loc,I.cell,I.free,I.freeC,λp b=>(gA.mp b).elim (λz=>I.pin p (gu _ z)) (h p),I.hok,I.len⟩
theorem FJ{N:t_ Str}(c:N.Nodup){i j:Nat}{x:Str}(a:N[i]?=P3 x)(b:N[j]?=P3 x):i=j:=by
 obtain⟨f,d⟩:=ZB.mp a;obtain⟨g,e⟩:=ZB.mp b;exact(List.getElem_inj c).mp (d.trans e.symm)
theorem Lj{M:Model}{A:gS}{E:Ev->On->Prop}{i:Nat}{x:Str}{v:V}{u:Ev}{Q:Unit->On->Prop}(I:Inv X zH Z H s)(hN:X.N.Nodup)(P:X.N[i]?=P3 x)(B:Loc X.env.scope x)(r:RelV v u)
  (h:∀s',Inv X zH (Z.set i (P3 v)) H s'->(∃a,i6 a s.heap s'.heap/\(a=X.env.locals\/X.env.cells.lookup x=P3 a))->Q () s') (hf:X.fn x=r_\/X.env.scope.names.lookup x=P3 .local:=by first|exact .inl rfl|exact .inr rfl|assumption):wpAny M A (storeName X.env x u) Q E s:=by
 obtain⟨m,hn,hl⟩:=id I.loc;have R:(X.env.scope.kind==.class||(X.env.scope.kind==.module&&X.env.locals !=X.env.globals))=s_:=by rw[I.ok.kind]; rfl
 have F:i<Z.length:=by rw[I.len]; exact(ZB.mp P).1
 have J:=I.cne
 have g:∀{a:Db}{h':fu},(∃o,s.heap.get? a=P3 o/\H a=q_)->i6 a s.heap h'->HOk X.prog X.w H h':=λ{a h'} ha f b ob e=>by
  obtain⟨_,_,C⟩:=ha;refine(I.hok b ob e).stay (λc Y t q=>(f.2 c ?_).trans q) (λ_ q=>q) λ_ _ q=>q;rintro rfl
  rcases t with rfl|t
  ·rw[C]at e; cases e
  ·rw[C]at t; cases t
 rcases B with G|G
 ·refine wpAny_storeName_local G hn (λh' a0 f=>?_) R
  obtain⟨oL,_,_,a1,_⟩:=id hn;refine h _ ⟨I.ok,I.os,I.bare,⟨λb o e n K B=>?_,λb o e n K B=>?_,I.base.free,λb o e B=>?_,I.base.tups,I.base.frzs,I.base.tbls⟩,⟨_,a0,λj y v' l D e3=>?_⟩,λy c e=>?_,I.free,I.freeC,λp hp=>?_,g ⟨oL,a1,I.free⟩ f,by simpa using I.len⟩ ⟨_,f,.inl rfl⟩
  ·exact(f.2 b (f_ (f8 (Tk e) I.ok.above))).trans (I.base.keep b o e n K B)
  ·obtain⟨sl,l⟩:=I.base.slot b o e n K B
   exact⟨sl,(f.2 b (f_ (f8 (Tk e) I.ok.above))).trans l⟩
  ·obtain⟨o',l⟩:=I.base.there b o e B
   exact⟨o',(f.2 b (f_ (f8 (Tk e) I.ok.above))).trans l⟩
  ·by_cases L:j=i
   ·subst L
    rw[P]at l; cases l
    rw[nL F]at D;cases D;exact⟨u,r,.inl ⟨G,by simp⟩⟩
   ·rw[lT (gP L)]at D
    obtain⟨u',r',q⟩:=hl j y v' l D e3;refine⟨u',r',?_⟩
    rcases q with⟨k,e⟩|⟨k,c,e,z⟩
    ·refine .inl ⟨k,?_⟩
     have:y≠x:=λe=>L (FJ hN l (e▸P))
     simp[this,e]
    ·exact .inr ⟨k,c,e,z.sameBut f (J y c e)⟩
  ·obtain⟨Y,z⟩:=I.cell y c e
   exact⟨Y,z.sameBut f (J y c e)⟩
  ·obtain⟨e,n,ne,nf,d⟩:=I.pin p hp
   exact⟨(f.2 p.1 ne).trans e,n,ne,nf,d⟩
 ·have O:X.fn x=r_:=by
   rcases hf with z|z
   ·exact z
   ·rw[z]at G; cases G
  obtain⟨c,t⟩:=I.ok.has x (.inl G);obtain⟨Y,z⟩:=I.cell x c t;refine wpAny_storeName_cell I.ok.kind G t z (λh' S f=>?_);obtain⟨oc,T,U⟩:=id z;refine h {s with heap:=h'} ⟨I.ok,I.os,I.bare,⟨λb o e n K B=>?_,λb o e n K B=>?_,I.base.free,λb o e B=>?_,I.base.tups,I.base.frzs,I.base.tbls⟩,⟨m,hn.sameBut f (gP (J x c t)),λj y v' l D e3=>?_⟩,λy c' e=>?_,I.free,I.freeC,λp hp=>?_,g ⟨oc,T,I.freeC x c t⟩ f,by simpa using I.len⟩ ⟨c,f,.inr t⟩
  ·exact(f.2 b (f_ (f8 (Tk e) (I.ok.cab x c O t)))).trans (I.base.keep b o e n K B)
  ·obtain⟨sl,l⟩:=I.base.slot b o e n K B
   exact⟨sl,(f.2 b (f_ (f8 (Tk e) (I.ok.cab x c O t)))).trans l⟩
  ·obtain⟨o',l⟩:=I.base.there b o e B
   exact⟨o',(f.2 b (f_ (f8 (Tk e) (I.ok.cab x c O t)))).trans l⟩
  ·by_cases L:j=i
   ·subst L
    rw[P]at l; cases l
    rw[nL F]at D;cases D;exact⟨u,r,.inr ⟨.inl G,c,t,S⟩⟩
   ·rw[lT (gP L)]at D
    obtain⟨u',r',q⟩:=hl j y v' l D e3;refine⟨u',r',?_⟩
    rcases q with q|⟨k,c',e,z'⟩
    ·exact .inl q
    ·refine .inr ⟨k,c',e,z'.sameBut f ?_⟩
     rintro rfl;exact L (FJ hN l (I.ok.inj _ _ _ e t▸P))
  ·by_cases W:c'=c
   ·subst W; exact⟨_,S⟩
   ·obtain⟨w2,z2⟩:=I.cell y c' e
    exact⟨w2,z2.sameBut f W⟩
  ·obtain⟨e,n,ne,nf,d⟩:=I.pin p hp
   refine⟨(f.2 p.1 ?_).trans e,n,ne,nf,d⟩;intro q;rw[q,T]at e;have q':oc=p.2:=ft e;exact d Y (by rw[←q']; exact U)
theorem Gy{M:Model}{A:gS}{E:Ev->On->Prop}{i:Nat}{x:Str}{v:V}{u:Ev}{Q:Unit->On->Prop}(I:Inv X zH Z H s)(b:X.N.Nodup)(c:X.N[i]?=P3 x)(d:Loc X.env.scope x)(r:RelV v u)
  (h:∀a,Inv X zH (Z.set i (P3 v)) H a->Q () a) (e:X.fn x=r_\/X.env.scope.names.lookup x=P3 .local:=by first|exact .inl rfl|exact .inr rfl|assumption):wpAny M A (storeName X.env x u) Q E s:=
 Lj I b c d r (λa f _=>h a f) e
theorem Inv.call'{a:On}{f:t_ Db}(I:Inv X zH Z H s)(g:a.os=s.os)(u:Un (L5 X.stack) f H H' s.heap a.heap)(d:HOk X.prog X.w H' a.heap)(h:jz a.gens)
  (e:∀b∈f,(b∈X.ex\/X.s₀.heap.objs.size<=b)/\b≠X.env.locals/\(∀x c,X.env.cells.lookup x=P3 c->c≠b)/\∀p∈X.pn++zH,p.1≠b):Inv X zH Z H' a:=by
 obtain⟨h',i,j,k,l⟩:=a;subst g;exact I.call u d h e
end
abbrev XK:=Ev->u_ Db->Hp->Prop
abbrev St:=t_ (u_ V)
abbrev VK:=V->Hp->Prop
abbrev TE:=St->Hp->VK->Prop
abbrev TT:=St->Hp->(Bool->Hp->Prop)->Prop
abbrev TA:=St->Hp->(t_ V->Hp->Prop)->Prop
structure Ends where
 nx:St->Hp->Prop
 rt:VK
 bk:St->Hp->Prop:=λ_ _=>False
 ct:St->Hp->Prop:=λ_ _=>False
abbrev TS:=Ends->St->Hp->Prop
def EP(X:Cx)(b:t_ (Db×Obj))(Z:St)(Q:VK)(u:Ev)(c:On):Prop:=∃v a,Inv X b Z a c/\RelV v u/\Q v a
def TP(X:Cx)(c:t_ (Db×Obj))(Z:St)(Q:Bool->Hp->Prop)(b:Bool)(d:On):Prop:=∃a,Inv X c Z a d/\Q b a
def AP(X:Cx)(c:t_ (Db×Obj))(Z:St)(Q:t_ V->Hp->Prop)(d:t_ Ev)(e:On):Prop:=∃a b,Inv X c Z b e/\Vals a d/\Q a b
def SP(X:Cx)(c:t_ (Db×Obj))(D:Ends)(f:Flow)(d:On):Prop:=
 match f with
 |.next=>∃b a,Inv X c b a d/\D.nx b a
 |.brk=>∃b a,Inv X c b a d/\D.bk b a
 |.cont=>∃b a,Inv X c b a d/\D.ct b a
 |.ret u=>∃v b a,Inv X c b a d/\RelV v u/\D.rt v a
def PE(X:Cx)(e:gB)(t:TE):Prop:=
 ∀(a:t_ (Db×Obj)) (s:On) (Z:St) (H:Hp) (Q:VK),Inv X a Z H s->t Z H Q->wpAny (model X.prog X.w) X.A (eval e X.env) (EP X a Z Q) X.xe s
def PT(X:Cx)(e:gB)(t:TT):Prop:=
 ∀(a:t_ (Db×Obj)) (s:On) (Z:St) (H:Hp) (Q:Bool->Hp->Prop),Inv X a Z H s->t Z H Q->wpAny (model X.prog X.w) X.A (isTrue e X.env (eval e X.env)) (TP X a Z Q) X.xe s
def PW(X:Cx)(e:gB)(t:TT):Prop:=
 ∀(a:Sem Ev) (b:t_ (Db×Obj)) (s:On) (Z:St) (H:Hp) (Q:Bool->Hp->Prop),Inv X b Z H s->t Z H Q->wpAny (model X.prog X.w) X.A (isTrue e X.env a) (TP X b Z Q) X.xe s
theorem PW.pt{X:Cx}{e:gB}{t:TT}(h:PW X e t):PT X e t:=h _
def PA(X:Cx)(b:t_ gB)(t:TA):Prop:=
 ∀(pos:Pos) (a:t_ (Db×Obj)) (s:On) (Z:St) (H:Hp) (Q:t_ V->Hp->Prop),Inv X a Z H s->t Z H Q->wpAny (model X.prog X.w) X.A (spliced (backTo pos (starEach b X.env))) (AP X a Z Q) X.xe s
def PS(X:Cx)(b:gG)(t:TS):Prop:=
 ∀(a:t_ (Db×Obj)) (s:On) (Z:St) (H:Hp) (D:Ends),Inv X a Z H s->t D Z H->wpAny (model X.prog X.w) X.A (exec b X.env) (SP X a D) X.xe s
def PSs(X:Cx)(b:t_ gG)(t:TS):Prop:=
 ∀(a:t_ (Db×Obj)) (s:On) (Z:St) (H:Hp) (D:Ends),Inv X a Z H s->t D Z H->wpAny (model X.prog X.w) X.A (execs b X.env) (SP X a D) X.xe s
theorem thn{b:Type}{t:Sem b}{Q c:b->On->Prop}{M:Model}{A:gS}{E:Ev->On->Prop}{s:On}(h:wpAny M A t Q E s)(d:∀a s,Q a s->c a s):wpAny M A t c E s:=gU h d λ_ _ x=>x
section
variable {X:Cx}
def BN(i:Nat):TE:=λZ H Q=>∃v,Z[i]?=P3 (P3 v)/\Q v H
def tC(v:V):TE:=λ_ H Q=>Q v H
theorem Ea{i:Nat}{x:Str}{pos:Pos}(k:X.N[i]?=P3 x)(n:Te X.env.scope x)(f:(x==("__debug__":Str))=s_:=by decide)(g:(x==("__classdict__":Str))=s_:=by decide):PE X (.Name x pos) (BN i):=by
 intro t s Z H Q I h;obtain⟨v,e,h⟩:=h;obtain⟨m,o,p⟩:=I.loc;obtain⟨u,r,l⟩:=p i x v k e n;have b:EP X _ Z Q u s:=⟨v,H,I,r,h⟩
 rcases l with⟨d,q⟩|⟨d,c,j,a⟩
 ·exact wpAny_Name (wpAny_loadName_local I.ok.kind d o q b) f
 ·rcases d with d|d
  ·exact wpAny_Name (wpAny_loadName_cell I.ok.kind d j a b) f
  ·exact wpAny_Name (wpAny_loadName_free I.ok.kind d j a b g) f
theorem A0{i j pos}:PE X (.Constant (.int i) j pos) (tC (.int i)):=λ_ _ _ H _ I h=>wpAny_Constant_int ⟨.int i,H,I.tok _,⟨_,rfl⟩,h⟩
theorem b_{b j pos}:PE X (.Constant (.bool b) j pos) (tC (.bl b)):=λ_ _ _ H _ I h=>Constant_bool ⟨.bl b,H,I,rfl,h⟩
theorem KQ{j pos}:PE X (.Constant .none j pos) (tC .non):=λ_ _ _ H _ I h=>Constant_none ⟨.non,H,I,rfl,h⟩
theorem GY{x j pos}:PE X (.Constant (.str x) j pos) (tC (.str x)):=λ_ _ _ H _ I h=>Calls.Constant_str ⟨.str x,H,I.tok _,⟨_,rfl⟩,h⟩
def Gl(X:Cx)(x:Str):Prop:=X.env.kindOf x=P3 .globalImplicit
theorem Ee{E:Ev->On->Prop}{a:t_ (Db×Obj)}{s:On}{Z:St}{H:Hp}{x:Str}{u:Ev}{pos:Pos}{Q:Ev->On->Prop}(I:Inv X a Z H s)(b:Gl X x)(c:X.mg x=P3 u)(h:Q u s)
  (d:(x==("__debug__":Str))=s_:=by decide):wpAny (model X.prog X.w) X.A (eval (.Name x pos) X.env) Q E s:=
 mT I.ok.kind b (Calls.loadGlobal_global (by rw[I.ok.glob]; exact I.mod.glob.keeps I.bk) c h) d
theorem DJ{E:Ev->On->Prop}{a:t_ (Db×Obj)}{s:On}{Z:St}{H:Hp}{x:Str}{u:Ev}{pos:Pos}{Q:Ev->On->Prop}(I:Inv X a Z H s)(b:Gl X x)(c:X.mg x=q_)(d:bootBuiltins x=P3 u)(h:Q u s)
  (e:x ≠ "__name__":=by decide) (f:(x==("__debug__":Str))=s_:=by decide):wpAny (model X.prog X.w) X.A (eval (.Name x pos) X.env) Q E s:=by
 obtain⟨j,g,i⟩:=I.mod.blt;exact mT I.ok.kind b (Calls.loadGlobal_builtin (by rw[I.ok.glob]; exact I.mod.glob.keeps I.bk) c (by rw[I.ok.blt]; exact g.keeps I.bk) ((i x e).trans d) h) f
theorem Mi{x:Str}{v:V}{u:Ev}{pos:Pos}(a:Gl X x)(b:X.mg x=P3 u)(r:RelV v u)(c:(x==("__debug__":Str))=s_:=by decide):PE X (.Name x pos) (tC v):=
 λ_ _ _ H _ I h=>Ee I a b ⟨v,H,I,r,h⟩ c
theorem Q9{x:Str}{v:V}{u:Ev}{pos:Pos}(a:Gl X x)(b:X.mg x=q_)(c:bootBuiltins x=P3 u)(r:RelV v u)(d:x ≠ "__name__":=by decide)(e:(x==("__debug__":Str))=s_:=by decide):PE X (.Name x pos) (tC v):=
 λ_ _ _ H _ I h=>DJ I a b c ⟨v,H,I,r,h⟩ d e
variable {a b:Expr}{ta tb:TE}{pos:Pos}
def tB(t:TE):TT:=λZ H Q=>t Z H λx H1=>∃c,x=.bl c/\Q c H1
theorem Zk{e:gB}{t:TE}(h:PE X e t)(f:∀c,isTrue e X.env c=(do let v ←c; standAt e.pos; holding [v] (truthy v)):=by intro _; rfl):PT X e (tB t):=by
 intro l s Z H Q I g;refine isTrue_plain (thn (h _ s Z H _ I g) λv m ⟨x,H1,i,j,k⟩=>?_) (f _);obtain⟨d,rfl,q⟩:=k;cases j;exact jC ⟨H1,i,q⟩
variable {tA tB':TT}{rest:t_ Expr}
def bX(t u:TT):TT:=λZ H Q=>t Z H λc H1=>if c=r_ then u Z H1 Q else Q s_ H1
def fL(t u:TT):TT:=λZ H Q=>t Z H λc H1=>if c=r_ then Q r_ H1 else u Z H1 Q
def dW(t:TT):TT:=λZ H Q=>t Z H λc H1=>Q (!c) H1
theorem Mf(d:PT X a tA):PW X (.BoolOp .And [a] pos) tA:=by
 intro f g s Z H Q I h;refine isTrue_and (thn (d _ s Z H Q I h) λc i e=>?_);cases c with
 |true=>exact isTrue_and_nil e
 |false=>exact e
theorem Uy(d:PT X a tA):PW X (.BoolOp .Or [a] pos) tA:=by
 intro f g s Z H Q I h;refine isTrue_or (thn (d _ s Z H Q I h) λc i e=>?_);cases c with
 |false=>exact isTrue_or_nil e
 |true=>exact e
theorem P2(d:PT X a tA)(e:PW X (.BoolOp .And (b::rest) pos) tB'):PW X (.BoolOp .And (a::b::rest) pos) (bX tA tB'):=by
 intro f k s Z H Q I h;refine isTrue_and (thn (d _ s Z H _ I h) λc g ⟨H1,i,j⟩=>?_);cases c with
 |true=>exact e f _ g Z H1 Q i j
 |false=>assumption
theorem Yv(d:PT X a tA)(e:PW X (.BoolOp .Or (b::rest) pos) tB'):PW X (.BoolOp .Or (a::b::rest) pos) (fL tA tB'):=by
 intro f k s Z H Q I h;refine isTrue_or (thn (d _ s Z H _ I h) λc g ⟨H1,i,j⟩=>?_);cases c with
 |true=>assumption
 |false=>exact e f _ g Z H1 Q i j
theorem Zl(c:PT X a tA):PT X (.UnaryOp .Not a pos) (dW tA):=λd s Z H Q I h=>isTrue_not (c _ s Z H _ I h)
def bW(ta tb:TE):TE:=λZ H Q=>ta Z H λx H1=>∃c,x=.bl c/\if c=r_ then tb Z H1 Q else Q (.bl s_) H1
def bP(ta:TE):TE:=λZ H Q=>ta Z H λx H1=>∃c,x=.bl c/\Q (.bl (!c)) H1
theorem Zs(f:PE X a ta)(g:PE X (.BoolOp .And (b::rest) pos) tb):PE X (.BoolOp .And (a::b::rest) pos) (bW ta tb):=by
 intro k s Z H Q I h;refine BoolOp_and (thn (f _ s Z H _ I h) λv i ⟨x,H1,e,j,d⟩=>?_);obtain⟨c,rfl,d⟩:=d;cases j;refine jC ?_;cases c with
 |true=>exact g _ i Z H1 Q e d
 |false=>exact⟨.bl _,H1,e,rfl,d⟩
theorem Zq(e:PE X a ta):PE X (.UnaryOp .Not a pos) (bP ta):=by
 intro i s Z H Q I h;refine UnaryOp_ (thn (e _ s Z H _ I h) λv j ⟨x,H1,f,g,d⟩=>?_);obtain⟨c,rfl,d⟩:=d;cases g;exact not_of (jC ⟨.bl _,H1,f,rfl,d⟩)
def fM(t:TT)(ta tb:TE):TE:=λZ H Q=>t Z H λc H1=>if c=r_ then ta Z H1 Q else tb Z H1 Q
theorem OM{c:gB}(i:PT X c tA)(j:PE X a ta)(k:PE X b tb):PE X (.IfExp c a b pos) (fM tA ta tb):=by
 intro l s Z H Q I h;refine wpAny_IfExp (thn (i _ s Z H _ I h) λd e ⟨H1,f,g⟩=>?_);cases d with
 |true=>exact j _ e Z H1 Q f g
 |false=>exact k _ e Z H1 Q f g
end
def SqL(K:Frag)(H:Hp)(a:Db)(c:t_ V):Prop:=
 Rd H a (.lst c) \/
  ∃(o:Obj) (b:Array Ev) (n:Nat),K.lookup a=P3 o/\o.cls=.type "list"/\o.dict=q_/\o.data=.seq b n/\b.size<=sizeLine/\Vals c b.toList
def SqT(K:Frag)(H:Hp)(a:Db)(c:t_ V):Prop:=
 Rd H a (.tup c) \/
  ∃(o:Obj) (b:Array Ev) (n:Nat),K.lookup a=P3 o/\o.cls=.type "tuple"/\o.data=.seq b n/\b.size<=sizeLine/\Vals c b.toList
def eM:Ev->u_ V
 |.none=>P3 .non
 |.bool b=>P3 (.bl b)
 |.int i _=>P3 (.int i)
 |.str x _=>P3 (.str x)
 |.bytes b _=>P3 (.byt b)
 |.float b _=>P3 (.flt b)
 |.ref a=>P3 (.ref a)
 |.type n=>P3 (.ty n)
 |_=>q_
theorem RelV.abs{x:V}{u:Ev}(r:RelV x u):eM u=P3 x:=by
 cases x with
 |non=>cases r; rfl
 |bl _=>cases r; rfl
 |int _=>obtain⟨t,rfl⟩:=r; rfl
 |str _=>obtain⟨t,rfl⟩:=r; rfl
 |byt _=>obtain⟨t,rfl⟩:=r; rfl
 |flt _=>obtain⟨t,rfl⟩:=r; rfl
 |ref _=>cases r; rfl
 |ty _=>cases r; rfl
theorem RelV.inj{x y:V}{u:Ev}(r:RelV x u)(q:RelV y u):x=y:=ft (r.abs.symm.trans q.abs)
theorem Vals.inj:∀{a b:t_ V}{c:t_ Ev},Vals a c->Vals b c->a=b
 |_,_,_,.nil,.nil=>rfl
 |_,_,_,.cons r t,.cons d e=>by rw[r.inj d,Vals.inj t e]
section
variable {X:Cx}{zH:t_ (Addr×Obj)}{Z:St}{H:Hp}{s:Shared}{a:Addr}{xs ys:t_ V}
theorem SqL.of{K:Frag}(h:H a=P3 (.lst xs)):SqL K H a xs:=.inl (.inl h)
theorem SqT.of{K:Frag}(h:H a=P3 (.tup xs)):SqT K H a xs:=.inl (.inl h)
theorem Inv.list(I:Inv X zH Z H s)(h:SqL X.K H a xs):∃b:t_ Ev,Vals xs b/\PlainL s.heap a b.toArray/\xs.length<=sizeLine:=by
 rcases h with h|⟨o,b,n,c,d,f,g,i,r⟩
 ·obtain⟨z,b,n,r,e⟩:=h.ok I.hok
  exact⟨_,r,⟨_,n,e,rfl,rfl,rfl⟩,z⟩
 ·refine⟨_,r,⟨o,n,I.kIn a o c,d,f,by omega⟩,?_⟩
  have e:=r.length
  grind
theorem Inv.tuple(I:Inv X zH Z H s)(h:SqT X.K H a xs):∃b:t_ Ev,Vals xs b/\IsTup s.heap a b.toArray/\xs.length<=sizeLine:=by
 rcases h with h|⟨o,b,n,c,d,f,g,r⟩
 ·obtain⟨z,b,r,p⟩:=h.ok I.hok
  exact⟨_,r,p.tup,z⟩
 ·refine⟨_,r,⟨o,I.kIn a o c,d,n,by omega⟩,?_⟩
  have e:=r.length
  grind
theorem Inv.list_inj(I:Inv X zH Z H s)(h:SqL X.K H a xs)(f:SqL X.K H a ys):xs=ys:=by
 obtain⟨c,r,⟨o,n,e,_,_,d⟩,_⟩:=I.list h;obtain⟨b,g,⟨i,j,k,_,_,l⟩,_⟩:=I.list f
 have:c=b:=by grind
 subst this;exact r.inj g
theorem Inv.tuple_inj(I:Inv X zH Z H s)(h:SqT X.K H a xs)(f:SqT X.K H a ys):xs=ys:=by
 obtain⟨c,r,⟨o,e,_,n,d⟩,_⟩:=I.tuple h;obtain⟨b,g,⟨i,j,_,k,l⟩,_⟩:=I.tuple f
 have:c=b:=by grind
 subst this;exact r.inj g
end
abbrev Cx.wish(X:Cx)(E:Ev->On->Prop):Cx:={X with xe:=E}
abbrev Cx.nox(X:Cx):Cx:=X.wish λ_ _=>False
theorem Cx.Ok.wish{X:Cx}(ok:X.Ok)(E:Ev->On->Prop):(X.wish E).Ok:=
 ⟨ok.mod,ok.kind,ok.glob,ok.blt,ok.above,ok.inj,ok.has,ok.cab,ok.hd,ok.frames,ok.stk,ok.exf,ok.bs,ok.bsz,ok.noex,ok.exfs,ok.funs,ok.frf⟩
theorem Cx.Ok.unwish{X:Cx}{E:Ev->On->Prop}(ok:(X.wish E).Ok):X.Ok:=
 ⟨ok.mod,ok.kind,ok.glob,ok.blt,ok.above,ok.inj,ok.has,ok.cab,ok.hd,ok.frames,ok.stk,ok.exf,ok.bs,ok.bsz,ok.noex,ok.exfs,ok.funs,ok.frf⟩
section
variable {X:Cx}{zH:t_ (Addr×Obj)}{Z:St}{H:Hp}{s:Shared}{E:Value->Shared->Prop}
theorem Inv.wish(I:Inv X zH Z H s)(E:Ev->On->Prop):Inv (X.wish E) zH Z H s:=⟨I.ok.wish E,I.os,I.bare,I.base,I.loc,I.cell,I.free,I.freeC,I.pin,I.hok,I.len⟩
theorem Inv.unwish(I:Inv (X.wish E) zH Z H s):Inv X zH Z H s:=⟨I.ok.unwish,I.os,I.bare,I.base,I.loc,I.cell,I.free,I.freeC,I.pin,I.hok,I.len⟩
theorem SP.unwish{D:Ends}{f:Flow}{c:On}(h:SP (X.wish E) zH D f c):SP X zH D f c:=by
 cases f with
 |next=>obtain⟨b,a,I,q⟩:=h; exact⟨_,a,I.unwish,q⟩
 |brk=>obtain⟨b,a,I,q⟩:=h; exact⟨_,a,I.unwish,q⟩
 |cont=>obtain⟨b,a,I,q⟩:=h; exact⟨_,a,I.unwish,q⟩
 |ret u=>obtain⟨v,b,a,I,r,q⟩:=h; exact⟨v,_,a,I.unwish,r,q⟩
theorem PSs.nox{a:t_ gG}{t:TS}(h:PSs X.nox a t):PSs X a t:=λzH s Z H D I b=>
 gU (h _ s Z H D (I.wish _) b) (λ_ _ q=>q.unwish) λ_ _ z=>iP z
end
section
variable {X:Cx}{st:Stmt}{rest:t_ Stmt}{t u:TS}{e:Expr}{te:TE}{pos:Pos}
def Yh:TS:=λD Z H=>D.nx Z H
def Pj(t u:TS):TS:=λD Z H=>t {D with nx:=u D} Z H
theorem G4:PSs X [] Yh:=λ_ _ Z H _ I h=>jp ⟨Z,H,I,h⟩
theorem Az(a:PS X st t)(b:PSs X rest u):PSs X (st::rest) (Pj t u):=by
 intro g s Z H D I h;refine mo (thn (a _ s Z H _ I h) λf c q=>?_);cases f with
 |next=>
  obtain⟨i,d,e,q⟩:=q;exact b _ c _ d D e q
 |ret v=>exact q
 |brk=>exact q
 |cont=>exact q
theorem BQ(a:PS X st t):PSs X [st] t:=by
 intro b s Z H D I h;refine mo (thn (a _ s Z H D I h) λf c q=>?_);cases f with
 |next=>exact jp q
 |ret v=>exact q
 |brk=>exact q
 |cont=>exact q
theorem Inv.quiet{a:t_ (Db×Obj)}{Z:St}{H:Hp}{s:On}(I:Inv X a Z H s):interactive X.env=s_:=by simp[interactive,I.ok.kind]
def bT(te:TE):TS:=λD Z H=>te Z H λ_ H1=>D.nx Z H1
theorem XJ(a:PE X e te)(b:swapsWith e q_ pos.line X.env=pure s_:=by rfl):PS X (.Expr e pos) (bT te):=λf s Z H D I h=>wpAny_Expr_any (thn (a _ s Z H _ I h) λv g ⟨x,H1,c,i,d⟩=>⟨Z,H1,c,d⟩) I.quiet b
def W0(te:TE):TS:=λD Z H=>te Z H D.rt
theorem FE(a:PE X e te):PS X (.Return (P3 e) pos) (W0 te):=λf s Z H D I h=>wpAny_Return_some (thn (a _ s Z H _ I h) λv g ⟨x,H1,b,c,d⟩=>⟨x,Z,H1,b,c,d⟩)
def bQ(c:TT)(t u:TS):TS:=λD Z H=>c Z H λb H1=>if b=r_ then t D Z H1 else u D Z H1
theorem Ln{c:gB}{a b:t_ gG}{e:TT}(j:PT X c e)(k:PSs X a t)(l:PSs X b u):PS X (.If c a b pos) (bQ e t u):=by
 intro m s Z H D I h;refine wpAny_If (thn (j _ s Z H _ I h) λd f ⟨H1,g,i⟩=>?_);cases d with
 |true=>exact k _ f Z H1 D g i
 |false=>exact l _ f Z H1 D g i
def ZX:TS:=λ_ _ _=>False
theorem SN{a:t_ gG}:PSs X a ZX:=λ_ _ _ _ _ _ h=>h.elim
end
abbrev TG:=V->St->Hp->(St->Hp->Prop)->Prop
abbrev av:=t_ V->St->Hp->(St->Hp->Prop)->Prop
def PG(X:Cx)(a:gB)(t:TG):Prop:=
 ∀(b:t_ (Db×Obj)) (s:On) (Z:St) (H:Hp) (v:V) (u:Ev) (Q:St->Hp->Prop),Inv X b Z H s->RelV v u->t v Z H Q->
  wpAny (model X.prog X.w) X.A (assign a X.env u) (λ_ e=>∃c d,Inv X b c d e/\Q c d) X.xe s
def cw(X:Cx)(f:t_ gB)(t:av):Prop:=
 ∀(a:t_ (Db×Obj)) (s:On) (Z:St) (H:Hp) (b:t_ V) (c:t_ Ev) (Q:St->Hp->Prop),Inv X a Z H s->Vals b c->t b Z H Q->
  wpAny (model X.prog X.w) X.A (assignInOrder ((assignEach f X.env).map (·.2)) c) (λ_ g=>∃d e,Inv X a d e g/\Q d e) X.xe s
abbrev ar:=V->V->V->Hp->(Hp->Prop)->Prop
def cr(X:Cx)(t:ar):Prop:=
 ∀(a:t_ (Db×Obj)) (s:On) (Z:St) (H:Hp) (o i v:V) (ov b u:Ev) (Q:Hp->Prop),Inv X a Z H s->RelV o ov->RelV i b->RelV v u->t o i v H Q->
  wpAny (model X.prog X.w) X.A (setItem ov b u) (λ_ d=>∃c,Inv X a Z c d/\Q c) X.xe s
abbrev dJ:=V->V->Hp->VK->Prop
def fA(X:Cx)(b:Operator)(t:dJ):Prop:=
 ∀(a:t_ (Db×Obj)) (s:On) (Z:St) (H:Hp) (x y:V) (v u:Ev) (Q:VK),Inv X a Z H s->RelV x v->RelV y u->t x y H Q->
  wpAny (model X.prog X.w) X.A (inplaceOp b v u) (EP X a Z Q) X.xe s
section
variable {X:Cx}{pos:Pos}
def Il(i:Nat):TG:=λv Z H Q=>Q (Z.set i (P3 v)) H
theorem Bv{i:Nat}{x:Str}(a:X.N.Nodup)(b:X.N[i]?=P3 x)(c:Loc X.env.scope x)(d:X.fn x=r_\/X.env.scope.names.lookup x=P3 .local:=by first|exact .inl rfl|exact .inr rfl|assumption):PG X (.Name x pos) (Il i):=λf s Z H v u Q I r h=>wpAny_assign_Name (Gy I a b c r (λg e=>⟨_,H,e,h⟩) d)
def d_:av:=λa Z H Q=>a=[]/\Q Z H
def cI(t:TG)(u:av):av:=λa Z H Q=>∃v r,a=v::r/\t v Z H λb c=>u r b c Q
theorem Mg:cw X [] d_:=by
 intro a s Z H b c Q I r h;obtain⟨e,h⟩:=h;exact assignInOrder_nil ⟨Z,H,I,h⟩
theorem DB{e:gB}{a:t_ gB}{t:TG}{u:av}(b:PG X e t)(c:cw X a u)
  (d:(assignEach (e::a) X.env).map (·.2)=assign e X.env::(assignEach a X.env).map (·.2):=by rfl):cw X (e::a) (cI t u):=by
 intro l s Z H m n Q I r h;obtain⟨v,o,f,h⟩:=h;subst f;cases r with
 |cons r g=>
  rw[d];exact assignInOrder_cons (thn (b _ s Z H _ _ _ I r h) λ_ i ⟨_,H1,j,k⟩=>c _ i _ H1 _ _ Q j g k)
def d9(K:Frag)(n:Nat)(t:av):TG:=λv Z H Q=>∃a b,v=.ref a/\SqT K H a b/\b.length=n/\t b Z H Q
theorem P9{c:t_ gB}{k:Nat}{t:av}{n:Nat}(g:X.calm=r_)(h:cw X c t)
  (i:(assignEach c X.env).length=n:=by rfl) (d:(assignEach c X.env).findIdx? (·.1)=q_:=by rfl):PG X (.Tuple c k pos) (d9 X.K n t):=by
 intro z s Z H v u Q I r f;obtain⟨a,j,l,m,p,f⟩:=f;subst l;cases r;obtain⟨q,w,x,A⟩:=I.tuple m;exact assign_Tuple_tuple (I.ok.hd g) x (by simp[i,←p,w.length]) d λB y=>h _ _ Z H j _ Q (I.kept λb o e=>y b o (f_ (Tk e)) e) (by omega) f
def aI(to a:TE)(t:ar):TG:=λv Z H Q=>to Z H λo H1=>a Z H1 λi b=>t o i v b λc=>Q Z c
theorem GX{o i:gB}{to c:TE}{t:ar}(d:PE X o to)(e:PE X i c)(f:cr X t)
  (C:∀v,assign (.Subscript o i pos) X.env v=(do
   let a ←holding [v] (eval o X.env)
   let b ←holding [v,a] (eval i X.env)
   standAt pos
   holding [v,a,b] (setItem a b v)
   release [v,a,b] []):=by intro _; rfl):PG X (.Subscript o i pos) (aI to c t):=λD s Z H v u Q I r h=>Ch (gQ (thn (d _ s Z H _ I h) λa g ⟨x,H1,j,k,l⟩=>Ch (gQ (thn (e _ g Z H1 _ j l) λb m ⟨y,n,p,q,w⟩=>Ch (lB (Ch (gQ (thn (f _ m Z n x y v a b u _ p k q r w) λ_ E ⟨z,A,B⟩=>wpAny_release ⟨Z,z,A,B⟩))))))))
def Nx(a:TE)(g:TG):TS:=λD Z H=>a Z H λx H1=>g x Z H1 D.nx
theorem FG{a e:gB}{b:TE}{g:TG}(c:PE X e b)(d:PG X a g)(f:swapsWithSole [a] e pos.line X.env=pure s_:=by rfl)(i:swappedStores [a] e X.env=pure q_:=by rfl)
  (j:(assignEach [a] X.env).map (·.2)=[assign a X.env]:=by rfl):PS X (.Assign [a] e pos) (Nx b g):=by
 intro o s Z H D I h;refine wpAny_Assign_stores (thn (c _ s Z H _ I h) λv k ⟨x,H1,l,m,n⟩=>?_) f i;rw[j];exact thn (d _ k Z H1 x v _ l m n) λ_ p q=>q
theorem DA{i:Nat}{x:Str}{e:gB}{b:TE}{a:Pos}(c:X.N.Nodup)(d:X.N[i]?=P3 x)(f:Loc X.env.scope x)(g:PE X e b)(j:swapsWith e (P3 (.Name x a)) pos.line X.env=pure s_:=by rfl)(k:X.fn x=r_\/X.env.scope.names.lookup x=P3 .local:=by first|exact .inl rfl|exact .inr rfl|assumption):
  PS X (.Assign [.Name x a] e pos) (Nx b (Il i)):=λp s Z H D I h=>wpAny_Assign_Name (thn (g _ s Z H _ I h) λv q ⟨y,H1,l,m,n⟩=>Gy l c d f m (λr o=>⟨_,H1,o,n⟩) k) j
def dZ(i:Nat)(a:TE)(b:dJ):TS:=λD Z H=>∃x,Z[i]?=P3 (P3 x)/\a Z H λy H1=>b x y H1 λz c=>D.nx (Z.set i (P3 z)) c
theorem Zn{i:Nat}{x:Str}{e:gB}{q:TE}{j:Operator}{t:dJ}{d:Pos}(E:X.N.Nodup)(B:X.N[i]?=P3 x)(n:Loc X.env.scope x)(F:PE X e q)(G:fA X j t)(J:X.fn x=r_\/X.env.scope.names.lookup x=P3 .local:=by first|exact .inl rfl|exact .inr rfl|assumption):
  PS X (.AugAssign (.Name x d) j e pos) (dZ i q t):=by
 intro o s Z H D I h;obtain⟨v,K,h⟩:=h;obtain⟨m,L,M⟩:=I.loc;have p:Te X.env.scope x:=by rcases n with k|k; exact .inl k; exact .inr (.inl k)
 obtain⟨u,r,l⟩:=M i x v B K p;refine wpAny_AugAssign_Name ?_
 have C:wpAny (model X.prog X.w) X.A (eval e X.env) (λw f=>wpAny (model X.prog X.w) X.A (inplaceOp j u w) (λr g=>wpAny (model X.prog X.w) X.A (storeName X.env x r) (λ_=>SP X o D .next) X.xe g) X.xe f) X.xe s:=by
  refine thn (F o s Z H _ I h) λw O ⟨y,H1,P,Q,R⟩=>?_;refine thn (G o O Z H1 v y u w _ P r Q R) λz s2 ⟨zv,S,T,U,V⟩=>?_;exact Gy T E B n U (λs3 W=>⟨_,S,W,V⟩) J
 rcases l with⟨a,Y⟩|⟨a,c,hc,b⟩
 ·exact wpAny_loadName_local I.ok.kind a L Y C
 ·rcases a with a|a
  ·exact wpAny_loadName_cell I.ok.kind a hc b C
  ·rcases n with k|k
   ·have:X.env.scope.names.lookup x=P3 .free:=a
    rw[k]at this; cases this
   ·have:X.env.scope.names.lookup x=P3 .free:=a
    rw[k]at this; cases this
def fP(f:Int->Int->Int):dJ:=λx y H Q=>∃i j,x=.int i/\y=.int j/\Q (.int (f i j)) H
theorem aG:fA X .Add (fP λi j=>i+j):=by
 intro e s Z H x y v u Q I a b h;obtain⟨i,j,c,d,q⟩:=h;subst c; subst d
 obtain⟨t,rfl⟩:=a;obtain⟨f,rfl⟩:=b;exact iadd_int ⟨.int _,H,I.tok _,⟨_,rfl⟩,q⟩
end
section
variable {X:Cx}{pos:Pos}
def ZV(c:TT)(f:TS):TS:=λD Z H=>∃W:Nat->St->Hp->Prop,(∃m,W m Z H)/\∀m Z H,W m Z H->
 c Z H λb H1=>if b=r_ then ∃N:St->Hp->Prop,(∀a d,N a d->∃e,e<m/\W e a d)/\f {D with nx:=N,ct:=N,bk:=D.nx} Z H1 else D.nx Z H1
theorem U6{c:gB}{a:t_ gG}{t:TT}{u:TS}(x:PassesOwn (model X.prog X.w) X.A X.env X.xe)(F:PT X c t)(G:PSs X a u):PS X (.While c a [] pos) (ZV t u):=by
 intro l s Z H D I h;obtain⟨W,⟨J,K⟩,d⟩:=h;refine wpAny_While (codeAny_whileLoop (λn L=>∃y z,Inv X l y z L/\W n y z) ?_ J ⟨Z,H,I,K⟩);rintro n M ⟨i,H1,O,P⟩;refine jO x (thn (F l M i H1 _ O (d n i H1 P)) λb Q ⟨B,C,j⟩=>?_);cases b with
 | true=>
  obtain⟨N,E,j⟩:=j;rw[if_pos rfl];refine jO x (thn (G l Q i B _ C j) λf R k=>?_);cases f with
  |next=>
   obtain⟨e,g,m,o⟩:=k;obtain⟨p,q,r⟩:=E e g o;exact⟨p,q,e,g,m,r⟩
  |cont=>
   obtain⟨e,g,m,o⟩:=k;obtain⟨p,q,r⟩:=E e g o;exact⟨p,q,e,g,m,r⟩
  |brk=>exact k
  |ret v=>exact k
 |false=>
  rw[if_neg f6];exact jp ⟨i,B,C,j⟩
end
structure It where
 go:Nat->Hp->Prop
 yld:Nat->Hp->V->Hp->Prop
 stop:Nat->Hp->Prop
def GA(X:Cx)(a:t_ (Db×Obj))(H:Hp)(b:Db):Prop:=
 H b=q_/\b≠X.env.locals/\b∉X.fs/\(b∈X.ex\/X.s₀.heap.objs.size<=b)/\(∀x c,X.env.cells.lookup x=P3 c->c≠b)/\∀p∈X.pn++a,p.1≠b
theorem Inv.fpOk{X:Cx}{d:t_ (Db×Obj)}{Z:St}{H f:Hp}{s:On}{b:Db}(I:Inv X d Z H s)(a:s.heap.objs.size<=b)(g:f b=q_):GA X d f b:=by
 refine⟨g,i7 (f8 I.lt a),I.nofs a,.inr (gO I.sz a),λx c e z=>?_,λp h z=>?_⟩
 ·obtain⟨v,q⟩:=I.cell x c e
  exact absurd (f8 q.lt (by rw[z]; exact a)) (gY _)
 ·exact absurd (f8 (Tk (I.pin p h).1) (by rw[z]; exact a)) (gY _)
structure Turn (P:gD) (w:gK) (K:Frag) (tg:gB) (J:It) (fp:List Db) (it:Db) (tn:Nat->fu->Prop):Prop where
 mem:it∈fp
 obj:∀i h,tn i h->∀b∈fp,∃o,h.get? b=P3 o/\∀v,o.data≠.cell v
 keep:∀i h h',tn i h->(∀b∈fp,∀o,h.get? b=P3 o->h'.get? b=P3 o)->tn i h'
 item:∀(X:Cx),X.prog=P->X.w=w->X.K=K->X.calm=r_->∀(i:Nat) (zH:List (Db×Obj)) (s:On) (Z:St) (H:Hp) (E:Ev->On->Prop),Inv X zH Z H s->(∀b∈fp,GA X zH H b)->tn i s.heap->J.go i H->
  wpAny (model P w) X.A (pyNext (.ref it)) (λr s1=>∃u,r=P3 u /\
   wpAny (model P w) X.A (letOwnedTupleGo tg (.ref it) u) (λ_ s2=>∃x H',Inv X zH Z H' s2/\RelV x u/\J.yld i H x H'/\tn (i+1) s2.heap/\∀b∈fp,H' b=q_) E s1) E s
 done:∀(X:Cx),X.prog=P->X.w=w->X.K=K->X.calm=r_->∀(i:Nat) (zH:List (Db×Obj)) (s:On) (Z:St) (H:Hp) (E:Ev->On->Prop),Inv X zH Z H s->(∀b∈fp,GA X zH H b)->tn i s.heap->J.stop i H->
  wpAny (model P w) X.A (pyNext (.ref it)) (λr s1=>r=q_/\Inv X zH Z H s1) E s
 self:∀(A:gS) (i:Nat) (s:On) (Q:Ev->On->Prop) (E:Ev->On->Prop),tn i s.heap->Q (.ref it) s->wpAny (model P w) A (pyIter (.ref it)) Q E s
abbrev TI:=St->Hp->(It->Hp->Prop)->Prop
def fB(X:Cx)(d:t_ (Db×Obj))(Z:St)(i:gB)(R:It->Hp->Prop)(a:Ev)(e:On):Prop:=
 ∃(f:Db) (g:t_ Db) (h:Nat->fu->Prop) (J:It) (c:Hp),a=.ref f/\Inv X d Z c e/\Turn X.prog X.w X.K i J g f h/\h 0 e.heap/\(∀b∈g,GA X d c b)/\R J c
def PI(X:Cx)(c a:gB)(wi:TI):Prop:=
 ∀(b:t_ (Db×Obj)) (s:On) (Z:St) (H:Hp) (R:It->Hp->Prop),Inv X b Z H s->wi Z H R->
  wpAny (model X.prog X.w) X.A (eval a X.env) (λv d=>wpAny (model X.prog X.w) X.A (pyIter v) (fB X b Z c R) X.xe d) X.xe s
theorem RJ {M:Model}{A:gS}{E:Ev → On → Prop}{s:On}{b:gB}{c:Db}{u:Ev}{o:Obj}{n:String}{d:Array Ev}{Q:Unit → On → Prop} (e:s.heap.get? c=P3 o) (f:o.cls=.type n) (g:o.data=.fields d)
    (h:["enumerate","zip","dict_itemiterator","dict_reverseitemiterator","odict_iterator","itertools.zip_longest","itertools.pairwise"].contains n=s_) (a:Q () s):wpAny M A (letOwnedTupleGo b (.ref c) u) Q E s:=by
  unfold letOwnedTupleGo
  cases b <;>first
    |exact Op a
    |(cases u <;>first
        |exact Op a
        | (refine Ch (wpAny_load e ?_)
           rw[f,g];show wpAny M A (if(["enumerate","zip","dict_itemiterator","dict_reverseitemiterator","odict_iterator","itertools.zip_longest","itertools.pairwise"].contains n && d[0]?==P3 (rawInt _))=r_ then _ else _) Q E s;rw[if_neg (by grind)];exact Op a))
def Wa(K:Frag)(a:Db):It:=
 ⟨λi H=>∃b x,SqL K H a b/\b[i]?=P3 x,λi H x c=>c=H/\∀b,SqL K H a b->b[i]?=P3 x,λi H=>∃b,SqL K H a b/\b.length<=i⟩
def Tq(K:Frag)(a:Db):It:=
 ⟨λi H=>∃b x,SqT K H a b/\b[i]?=P3 x,λi H x c=>c=H/\∀b,SqT K H a b->b[i]?=P3 x,λi H=>∃b,SqT K H a b/\b.length<=i⟩
def ZE(a:Int)(n:Nat):It:=⟨λi _=>i<n,λi H x b=>b=H/\x=.int (a+i),λi _=>n<=i⟩
theorem Rz{P:gD}{w:gK}{K:Frag}{Q:gB}(a g:Db):Turn P w K Q (Wa K a) [g] g (λi h=>h.IsListIter g a i) where
 mem:=by simp
 obj:=λi h f b j=>by
  have e:b=g:=by simpa using j
  subst e;obtain⟨o,e,c,d⟩:=f;exact⟨o,e,λv z=>by rw[d]at z; cases z⟩
 keep:=λi h m f k=>f.at λo e=>k g (by simp) o e
 item:=by
  intro X r t y N i O s Z H E I n f A;subst r t y;obtain⟨R,x,q,B⟩:=A;obtain⟨C,D,p,S⟩:=I.list q;obtain⟨u,T,U⟩:=D.get B;obtain⟨F,G,V,J,L,M⟩:=n g (by simp);refine wpAny_pyNext_list_item f p.isList (x:=u) (by simpa using T) λm l W=>?_;have Y:Inv X O Z H {s with heap:=m}:=I.turned (t':=s.toks) (λb o j e=>(W.2 b j).trans e) F G J L M;obtain⟨o,e,c,d⟩:=id l;exact⟨u,rfl,RJ (s:={s with heap:=m}) e c d (by decide) ⟨x,H,Y,U,⟨rfl,λys hy=>by rw[I.list_inj hy q]; exact B⟩,l,λb j=>(n b j).1⟩⟩
 done:=by
  intro X r t y N i O s Z H E I n f A;subst r t y;obtain⟨R,q,B⟩:=A;obtain⟨C,D,p,S⟩:=I.list q;obtain⟨F,G,V,J,L,M⟩:=n g (by simp);have hl:=D.length;exact wpAny_pyNext_list_end (I.ok.hd N) f p.isList (by simp; omega) λm eb=>⟨rfl,I.turned (t':=s.toks) (λb o j e=>eb b o j e) F G J L M⟩
 self:=λ_ _ _ _ _ f h=>wpAny_pyIter_listiter f h
theorem Jv{P:gD}{w:gK}{K:Frag}{Q:gB}(a g:Db):Turn P w K Q (Tq K a) [g] g (λi h=>h.IsTupleIter g a i) where
 mem:=by simp
 obj:=λi h f b j=>by
  have e:b=g:=by simpa using j
  subst e;obtain⟨o,e,c,d⟩:=f;exact⟨o,e,λv z=>by rw[d]at z; cases z⟩
 keep:=λi h n f k=>f.at λo e=>k g (by simp) o e
 item:=by
  intro X t y A N i O s Z H E I q f B;subst t y A;obtain⟨R,x,r,C⟩:=B;obtain⟨l,D,p,S⟩:=I.tuple r;obtain⟨u,T,U⟩:=D.get C;obtain⟨F,G,V,J,L,M⟩:=q g (by simp);refine wpAny_pyNext_tuple_item f (show s.heap.IsTuple a l.toArray from p) (x:=u) (by simpa using T) λn m W=>?_;have Y:Inv X O Z H {s with heap:=n}:=I.turned (t':=s.toks) (λb o j e=>(W.2 b j).trans e) F G J L M;obtain⟨o,e,c,d⟩:=id m;exact⟨u,rfl,RJ (s:={s with heap:=n}) e c d (by decide) ⟨x,H,Y,U,⟨rfl,λys hy=>by rw[I.tuple_inj hy r]; exact C⟩,m,λb j=>(q b j).1⟩⟩
 done:=by
  intro X t y A N i O s Z H E I q f B;subst t y A;obtain⟨R,r,C⟩:=B;obtain⟨l,D,p,S⟩:=I.tuple r;obtain⟨F,G,V,J,L,M⟩:=q g (by simp);have hl:=D.length;exact wpAny_pyNext_tuple_end (I.ok.hd N) f (show s.heap.IsTuple a l.toArray from p) (by simp; omega) λn eb=>⟨rfl,I.turned (t':=s.toks) (λb o j e=>eb b o j e) F G J L M⟩
 self:=λ_ _ _ _ _ f h=>wpAny_pyIter_tupleiter f h
theorem Pg{P:gD}{w:gK}{K:Frag}{F:gB}(c:Db)(g:Int)(n:Nat):Turn P w K F (ZE g n) [c] c (λi h=>IsRangeIter h c (g+(i:Nat)*1) ((n:Int) - (i:Nat)) 1) where
 mem:=by simp
 obj:=λi h a b d=>by
  simp_all
 keep:=λi h j a k=>k c (by simp) _ a
 item:=by
  intro X m p q r i C s Z H E I l a u;subst m p q;obtain⟨x,y,G,z,A,B⟩:=l c (by simp);have W:=Walks.range (prog:=X.prog) (w:=X.w) (I.ok.hd r) c g 1 n;refine W.item i s _ _ u a λv j D J f L=>?_;obtain⟨t,rfl⟩:=J;have M:Inv X C Z H {s with heap:=j,toks:=D}:=I.turned (λb o d e=>L b o (by simpa using d) e) x y z A B;refine⟨_,rfl,RJ (s:={s with heap:=j,toks:=D}) (n:="range_iterator") f rfl rfl (by decide) ⟨.int (g+i),H,M,⟨t,?_⟩,⟨rfl,rfl⟩,f,λb d=>(l b d).1⟩⟩;rw[Int.mul_one]
 done:=by
  intro X m p q r i C s Z H E I l a u;subst m p q;obtain⟨x,y,G,z,A,B⟩:=l c (by simp);exact wpAny_pyNext_range_end (I.ok.hd r) a (by have:n<=i:=u; omega) λj N=>⟨rfl,I.turned (t':=s.toks) (λb o d e=>N b o d e) x y z A B⟩
 self:=λ_ _ _ _ _ a h=>wpAny_pyIter_rangeiter a h
section
variable {X:Cx}{tg:Expr}
def d8(K:Frag)(b:TE):TI:=λZ H R=>b Z H λx H1=>∃a,x=.ref a/\(∃c,SqT K H1 a c)/\R (Tq K a) H1
theorem U8{l:gB}{d:TE}(f:PE X l d):PI X tg l (d8 X.K d):=by
 intro n s Z H R I h;refine thn (f _ s Z H _ I h) λv g ⟨x,H1,c,i,j⟩=>?_;obtain⟨a,e,⟨r,k⟩,q⟩:=j;subst e;cases i;obtain⟨m,t,p,u⟩:=c.tuple k;refine ie (p) ?_;refine⟨_,_,_,_,H1,rfl,c.kept λb o e=>No _ e,Jv a _,⟨_,TW _ rfl,rfl,rfl⟩,λb w=>?_,q⟩;have e:b=g.heap.objs.size:=by grind
 subst e;exact c.fpOk (Re _) (c.hok.fresh (Re _))
theorem OG{d:t_ (Db×Obj)}{Z:St}{H:Hp}{s:On}{R:It->Hp->Prop}{E:Ev->On->Prop}{a c:Int}{t u v:Tok}{f:Nat}(I:Inv X d Z H s)(h:-(2 ^ 62)<=a)(i:a<2 ^ 62)(j:-(2 ^ 62)<=c)(k:c<2 ^ 62)
  (q:R (ZE a (c - a).toNat) H):wpAny (model X.prog X.w) X.A (pyIter (.ref s.heap.objs.size)) (fB X d Z tg R) E {s with heap:=s.heap.push {cls:=.type "range",data:=.fields #[.int a t,.int c u,.int 1 v]},toks:=f}:=by
 refine wpAny_pyIter_range (IsRange.new ..) (small_one h i j k) ?_;have g:Inv X d Z H {s with heap:=s.heap.push {cls:=.type "range",data:=.fields #[.int a t,.int c u,.int 1 v]},toks:=f}:=I.kept λb o e=>No _ e
 refine⟨(s.heap.push {cls:=.type "range",data:=.fields #[.int a t,.int c u,.int 1 v]}).objs.size,[(s.heap.push {cls:=.type "range",data:=.fields #[.int a t,.int c u,.int 1 v]}).objs.size],_,_,H,rfl,
  g.kept (t':=f) λb o e=>No _ e,Pg _ a (c - a).toNat,?_,λb l=>?_,q⟩
 ·have m:a+((0:Nat):Int)*1=a:=by simp
  have n:(((c - a).toNat:Nat):Int) - ((0:Nat):Int)=Builtin.Range.rangeSize a c 1:=by rw[rangeSize_one]; grind
  show IsRangeIter _ _ (a+((0:Nat):Int)*1) ((((c - a).toNat:Nat):Int) - ((0:Nat):Int)) 1;rw[m,n];exact TW _ rfl
 ·have e:b=(s.heap.push {cls:=.type "range",data:=.fields #[.int a t,.int c u,.int 1 v]}).objs.size:=by simpa using l
  subst e;exact g.fpOk (Re _) (g.hok.fresh (Re _))
def cG(a:TA):TI:=λZ H R=>a Z H λb H1=>∃j:Int,b=[.int j]/\-(2 ^ 62)<=j/\j<2 ^ 62/\R (ZE 0 j.toNat) H1
def cF(a:TA):TI:=λZ H R=>a Z H λb H1=>∃i j:Int,b=[.int i,.int j]/\(-(2 ^ 62)<=i/\i<2 ^ 62/\-(2 ^ 62)<=j/\j<2 ^ 62)/\R (ZE i (j - i).toNat) H1
theorem Cz{a:gB}{c:TA}{p pos:Pos}(d:Gl X "range")(f:X.mg "range"=q_)(g:PA X [a] c)(i:starEach [a] X.env=[(s_,eval a X.env)]:=by rfl):PI X tg (.Call (.Name "range" p) [a] [] pos) (cG c):=by
 intro o s Z H R I h;refine Call_ (DJ I d f boot_range (hU (thn (g _ _ s Z H _ I h) λu v ⟨w,H1,k,l,b⟩=>?_) i rfl));obtain⟨j,e,b,m,q⟩:=b;subst e;cases l with
 |cons r n=>
  cases n;obtain⟨t,rfl⟩:=r;exact call_range_1 (OG k (by omega) (by omega) b m (by simpa using q))
theorem SU{a b:gB}{g:TA}{p pos:Pos}(k:Gl X "range")(l:X.mg "range"=q_)(m:PA X [a,b] g)(n:starEach [a,b] X.env=[(s_,eval a X.env),(s_,eval b X.env)]:=by rfl)(c:starEach [b] X.env=[(s_,eval b X.env)]:=by rfl):
  PI X tg (.Call (.Name "range" p) [a,b] [] pos) (cF g):=by
 intro z s Z H R I h;refine Call_ (DJ I k l boot_range (hU (thn (m _ _ s Z H _ I h) λA B ⟨C,H1,o,u,d⟩=>?_) (by rw[n,c]) (by rw[c]; rfl)));obtain⟨i,j,e,⟨d,v,w,x⟩,q⟩:=d;subst e;cases u with
 | cons r f=>
  cases f with
  |cons y f=>
   cases f;obtain⟨t,rfl⟩:=r;obtain⟨D,rfl⟩:=y;exact call_range_2 (OG o d v w x q)
def bS(wi:TI)(g:TG)(d:TS):TS:=λD Z H=>wi Z H λJ H1=>∃W:Nat->Nat->St->Hp->Prop,(∃m,W 0 m Z H1)/\∀i m Z H,W i m Z H->
 (J.stop i H/\D.nx Z H)\/(J.go i H/\∃N:St->Hp->Prop,(∀b a,N b a->∃c,c<m/\W (i+1) c b a)/\∀x a,J.yld i H x a->g x Z a λe f=>d {D with nx:=N,ct:=N,bk:=D.nx} e f)
def KL(a:t_ Db)(h:fu):t_ (Db×Obj):=a.filterMap λb=>(h.get? b).map λo=>(b,o)
theorem Eb{a:t_ Db}{h:fu}{b:Db}{o:Obj}(c:b∈a)(e:h.get? b=P3 o):(b,o)∈KL a h:=mI.mpr ⟨b,c,by rw[e]; rfl⟩
theorem Sf{a:t_ Db}{h:fu}{p:Db×Obj}(c:p∈KL a h):p.1∈a/\h.get? p.1=P3 p.2:=by
 obtain⟨b,f,e⟩:=mI.mp c;cases q:h.get? b with
 |none=>grind
 |some o=>
  rw[q]at e;have d:=ft e;subst d
  simp_all
theorem Inv.pinned{a:t_ (Db×Obj)}{Z:St}{H:Hp}{s:On}{c:t_ Db}(I:Inv X a Z H s)(g:∀b∈c,GA X a H b)(h:∀b∈c,∃o,s.heap.get? b=P3 o/\∀v,o.data≠.cell v):Inv X (a++KL c s.heap) Z H s:=
 I.pins_of λp i=>(gA.mp i).elim (λz=>I.pin p (fz _ z)) λz=>by
  obtain⟨f,e⟩:=Sf z;obtain⟨j,k,l,_⟩:=g _ f;obtain⟨o,m,d⟩:=h _ f
  grind
theorem Inv.unpinned{a b:t_ (Db×Obj)}{Z:St}{H:Hp}{s:On}(I:Inv X (a++b) Z H s):Inv X a Z H s:=I.pins_of λp c=>I.pin p (fz _ (gu _ c))
theorem FF{a:gB}{t:t_ gG}{wi:TI}{g:TG}{tb:TS}{pos:Pos}(C:PassesOwn (model X.prog X.w) X.A X.env X.xe)(hc:X.calm=r_)(hi:PI X tg a wi)(hg:PG X tg g)(c:PSs X t tb)
  (hs:∀x,foldedSetIterable a X.env x=pure x:=by intro _; rfl):PS X (.For tg a t [] pos) (bS wi g tb):=by
 intro z s Z H D I h;refine wpAny_For (thn (hi z s Z H _ I h) λv s1 h1=>thn h1 λa0 s2 h2=>?_) hs;obtain⟨it,E,tn,J,H2,e,I2,T,R,f2,W,⟨m0,w0⟩,F⟩:=h2;subst e;have j:∀{q:Hp},(∀b∈E,q b=q_)->∀b∈E,GA X z q b:=λhn b c=>⟨hn b c,(f2 b c).2⟩;refine codeAny_forLoop_any (λn s'=>∃i G q,Inv X z G q s'/\tn i s'.heap/\(∀b∈E,q b=q_)/\W i n G q) ?_ m0 ⟨0,Z,H2,I2,R,λb c=>(f2 b c).1,w0⟩;rintro n s3 ⟨i,K,Q,I3,L,M,w3⟩
 rcases F i n K Q w3 with⟨O,qn⟩|⟨go,N,hN,step⟩
 ·refine jO C (thn (T.done X rfl rfl rfl hc i z s3 K Q X.xe I3 (j M) L O) λr s4 ⟨S,I4⟩=>?_)
  subst S;exact jp ⟨K,Q,I4,qn⟩
 ·refine jO C (thn (T.item X rfl rfl rfl hc i z s3 K Q X.xe I3 (j M) L go) λr s4 ⟨u,S,h4⟩=>?_)
  subst S;refine jO C (thn h4 λ_ s5 ⟨x,H5,I5,r5,y5,B,U⟩=>?_);have V:=I5.pinned (j U) (T.obj _ _ B);refine jO C (thn (hg _ s5 K H5 x u _ V r5 (step x H5 y5)) λ_ s6 ⟨Y,H6,I6,q6⟩=>?_);refine jO C (thn (c _ s6 Y H6 _ I6 q6) λf s7 y=>?_)
  have again:∀{k:St}{l:Hp},Inv X (z++KL E s5.heap) k l s7->N k l->∃m,m<n/\∃i G q,Inv X z G q s7/\tn i s7.heap/\(∀b∈E,q b=q_)/\W i m G q:=λ{k l} p P=>by
   obtain⟨m',hm,w7⟩:=hN k l P;refine⟨m',hm,i+1,k,l,p.unpinned,T.keep _ _ _ B λb c o e=>(p.pin (b,o) (fz _ (fz _ (Eb c e)))).1,λb c=>?_,w7⟩;obtain⟨o,e,d⟩:=T.obj _ _ B b c;exact(p.pin (b,o) (fz _ (fz _ (Eb c e)))).2.1
  cases f with
  |next=>obtain⟨k,l,p,P⟩:=y; exact again p P
  |cont=>obtain⟨k,l,p,P⟩:=y; exact again p P
  |brk=>obtain⟨k,l,p,y⟩:=y; exact⟨k,l,p.unpinned,y⟩
  |ret v=>obtain⟨x7,k,l,p,r7,y⟩:=y; exact⟨x7,k,l,p.unpinned,r7,y⟩
end
theorem Vm{K:Frag}{a:Db}{b:t_ V}{g:TG}{l:TS}{D:Ends}{Z:St}{H:Hp}(c:Nat->St->Hp->Prop)(o:c 0 Z H)(r:∀i Z H,i<=b.length->c i Z H->SqL K H a b)
  (v:∀i x Z H,b[i]?=P3 x->c i Z H->g x Z H λh j=>l {D with nx:=c (i+1),ct:=c (i+1),bk:=D.nx} h j) (s:∀Z H,c b.length Z H->D.nx Z H):
  ∃W:Nat->Nat->St->Hp->Prop,(∃m,W 0 m Z H)/\∀i m Z H,W i m Z H->
   ((Wa K a).stop i H/\D.nx Z H)\/((Wa K a).go i H/\∃N:St->Hp->Prop,(∀k d,N k d->∃n,n<m/\W (i+1) n k d)/\∀x d,(Wa K a).yld i H x d->g x Z d λh j=>l {D with nx:=N,ct:=N,bk:=D.nx} h j):=by
 refine⟨λi m Z H=>m=b.length - i/\i<=b.length/\c i Z H,⟨b.length,by simp,fo _,o⟩,?_⟩;rintro i m Z H ⟨rfl,t,p⟩;have q:=r i Z H t p
 by_cases f:i<b.length
 ·refine .inr ⟨⟨b,b[i],q,by simp[f]⟩,c (i+1),λk d u=>⟨_,by omega,rfl,f,u⟩,λx d y=>?_⟩
  obtain⟨e,y⟩:=y
  grind
 ·have e:i=b.length:=by omega
  subst e;exact .inl ⟨⟨b,q,Re _⟩,s Z H p⟩
theorem M6{K:Frag}{a:Db}{xs:t_ V}{g:TG}{k:TS}{D:Ends}{Z:St}{H:Hp}(b:Nat->St->Hp->Prop)(n:b 0 Z H)(o:∀i Z H,i<=xs.length->b i Z H->SqT K H a xs)
  (r:∀i x Z H,xs[i]?=P3 x->b i Z H->g x Z H λd f=>k {D with nx:=b (i+1),ct:=b (i+1),bk:=D.nx} d f) (s:∀Z H,b xs.length Z H->D.nx Z H):
  ∃W:Nat->Nat->St->Hp->Prop,(∃m,W 0 m Z H)/\∀i m Z H,W i m Z H->
   ((Tq K a).stop i H/\D.nx Z H)\/((Tq K a).go i H/\∃N:St->Hp->Prop,(∀h c,N h c->∃l,l<m/\W (i+1) l h c)/\∀x c,(Tq K a).yld i H x c->g x Z c λd f=>k {D with nx:=N,ct:=N,bk:=D.nx} d f):=by
 refine⟨λi m Z H=>m=xs.length - i/\i<=xs.length/\b i Z H,⟨xs.length,by simp,fo _,n⟩,?_⟩;rintro i m Z H ⟨rfl,t,p⟩;have q:=o i Z H t p
 by_cases j:i<xs.length
 ·refine .inr ⟨⟨xs,xs[i],q,by simp⟩,_,λh c u=>⟨_,by omega,rfl,j,u⟩,λx c y=>?_⟩
  obtain⟨e,y⟩:=y;subst e;exact r i x Z _ (y xs q) p
 ·have e:i=xs.length:=by omega
  subst e;exact .inl ⟨⟨xs,q,Re _⟩,s Z H p⟩
theorem Fy{lo:Int}{n:Nat}{g:TG}{j:TS}{D:Ends}{Z:St}{H:Hp}(a:Nat->St->Hp->Prop)(l:a 0 Z H)
  (r:∀i Z H,i<n->a i Z H->g (.int (lo+i)) Z H λd f=>j {D with nx:=a (i+1),ct:=a (i+1),bk:=D.nx} d f) (o:∀Z H,a n Z H->D.nx Z H):
  ∃W:Nat->Nat->St->Hp->Prop,(∃m,W 0 m Z H)/\∀i m Z H,W i m Z H->
   ((ZE lo n).stop i H/\D.nx Z H)\/((ZE lo n).go i H/\∃N:St->Hp->Prop,(∀h b,N h b->∃k,k<m/\W (i+1) k h b)/\∀x b,(ZE lo n).yld i H x b->g x Z b λd f=>j {D with nx:=N,ct:=N,bk:=D.nx} d f):=by
 refine⟨λi m Z H=>m=n - i/\i<=n/\a i Z H,⟨n,by simp,fo _,l⟩,?_⟩;rintro i m Z H ⟨rfl,s,p⟩
 by_cases c:i<n
 ·refine .inr ⟨c,a (i+1),λh b q=>⟨n - (i+1),by omega,rfl,c,q⟩,λx b y=>?_⟩
  obtain⟨e,y⟩:=y
  grind
 ·have e:i=n:=by omega
  subst e;exact .inl ⟨Re _,o Z H p⟩
abbrev R2:=V->V->Hp->VK->Prop
def OpR(X:Cx)(f:Ev->Ev->Sem Ev)(r:R2):Prop:=
 ∀(a:t_ (Db×Obj)) (s:On) (Z:St) (H:Hp) (x y:V) (v u:Ev) (Q:VK),Inv X a Z H s->RelV x v->RelV y u->r x y H Q->
  wpAny (model X.prog X.w) X.A (f v u) (EP X a Z Q) X.xe s
def eN(X:Cx)(f:Ev->Sem Ev)(r:V->Hp->VK->Prop):Prop:=
 ∀(a:t_ (Db×Obj)) (s:On) (Z:St) (H:Hp) (x:V) (v:Ev) (Q:VK),Inv X a Z H s->RelV x v->r x H Q->
  wpAny (model X.prog X.w) X.A (f v) (EP X a Z Q) X.xe s
def By(X:Cx)(f:Ev)(r:t_ V->Hp->VK->Prop):Prop:=
 ∀(a:t_ (Db×Obj)) (s:On) (Z:St) (H:Hp) (b:t_ V) (c:t_ Ev) (Q:VK),Inv X a Z H s->Vals b c->r b H Q->
  wpAny (model X.prog X.w) X.A (call f c) (EP X a Z Q) X.xe s
def eO(X:Cx)(r:V->Hp->(Bool->Hp->Prop)->Prop):Prop:=
 ∀(a:t_ (Db×Obj)) (s:On) (Z:St) (H:Hp) (x:V) (v:Ev) (Q:Bool->Hp->Prop),Inv X a Z H s->RelV x v->r x H Q->
  wpAny (model X.prog X.w) X.A (truthy v) (TP X a Z Q) X.xe s
def DP(r:R2)(a b:TE):TE:=λZ H Q=>a Z H λx H1=>b Z H1 λy c=>r x y c Q
def fJ(r:V->Hp->VK->Prop)(a:TE):TE:=λZ H Q=>a Z H λx H1=>r x H1 Q
def rI(C:Int->Int->Prop)(g:Int->Int->V):R2:=λx y H Q=>∃i j,x=.int i/\y=.int j/\C i j/\Q (g i j) H
def Ij(g:Int->Int->V):R2:=λx y H Q=>∃i j,x=.int i/\y=.int j/\Q (g i j) H
def rU(g:Int->V):V->Hp->VK->Prop:=λx H Q=>∃i,x=.int i/\Q (g i) H
section
variable {X:Cx}{a b:Expr}{ta tb:TE}{pos:Pos}
theorem ae(j:PE X a ta)(k:PE X b tb){i:t_ (Db×Obj)}{s:On}{Z:St}{H:Hp}{R:V->V->Hp->Prop}(I:Inv X i Z H s)
  (h:ta Z H λx H1=>tb Z H1 λy c=>R x y c) {Q:Ev->On->Prop}{f:Ev->Ev->Sem Ev}
  (l:∀v u g x y c,Inv X i Z c g->RelV x v->RelV y u->R x y c->wpAny (model X.prog X.w) X.A (f v u) Q X.xe g):
  wpAny (model X.prog X.w) X.A (eval a X.env) (λv d=>wpAny (model X.prog X.w) X.A (eval b X.env) (λu e=>wpAny (model X.prog X.w) X.A (f v u) Q X.xe e) X.xe d) X.xe s:=thn (j _ s Z H _ I h) λv m ⟨x,H1,n,o,p⟩=>thn (k _ m Z H1 _ n p) λu g ⟨y,c,q,r,t⟩=>l v u g x y c q o r t
theorem Bj{c:Operator}{r:R2}(d:OpR X (binaryOp c) r)(e:PE X a ta)(f:PE X b tb):PE X (.BinOp a c b pos) (DP r ta tb):=λm s Z H Q I h=>wpAny_BinOp (ae e f I h λv u g x y i j k l q=>d _ g Z i x y v u Q j k l q)
theorem b8{c:UnaryOp}{r:V->Hp->VK->Prop}(d:eN X (unaryOp c) r)(e:PE X a ta):PE X (.UnaryOp c a pos) (fJ r ta):=λk s Z H Q I h=>UnaryOp_ (thn (e _ s Z H _ I h) λv f ⟨x,H1,g,i,j⟩=>d _ f Z H1 x v Q g i j)
theorem dD{f:Ev->Ev->Sem Ev}{C:Int->Int->Prop}{g:Int->Int->Int}
  (c:∀(i j:Int) (t u:Tok) (s:On) (Q:Ev->On->Prop) (E:Ev->On->Prop),C i j->Q (.int (g i j) s.toks) {s with toks:=s.toks+1}->wpAny (model X.prog X.w) X.A (f (.int i t) (.int j u)) Q E s):
  OpR X f (rI C λi j=>.int (g i j)):=by
 intro m s Z H x y v u Q I d e h;obtain⟨i,j,rfl,rfl,k,q⟩:=h;obtain⟨t,rfl⟩:=d;obtain⟨l,rfl⟩:=e;exact c i j t l s _ _ k ⟨.int _,H,I.tok _,⟨_,rfl⟩,q⟩
theorem cB{f:Ev->Ev->Sem Ev}{g:Int->Int->Int}
  (c:∀(i j:Int) (t u:Tok) (s:On) (Q:Ev->On->Prop) (E:Ev->On->Prop),Q (.int (g i j) s.toks) {s with toks:=s.toks+1}->wpAny (model X.prog X.w) X.A (f (.int i t) (.int j u)) Q E s):
  OpR X f (Ij λi j=>.int (g i j)):=by
 intro l s Z H x y v u Q I d e h;obtain⟨i,j,rfl,rfl,q⟩:=h;obtain⟨t,rfl⟩:=d;obtain⟨k,rfl⟩:=e;exact c i j t k s _ _ ⟨.int _,H,I.tok _,⟨_,rfl⟩,q⟩
theorem XZ{f:Ev->Ev->Sem Ev}{g:Int->Int->Bool}
  (c:∀(i j:Int) (t u:Tok) (s:On) (Q:Ev->On->Prop) (E:Ev->On->Prop),Q (.bool (g i j)) s->wpAny (model X.prog X.w) X.A (f (.int i t) (.int j u)) Q E s):
  OpR X f (Ij λi j=>.bl (g i j)):=by
 intro l s Z H x y v u Q I d e h;obtain⟨i,j,rfl,rfl,q⟩:=h;obtain⟨t,rfl⟩:=d;obtain⟨k,rfl⟩:=e;exact c i j t k s _ _ ⟨.bl _,H,I,rfl,q⟩
def Ti(i j:Int):Prop:=0<j/\j<1073741824
def Wc(i j:Int):Prop:=0<=j/\j<=1000000/\i.natAbs<2 ^ 64
def CMul(i j:Int):Prop:=(-(2 ^ 64)<i/\i<2 ^ 64)\/(-(2 ^ 64)<j/\j<2 ^ 64)
theorem CMul.ok{i j:Int}(h:CMul i j):IntMulOk i j:=by
 rcases h with⟨c,d⟩|⟨c,d⟩
 ·exact .of_left (intBits_le_64 c d)
 ·exact .of_right (intBits_le_64 c d)
theorem op_add:OpR X (binaryOp .Add) (Ij λi j=>.int (i+j)):=cB λ_ _ _ _ _ _ _ q=>add_int q
theorem op_sub:OpR X (binaryOp .Sub) (Ij λi j=>.int (i - j)):=cB λ_ _ _ _ _ _ _ q=>sub_int q
theorem op_mul:OpR X (binaryOp .Mult) (rI CMul λi j=>.int (i*j)):=dD λ_ _ _ _ _ _ _ c q=>mul_int q c.ok
theorem G6:OpR X (binaryOp .FloorDiv) (rI Ti λi j=>.int (i / j)):=dD λi j _ _ _ _ _ c q=>by
 have d:=c.1;have e:=c.2;exact floordiv_int (by omega) (by grind) (.inl (PyProof.noPylong_small (by omega)))
theorem DC:OpR X (binaryOp .Mod) (rI (λ_ j=>0<j) λi j=>.int (i % j)):=dD λi j _ _ _ _ _ c q=>mod_int' (by omega) (by rw[Int.fmod_eq_emod_of_nonneg i (by omega)]; exact q)
theorem P_:OpR X (binaryOp .Pow) (rI Wc λi j=>.int (i ^ j.toNat)):=dD λ_ _ _ _ _ _ _ c q=>pow_int_small c.1 c.2.1 c.2.2 q
theorem fG{f:Ev->Sem Ev}{g:Int->Int}
  (c:∀(i:Int) (t:Tok) (s:On) (Q:Ev->On->Prop) (E:Ev->On->Prop),Q (.int (g i) s.toks) {s with toks:=s.toks+1}->wpAny (model X.prog X.w) X.A (f (.int i t)) Q E s):
  eN X f (rU λi=>.int (g i)):=by
 intro e s Z H x v Q I d h;obtain⟨i,rfl,q⟩:=h;obtain⟨t,rfl⟩:=d;exact c i t s _ _ ⟨.int _,H,I.tok _,⟨_,rfl⟩,q⟩
theorem ZP:eN X (unaryOp .USub) (rU λi=>.int (-i)):=fG λ_ _ _ _ _ q=>neg_int q
end
def bY:V->V->Bool
 |.non,.non=>r_|.non,.int _=>r_|.int _,.non=>r_|.non,.bl _=>r_|.bl _,.non=>r_|.non,.str _=>r_|.str _,.non=>r_
 |.int _,.int _=>r_|.bl _,.bl _=>r_|.str _,.str _=>r_|.byt _,.byt _=>r_
 |.int _,.str _=>r_|.str _,.int _=>r_|.bl _,.str _=>r_|.str _,.bl _=>r_
 |_,_=>s_
def eh:R2:=λx y H Q=>bY x y=r_/\Q (.bl (decide (x=y))) H
def eY:R2:=λx y H Q=>bY x y=r_/\Q (.bl (!decide (x=y))) H
theorem Ji{i j:Int}:decide (V.int i=V.int j)=(i==j):=by
 rw[i8];simp
theorem NI{i j:Bool}:decide (V.bl i=V.bl j)=(i==j):=by
 rw[i8];simp
theorem Jh{i j:Str}:decide (V.str i=V.str j)=(i==j):=by
 rw[i8];simp
theorem RX{i j:Array UInt8}:decide (V.byt i=V.byt j)=(i.toList==j.toList):=by
 rw[i8]
 simp_all
section
variable {X:Cx}{a b:Expr}{ta tb:TE}{pos:Pos}
theorem A4{c:t_ (Db×Obj)}{Z:St}{H:Hp}{s:On}{Q:VK}{k d:Bool}(I:Inv X c Z H s)(q:Q (.bl k) H)(e:k=d):EP X c Z Q (.bool d) s:=by
 subst e;exact⟨.bl k,H,I,rfl,q⟩
theorem G7:OpR X (compareOp .Eq) eh:=by
 intro g s Z H x y v u Q I f c h;obtain⟨e,q⟩:=h;cases x with
 |non=>
  cases f;cases y with
  |non=>cases c; exact PySem.EqNone.eq_none_none (A4 I q (by simp))
  |bl j=>cases c; exact PySem.EqNone.eq_none_bool (A4 I q (by simp))
  |int j=>obtain⟨d,rfl⟩:=c; exact PySem.EqNone.eq_none_int (A4 I q (by simp))
  |str j=>obtain⟨d,rfl⟩:=c; exact PySem.EqNone.eq_none_str (A4 I q (by simp))
  |_=>exact absurd (show s_=r_ from e) f6
 |bl i=>
  cases f;cases y with
  |non=>cases c; exact PySem.EqNone.eq_bool_none (A4 I q (by simp))
  |bl j=>cases c; exact eq_bool (A4 I q NI)
  |str j=>obtain⟨d,rfl⟩:=c; exact PySem.EqMixed.eq_bool_str (A4 I q (by simp))
  |_=>exact absurd (show s_=r_ from e) f6
 |int i=>
  obtain⟨t,rfl⟩:=f;cases y with
  |non=>cases c; exact PySem.EqNone.eq_int_none (A4 I q (by simp))
  |int j=>obtain⟨d,rfl⟩:=c; exact eq_int (A4 I q Ji)
  |str j=>obtain⟨d,rfl⟩:=c; exact PySem.EqMixed.eq_int_str (A4 I q (by simp))
  |_=>exact absurd (show s_=r_ from e) f6
 |str i=>
  obtain⟨t,rfl⟩:=f;cases y with
  |non=>cases c; exact PySem.EqNone.eq_str_none (A4 I q (by simp))
  |bl j=>cases c; exact PySem.EqMixed.eq_str_bool (A4 I q (by simp))
  |int j=>obtain⟨d,rfl⟩:=c; exact PySem.EqMixed.eq_str_int (A4 I q (by simp))
  |str j=>obtain⟨d,rfl⟩:=c; exact eq_str (A4 I q Jh)
  |_=>exact absurd (show s_=r_ from e) f6
 |byt i=>
  obtain⟨t,rfl⟩:=f;cases y with
  |byt j=>obtain⟨d,rfl⟩:=c; exact PySem.W.eq_bytes (A4 I q RX)
  |_=>exact absurd (show s_=r_ from e) f6
 |_=>cases y <;>exact absurd (show s_=r_ from e) f6
theorem G5:OpR X (compareOp .NotEq) eY:=by
 intro g s Z H x y v u Q I f c h;obtain⟨e,q⟩:=h;cases x with
 |non=>
  cases f;cases y with
  |non=>cases c; exact PySem.EqNone.ne_none_none (A4 I q (by simp))
  |bl j=>cases c; exact PySem.EqNone.ne_none_bool (A4 I q (by simp))
  |int j=>obtain⟨d,rfl⟩:=c; exact PySem.EqNone.ne_none_int (A4 I q (by simp))
  |str j=>obtain⟨d,rfl⟩:=c; exact PySem.EqNone.ne_none_str (A4 I q (by simp))
  |_=>exact absurd (show s_=r_ from e) f6
 |bl i=>
  cases f;cases y with
  |non=>cases c; exact PySem.EqNone.ne_bool_none (A4 I q (by simp))
  |bl j=>cases c; exact ne_bool (A4 I q (congrArg not NI))
  |str j=>obtain⟨d,rfl⟩:=c; exact PySem.EqMixed.ne_bool_str (A4 I q (by simp))
  |_=>exact absurd (show s_=r_ from e) f6
 |int i=>
  obtain⟨t,rfl⟩:=f;cases y with
  |non=>cases c; exact PySem.EqNone.ne_int_none (A4 I q (by simp))
  |int j=>obtain⟨d,rfl⟩:=c; exact ne_int (A4 I q (congrArg not Ji))
  |str j=>obtain⟨d,rfl⟩:=c; exact PySem.EqMixed.ne_int_str (A4 I q (by simp))
  |_=>exact absurd (show s_=r_ from e) f6
 |str i=>
  obtain⟨t,rfl⟩:=f;cases y with
  |non=>cases c; exact PySem.EqNone.ne_str_none (A4 I q (by simp))
  |bl j=>cases c; exact PySem.EqMixed.ne_str_bool (A4 I q (by simp))
  |int j=>obtain⟨d,rfl⟩:=c; exact PySem.EqMixed.ne_str_int (A4 I q (by simp))
  |str j=>obtain⟨d,rfl⟩:=c; exact ne_str (A4 I q (congrArg not Jh))
  |_=>exact absurd (show s_=r_ from e) f6
 |byt i=>
  obtain⟨t,rfl⟩:=f;cases y with
  |byt j=>obtain⟨d,rfl⟩:=c; exact PySem.W.ne_bytes (A4 I q (congrArg not RX))
  |_=>exact absurd (show s_=r_ from e) f6
 |_=>cases y <;>exact absurd (show s_=r_ from e) f6
theorem op_lt:OpR X (compareOp .Lt) (Ij λi j=>.bl (decide (i<j))):=XZ λ_ _ _ _ _ _ _ q=>nO q
theorem op_le:OpR X (compareOp .LtE) (Ij λi j=>.bl (decide (i<=j))):=XZ λ_ _ _ _ _ _ _ q=>le_int q
theorem Yx:OpR X (compareOp .Gt) (Ij λi j=>.bl (decide (j<i))):=XZ λ_ _ _ _ _ _ _ q=>gt_int q
theorem Yy:OpR X (compareOp .GtE) (Ij λi j=>.bl (decide (j<=i))):=XZ λ_ _ _ _ _ _ _ q=>ge_int q
theorem Sb:OpR X (compareOp .Lt) (λx y H Q=>∃i j,x=.str i/\y=.str j/\Q (.bl (decide (i.cps.toList<j.cps.toList))) H):=by
 intro e s Z H x y v u Q I c d h;obtain⟨i,j,rfl,rfl,q⟩:=h;obtain⟨t,rfl⟩:=c;obtain⟨f,rfl⟩:=d;exact lt_str (A4 I q rfl)
theorem IH:OpR X (compareOp .Is) (λx y H Q=>y=.non/\Q (.bl (decide (x=.non))) H):=by
 intro e s Z H x y v u Q I c d h;obtain⟨rfl,q⟩:=h;cases d;refine is_none_gen (A4 I q ?_)
 cases x <;>first
  |omega
  |(obtain⟨t,rfl⟩:=c; rfl)
theorem Ja:OpR X (compareOp .IsNot) (λx y H Q=>y=.non/\Q (.bl (!decide (x=.non))) H):=by
 intro e s Z H x y v u Q I c d h;obtain⟨rfl,q⟩:=h;cases d;refine isnot_none_gen (A4 I q ?_)
 cases x <;>first
  |omega
  |(obtain⟨t,rfl⟩:=c; rfl)
theorem OpR.or{f:Ev->Ev->Sem Ev}{r c:R2}(h:OpR X f r)(g:OpR X f c):OpR X f (λx y H Q=>r x y H Q\/c x y H Q):=by
 intro i s Z H x y v u Q I d e q
 rcases q with q|q
 ·exact h _ s Z H x y v u Q I d e q
 ·exact g _ s Z H x y v u Q I d e q
theorem An(b:gB){c:CmpOp}(h:c≠.In:=by decide)(f:c≠.NotIn:=by decide):behindInMarks c b=s_:=by
 have d:(c==CmpOp.In)=s_:=by grind
 have e:(c==CmpOp.NotIn)=s_:=by grind
 cases b <;>simp[behindInMarks,d,e]
theorem XR{c:CmpOp}{r:R2}(d:OpR X (compareOp c) r)(e:PE X a ta)(f:PE X b tb)(g:behindInMarks c b=s_):PE X (.Compare a [c] [b] pos) (DP r ta tb):=λn s Z H Q I h=>wpAny_Compare1 (ae e f I h λv u i x y j k l m q=>d _ i Z j x y v u Q k l m q) g
def US(t:TE):TT:=λZ H Q=>t Z H λx c=>∃k,x=.bl k/\Q k c
theorem Cv{d:CmpOp}{r:R2}(f:OpR X (compareOp d) r)(g:PE X a ta)(i:PE X b tb)(j:behindInMarks d b=s_):PT X (.Compare a [d] [b] pos) (US (DP r ta tb)):=by
 intro F s Z H Q I h
 refine wpAny_isTrue_Compare1 (thn (g _ s Z H _ I h) λv l ⟨x,H1,m,n,o⟩=>thn (i _ l Z H1 _ m o) λu p ⟨y,q,t,w,A⟩=>
  thn (f _ p Z q x y v u _ t n w A) λc G ⟨z,B,C,D,k,e,E⟩=>?_) j
 subst e;cases D;exact jC ⟨B,C,E⟩
def aq(K:Frag)(x:V)(H:Hp)(k:Bool):Prop:=
 match x with
 |.non=>k=s_
 |.bl b=>k=b
 |.int i=>k=(i !=0)
 |.str y=>y.length<=sizeLine/\k=((y.length:Int) !=0)
 |.byt y=>y.size<=sizeLine/\k=((y.size:Int) !=0)
 |.ref p=>(∃c,SqL K H p c/\k=!c.isEmpty)\/(∃c,SqT K H p c/\k=!c.isEmpty)\/∃d,H p=P3 (.dK d)/\k=!d.isEmpty
 |_=>False
theorem QK{d:Type}{c:t_ (d×V)}{e:t_ (d×Ev)}(r:KV c e):(!e.isEmpty)=!c.isEmpty:=by
 cases r <;>rfl
theorem Kp{d:t_ V}{c:t_ Ev}(r:Vals d c):(!c.toArray.isEmpty)=!d.isEmpty:=by
 cases r <;>simp
theorem IJ:(sizeLine:Nat)<2 ^ 63:=by decide
theorem ZR:eO X (λx H Q=>∃k,aq X.K x H k/\Q k H):=by
 intro C s Z H x v Q I j h;obtain⟨k,e,q⟩:=h;have D:=IJ;have E:sizeLine=16777216:=gc;cases x with
 |non=>
  cases j;have c:k=s_:=e;subst c;exact truthy_none ⟨H,I,q⟩
 |bl b=>
  cases j;have c:k=b:=e;subst c;exact jC ⟨H,I,q⟩
 |int i=>
  obtain⟨t,rfl⟩:=j;have c:k=(i !=0):=e;subst c;exact PySem.P.truthy_int ⟨H,I,q⟩
 |str y=>
  obtain⟨t,rfl⟩:=j;obtain⟨A,c⟩:y.length<=sizeLine/\k=((y.length:Int) !=0):=e;subst c;exact PySem.P.truthy_str (by omega) ⟨H,I.tok _,q⟩
 |byt y=>
  obtain⟨t,rfl⟩:=j;obtain⟨A,c⟩:y.size<=sizeLine/\k=((y.size:Int) !=0):=e;subst c;exact PySem.W.truthy_bytes (by omega) ⟨H,I.tok _,q⟩
 | ref p=>
  cases j;have c:(∃g,SqL X.K H p g/\k=!g.isEmpty)\/(∃g,SqT X.K H p g/\k=!g.isEmpty)\/∃d,H p=P3 (.dK d)/\k=!d.isEmpty:=e
  rcases c with⟨g,l,c⟩|⟨g,l,c⟩|⟨d,l,c⟩
  ·subst c
   obtain⟨o,r,u,z⟩:=I.list l;have f:=r.length;exact wpAny_truthy_list u.isList (by simp only[fk]; omega) ⟨H,I.tok _,by rw[Kp r]; exact q⟩
  ·subst c
   obtain⟨o,r,u,z⟩:=I.tuple l;have f:=r.length;exact truthy_tuple u (by simp only[fk]; omega) ⟨H,I.tok _,by rw[Kp r]; exact q⟩
  ·subst c
   obtain⟨z,B,n,r,m⟩:d.length<=sizeLine/\(p==sysModules)=s_/\∃n,KV d n/\s.heap.DictOf (Ar X.prog X.w) p n:=I.hok p _ l;have f:d.length=n.length:=Paired.length r;exact wpAny_truthy_dict B m (by omega) ⟨H,I.tok _,by rw[QK r]; exact q⟩
 |_=>exact(show False from e).elim
theorem U3(e:PE X a ta)(f:∀c,isTrue a X.env c=(do let v ←c; standAt a.pos; holding [v] (truthy v))):
  PT X a (λZ H Q=>ta Z H λx d=>∃k,aq X.K x d k/\Q k d):=λm s Z H Q I h=>isTrue_plain (thn (e _ s Z H _ I h) λv g ⟨x,H1,i,j,l⟩=>ZR _ g Z H1 x v Q i j l) (f _)
theorem QA:OpR X (binaryOp .Add) (λx y H Q=>∃i j,x=.str i/\y=.str j/\i.length+j.length<=sizeLine/\Q (.str (i++j)) H):=by
 intro g s Z H x y v u Q I c d h;obtain⟨i,j,rfl,rfl,e,q⟩:=h;obtain⟨t,rfl⟩:=c;obtain⟨f,rfl⟩:=d;exact add_str (λf k=>⟨.str _,H,I.tok _,⟨_,rfl⟩,q⟩) e
theorem vals1{x:V}{c:t_ Ev}(r:Vals [x] c):∃u,c=[u]/\RelV x u:=by
 cases r with
 |cons e d=>cases d; grind
theorem vals2{x y:V}{c:t_ Ev}(r:Vals [x,y] c):∃u d,c=[u,d]/\RelV x u/\RelV y d:=by
 cases r with
 |cons e f=>
  cases f with
  |cons g h=>cases h; exact⟨_,_,rfl,e,g⟩
theorem PC:By X (.builtin "abs") (λc H Q=>∃i,c=[.int i]/\Q (.int (if i<0 then -i else i)) H):=by
 intro d s Z H c e Q I r h;obtain⟨i,rfl,q⟩:=h;obtain⟨u,rfl,t,rfl⟩:=vals1 r;exact call_abs_int λu f=>⟨.int _,H,I.tok _,⟨_,rfl⟩,q⟩
theorem TX(e:X.calm=r_):By X (.builtin "max") (λd H Q=>∃i j,d=[.int i,.int j]/\Q (.int (if j > i then j else i)) H):=by
 intro f s Z H d g Q I r h;obtain⟨i,j,rfl,q⟩:=h;obtain⟨u,l,rfl,⟨t,rfl⟩,⟨m,rfl⟩⟩:=vals2 r;refine max_two_ints (I.ok.hd e) λn o k=>⟨_,H,I.kept k,?_,q⟩
 by_cases c:j > i
 ·rw[if_pos c,if_pos c]; exact⟨_,rfl⟩
 ·rw[if_neg c,if_neg c]; exact⟨_,rfl⟩
theorem L_(e:X.calm=r_):By X (.builtin "min") (λd H Q=>∃i j,d=[.int i,.int j]/\Q (.int (if j<i then j else i)) H):=by
 intro f s Z H d g Q I r h;obtain⟨i,j,rfl,q⟩:=h;obtain⟨u,l,rfl,⟨t,rfl⟩,⟨m,rfl⟩⟩:=vals2 r;refine min_two_ints (I.ok.hd e) λn o k=>⟨_,H,I.kept k,?_,q⟩
 by_cases c:j<i
 ·rw[if_pos c,if_pos c]; exact⟨_,rfl⟩
 ·rw[if_neg c,if_neg c]; exact⟨_,rfl⟩
def az(K:Frag)(x:V)(H:Hp)(n:Nat):Prop:=
 match x with
 |.str y=>y.length<=sizeLine/\n=y.length
 |.byt y=>y.size<=sizeLine/\n=y.size
 |.ref p=>(∃c,SqL K H p c/\n=c.length)\/∃c,SqT K H p c/\n=c.length
 |_=>False
theorem Ap:By X (.builtin "len") (λc H Q=>∃x n,c=[x]/\az X.K x H n/\Q (.int n) H):=by
 intro v s Z H c w Q I r h;obtain⟨x,n,rfl,e,q⟩:=h;obtain⟨u,rfl,g⟩:=vals1 r;have z:=IJ;have A:sizeLine=16777216:=gc;cases x with
 |str y=>
  obtain⟨t,rfl⟩:=g;obtain⟨m,f⟩:y.length<=sizeLine/\n=y.length:=e;subst f;exact len_str (by omega) ⟨.int _,H,I.tok _,⟨_,rfl⟩,q⟩
 |byt y=>
  obtain⟨t,rfl⟩:=g;obtain⟨m,f⟩:y.size<=sizeLine/\n=y.size:=e;subst f;exact PySem.W.len_bytes (by omega) ⟨.int _,H,I.tok _,⟨_,rfl⟩,q⟩
 | ref p=>
  cases g;have f:(∃c,SqL X.K H p c/\n=c.length)\/∃c,SqT X.K H p c/\n=c.length:=e
  rcases f with⟨c,i,f⟩|⟨c,i,f⟩
  ·subst f
   obtain⟨j,k,l,o⟩:=I.list i;have d:=k.length;exact Calls.call_len_list l.isList (by simp only[fk]; omega) ⟨.int c.length,H,I.tok _,⟨_,by simp only[fk]; rw[d]⟩,q⟩
  ·subst f
   obtain⟨j,k,l,o⟩:=I.tuple i;have d:=k.length;exact len_tuple l (by simp only[fk]; omega) ⟨.int c.length,H,I.tok _,⟨_,by simp only[fk]; rw[d]⟩,q⟩
 |_=>exact(show False from e).elim
end
structure ObjM (h:fu) (x dx C:Db) (mA:Str->Option Ev):Prop where
 obj:h.get? x=P3 (PySem.W.instObj C dx)
 ns:h.Ns1 dx mA
 ne:dx≠x
theorem Sw{h:fu}{d:Db}{f:Str->u_ Ev}(n:h.Ns1 d f):∃g,h.get? d=P3 g/\∀b,PySem.W.lookIn b g=P3 (f b):=by
 obtain⟨o,i,q,j,k,l,_,m⟩:=n;refine⟨o,j,λb=>?_⟩;have e:=m b;unfold nsFind findBy at e;unfold PySem.W.lookIn;rw[k]
 dsimp only
 split
 ·simp_all
 ·have a:i.toList.any (·.refKey)=s_:=by
   rw[mY];intro y p;obtain⟨z,t,c⟩:=l y (Array.mem_toList_iff.mp p);simp[DictEntry.refKey,c]
  grind
theorem ObjM.look{h:fu}{x c C:Db}{d:Str->u_ Ev}(I:ObjM h x c C d):∃b,PySem.W.InstAt h x (PySem.W.instObj C c) C (P3 b)/\∀a,PySem.W.lookIn a b=P3 (d a):=
 let ⟨b,e,f⟩:=Sw I.ns
 ⟨b,⟨I.obj,rfl,rfl,e⟩,f⟩
theorem RelO.some_of{v:V}{o:u_ Ev}(r:RelO (P3 v) o):∃u,o=P3 u/\RelV v u:=by
 cases o with
 |none=>exact(r).elim
 |some u=>exact⟨u,rfl,r⟩
section
variable {P:Program}{w:World}{H:Hp}{h:Heap}{a C dx:Addr}{fs:t_ (Str×V)}
theorem Xq(c:HOk P w H h)(e:H a=P3 (.ins C dx fs)):∃b,ObjM h a dx C b/\(∀f,RelO (fs.lookup f) (b f))/\PySem.Within b (fs.map (·.1))/\fs.length<=1000/\H dx=P3 (.own a):=by
 obtain⟨d,z,g,i,b,n,r,q⟩:=(c a _ e);exact⟨b,⟨i,n,g⟩,r,q,z,d⟩
end
structure Cls (K:Frag) (C:Db):Prop where
 pg:PySem.W.plainGet K C Str.empty=r_
 hd:PySem.W.hasDictIn K C=r_
 po:PySem.W.plainOver K C=r_
 sa:PySem.W.findIn K (.ref C) "__setattr__"=P3 (P3 (.builtin "object.__setattr__"))
theorem Cls.get{K:Frag}{C:Db}(c:Cls K C)(f:Str):PySem.W.plainGet K C f=r_:=c.pg
structure fg (K:Frag) (C:Db) (f:Str) (v:V) (u:Ev):Prop where
 at_:PySem.W.findIn K (.ref C) f=P3 (P3 u)
 rel:RelV v u
 get:PySem.W.specialIn K u "__get__"=P3 q_
 cp:PySem.W.copiedNames.contains f=s_
structure fb (K:Frag) (C:Db) (m:Str) (f:Db):Prop where
 at_:PySem.W.findIn K (.ref C) m=P3 (P3 (.ref f))
 fn:PySem.W.isFn K (.ref f)=r_
 kp:keepIn K (.ref f)=r_
section
variable {X:Cx}{zH:t_ (Addr×Obj)}{Z:St}{H:Hp}{s:Shared}{A:Around}{E:Value->Shared->Prop}{Q:Value->Shared->Prop}{c:Value}{b:Bool}
inductive Gr (K:Frag) (H:Hp):V->Ev->Prop where
 |non:Gr K H .non (.type "NoneType")
 |bl (x:Bool):Gr K H (.bl x) (.type "bool")
 |int (i:Int):Gr K H (.int i) (.type "int")
 |str (x:Str):Gr K H (.str x) (.type "str")
 |flt (x:UInt64):Gr K H (.flt x) (.type "float")
 |lst {a:Db}{xs:List V} (e:H a=P3 (.lst xs)):Gr K H (.ref a) (.type "list")
 |frz {a:Db}{o:Obj}{xs:List V} (e:H a=P3 (.frz o (.lst xs))):Gr K H (.ref a) (.type "list")
 |tup {a:Db}{xs:List V} (e:H a=P3 (.tup xs)):Gr K H (.ref a) (.type "tuple")
 |dF {a:Db}{o:Obj}{kvs:List (Key×V)} (e:H a=P3 (.frz o (.dK kvs))):Gr K H (.ref a) (.type "dict")
 |dK {a:Db}{kvs:List (Key×V)} (e:H a=P3 (.dK kvs)):Gr K H (.ref a) (.type "dict")
 |dT {a:Db}{kvs:List (List Key×V)} (e:H a=P3 (.dT kvs)):Gr K H (.ref a) (.type "dict")
 | ins {a C dx:Db}{fs:List (Str×V)} (e:H a=P3 (.ins C dx fs)) (cl:Cls K C) (ha:PySem.W.findIn K (.ref C) "__class__"=P3 (P3 (.builtin "object.__class__")))
   (hn:PySem.W.specialIn K (.builtin "object.__class__") "__get__"=P3 (P3 (.builtin "getset_descriptor.__get__"))) (htk:PySem.W.takesIn K (.builtin "object.__class__")=P3 r_)
   (hm:PySem.W.mroIn K C (.type "object")=P3 r_):Gr K H (.ref a) (.ref C)
theorem S2{x:V}{u t:Ev}(I:Inv X zH Z H s)(f:RelV x u)(ty:Gr X.K H x t)(e:PySem.W.kitOne X.K t c=P3 b)(h:∀F,Q (.bool b) {s with toks:=F}):
  wpAny (model X.prog X.w) A (call (.builtin "isinstance") [u,c]) Q E s:=by
 cases ty with
 |non=>cases(show u=gH from f); exact PySem.W.kia_one PySem.W.kitx_none I.kIn jL e (λz=>nomatch z) h
 |bl y=>cases(show u=jW y from f); exact PySem.W.kia_one PySem.W.kitx_bool I.kIn jL e (λz=>nomatch z) h
 |int i=>obtain⟨t,q⟩:=(show ∃t,u=Value.int i t from f); cases q; exact PySem.W.kia_one PySem.W.kitx_int I.kIn jL e (λz=>nomatch z) h
 |str y=>obtain⟨t,q⟩:=(show ∃t,u=je y t from f); cases q; exact PySem.W.kia_one PySem.W.kitx_str I.kIn jL e (λz=>nomatch z) h
 |flt y=>obtain⟨t,q⟩:=(show ∃t,u=Value.float y t from f); cases q; exact PySem.W.kia_one PySem.W.kitx_float I.kIn jL e (λz=>nomatch z) h
 |@lst a l d=>
  cases(show u=fj a from f);obtain⟨_,_,n,_,g⟩:=(show ObjOk X.prog X.w H s.heap a (.lst l)from I.hok a _ d);exact PySem.W.kia_one PySem.W.kitx_list I.kIn ⟨_,g,rfl⟩ e (λz=>nomatch z) h
 |@frz a m l d=>
  cases(show u=fj a from f);obtain⟨_,_,_,n,_,g⟩:=(show ObjOk X.prog X.w H s.heap a (.frz m (.lst l))from I.hok a _ d);exact PySem.W.kia_one PySem.W.kitx_list I.kIn ⟨_,g,rfl⟩ e (λz=>nomatch z) h
 |@tup a l d=>
  cases(show u=fj a from f);obtain⟨_,_,_,p⟩:=(show ObjOk X.prog X.w H s.heap a (.tup l)from I.hok a _ d);obtain⟨o,g,k,_⟩:=p;exact PySem.W.kia_one PySem.W.kitx_tuple I.kIn ⟨o,g,k⟩ e (λz=>nomatch z) h
 |@dF a m j d=>
  cases(show u=fj a from f);obtain⟨_,_,_,G,_,p⟩:=(show ObjOk X.prog X.w H s.heap a (.frz m (.dK j))from I.hok a _ d);obtain⟨o,v,B,g,k,_⟩:=p;exact PySem.W.kia_one PySem.W.kitx_dict I.kIn ⟨o,g,k.1⟩ e (λz=>nomatch z) h
 |@dK a j d=>
  cases(show u=fj a from f);obtain⟨_,_,G,_,p⟩:=(show ObjOk X.prog X.w H s.heap a (.dK j)from I.hok a _ d);obtain⟨o,v,B,g,k,_⟩:=p;exact PySem.W.kia_one PySem.W.kitx_dict I.kIn ⟨o,g,k.1⟩ e (λz=>nomatch z) h
 |@dT a j d=>
  cases(show u=fj a from f);obtain⟨_,_,l,_,o,v,B,g,k,_⟩:=(show ObjOk X.prog X.w H s.heap a (.dT j)from I.hok a _ d);exact PySem.W.kia_one PySem.W.kitx_dict I.kIn ⟨o,g,k.1⟩ e (λz=>nomatch z) h
 |@ins a C P R d D L M r N=>
  cases(show u=fj a from f);obtain⟨S,O,_⟩:=Xq I.hok d;obtain⟨T,J,_⟩:=O.look;exact PySem.W.kia_one (PySem.W.kitx_own (D.get _) D.hd L M r N) I.kIn J e (λz=>nomatch z) h
end
structure Room (k:Nat) (A:gS):Prop where
 hd:A.handled=q_
 dp:A.depth+3*k+5<recursionLimit
 un:A.units+16*k+200<cLine
 gd:A.guards=P3 []
theorem Room.mono{j k:Nat}{A:gS}(r:Room k A)(h:j<=k):Room j A:=⟨r.hd,by have:=r.dp; omega,by have:=r.un; omega,by first|exact r.gd|grind|grind⟩
theorem Room.deeper{k:Nat}{A:gS}(r:Room (k+1) A)(a:Env):Room k (A.deeper a):=
 ⟨r.hd,by have:=r.dp; show A.depth+1+3*k+5<_; omega,by have:=r.un; show A.units+3+16*k+200<_; omega,by first|exact r.gd|omega|grind⟩
theorem Room.in1{k:Nat}{A:gS}(r:Room (k+1) A):Room k A.in1:=
 ⟨r.hd,by have:=r.dp; grind,by have:=r.un; grind,by first|exact r.gd|omega|grind⟩
theorem Room.depth{k:Nat}{A:gS}(r:Room k A):A.depth<recursionLimit:=by have:=r.dp; omega
theorem Room.units{k:Nat}{A:gS}(r:Room k A):A.units+64<cLine:=by have:=r.un; omega
theorem Room.units0{k:Nat}{A:gS}(r:Room k A):A.units<cLine:=by have:=r.un; omega
def R0:TA:=λ_ H Q=>Q [] H
def Nw(a:TE)(b:TA):TA:=λZ H Q=>a Z H λx H1=>b Z H1 λc d=>Q (x::c) d
section
variable {X:Cx}{e:Expr}{es:t_ Expr}{te:TE}{t:TA}{pos:Pos}
theorem A9:PA X [] R0:=λ_ _ _ _ H Q I h=>ke ⟨[],H,I,.nil,h⟩
theorem Aq(a:PE X e te)(b:PA X es t)(c:starEach (e::es) X.env=(s_,eval e X.env)::starEach es X.env:=by rfl):PA X (e::es) (Nw te t):=by
 intro d o s Z H Q I h;rw[c];exact kL (thn (a _ s Z H _ I h) λu f ⟨x,H1,g,i,j⟩=>thn (b _ _ f Z H1 _ g j) λp q ⟨r,k,l,m,n⟩=>⟨_,k,l,.cons i m,n⟩)
def dS(t:TA):TE:=λZ H Q=>t Z H λa H1=>a.length<=sizeLine/\∀p,H1 p=q_->Q (.ref p) (A2 H1 p (.tup a))
def dX(t:TA):TE:=λZ H Q=>t Z H λa H1=>a.length<=sizeLine/\∀p,H1 p=q_->Q (.ref p) (A2 H1 p (.lst a))
theorem VA{x1}(h:PA X es t):PE X (.Tuple es x1 pos) (dS t):=by
 intro d s Z H Q I f;refine wpAny_Tuple_spliced (thn (h pos d s Z H _ I f) λg a ⟨i,H1,c,r,z,q⟩=>⟨by rw[←r.length]; exact z,?_⟩);have j:H1 a.heap.objs.size=q_:=c.hok.fresh (Re _);refine⟨.ref a.heap.objs.size,A2 H1 a.heap.objs.size (.tup i),c.laid (t':=a.toks) (λb u e=>No _ e) (Re _) ?_,rfl,q _ j⟩;exact⟨z,g,r,IsTupN.new _ _⟩
theorem IF(h:PA X es t):PE X (.List es pos) (dX t):=by
 intro d s Z H Q I f;refine wpAny_List_spliced (thn (h pos d s Z H _ I f) λg a ⟨i,H1,c,r,z,q⟩=>⟨by rw[←r.length]; exact z,?_⟩);have j:H1 a.heap.objs.size=q_:=c.hok.fresh (Re _);refine⟨.ref a.heap.objs.size,A2 H1 a.heap.objs.size (.lst i),c.laid (t':=a.toks) (λb u e=>No _ e) (Re _) ?_,rfl,q _ j⟩;exact⟨z,g,0,r,TW _ rfl⟩
end
abbrev Sp:=t_ V->Hp->VK->XK->Prop
abbrev Tr:=t_ Env->Hp->On->XK->Ev->On->Prop
structure Env0 (P:gD) (w:gK) (K:Frag) (mg:Str->Option Ev) (base:fu) (A:gS) (outer:List Env) (s:On) (H:Hp):Prop where
 frames:A.frames=P3 outer
 mod:Mod K mg base
 bs:∀b o,base.get? b=P3 o->s.heap.get? b=P3 o/\H b=q_
 bsz:base.objs.size<=s.heap.objs.size
 funs:s.heap.FunFrames base outer
 frf:∀b∈L5 outer,H b=q_
 hok:HOk P w H s.heap
 bare:jz s.gens
def CE(a:t_ Env)(P:gD)(w:gK)(H:Hp)(s:On)(Q:VK)(u:Ev)(b:On):Prop:=
 ∃v c,b.os=s.os/\jz b.gens/\Un (L5 a) [] H c s.heap b.heap/\HOk P w c b.heap/\RelV v u/\Q v c
def CR(c:Tr)(a:t_ Env)(P:gD)(w:gK)(H:Hp)(s:On)(Q:VK)(E:XK)(r:Result)(b:On):Prop:=
 match r with
 |.ok (.ret u)=>CE a P w H s Q u b
 |.ok _=>False
 |.error e=>c a H s E e b
structure A3 (P:gD) (w:gK) (K:Frag) (mg:Str->Option Ev) (base:fu) (CX:Tr) (k:Nat) (f:Db) (fd:gZ) (ps:List Str) (sp:Sp):Prop where
 len:∀vs H Q E,sp vs H Q E->vs.length=ps.length
 run:∀(A:gS) (outer:List Env) (s:On) (H:Hp) (args:Args) (us:List Ev) (vs:List V) (Q:VK) (E:XK),Room k A->Env0 P w K mg base A outer s H->mB s fd args (ps.zip us)->Vals vs us->sp vs H Q E->
  codeAny (model P w) A (.call (.ref f) args) (CR CX outer P w H s Q E) s
theorem Env0.in1{P:gD}{w:gK}{K:Frag}{c:Str->u_ Ev}{b:fu}{A:gS}{a:t_ Env}{s:On}{H:Hp}(e:Env0 P w K c b A a s H):
  Env0 P w K c b A.in1 a s H:=⟨e.frames,e.mod,e.bs,e.bsz,e.funs,e.frf,e.hok,e.bare⟩
section
variable {X:Cx}{zH:t_ (Addr×Obj)}{Z:St}{H:Hp}{s s':Shared}
theorem Inv.env0(I:Inv X zH Z H s):Env0 X.prog X.w X.K X.mg X.base X.A X.stack s H:=
 ⟨I.ok.frames,I.ok.mod,I.bs,gO I.ok.bsz I.sz,I.stack,I.stkFree,I.hok,I.bare⟩
theorem Inv.after{Q:VK}{u:Ev}(I:Inv X zH Z H s)(h:CE X.stack X.prog X.w H s Q u s'):EP X zH Z Q u s':=by
 obtain⟨v,f,i,a,j,c,r,q⟩:=h;obtain⟨k,g,d,t,e⟩:=s';obtain rfl:e=s.os:=i;exact⟨v,f,I.call j c a (λb z=>absurd z (by simp)),r,q⟩
end
def Qq(sp:Sp)(a:t_ V)(E:XK)(t:TA):TE:=λZ H Q=>t Z H λb H1=>sp (b++a) H1 Q E
def Binds(K:Frag)(fd:gZ)(b:t_ Str)(c:t_ Ev):Prop:=
 ∀(s:On) (a:t_ Ev),K.In s.heap->(a++c).length=b.length->mB s fd ⟨a,[]⟩ (b.zip (a++c))
theorem Binds.all{K:Frag}{fd:gZ}{b:t_ Str}(h:∀a:t_ Ev,a.length=b.length->bindArgs fd ⟨a,[]⟩=pure (b.zip a)):Binds K fd b []:=λs a _ c=>by
 rw[gk]at c ⊢;exact .of_eq (h a c)
def Gs(b:Tr)(X:Cx)(E:XK):Prop:=∀(c:t_ (Db×Obj)) (Z:St) (H:Hp) (s:On) (e:Ev) (a:On),Inv X c Z H s->b X.stack H s E e a->X.xe e a
section
variable {X:Cx}{CX:Tr}{k:Nat}{f C:Addr}{fd:FuncData}{ps:t_ Str}{sp:Sp}{dvs:t_ V}{ds:t_ Value}{E:XK}{x:Str}{p pos:Pos}{e:Expr}{es:t_ Expr}{t:TA}
theorem Ua{d:t_ (Db×Obj)}{Z:St}{H:Hp}{s:On}{Q:VK}{a:t_ Ev}{c:t_ V}(F:A3 X.prog X.w X.K X.mg X.base CX k f fd ps sp)(i:Room k X.A)(j:Binds X.K fd ps ds)(l:Vals dvs ds)(m:Gs CX X E)
  (I:Inv X d Z H s) (r:Vals c a) (h:sp (c++dvs) H Q E):wpAny (model X.prog X.w) X.A (call (.ref f) a) (EP X d Z Q) X.xe s:=by
 have g:Vals (c++dvs) (a++ds):=r.append l;have n:(a++ds).length=ps.length:=by rw[←g.length]; exact F.len _ _ _ _ h
 refine jq (lU (F.run X.A X.stack s H ⟨a,[]⟩ (a++ds) (c++dvs) Q E i I.env0 (j s a I.kIn n) g h) λr o b=>?_);cases r with
 |error e=>exact m d Z H s e o I b
 |ok q=>
  cases q with
  |ret u=>exact I.after b
  |next=>exact iP b
  |brk=>exact iP b
  |cont=>exact iP b
theorem Mj(F:A3 X.prog X.w X.K X.mg X.base CX k f fd ps sp)(d:Room k X.A)(g:Gl X x)(i:X.mg x=P3 (.ref f))(j:keepIn X.K (.ref f)=r_)(l:Binds X.K fd ps ds)(m:Vals dvs ds)(n:Gs CX X E)
  (o:PA X (e::es) t) (a:(x==("__debug__":Str))=s_:=by decide) (u:starEach (e::es) X.env=(s_,eval e X.env)::starEach es X.env:=by rfl) (b:(backTo pos (starEach es X.env)).any (·.1)=s_:=by rfl):
  PE X (.Call (.Name x p) (e::es) [] pos) (Qq sp dvs E t):=λv s Z H Q I h=>iK (Ee I g i (PySem.W.callWith_K I.ok.mod.kin j (thn (o _ _ s Z H _ I h) λy z ⟨B,H1,c,r,q⟩=>⟨c.kIn,Ua F d l m n c r q⟩) u b) a)
theorem VD(F:A3 X.prog X.w X.K X.mg X.base CX k f fd ps sp)(b:Room k X.A)(c:Gl X x)(d:X.mg x=P3 (.ref f))(e:keepIn X.K (.ref f)=r_)(g:Binds X.K fd ps ds)(i:Vals dvs ds)(j:Gs CX X E)
  (a:(x==("__debug__":Str))=s_:=by decide):PE X (.Call (.Name x p) [] [] pos) (Qq sp dvs E R0):=λl s Z H Q I h=>iK (Ee I c d (PySem.W.callWith_K0 I.kIn e (Ua F b g i j I .nil h)) a)
structure Mk (K:Frag) (C f:Db):Prop where
 makes:PySem.W.makesIn K C=r_
 init:PySem.W.findIn K (.ref C) "__init__"=P3 (P3 (.ref f))
 fn:PySem.W.isFn K (.ref f)=r_
 kp:keepIn K (.ref C)=r_
end
section
variable {fd:FuncData}{ps ks:t_ Str}
structure eQ (K:Frag) (fd:gZ) (ps ks:List Str) (g:List Ev->List Ev->List Ev) (gV:List V->List V->List V):Prop where
 to:∀(s:On) (us ws:List Ev),K.In s.heap->(g us ws).length=ps.length->mB s fd ⟨us,ks.zip ws⟩ (ps.zip (g us ws))
 rel:∀{vs:List V}{us:List Ev}{zs:List V}{ws:List Ev},Vals vs us->Vals zs ws->Vals (gV vs zs) (g us ws)
end
structure Ac (N P:List Str) (sc:jI):Prop where
 kind:sc.kind=.function
 co:sc.isCoroutine=s_
 gen:sc.isGenerator=s_
 nd:N.Nodup
 pre:N.take P.length=P
 par:∀x∈P,sc.names.lookup x=P3 .local\/sc.names.lookup x=P3 .cell
 nofree:∀y∈sc.names,y.2≠.free
theorem MA{a:Str->u_ jJ}{x:Str}:∀{binds:t_ (Str×Ev)}{m:Str->u_ Ev},(∀v,(x,v)∉binds)->bindL a binds m x=m x
 |[],_,_=>rfl
 |(n,v)::r,m,h=>by
  unfold bindL;rw[MA λw b=>h w (Rs _ b)]
  split
  ·grind
  ·rfl
theorem MC{a:Str->u_ jJ}{x:Str}:∀{binds:t_ (Str×Ev)}{m:Str->u_ Ev},(∀v,(x,v)∉binds)->bindC a binds m x=m x
 |[],_,_=>rfl
 |(n,v)::r,m,h=>by
  unfold bindC;rw[MC λw b=>h w (Rs _ b)]
  split
  ·rfl
  grind
theorem MB{a:Str->u_ jJ}{x:Str}{v:Ev}:∀{P:t_ Str}{b:t_ Ev}{i:Nat}{m:Str->u_ Ev},P.Nodup->P[i]?=P3 x->b[i]?=P3 v->a x=P3 .local->
  bindL a (P.zip b) m x=P3 v
 |[],_,_,_,_,h,_,_=>by simp at h
 |_::_,[],_,_,_,_,h,_=>by simp at h
 |p::P,w::b,0,m,c,d,e,f=>by
  simp at d e; subst d; subst e
  show bindL a ((p,w)::P.zip b) m p=_;unfold bindL;rw[MA λv g=>(gE.mp c).1 (jP g).1,if_pos f];simp
 |p::P,w::b,i+1,m,c,d,e,f=>by
  unfold bindL;exact MB (i:=i) (gE.mp c).2 (by simp_all) (by simp_all) f
theorem MD{a:Str->u_ jJ}{x:Str}{v:Ev}:∀{P:t_ Str}{b:t_ Ev}{i:Nat}{m:Str->u_ Ev},P.Nodup->P[i]?=P3 x->b[i]?=P3 v->a x≠P3 .local->
  bindC a (P.zip b) m x=P3 v
 |[],_,_,_,_,h,_,_=>by simp at h
 |_::_,[],_,_,_,_,h,_=>by simp at h
 |p::P,w::b,0,m,c,d,e,f=>by
  simp at d e; subst d; subst e
  show bindC a ((p,w)::P.zip b) m p=_;unfold bindC;rw[MC λv g=>(gE.mp c).1 (jP g).1,if_neg f];simp
 |p::P,w::b,i+1,m,c,d,e,f=>by
  unfold bindC;exact MD (i:=i) (gE.mp c).2 (by simp_all) (by simp_all) f
def start(N:t_ Str)(a:t_ V):St:=a.map P3++UF (N.length - a.length) q_
def IV(i:Tr)(P:gD)(w:gK)(K:Frag)(mg:Str->u_ Ev)(base:fu)(N:t_ Str)(c:Str)(a:jI)(f:Db)(h:Ev)(A:gS)(outer:t_ Env)(s:On)(H:Hp)(E:XK):Cx where
 prog:=P
 w:=w
 K:=K
 mg:=mg
 base:=base
 A:=A.deeper (envOfC c a s.heap.objs.size f h)
 N:=N
 s₀:=s
 H₀:=H
 env:=envOfC c a s.heap.objs.size f h
 outer:=outer
 stack:=envOfC c a s.heap.objs.size f h::outer
 ex:=[]
 calm:=r_
 fn:=λ_=>r_
 pn:=[]
 xe:=λe k=>wpAny (model P w) (A.deeper (envOfC c a s.heap.objs.size f h)) (leaving (envOfC c a s.heap.objs.size f h) e) (λ_ g=>i outer H s E e g) (λl g=>i outer H s E l g) k
theorem O9{a:jI}{n:Nat}{x:Str}(h:a.names.lookup x=P3 .cell):∃c,(cellsFrom n a.names []).lookup x=P3 c:=by
 have q:=PySem.W.cellsFrom_some a.names n [] (.inl h);exact Option.isSome_iff_exists.mp q
theorem S4{Q:Tr}{P:gD}{w:gK}{K:Frag}{M:Str->u_ Ev}{m:fu}{N t:t_ Str}{j:Str}{d:jI}{f:Db}{I:Ev}{A:gS}{g:t_ Env}{s R:On}{H:Hp}{E:XK}{O:t_ Ev}{B:t_ V}
  (S:Ac N t d) (W:A.handled=q_) (o:Env0 P w K M m A g s H) (hl:B.length=t.length) (r:Vals B O)
  (x:InCallC s s.heap.objs.size (bindL (envOfC j d s.heap.objs.size f I).kindOf (t.zip O) λ_=>q_) (cellsFrom (s.heap.objs.size+1) d.names []) (bindC (envOfC j d s.heap.objs.size f I).kindOf (t.zip O) λ_=>q_) R):
  Inv (IV Q P w K M m N j d f I A g s H E) [] (start N B) H R:=by
 have X:t.length<=N.length:=by have:=congrArg kz S.pre; rw[jK]at this; omega
 obtain⟨J,tk,rfl,T⟩:=x.done;have C:∀b:Db,b∉(IV Q P w K M m N j d f I A g s H E).ex:=λb z=>absurd (show b∈([]:t_ Db)from z) (by simp)
 refine⟨⟨o.mod,S.kind,rfl,rfl,Re _,λy z c J l=>?_,λy D=>?_,λy c _ h=>?_,λ_=>W,Around.frames_deeper o.frames,.inr ⟨rfl,rfl⟩,λb z=>absurd z (C b),o.bs,o.bsz,λb _ _=>C b,λb z=>absurd z (C b),o.funs,o.frf⟩,
  rfl,o.bare,Un.kept T,⟨_,x.toInCall.ns,λi y v J l h3=>?_⟩,λy c h=>⟨_,x.cell y c h⟩,o.hok.fresh (Re _),λy c h=>?_,λp F=>absurd (show p∈([]:t_ (Db×Obj))from F) (by simp),o.hok.kept T,?_⟩
 ·exact name_of_addr x.apart (PySem.mem_of_lookup J) (PySem.mem_of_lookup l)
 ·have D:d.names.lookup y=P3 .cell\/d.names.lookup y=P3 .free:=D
  rcases D with D|D
  ·exact O9 D
  ·exact absurd rfl (S.nofree _ (PySem.mem_of_lookup D))
 ·exact j7 (x.above y c (PySem.mem_of_lookup h))
 ·have L:i<B.length:=by
   unfold start at l
   by_cases L:i<B.length
   ·exact L
   ·rw[iT (by simpa using L)]at l
    rw[kZ]at l
    split at l <;>cases l
  have Y:B[i]?=P3 v:=by
   unfold start at l;rw[jX (by simpa using L),T0]at l;cases e:B[i]? with
   |none=>rw[e]at l; cases l
   |some a=>rw[e]at l; cases l; rfl
  obtain⟨u,U,Z⟩:=r.get Y
  have F:t[i]?=P3 y:=by
   rw[←S.pre,mq (by omega)]; exact J
  have G:t.Nodup:=by rw[←S.pre]; exact S.nd.sublist (kg _ _)
  refine⟨u,Z,?_⟩
  rcases S.par y (iD F)with k|k
  ·exact .inl ⟨k,MB G F U k⟩
  ·obtain⟨c,e⟩:=O9 (n:=s.heap.objs.size+1) k
   refine .inr ⟨.inl k,c,e,?_⟩;have q:=x.cell y c e;rw[MD G F U (by show d.names.lookup y≠_; rw[k]; decide)]at q;exact q
 ·exact o.hok.fresh (j7 (x.above y c (PySem.mem_of_lookup h)))
 ·unfold start
  show _=N.length;rw[fw,Go,nU];omega
theorem Y0{L:Tr}{P:gD}{w:gK}{K:Frag}{M:Str->u_ Ev}{h:fu}{k:Nat}{f:Db}{name d:Str}{i:Arguments}{j:t_ gG}{a:jI}{dV kV C pm g ct oc:Ev}{an od:u_ Db}
  {T:Array (u_ Ev)}{N O:t_ Str}{sp:Sp} (lk:K.lookup f=P3 ⟨oc,od,.func (fnOf name d i j a dV kV C pm an g ct),T⟩) (U:codeIn K g d=r_) (S:Ac N O a)
  (len:∀l H Q E,sp l H Q E->l.length=O.length)
  (p:∀(A:gS) (c:t_ Env) (s:On) (H:Hp) (l:t_ V) (Q:VK) (E:XK),Room k (A.deeper (envOfC d a s.heap.objs.size f g))->sp l H Q E->
   ∃t,PSs (IV L P w K M h N d a f g A c s H E) j t/\t {nx:=λ_ m=>Q .non m,rt:=Q} (start N l) H):
  A3 P w K M h L (k+1) f (fnOf name d i j a dV kV C pm an g ct) O sp:=by
 refine⟨len,λA c s H a0 us l Q E X D hb r F=>?_⟩;have hl:=len _ _ _ _ F;have KX:K.In s.heap:=D.mod.kin.keeps λb o e=>(D.bs b o e).1;have Y:s.heap.NoLimit:=D.mod.nolimit.keeps λb o e=>(D.bs b o e).1
 have z:∀y∈O.zip us,a.names.lookup y.1=P3 .local\/(a.names.lookup y.1=P3 .cell/\((cellsFrom (s.heap.objs.size+1) a.names []).lookup y.1).isSome=r_):=fun⟨n,v⟩ hy=>by
  rcases S.par n (jP hy).1 with q|q
  ·exact .inl q
  ·exact .inr ⟨q,PySem.W.cellsFrom_some _ _ _ (.inl q)⟩
 refine codeAny_call_function X.depth (KX _ _ lk) rfl S.co S.gen rfl (PySem.W.codeRec_of KX U) (hb _ _ _ _ ?_);refine wpAny_newFunctionEnv_cells S.kind z λa1 he s1 x=>?_;subst he;refine⟨Y.keeps x.toInCall.keep,codeAny_func ?_⟩;obtain⟨t,ht,hq⟩:=p A c s H l Q E (X.deeper _) F;have I:Inv (IV L P w K M h N d a f g A c s H E) [] (start N l) H s1:=S4 S X.hd D hl r x;refine gU (ht [] s1 (start N l) H _ I hq) (λfl Z B=>?_) λe Z B=>B
 have G:∀{R:St}{m:Hp}{v:V}{u:Ev},Inv (IV L P w K M h N d a f g A c s H E) [] R m Z->RelV v u->Q v m->CE c P w H s Q u Z:=
  λ{R m v u} J rv q=>⟨v,m,J.os,J.bare,J.base,J.hok,rv,q⟩
 cases fl with
 |ret u=>
  obtain⟨v,R,m,J,rv,q⟩:=B;exact G J rv q
 |next=>
  obtain⟨R,m,J,q⟩:=B;exact G (v:=V.non) (u:=gH) J rfl q
 |brk=>
  obtain⟨_,_,_,q⟩:=B;exact iP q
 |cont=>
  obtain⟨_,_,_,q⟩:=B;exact iP q
section
variable {X:Cx}{x:Str}{p pos:Pos}{e:Expr}{es:t_ Expr}{t:TA}{id T:String}{r:t_ V->Hp->VK->Prop}
def dA(r:t_ V->Hp->VK->Prop)(t:TA):TE:=λZ H Q=>t Z H λa H1=>r a H1 Q
theorem Cb(c:By X (.builtin id) r)(d:Gl X x)(f:X.mg x=q_)(g:bootBuiltins x=P3 (.builtin id))(i:PA X (e::es) t)(j:x ≠ "__name__":=by decide)(a:(x==("__debug__":Str))=s_:=by decide)
  (k:starEach (e::es) X.env=(s_,eval e X.env)::starEach es X.env:=by rfl) (b:(backTo pos (starEach es X.env)).any (·.1)=s_:=by rfl):PE X (.Call (.Name x p) (e::es) [] pos) (dA r t):=λv s Z H Q I h=>iK (DJ I d f g (PyProof.Rows.callWith_builtin1 (thn (i _ _ s Z H _ I h) λl m ⟨n,H1,o,q,u⟩=>c _ m Z H1 n l Q o q u) k b) j a)
theorem Lq(c:By X (.type T) r)(d:Gl X x)(f:X.mg x=q_)(g:bootBuiltins x=P3 (.type T))(i:PA X (e::es) t)(j:x ≠ "__name__":=by decide)(a:(x==("__debug__":Str))=s_:=by decide)
  (k:starEach (e::es) X.env=(s_,eval e X.env)::starEach es X.env:=by rfl) (b:(backTo pos (starEach es X.env)).any (·.1)=s_:=by rfl):PE X (.Call (.Name x p) (e::es) [] pos) (dA r t):=λv s Z H Q I h=>iK (DJ I d f g (hU (thn (i _ _ s Z H _ I h) λl m ⟨n,H1,o,q,u⟩=>c _ m Z H1 n l Q o q u) k b) j a)
end
end L2
namespace HT
section
variable {prog:Program}{w:World}{A:Around}{E:Value->Shared->Prop}{s:Shared}
theorem cat_tup{t b:Db}{d c:t_ Ev}{Q:Ev->On->Prop}(u:IsTup s.heap t d.toArray)(v:IsTup s.heap b c.toArray)(z:d≠[])
  (x:c=[]->Q (.ref t) s) (B:c≠[]->Q (.ref s.heap.objs.size) {s with heap:=s.heap.push {cls:=.type "tuple",data:=.seq (d++c).toArray}})
  (y:d.length+c.length<=sizeLine):wpAny (model prog w) A (binaryOp .Add (.ref t) (.ref b)) Q E s:=by
 obtain⟨⟨cls,k,data,l⟩,i,m,n,o⟩:=id u;obtain⟨⟨p,e,j,f⟩,a,g,q,h⟩:=id v;simp only at m o g h;subst m o g h
 by_cases r:c=[]
 ·exact concat_meets ⟨_,i,rfl⟩ ⟨_,a,rfl⟩ mr seq_tuple_add PySem.F.slot_tuple_add PySem.F.entry_tuple_add (PySem.F.args_tuple_add_2 _ _)
   (tuple_addW1 t b d.toArray c.toArray n q k e l f (by simp_all) (by simp[r])) ⟨i,a,x r⟩
 ·refine concat_meets ⟨_,i,rfl⟩ ⟨_,a,rfl⟩ mr seq_tuple_add PySem.F.slot_tuple_add PySem.F.entry_tuple_add (PySem.F.args_tuple_add_2 _ _)
   (tuple_addW2 t b d.toArray c.toArray n q k e l f (by grind) (by grind) (by omega)) ⟨i,a,?_⟩
  simp_all
def sIx(n d:Nat):u_ Int->Nat
 |none=>d
 |some v=>if v<0 then(v+(n:Int)).toNat else min v.toNat n
theorem sIx_none(n d:Nat):sIx n d q_=d:=rfl
theorem sIx_nat(n d k:Nat):sIx n d (P3 (k:Int))=min k n:=by
 show(if k<0 then((k:Int)+n).toNat else min _ n)=min k n;rw[if_neg (by omega),gz]
theorem Zf(n d:Nat)(a:d<=n)(o:u_ Int):sIx n d o<=n:=by
 cases o with
 |none=>exact a
 |some v=>
  show(if v<0 then(v+n).toNat else min _ n)<=n
  grind
theorem Rh(v:Int)(n d:Nat):(if v<0 then max (v+(n:Int)) 0 else min v (n:Int))=((sIx n d (P3 v):Nat):Int):=by
 show(if v<0 then max _ 0 else min v _)=(if v<0 then(v+n).toNat else min _ n)
 grind
theorem Qh(a b:u_ Int)(n:Nat):mi a b 1 (n:Int)=(((sIx n 0 a:Nat):Int),((sIx n n b:Nat):Int)):=by
 refine Prod.ext ?_ ?_
 ·cases a with
  |none=>rfl
  |some v=>exact Rh v n 0
 ·cases b with
  |none=>rfl
  |some v=>exact Rh v n n
theorem P6(i j:Nat):kI (i:Int) (j:Int) 1=j - i:=by
 unfold kI
 grind
theorem Jz{v:Ev}{o:u_ Int}{Q:u_ Int->On->Prop}(p:lV v o)(h:Q o s):wpAny (model prog w) A (Builtin.Slice.slicePartIndex v) Q E s:=by
 cases p with
 |none=>exact slicePart_none h
 |int i t=>exact slicePart_int h
theorem sliceApplied_gen{g:Db}{e f:Ev}{a d:u_ Int}{n:Nat}{Q:Int×Int×Nat->On->Prop}(i:s.heap.IsSliceOf g e f .none)(j:lV e a)(k:lV f d)
  (h:Q (((sIx n 0 a:Nat):Int),1,sIx n n d - sIx n 0 a) s):wpAny (model prog w) A (Builtin.Slice.sliceApplied (.ref g) (pure (n:Int))) Q E s:=by
 obtain⟨m,b,l,c⟩:=id i;refine Ch (Ch (gf b c (x:=e) rfl (Ch (gf b c (x:=f) rfl (Ch (gf b c (x:=.none) rfl (Op ?_)))))));refine Ch (slicePart_none ?_);refine Ch (Jz j (Ch (Jz k (Ch (Op ?_)))));show wpAny _ _ (match mi a d 1 (n:Int)with|(a,d)=>pure (a,(1:Int),kI a d 1)) _ _ s;rw[Qh a d n];show wpAny _ _ (pure _) _ _ s;rw[P6];exact Op h
theorem U7(a:Array Ev)(i k:Nat):((gF k).filterMap fun(m:Nat)=>a[((i:Int)+(m:Int)*1).toNat]?).toArray=((a.toList.drop i).take k).toArray:=by
 have e:(fun(m:Nat)=>a[((i:Int)+(m:Int)*1).toNat]?)=λm=>a[i+m]?:=by
  grind
 rw[e]
 have:=pick_run a i k
 rw[List.filterMap_map]at this;have b:((λx=>a[x]?)∘λx=>i+x)=λm=>a[i+m]?:=rfl
 grind
theorem getItem_tuple_cut{t g:Db}{a:Array Ev}{n o:Ev}{c d:u_ Int}{Q:Ev->On->Prop}(f:IsTup s.heap t a)(p:s.heap.IsSliceOf g n o .none)(q:lV n c)(r:lV o d)
  (y:¬(sIx a.size 0 c=0/\sIx a.size a.size d=a.size))
  (h:Q (.ref s.heap.objs.size) {s with heap:=s.heap.push {cls:=.type "tuple",data:=.seq ((a.toList.drop (sIx a.size 0 c)).take (sIx a.size a.size d - sIx a.size 0 c)).toArray}})
  (u:a.size<=sizeLine):wpAny (model prog w) A (getItem (.ref t) (.ref g)) Q E s:=by
 have e:sizeOk (.seq ((a.toList.drop (sIx a.size 0 c)).take (sIx a.size a.size d - sIx a.size 0 c)).toArray):=by
  show((a.toList.drop (sIx a.size 0 c)).take (sIx a.size a.size d - sIx a.size 0 c)).toArray.size<=sizeLine;rw[fk,jK,List.length_drop,iH];omega
 have z:sIx a.size a.size d<=a.size:=Zf _ _ (Re _) d;obtain⟨v,i,j,x⟩:=id p;have k:s.TypeIs (.ref g) "slice":=⟨v,i,j⟩;unfold getItem
 try with_reducible refine gQ ?_
 first|refine Ch (Op ?_)|skip
 refine Ch (wpAny_sequenceKey f.typeIs (by decide) ?_)
 refine Ch (gw (name:=ig "__getitem__") f.typeIs iB
  (iN iB f.typeIs entry_tuple_getitem ?_ (args_tuple_getitem _ _)))
 show wpAny _ _ (mU (.ref t) >>=_) _ _ s;refine Ch (tupleItemsOf_ f ?_);refine Ch (i9 k ?_);rw[if_pos (by decide)];refine Ch (sliceApplied_gen p q r ?_)
 have l:¬((((sIx a.size 0 c:Nat):Int)==0&&(1:Int)==1&&(sIx a.size a.size d - sIx a.size 0 c)==a.size)=r_):=by
  grind
 show wpAny _ _ (if(((sIx a.size 0 c:Nat):Int)==0&&(1:Int)==1&&(sIx a.size a.size d - sIx a.size 0 c)==a.size)=r_ then _ else _) _ _ s;rw[if_neg l,U7]
 first
  |exact Ch (m:=kM _) (iI (Op ⟨_,rfl,Op h⟩) e)
  |grind
  |grind
  |grind
end
end HT
namespace L2
abbrev TO:=St->Hp->(u_ Int->Hp->Prop)->Prop
def PO(X:Cx)(e:u_ gB)(t:TO):Prop:=
 ∀(a:t_ (Db×Obj)) (s:On) (Z:St) (H:Hp) (Q:u_ Int->Hp->Prop),Inv X a Z H s->t Z H Q->
  wpAny (model X.prog X.w) X.A (evalPart e X.env) (λu c=>∃o b,Inv X a Z b c/\lV u o/\Q o b) X.xe s
def W3:TO:=λ_ H Q=>Q q_ H
def bO(t:TE):TO:=λZ H Q=>t Z H λx H1=>∃i,x=.int i/\Q (P3 i) H1
section
variable {X:Cx}{e:Expr}{te:TE}{lo hi:u_ Expr}{tl th:TO}{pos p2:Pos}
theorem Q6:PO X q_ W3:=λa s Z H Q I h=>Op ⟨_,H,I,.none,h⟩
theorem Q5(h:PE X e te):PO X (P3 e) (bO te):=by
 intro f s Z H Q I a;refine thn (h _ s Z H _ I a) λu g ⟨x,H1,b,c,d⟩=>?_;obtain⟨i,rfl,q⟩:=d;obtain⟨t,rfl⟩:=c;exact⟨_,H1,b,.int i t,q⟩
def SlR(X:Cx)(r:V->u_ Int->u_ Int->Hp->VK->Prop):Prop:=
 ∀(a:t_ (Db×Obj)) (s:On) (Z:St) (H:Hp) (x:V) (v b c:Ev) (lo hi:u_ Int) (d:Db) (Q:VK),Inv X a Z H s->RelV x v->s.heap.IsSliceOf d b c .none->lV b lo->lV c hi->r x lo hi H Q->
  ∃T e,typeLookup (.type T) "__getitem__"=pure (P3 (.builtin e))/\s.TypeIs v T/\wpAny (model X.prog X.w) X.A (getItem v (.ref d)) (EP X a Z Q) X.xe s
theorem SlR.or{r a:V->u_ Int->u_ Int->Hp->VK->Prop}(h:SlR X r)(j:SlR X a):SlR X (λx lo hi H Q=>r x lo hi H Q\/a x lo hi H Q):=by
 intro k s Z H x v b c lo hi d Q I e f g i q
 rcases q with q|q
 ·exact h _ s Z H x v b c lo hi d Q I e f g i q
 ·exact j _ s Z H x v b c lo hi d Q I e f g i q
def fK(r:V->u_ Int->u_ Int->Hp->VK->Prop)(te:TE)(tl th:TO):TE:=λZ H Q=>te Z H λx H1=>tl Z H1 λl a=>th Z a λu b=>r x l u b Q
theorem OL{r:V->u_ Int->u_ Int->Hp->VK->Prop}(i:SlR X r)(j:PE X e te)(k:PO X lo tl)(m:PO X hi th):PE X (.Subscript e (.Slice lo hi q_ p2) pos) (fK r te tl th):=by
 intro c s Z H Q I h;refine Subscript_ (thn (j c s Z H _ I h) λv n ⟨x,H1,o,p,t⟩=>?_);refine wpAny_Slice (thn (k c n Z H1 _ o t) λd y ⟨l,z,B,C,D⟩=>thn (m c y Z z _ B D) λf a ⟨u,g,E,F,G⟩=>?_);rw[evalPart_none];refine Op ?_;have J:Inv X c Z g {a with heap:=a.heap.push {cls:=.type "slice",data:=.fields #[d,f,.none]}}:=E.kept (t':=a.toks) λb N q=>No _ q;obtain⟨T,O,K,L,M⟩:=i c {a with heap:=a.heap.push {cls:=.type "slice",data:=.fields #[d,f,.none]}} Z g x v d f l u a.heap.objs.size Q J p (Heap.IsSliceOf.new ..) C F G;show wpAny (model X.prog X.w) X.A (subscriptTail e (.Slice lo hi q_ p2) v (.ref a.heap.objs.size)) (EP X c Z Q) X.xe {a with heap:=a.heap.push {cls:=.type "slice",data:=.fields #[d,f,.none]}};exact tail_any (ops:=[.ref a.heap.objs.size,v]) L K M (by with_unfolding_all rfl)
def O4(a:t_ V)(lo hi:u_ Int):t_ V:=(a.drop (HT.sIx a.length 0 lo)).take (HT.sIx a.length a.length hi - HT.sIx a.length 0 lo)
theorem Iq(a:t_ V)(lo hi:u_ Int):(O4 a lo hi).length<=a.length:=by
 unfold O4
 grind
def bd(K:Frag):V->u_ Int->u_ Int->Hp->VK->Prop:=λx lo hi H Q=>∃a b,x=.ref a/\SqT K H a b /\
 ¬(HT.sIx b.length 0 lo=0/\HT.sIx b.length b.length hi=b.length)/\∀p,H p=q_->Q (.ref p) (A2 H p (.tup (O4 b lo hi)))
theorem sl_tup:SlR X (bd X.K):=by
 intro n s Z H x v o p lo hi t Q I g i j k h;obtain⟨a,e,rfl,l,u,q⟩:=h;cases g;obtain⟨d,r,f,m⟩:=I.tuple l;have c:d.toArray.size=e.length:=by exact r.length.symm
 refine⟨_,_,iB.lookup,f.typeIs,?_⟩;refine HT.getItem_tuple_cut f i j k (by grind) ?_ (by simp_all);rw[c];refine⟨.ref _,_,I.laid (λb w q=>No _ q) (Re _) ?_,rfl,q _ (I.hok.fresh (Re _))⟩;exact⟨gO (Iq e lo hi) m,_,(r.drop _).take _,IsTupN.new _ _⟩
def Uw(K:Frag):R2:=λx y H Q=>∃a b d c,x=.ref a/\y=.ref b/\SqT K H a d/\SqT K H b c/\d≠[]/\d.length+c.length<=sizeLine /\
 (c=[]->Q (.ref a) H)/\(c≠[]->∀p,H p=q_->Q (.ref p) (A2 H p (.tup (d++c))))
theorem Vals.nil_iff{a:t_ V}{b:t_ Ev}(r:Vals a b):b=[]↔a=[]:=by
 cases r with
 |nil=>simp
 |cons _ _=>simp
theorem op_catT:OpR X (binaryOp .Add) (Uw X.K):=by
 intro r s Z H x y v u Q I f g h;obtain⟨a,b,t,A,rfl,rfl,i,j,k,l,m,n⟩:=h;cases f;cases g;obtain⟨o,d,p,_⟩:=I.tuple i;obtain⟨e,c,p2,_⟩:=I.tuple j;refine HT.cat_tup p p2 (λz=>k (d.nil_iff.mp z)) (λz=>⟨.ref a,H,I,rfl,m (c.nil_iff.mp z)⟩) (λz=>?_) (by rw[←d.length,←c.length]; exact l);refine⟨.ref _,_,I.laid (λb B q=>No _ q) (Re _) ?_,rfl,n (λw=>z (c.nil_iff.mpr w)) _ (I.hok.fresh (Re _))⟩;exact⟨by simp_all,_,d.append c,IsTupN.new _ _⟩
end
def Tl(n:Nat)(i:Int):u_ Nat:=if 0<=i then(if i<n then P3 i.toNat else q_)else if -(n:Int)<=i then P3 (i+n).toNat else q_
def atI{a:Type}(b:t_ a)(i:Int):u_ a:=(Tl b.length i).bind λj=>b[j]?
theorem RH{n:Nat}{i:Int}{j:Nat}(h:Tl n i=P3 j):seqIndex? i n=P3 j/\j<n/\-(n:Int)<=i/\i<n:=by
 unfold Tl at h
 by_cases b:0<=i
 ·rw[if_pos b]at h
  by_cases a:i<n
  ·rw[if_pos a]at h
   have e:i.toNat=j:=ft h;exact⟨by rw[seqIndex_of b a,e],by omega,by omega,a⟩
  grind
 ·rw[if_neg b]at h
  by_cases a:-(n:Int)<=i
  ·rw[if_pos a]at h
   have e:(i+n).toNat=j:=ft h;exact⟨by rw[seqIndex_neg (by omega) a,e],by omega,a,by omega⟩
  grind
theorem NP{b:Type}{a:t_ b}{i:Int}{v:b}(h:atI a i=P3 v):∃j,seqIndex? i a.length=P3 j/\a[j]?=P3 v/\j<a.length/\-(a.length:Int)<=i/\i<a.length:=by
 unfold atI at h;cases e:Tl a.length i with
 |none=>simp_all
 |some j=>
  obtain⟨c,d,f,g⟩:=RH e
  simp_all
theorem AK{a:Type}{xs:t_ a}{j:Nat}{v:a}(h:xs[j]?=P3 v):atI xs (j:Int)=P3 v:=by
 have b:=(ZB.mp h).1
 have e:Tl xs.length j=P3 j:=by
  unfold Tl
  simp_all
 unfold atI; grind
theorem PN{b:Type}(a:t_ b)(v:b):atI (a++[v]) (-1)=P3 v:=by
 have e:Tl (a++[v]).length (-1)=P3 a.length:=by
  unfold Tl
  grind
 unfold atI
 grind
def Ru(b:gB):Prop:=∀o i,subscripted b s_ o i=operate [o,i] (getItem o i)
def IxR(X:Cx)(r:R2):Prop:=
 ∀(b a:gB) (c:t_ (Db×Obj)) (s:On) (Z:St) (H:Hp) (x y:V) (v u:Ev) (Q:VK),Inv X c Z H s->RelV x v->RelV y u->r x y H Q->
  subscripted a s_ v u=operate [v,u] (getItem v u)->wpAny (model X.prog X.w) X.A (subscriptTail b a v u) (EP X c Z Q) X.xe s
def cz(X:Cx)(d:String)(r:V->t_ V->Hp->VK->Prop):Prop:=
 ∀(a:t_ (Db×Obj)) (s:On) (Z:St) (H:Hp) (x:V) (b:t_ V) (v:Ev) (c:t_ Ev) (Q:VK),Inv X a Z H s->RelV x v->Vals b c->r x b H Q->
  wpAny (model X.prog X.w) X.A (call (.builtin d) (v::c)) (EP X a Z Q) X.xe s
section
variable {X:Cx}{a b:Expr}{ta tb:TE}{pos:Pos}
theorem IxR.or{r e:R2}(h:IxR X r)(j:IxR X e):IxR X (λx y H Q=>r x y H Q\/e x y H Q):=by
 intro c d k s Z H x y v u Q I f g q i
 rcases q with q|q
 ·exact h _ _ _ s Z H x y v u Q I f g q i
 ·exact j _ _ _ s Z H x y v u Q I f g q i
theorem BS{r:R2}(c:IxR X r)(d:PE X a ta)(e:PE X b tb)(f:Ru b):PE X (.Subscript a b pos) (DP r ta tb):=λm s Z H Q I h=>Subscript_ (ae d e I h λv u g x y i j k l q=>c a b _ g Z i x y v u Q j k l q (f _ _))
def SJ(K:Frag):R2:=λx y H Q=>∃p c i v,x=.ref p/\y=.int i/\SqL K H p c/\atI c i=P3 v/\Q v H
def bo(K:Frag):R2:=λx y H Q=>∃p c i v,x=.ref p/\y=.int i/\SqT K H p c/\atI c i=P3 v/\Q v H
def bp:R2:=λx y H Q=>∃z i c,x=.str z/\y=.int i/\z.length<=sizeLine/\atI z.cps.toList i=P3 c/\Q (.str ⟨#[c]⟩) H
theorem ix_list:IxR X (SJ X.K):=by
 intro d e l s Z H x y v u Q I B C h m;obtain⟨p,N,i,z,rfl,rfl,D,E,q⟩:=h;cases B;obtain⟨t,rfl⟩:=C;obtain⟨f,r,g,O⟩:=I.list D;obtain⟨j,n,F,P,G,J⟩:=NP E;obtain⟨w,L,k⟩:=r.get F;have R:=r.length;have S:=IJ;have c:EP X l Z Q w s:=⟨z,H,I,k,q⟩
 by_cases o:0<=i
 ·have A:i.toNat=j:=by
   rw[seqIndex_of o J]at n
   grind
  exact item_listR g.isList o (by omega) (by rw[A]; simpa using L) c m
 ·have A:(i+(f.toArray.size:Int)).toNat=j:=by
   rw[seqIndex_neg (by omega) G]at n
   grind
  exact subscriptTail_builtinR (x:=w) g.isList.typeIs slot_list_getitem.lookup
   (wpAny_getItem_list_neg (Q:=λr M=>r=w/\EP X l Z Q r M) g.isList (by omega) (by grind) (by omega) (by grind) ⟨rfl,c⟩) m
theorem ix_tup:IxR X (bo X.K):=by
 intro c d B s Z H x y v u Q I g k h l;obtain⟨p,C,i,z,rfl,rfl,m,n,q⟩:=h;cases g;obtain⟨t,rfl⟩:=k;obtain⟨o,r,f,D⟩:=I.tuple m;obtain⟨j,E,A,F,G,J⟩:=NP n;obtain⟨w,L,e⟩:=r.get A;have M:=r.length;have N:=IJ
 exact subscriptTail_builtinR f.typeIs iB.lookup
  (getItem_tuple (j:=j) f (by omega) (by omega) (by grind) (by grind) ⟨rfl,⟨z,H,I,e,q⟩⟩) l
theorem aB:IxR X bp:=by
 intro d e m s Z H x y v u Q I f g h k;obtain⟨z,i,c,rfl,rfl,n,l,q⟩:=h;obtain⟨t,rfl⟩:=f;obtain⟨o,rfl⟩:=g;obtain⟨j,p,r,w,A,B⟩:=NP l;have C:z.cps.toList.length=z.length:=by simp[Str.length]
 have D:=IJ
 exact tail_any (kW s z t) slot_str_getitem.lookup (getItem_str (by
  grind) (by grind) ⟨.str _,H,I.tok _,⟨_,rfl⟩,q⟩) k
def eZ(K:Frag):R2:=λx y H Q=>SJ K x y H Q\/bo K x y H Q\/bp x y H Q
theorem AQ:IxR X (eZ X.K):=ix_list.or (ix_tup.or aB)
theorem QH(c:t_ Ev)(n j:Nat)(u:Ev):hV (·.setIfInBounds j u) {cls:=.type "list",data:=.seq c.toArray n}={cls:=.type "list",data:=.seq (c.set j u).toArray n}:=by
 simp[hV]
theorem Inv.lst{f:t_ (Db×Obj)}{Z:St}{H:Hp}{s:On}{p:Db}{d:t_ V}(I:Inv X f Z H s)(h:H p=P3 (.lst d)):
  ∃(c:t_ Ev) (n:Nat),Vals d c/\s.heap.get? p=P3 {cls:=.type "list",data:=.seq c.toArray n}/\d.length<=sizeLine:=by
 obtain⟨z,c,n,r,e⟩:=I.hok p _ h;exact⟨_,n,r,e,z⟩
theorem Inv.lstUpd{j:t_ (Db×Obj)}{Z:St}{H:Hp}{s:On}{p:Db}{l g:t_ V}{d c:t_ Ev}{n i:Nat}{f:Obj->Obj}(I:Inv X j Z H s)(h:H p=P3 (.lst l))
  (m:s.heap.get? p=P3 {cls:=.type "list",data:=.seq d.toArray n}) (k:f {cls:=.type "list",data:=.seq d.toArray n}={cls:=.type "list",data:=.seq c.toArray i}) (r:Vals g c) (o:g.length<=sizeLine) (t:Nat):
  Inv X j Z (A2 H p (.lst g)) {s with heap:=s.heap.update p f,toks:=t}:=by
 have e:(s.heap.update p f).get? p=P3 {cls:=.type "list",data:=.seq c.toArray i}:=by
  rw[iQ f m (by rw[k] <;>rfl),k]
 exact I.write (by rw[h]; trivial) (.inl rfl) (λb u v q=>(fv _ _ (gP v)).trans q) ⟨_,e⟩ ⟨o,_,i,r,e⟩
def Ur:V->V->V->Hp->(Hp->Prop)->Prop:=λo i v H Q=>∃p c k j,o=.ref p/\i=.int k/\H p=P3 (.lst c)/\Tl c.length k=P3 j/\Q (A2 H p (.lst (c.set j v)))
theorem set_list:cr X Ur:=by
 intro w s Z H o i v E F u Q I x y z h;obtain⟨p,A,k,j,rfl,rfl,f,B,q⟩:=h;cases x;obtain⟨t,rfl⟩:=y;obtain⟨c,n,r,d,G⟩:=I.lst f;obtain⟨g,J,C,D⟩:=RH B;have K:=r.length;have L:=IJ
 have l:Inv X w Z (A2 H p (.lst (A.set j v))) {s with heap:=s.heap.update p (hV (·.setIfInBounds j u))}:=
  I.lstUpd f d (QH c n j u) (r.set z j) (by simp_all) s.toks
 by_cases m:0<=k
 ·have e:k.toNat=j:=by
   rw[seqIndex_of m D]at g
   grind
  exact PySem.W.ki_setAt d m (by omega) (by grind) (by rw[e]; exact⟨_,l,q⟩)
 ·have e:(k+(c.toArray.size:Int)).toNat=j:=by
   rw[seqIndex_neg (by omega) C]at g
   grind
  exact PySem.W.ki_setBack d (by omega) (by grind) (by omega) (by rw[e]; exact⟨_,l,q⟩)
theorem MV(c d:u_ Int)(n:Nat):(sliceBounds c d q_ n).1=((HT.sIx n 0 c:Nat):Int)/\(sliceBounds c d q_ n).2.1=((HT.sIx n n d:Nat):Int)/\(sliceBounds c d q_ n).2.2=1:=by
 refine⟨?_,?_,rfl⟩
 ·cases c with
  |none=>simp[sliceBounds,HT.sIx]
  |some i=>
   simp only[sliceBounds,HT.sIx,Option.getD_none,show(1:Int) > 0 by decide,if_true]
   by_cases h:i<0
   ·grind
   ·simp only[h,if_false] <;>omega
 ·cases d with
  |none=>simp[sliceBounds,HT.sIx]
  |some i=>
   simp only[sliceBounds,HT.sIx,Option.getD_none,show(1:Int) > 0 by decide,if_true]
   by_cases h:i<0
   ·grind
   ·simp only[h,if_false] <;>omega
theorem LH(c:t_ Ev)(d e:u_ Int):slicePick c.toArray d e q_=((c.drop (HT.sIx c.length 0 d)).take (HT.sIx c.length c.length e - HT.sIx c.length 0 d)).toArray:=by
 obtain⟨f,g,h⟩:=MV d e _;unfold slicePick;rw[f,g,h];simp only[sliceRange_one,pick_run] <;>rfl
def be(K:Frag):V->u_ Int->u_ Int->Hp->VK->Prop:=λx d e H Q=>∃a c,x=.ref a/\SqL K H a c/\∀p,H p=q_->Q (.ref p) (A2 H p (.lst (O4 c d e)))
theorem sl_list:SlR X (be X.K):=by
 intro p s Z H x v t u e f w Q I g i j k h;obtain⟨a,l,rfl,m,q⟩:=h;cases g;obtain⟨n,r,d,o⟩:=I.list m;have c:=r.length;refine⟨_,_,slot_list_getitem.lookup,d.isList.typeIs,?_⟩;refine wpAny_getItem_list_slice d.isList i j k .none (by simp) ?_ (by grind);rw[LH,←c];refine⟨.ref _,_,I.laid (λb y q=>No _ q) (Re _) ?_,rfl,q _ (I.hok.fresh (Re _))⟩;exact⟨gO (Iq l e f) o,_,0,(r.drop _).take _,TW _ rfl⟩
def Y1:V->Bool
 |.non=>r_
 |.bl _=>r_
 |.int _=>r_
 |.str _=>r_
 |_=>s_
def cS:V->V->Bool
 |.non,.non=>r_
 |.bl a,.bl b=>a==b
 |.bl a,.int b=>(if a then 1 else 0)==b
 |.int a,.bl b=>a==(if b then 1 else 0)
 |.int a,.int b=>a==b
 |.str a,.str b=>a==b
 |_,_=>s_
theorem NB{A:gS}{s:On}{y x:V}{u v:Ev}(e:RelV y u)(c:RelV x v)(g:Y1 y=r_)(f:Y1 x=r_):SeqAt.EqAt A s u v (cS y x):=by
 cases y with
 |non=>
  cases e;cases x with
  |non=>cases c; exact SeqAt.EqAt.same _
  |bl b=>cases c; exact SeqAt.EqAt.none_bool b
  |int b=>obtain⟨t,rfl⟩:=c; exact SeqAt.EqAt.none_int b t
  |str b=>obtain⟨t,rfl⟩:=c; exact SeqAt.EqAt.none_str b t
  |_=>exact absurd (show s_=r_ from f) f6
 |bl a=>
  cases e;cases x with
  |non=>cases c; exact SeqAt.EqAt.bool_none a
  |bl b=>cases c; exact SeqAt.EqAt.bool_bool a b
  |int b=>obtain⟨t,rfl⟩:=c; exact SeqAt.EqAt.bool_int a b t
  |str b=>obtain⟨t,rfl⟩:=c; exact SeqAt.EqAt.bool_str a b t
  |_=>exact absurd (show s_=r_ from f) f6
 |int a=>
  obtain⟨d,rfl⟩:=e;cases x with
  |non=>cases c; exact SeqAt.EqAt.int_none a d
  |bl b=>cases c; exact SeqAt.EqAt.int_bool a d b
  |int b=>obtain⟨t,rfl⟩:=c; exact SeqAt.EqAt.int_int a d b t
  |str b=>obtain⟨t,rfl⟩:=c; exact oH a d b t
  |_=>exact absurd (show s_=r_ from f) f6
 |str a=>
  obtain⟨d,rfl⟩:=e;cases x with
  |non=>cases c; exact SeqAt.EqAt.str_none a d
  |bl b=>cases c; exact SeqAt.EqAt.str_bool a d b
  |int b=>obtain⟨t,rfl⟩:=c; exact oI a d b t
  |str b=>obtain⟨t,rfl⟩:=c; exact SeqAt.EqAt.str_str a d b t
  |_=>exact absurd (show s_=r_ from f) f6
 |_=>exact absurd (show s_=r_ from g) f6
theorem Eh:By X (.type "list") (λB H Q=>∃p f,B=[.ref p]/\(SqL X.K H p f\/SqT X.K H p f)/\∀l,H l=q_->Q (.ref l) (A2 H l (.lst f))):=by
 intro D s Z H B F Q I r h;obtain⟨p,f,rfl,j,q⟩:=h;obtain⟨u,rfl,E⟩:=vals1 r;cases E
 have k:∀(c:t_ Ev),Vals f c->f.length<=sizeLine->∀(d:fu) (i:Nat),(∀b C,s.heap.get? b=P3 C->d.get? b=P3 C)->
   d.get? s.heap.objs.size=P3 _->EP X D Z Q (.ref s.heap.objs.size) {s with heap:=d}:=λc g m d i t e=>
  ⟨.ref s.heap.objs.size,_,I.laid (t':=s.toks) t (Re _) (show ObjOk X.prog X.w _ d _ (.lst f)from⟨m,c,i,g,e⟩),rfl,q _ (I.hok.fresh (Re _))⟩
 rcases j with j|j
 ·obtain⟨c,g,x,m⟩:=I.list j
  have v:=g.length;obtain⟨o,y,z,n,A⟩:=x.isList;exact call_list_seq p (.inl rfl) y z A (λd i t e=>k c g m d i t e) (by grind)
 ·obtain⟨c,g,x,m⟩:=I.tuple j
  have v:=g.length;obtain⟨o,y,z,n,A⟩:=x;exact call_list_seq p (.inr rfl) y z A (λd i t e=>k c g m d i t e) (by grind)
theorem BJ:By X (.type "tuple") (λj H Q=>∃p c,j=[.ref p]/\((SqL X.K H p c/\∀l,H l=q_->Q (.ref l) (A2 H l (.tup c)))\/(SqT X.K H p c/\Q (.ref p) H))):=by
 intro w s Z H j x Q I r h;obtain⟨p,c,rfl,h⟩:=h;obtain⟨u,rfl,t⟩:=vals1 r;cases t
 rcases h with⟨d,q⟩|⟨d,q⟩
 ·obtain⟨f,g,i,k⟩:=I.list d
  have m:=g.length;refine call_tuple_list i.isList (λy v=>?_) (by grind);have n:=I.kept (t':=s.toks) v;exact⟨.ref _,_,n.laid (t':=s.toks) (λb o e=>No _ e) (Re _) (show ObjOk _ _ _ _ _ (.tup c)from⟨k,_,g,IsTupN.new _ _⟩),rfl,q _ (n.hok.fresh (Re _))⟩
 ·obtain⟨f,g,i,k⟩:=I.tuple d
  exact call_tuple_same i ⟨.ref p,H,I,rfl,q⟩
def dQ(K:Frag)(T:String)(x:V)(H:Hp):Prop:=match x with
 |.str _=>T="str"
 |.int _=>T="int"
 | .ref p=>(T="list"/\∃d,SqL K H p d)\/(T="tuple"/\∃o,K.lookup p=P3 o/\o.cls=.type "tuple"/\o.dict=q_) \/
   (T="dict"/\((∃c,H p=P3 (.dK c))\/∃c,H p=P3 (.dT c)))\/(T="set"/\∃S n,H p=P3 (.set S n))
 |_=>False
theorem ZQ{l:t_ (Db×Obj)}{Z:St}{H:Hp}{s:On}{T:String}{x:V}{v:Ev}(I:Inv X l Z H s)(r:RelV x v)(ty:dQ X.K T x H):
  s.TypeIs v T/\∀a,v=.ref a->∃j,s.heap.get? a=P3 j/\j.dict=q_:=by
 cases x with
 |str z=>
  obtain⟨t,rfl⟩:=r;cases(show T="str" from ty);exact⟨kW s z t,λ_ e=>nomatch e⟩
 |int i=>
  obtain⟨t,rfl⟩:=r;cases(show T="int" from ty);exact⟨typeIs_int s i t,λ_ e=>nomatch e⟩
 | ref p=>
  cases r
  rcases ty with⟨rfl,w,m⟩|⟨rfl,o,d,q,f⟩|⟨rfl,d⟩|⟨rfl,S,n,d⟩
  ·obtain⟨u,_,k,_⟩:=I.list m
   refine⟨k.isList.typeIs,λa e=>?_⟩;cases e;obtain⟨o,n,e,c,f,_⟩:=k;exact⟨o,e,f⟩
  ·refine⟨⟨o,I.kIn p o d,q⟩,λa e=>?_⟩
   cases e;exact⟨o,I.kIn _ o d,f⟩
  ·have z:∃o,s.heap.get? p=P3 o/\o.ExactDict:=by
    rcases d with⟨g,d⟩|⟨g,d⟩
    ·obtain⟨_,_,_,_,o,_,_,e,ex,_⟩:=I.hok p _ d
     exact⟨o,e,ex⟩
    ·obtain⟨_,_,_,_,o,_,_,e,ex,_⟩:=I.hok p _ d
     exact⟨o,e,ex⟩
   obtain⟨o,e,ex⟩:=z;refine⟨⟨o,e,ex.1⟩,λa h=>?_⟩;cases h;exact⟨o,e,ex.2.1⟩
  ·obtain⟨o,_,_,_,e,ex,_⟩:=I.hok p _ d
   refine⟨⟨o,e,ex.1⟩,λa h=>?_⟩;cases h;exact⟨o,e,ex.2.1⟩
 |_=>exact iP ty
def fN(K:Frag)(T:String)(r:V->t_ V->Hp->VK->Prop)(to:TE)(t:TA):TE:=λZ H Q=>to Z H λx H1=>dQ K T x H1/\t Z H1 λc d=>r x c d Q
variable {o e:Expr}{es:t_ Expr}{to:TE}{t:TA}{name:Str}{apos cpos:Pos}{T id:String}{r:V->t_ V->Hp->VK->Prop}
theorem b9(n:PlainAttrs T)(f:Slot T name id)(j:typeOf (.builtin id)=pure (.type "method_descriptor"))(p:cz X id r)(q:PE X o to)(u:PA X (e::es) t)
  (c:attributeBase o name X.env (eval o X.env)=eval o X.env:=by rfl)
  (g:((backTo cpos (starEach (e::es) X.env)).all (λx=>!x.1)&&(backToKw cpos (keywordEach [] X.env)).all (λx=>x.1.isSome)
   && decide ((e::es).length+([]:t_ j8).length+(if([]:t_ j8).isEmpty then 0 else 1)<30))=r_:=by rfl)
  (d:(apos.endLine==cpos.line)=r_:=by rfl) (w:starEach (e::es) X.env=(s_,eval e X.env)::starEach es X.env:=by rfl) (i:(backTo cpos (starEach es X.env)).any (·.1)=s_:=by rfl):
  PE X (.Call (.Attribute o name apos) (e::es) [] cpos) (fN X.K T r to t):=by
 intro M s Z H Q I h;refine wpAny_Call_method_late c g d rfl (thn (q _ s Z H _ I h) λv y ⟨x,H1,k,l,ty,z⟩=>?_);obtain⟨A,B⟩:=ZQ k l ty;refine⟨T,id,n,f,j,A,B,?_⟩;have m:=u cpos _ y Z H1 _ k z;rw[w]at m ⊢;refine k6 (by simp_all) (n6 ?_);exact thn m λC D ⟨E,F,G,J,L⟩=>p _ D Z F x E v C Q G l J L
end
def fC(X:Cx)(d:String)(r:V->t_ V->Hp->VK->Prop):Prop:=
 ∀(a:t_ (Db×Obj)) (s:On) (Z:St) (H:Hp) (x:V) (b:t_ V) (v:Ev) (c:t_ Ev) (Q:VK),Inv X a Z H s->RelV x v->Vals b c->r x b H Q->
  wpAny (model X.prog X.w) X.A (call (.builtin d) (v::c)) (EP X a Z Q) X.xe s
theorem Vals.one:∀{x:V}{a:t_ Ev},Vals [x] a->∃u,a=[u]/\RelV x u
 |_,_,.cons r .nil=>⟨_,rfl,r⟩
theorem Vals.eraseIdx:∀{a:t_ V}{b:t_ Ev} (i:Nat),Vals a b->Vals (a.eraseIdx i) (b.eraseIdx i)
 |_,_,_,.nil=>.nil
 |_,_,0,.cons _ t=>t
 |_,_,i+1,.cons r t=>.cons r (Vals.eraseIdx i t)
theorem Vals.reverse{a:t_ V}{b:t_ Ev}(h:Vals a b):Vals a.reverse b.reverse:=by
 induction h with
 |nil=>exact .nil
 |cons r t c=>rw[kh,kh]; exact Vals.append c (.cons r .nil)
theorem Vals.rep{a:t_ V}{b:t_ Ev}(h:Vals a b):∀k:Nat,Vals (UF k a).flatten (UF k b).flatten
 |0=>.nil
 |k+1=>Vals.append h (Vals.rep h k)
theorem Lw{a:Type}:∀(l:t_ a) (i:Nat),(l.eraseIdx i).length<=l.length
 |[],_=>Re _
 |_::_,0=>iO _
 |_::r,i+1=>jg (Lw r i)
theorem foldl_rep(b:t_ Ev):∀(k:Nat) (a:t_ Ev),
  List.foldl (λc d=>c++d) a.toArray (UF k b.toArray)=(a++(UF k b).flatten).toArray
 |0,a=>by simp
 | k+1,a=>by
  have e:a.toArray++b.toArray=(a++b).toArray:=by simp
  have f:(a++b)++(UF k b).flatten=a++(UF (k+1) b).flatten:=by
   grind
  rw[←f,←foldl_rep _ k _,←e,List.replicate_succ,List.foldl_cons]
section
variable {X:Cx}{zH:t_ (Addr×Obj)}{Z:St}{H:Hp}{s:Shared}{l:Addr}{xs ys:t_ V}
theorem Inv.lset{a its':t_ Ev}{n:Nat}{f:Array Ev->Array Ev}{t':Nat}(I:Inv X zH Z H s)(b:H l=P3 (.lst xs))
  (e:s.heap.get? l=P3 {cls:=.type "list",data:=.seq a.toArray n}) (c:f a.toArray=its'.toArray) (d:Vals ys its') (g:ys.length<=sizeLine):
  Inv X zH Z (A2 H l (.lst ys)) {s with heap:=s.heap.update l (hV f),toks:=t'}:=by
 have q:=PySem.IsL.update e f;rw[c]at q;exact I.write (by rw[b]; exact trivial) (.inl rfl) (λk u h i=>(fv _ _ (gP h)).trans i) ⟨_,q⟩ ⟨g,_,_,d,q⟩
theorem Inv.lnew{a:t_ Ev}{t':Nat}(I:Inv X zH Z H s)(b:Vals ys a)(c:ys.length<=sizeLine):
  Inv X zH Z (A2 H s.heap.objs.size (.lst ys)) {s with heap:=s.heap.push {cls:=.type "list",data:=.seq a.toArray},toks:=t'}:=
 I.laid (λ_ _ q=>No _ q) (Re _) ⟨c,_,0,b,TW _ rfl⟩
theorem Inv.fresh(I:Inv X zH Z H s):H s.heap.objs.size=q_:=I.hok.fresh (Re _)
theorem Inv.lstM(I:Inv X zH Z H s)(b:H l=P3 (.lst xs)):xs.length<=sizeLine/\∃(a:t_ Ev) (n:Nat),Vals xs a/\xs.length=a.length/\s.heap.get? l=P3 {cls:=.type "list",data:=.seq a.toArray n}:=by
 obtain⟨z,a,n,r,e⟩:=I.hok l _ b;exact⟨z,_,n,r,r.length,e⟩
theorem OV{n:Nat}(h:n<=sizeLine):jh n=s_:=by
 unfold jh
 grind
end
section
variable {X:Cx}
def Qy:V->t_ V->Hp->VK->Prop:=λx b H Q=>∃l a y,x=.ref l/\b=[y]/\H l=P3 (.lst a)/\a.length<sizeLine/\Q .non (A2 H l (.lst (a++[y])))
theorem II:fC X "list.append" Qy:=by
 intro g s Z H x i v j Q I b c h;obtain⟨l,k,y,rfl,rfl,a,m,q⟩:=h;cases b;obtain⟨u,rfl,d⟩:=c.one;obtain⟨z,f,n,r,o,e⟩:=I.lstM a;refine lW F.slot_list_append ⟨_,e,rfl⟩ F.entry_list_append (F.args_list_append_2 _ _) (PySem.list_append l _ n u (by grind)) ⟨e,?_⟩;refine⟨.non,_,I.lset a e (by simp) (r.append (.cons d .nil)) ?_,rfl,q⟩
 grind
def Qx:V->t_ V->Hp->VK->Prop:=λx d H Q=>∃l b a c,x=.ref l/\d=[.ref b]/\H l=P3 (.lst a)/\H b=P3 (.lst c)/\a.length+c.length<=sizeLine/\Q .non (A2 H l (.lst (a++c)))
theorem Ls:fC X "list.extend" Qx:=by
 intro y s Z H x A v B Q I i j h;obtain⟨l,b,C,D,rfl,rfl,g,k,E,q⟩:=h;cases i;obtain⟨u,rfl,m⟩:=j.one;cases m;obtain⟨z,a,n,r,G,e⟩:=I.lstM g;obtain⟨J,c,o,p,t,w⟩:=I.lstM k;have f:a.toArray.size+c.toArray.size<=sizeLine:=by grind
 have d:¬(!a.toArray.isEmpty&&jh (a.toArray.size+c.toArray.size))=r_:=by
  rw[OV f]
  grind
 refine lW F.slot_list_extend ⟨_,e,rfl⟩ F.entry_list_extend (F.args_list_extend_2 _ _)
  (AutoSeq1.list_extend_list_list_0 l a.toArray n b _ o d (by grind) (by omega)) ⟨e,w,?_⟩
 refine⟨.non,_,I.lset g e (by simp) (r.append p) ?_,rfl,q⟩
 grind
def da:R2:=λx y H Q=>∃l k a,x=.ref l/\y=.int k/\H l=P3 (.lst a)/\-(2 ^ 63)<=k/\k<2 ^ 63/\a.length*k.toNat<=sizeLine /\
 ∀p,H p=q_->Q (.ref p) (A2 H p (.lst (UF k.toNat a).flatten))
theorem len_rep{b:Type}(a:t_ b)(k:Nat):(UF k a).flatten.length=k*a.length:=by
 simp_all
theorem Zu:OpR X (binaryOp .Mult) da:=by
 intro K s Z H x y v u Q I w A h;obtain⟨l,k,L,rfl,rfl,B,C,D,p,q⟩:=h;cases w;obtain⟨t,rfl⟩:=A;obtain⟨z,b,n,r,E,e⟩:=I.lstM B;have d:b.toArray.size*k.toNat<=sizeLine:=by rw[fk,←E]; exact p
 have f:¬b.toArray.size*k.toNat > (2 ^ 63 - 1) / 8:=by
  have:(sizeLine:Nat)<=(2 ^ 63 - 1) / 8:=by decide
  omega
 have g:¬(!Builtin.List.listFitsIndex k)=r_:=by
  rw[fitsIndex_both C D];exact f6
 have c:¬jh (b.toArray.size*k.toNat)=r_:=by
  rw[OV d];exact f6
 have i:List.foldl (λj o=>j++o) #[] (UF (if b.toArray.isEmpty=r_ then 0 else k.toNat) b.toArray)=(UF k.toNat b).flatten.toArray:=by
  have G:∀m:Nat,List.foldl (λj o=>j++o) #[] (UF m b.toArray)=(UF m b).flatten.toArray:=λm=>by
   have:=foldl_rep b m []
   grind
  rw[G];cases b with
  |nil=>simp
  |cons a M=>rw[if_neg (by simp)]
 refine wpAny_binaryOp_repeat_ref (T:="list") (U:="int") (by decide) ⟨_,e,rfl⟩ (λJ=>typeIs_int J k t) noFill_list_mul F.fills_int_mul F.slot_int_rmul repeat_list F.slot_int_index.lookup
  (lW F.slot_int_rmul (typeIs_int s k t) F.entry_int_rmul (F.args_int_rmul_2 _ _) (int___rmul___int_list k t l b.toArray n)
   ⟨e,rfl,⟨_,e,rfl⟩,lW F.slot_list_mul ⟨_,e,rfl⟩ F.entry_list_mul (F.args_list_mul_2 _ _) (AutoListH.list___mul___list_int_3 l b.toArray n k t g f c) ⟨e,?_⟩⟩)
 rw[i];exact⟨.ref _,_,I.lnew (t':=s.toks) (r.rep k.toNat) (by rw[len_rep,Nat.mul_comm]; exact p),rfl,q _ I.fresh⟩
end
end L2
namespace Att
open PySem.W PySem.Calls
theorem JP{P:Params}{h:fu}:∀(c:t_ Int) (d:t_ Ev),WellAll P h d (c.map WData.int)->IntsAre d c:=by
 intro c
 induction c with
 |nil=>
  intro d w;cases w;exact .nil
 | cons n c e=>
  intro d w;cases w with
  |cons a b=>
   cases a;exact .cons _ _ (e _ b)
theorem R8{l:OpenLaw}{n:Nat}(w:l.most=P3 n){P:Params}{h:fu}{args:t_ WData}{b:t_ Ev}
  (c:l.row.toRowW.claim.pre args=r_) (i:WellAll P h b args):
  ∃a k e,b=[fj a]/\args=[WData.list (e.map WData.int)]/\h.get? a=P3 {cls:=.type "list",data:=.seq k.toArray}/\IntsAre k e/\e.length<=n:=by
 have j:WShape.hasAll [] args [.list .int]=r_:=(pre_splitW c).1;have m:l.pre.holds [] {args:=args}=r_:=(pre_splitW c).2;obtain⟨d,r,rfl,p,q⟩:=hasAllW_cons j;obtain rfl:=hasAllW_nil q;obtain⟨x,rfl,s⟩:=hasW_list p;obtain⟨e,rfl⟩:=items_int s
 have f:e.length<=n:=by
  unfold OpenLaw.pre at m
  have o:(WTm.not (.lt (.lit (.int (n:Int))) (.len (.arg 0)))).holds [] {args:=[.list (e.map .int)]}=r_:=by
   have o:=(holds_andW m).1
   grind
  have y:=condW_of o (w_not (w_lt w_lit (w_len_list (w_arg rfl))))
  grind
 cases i with
 |cons t u=>
  cases u;cases t with
  |list v g=>exact⟨_,_,e,rfl,rfl,v,JP e _ g,f⟩
theorem SS(l:OpenLaw)(a:t_ WData):l.row.toRowW.claim.post a (.bool r_) a=r_:=
 postW_of
  (show WShape.has [] _ _=r_ by first|rfl|decide|omega)
  (w_eq_bool (w_res rfl) w_lit) rfl
theorem attach_call{l:OpenLaw}{n:Nat}{q:gD}{c:t_ Str}{C:(Str->u_ Ev)->fu->Prop}{D:gK->fu->Prop}{d:DefRec}
  (J:l.most=P3 n) (v:d.params.defaults=[])
  (call:∀(w:gK) (e b:On) (p x:Str->u_ Ev) (fa:Db) (o:Obj) (y s g:Ev) (a:Db) (i:t_ Ev) (t:t_ Int),
   Ground q c [] C w e p x b.heap->D w b.heap->
   b.heap.get? fa=P3 o->o.data=.func (docDef d.name d.params d.body d.scope y s g)->b.heap.CodeRec s d.name->p d.name=P3 (.ref fa)->
   b.heap.get? a=P3 {cls:=.type "list",data:=.seq i.toArray}->IntsAre i t->t.length<=n->b.gens=#[]->
   codeAny (model l.prog w) callerA (.call (.ref fa) ⟨[.ref a],[]⟩) (λr u=>r=.ok (.ret (.bool r_))/\OldK b.heap u.heap/\u.os=b.os/\jz u.gens) b):
  WalkO q c C D l.row.toRowW d [] (λf i=>PySem.call f i):=by
 intro w e b p x G Y fa o y s g K L M N z E A O F H W j I P B Q;obtain rfl:K=.none:=Dflts.none E v;obtain rfl:L=.none:=Dflts.noKw E;obtain⟨a,i,t,rfl,rfl,k,h,m⟩:=R8 J j B;refine enter_call (lU (call w e b p x fa o y s g a i t G Y M (fd_plain N) z A k h m O) λr u R=>?_);obtain⟨rfl,S,T,U⟩:=R;exact⟨.inl ⟨.bool r_,.bool r_,[],rfl,λ_=>rfl,.bool r_,SS l _,λ_=>⟨ki,λ_ V=>(nomatch V)⟩⟩,S,T,U⟩
end Att
namespace L2
theorem Lg:∀{a:t_ Ev}{b:t_ Int},IntsAre a b->Vals (b.map V.int) a
 |_,_,.nil=>.nil
 |_,_,.cons n t h=>.cons ⟨t,rfl⟩ (Lg h)
def ay(H:Hp):Prop:=∀b,H b=q_\/∃o a,H b=P3 (.frz o (.lst a))
theorem VT{P:gD}{w:gK}{K:Frag}{A R:Str->u_ Ev}{Z:Tr}{k:Nat}{fa a:Db}{fd:gZ}{x:Str}{sp:Sp}{c:On}{t:t_ Ev}{B:t_ Int}
  (KX:K.In c.heap) (C:c.heap.Ns mainGlobals A) (g:c.heap.Ns builtinsNs R) (S:∀x:Str,x ≠ "__name__"->R x=bootBuiltins x) (D:c.heap.NoLimit) (hg:c.gens=#[])
  (Q:c.heap.get? a=P3 {cls:=.type "list",data:=.seq t.toArray}) (hi:IntsAre t B) (hl:B.length<=sizeLine) (hr:Room k callerA)
  (F:∀i:fu,K.In i->i.Ns mainGlobals A->A3 P w K A i Z k fa fd [x] sp) (y:∀(s:On) (u:Ev),mB s fd ⟨[u],[]⟩ [(x,u)])
  (T:∀H:Hp,ay H->SqL K H a (B.map V.int)->sp [.ref a] H (λv _=>v=.bl r_) λ_ _ _=>False)
  (U:∀H e j,Z [] H c (λ_ _ _=>False) e j->False):
  codeAny (model P w) callerA (.call (.ref fa) ⟨[.ref a],[]⟩) (λr j=>r=.ok (.ret (.bool r_))/\OldK c.heap j.heap/\j.os=c.os/\jz j.gens) c:=by
 have rv:=Lg hi;have E:=hi.length
 have p:∀H:Hp,ay H->SqL K H a (B.map V.int)->HOk P w H c.heap->(∀b,H b≠q_->b=a)->(H a≠q_->K.lookup a=q_)->
   codeAny (model P w) callerA (.call (.ref fa) ⟨[.ref a],[]⟩) (λr j=>r=.ok (.ret (.bool r_))/\OldK c.heap j.heap/\j.os=c.os/\jz j.gens) c:=by
  intro H hO hS G hA hK;have f:∀{b:Db}{o:Obj},c.heap.get? b=P3 o->H b=q_->(M5 c.heap H).get? b=P3 o:=λe n=>Vk e n
  have W:∀{b:Db}{o:Obj}{I:Array lM}{J:Nat},c.heap.get? b=P3 o->o.data=.dict I J->H b=q_:=λ{b o I J} e d=>by
   cases q:H b with
   |none=>rfl
   |some u=>
    have X:b=a:=hA b (by rw[q]; simp);subst X;rw[Q]at e; cases e
    have d':Data.seq t.toArray _=Data.dict I J:=d;cases d'
  have l:∀{b:Db}{m:Str->u_ Ev},c.heap.Ns b m->(M5 c.heap H).Ns b m:=λ{b m} ⟨o,I,J,e,d,r⟩=>⟨o,I,J,f e (W e d),d,r⟩
  have L:K.In (M5 c.heap H):=λb o e=>f (KX b o e) (by
   cases q:H b with
   |none=>rfl
   |some u=>
    have X:b=a:=hA b (by rw[q]; simp);subst X;rw[hK (by rw[q]; simp)]at e; cases e)
  have hM:Mod K A (M5 c.heap H):=⟨L,l C,⟨R,l g,S⟩,let ⟨mc,h1,h2⟩:=D; ⟨mc,l h1,h2⟩⟩;have e0:Env0 P w K A (M5 c.heap H) callerA [] c H:=⟨rfl,hM,λb o e=>Xc e,lX (S5 _ _),trivial,λb g=>absurd (show b∈([]:t_ Db)from g) (by simp),G,.of_eq hg⟩;refine lU ((F _ L (l C)).run callerA [] c H ⟨[.ref a],[]⟩ [.ref a] [.ref a] _ _ hr e0 (y c (.ref a)) (.cons rfl .nil) (T H hO hS)) λr j h=>?_;cases r with
  |error e=>exact(U H e j h).elim
  | ok fl=>
   cases fl with
   |next=>exact iP h
   |brk=>exact iP h
   |cont=>exact iP h
   | ret u=>
    obtain⟨v,H',os,M,un,N,r',q⟩:=h;have q':v=.bl r_:=q;subst q';obtain rfl:u=jW r_:=r';refine⟨rfl,OldK.of_keep λb o e=>?_,os,M⟩;cases q:H b with
    |none=>exact un.keep b o e q (by intro z; exact absurd (show b∈([]:t_ Db)from z) (by simp)) (by simp)
    | some u=>
     rcases hO b with z|⟨ob,xs,z⟩
     ·rw[q]at z; cases z
     ·have z2:=un.frzs b ob _ z
      obtain⟨e1,_⟩:=G b _ z;obtain⟨e2,_⟩:=N b _ z2;rw[e]at e1; cases e1
      exact e2
 cases Y:K.lookup a with
 |some o=>
  have e:=KX a o Y;rw[Q]at e;cases e;refine p (λ_=>q_) (λ_=>.inl rfl) (.inr ⟨_,t.toArray,_,Y,rfl,rfl,rfl,by rw[fk,E]; exact hl,by simpa using rv⟩) (λb u z=>by have O:(q_:u_ HO)=P3 u:=z; cases O) (λb z=>absurd rfl z) λz=>absurd rfl z
 | none=>
  refine p (λb=>if b=a then P3 (.frz {cls:=.type "list",data:=.seq t.toArray} (.lst (B.map V.int)))else q_) (λb=>?_) (.inl (.inr ⟨{cls:=.type "list",data:=.seq t.toArray},if_pos rfl⟩)) (λb u z=>?_) (λb z=>?_) λ_=>Y
  ·by_cases g:b=a
   ·exact .inr ⟨_,_,if_pos g⟩
   ·exact .inl (if_neg g)
  ·by_cases g:b=a
   ·have O:=(if_pos g).symm.trans z
    cases O;subst g;exact⟨Q,by rw[Go]; exact hl,t,_,rv,Q⟩
   ·have O:=(if_neg g).symm.trans z
    cases O
  ·by_cases g:b=a
   ·exact g
   ·exact absurd (if_neg g) z
theorem Qk{l:PySem.W.OpenLaw}{n k:Nat}{q:gD}{j:t_ Str}{N:(Str->u_ Ev)->fu->Prop}{E:gK->fu->Prop}{d:DefRec}{K:Params->Frag}{CX:gK->Tr}{sp:gK->Sp}{x:Str}
  (O:l.most=P3 n) (y:n<=sizeLine) (z:d.params.defaults=[]) (P:Room k callerA)
  (Q:∀(w:gK) (h:fu),E w h->(K w.params).In h)
  (F:∀(w:gK) (p:Str->u_ Ev) (fa:Db) (h:fu),(K w.params).In h->h.Ns mainGlobals p->p d.name=P3 (.ref fa)->
   ∃fd:gZ,(∀(s:On) (u:Ev),mB s fd ⟨[u],[]⟩ [(x,u)]) /\
    ∀c:fu,(K w.params).In c->c.Ns mainGlobals p->A3 l.prog w (K w.params) p c (CX w) k fa fd [x] (sp w))
  (A:∀(w:gK) (H:Hp) (a:Db) (t:t_ Int),t.length<=n->ay H->SqL (K w.params) H a (t.map V.int)->sp w [.ref a] H (λv _=>v=.bl r_) λ_ _ _=>False)
  (B:∀(w:gK) (H:Hp) (s:On) (e:Ev) (C:On),CX w [] H s (λ_ _ _=>False) e C->False):
  PySem.W.WalkO q j N E l.row.toRowW d [] (λf I=>PySem.call f I):=by
 refine Att.attach_call O z λw J L p mb fa o pm cd R a I t G Y ho hd S D r m i U=>?_;have M:=Q w _ Y;obtain⟨fd,X,Z⟩:=F w p fa _ M G.T.g D;exact VT M G.T.g G.T.b G.T.builtins G.T.nolimit U r m (gO i y) P Z X (λH hO hS=>A w H a t i hO hS) λH e C=>B w H _ e C
end L2
/- THE LAST THEOREM (shape; LID,My.* are yours):
   My.Adr:a structure of the addresses that your layer names (classes,functions); My.Txt K t:a structure (Prop) of the equations over K;
   My.txt_mk:{K}{implicit addresses ..} (e1:nsIn K mainGlobals "law"=P3 (P3 (.ref f))) (e2:K.lookup f=P3 ⟨oc,od,.func (fnOf "law" "law" params body scope dV kV doc pm an cdv ct),sl⟩) (e3:codeIn K cdv "law"=r_) ..:∃ t,My.Txt K t
set_option maxRecDepth 100000 in
set_option maxHeartbeats 0 in
theorem PySem.Challenge.cw_LID_holds:PySem.Challenge.rw_LID.Holds:=by
 w_on; o_law; k_head; (case hw=>w_witness2)
 k_fill
 refine L2.Qk (l:=PySem.Challenge.rw_LID) (n:=63) (k:=40) (x:="script") (CX:=λw=>..) (sp:=λ_=>My.sp_law) rfl (by decide) rfl ⟨rfl,by decide,by decide⟩ (λw h Y=>PySem.W.kIn_of Y) ?F ?S ?C
 case F=>
  intro w mg fa h KX G hmg
  have T:∃t,My.Txt (L2.KOf KX) t:=by
   dsimp only[L2.KOf] -- K must stand as «<heap const> w.params» for k_is
   refine' My.txt_mk ?e1 ?e2 ?e3 ..
   (case e1=>PySem.W.k_is) -- in the order:a name->its address->its object->its parts
   (case e2=>PySem.W.k_is)
   ..
  obtain⟨t,T⟩:=T;have e0:=hmg.symm.trans (mg_of KX G T.law);cases e0 -- fa is the law's own address;exact⟨_,λs u=>.of_eq rfl,λbase kb nb=>My.law_fn T kb nb⟩ -- if «.of_eq rfl» comes too early:refine' ⟨_,?b,λbase kb nb=>My.law_fn T kb nb⟩; exact λs u=>.of_eq rfl
 case S=>exact λw H a ns hl hO hS=>..
 case C=>exact ..
(the tactic k_is has no namespace:write k_is) -/
namespace L2
def Cy(s:gG):Arguments:=match s with
 |.FunctionDef _ a _ _ _ _ _ _ _ _=>a
 |_=>{posonlyargs:=[],args:=[],vararg:=q_,kwonlyargs:=[],kw_defaults:=[],kwarg:=q_,defaults:=[]}
def Bh(s:gG):t_ gG:=match s with
 |.FunctionDef _ _ b _ _ _ _ _ _ _=>b
 |_=>[]
def AN(s:gG):jI:=match s with
 |.FunctionDef _ _ _ _ _ _ a _ _ _=>a
 |_=>{kind:=.function,names:=[],isGenerator:=s_,isCoroutine:=s_}
abbrev B1:Tr:=λ_ _ _ _ _ _=>False
abbrev E0:XK:=λ_ _ _=>False
theorem Q_{X:Cx}:Gs B1 X E0:=λ_ _ _ _ _ _ _ h=>h.elim
structure Fun (K:Frag) (x qual:Str) (st:gG) (f:Db) (fd:gZ):Prop where
 ex:∃(oc:Ev) (od:Option Db) (kV doc pm:Ev) (an:Option Db) (cdv ct:Ev) (osl:Array (Option Ev)),
  fd=fnOf x qual (Cy st) (Bh st) (AN st) .none kV doc pm an cdv ct/\K.lookup f=P3 ⟨oc,od,.func fd,osl⟩/\codeIn K cdv qual=r_
 kp:keepIn K (.ref f)=r_
section
variable {P:Program}{w:World}{K:Frag}{mg:Str->u_ Value}{base:Heap}
theorem Fun.ok{x a:Str}{g:gG}{f:Db}{fd:gZ}{N i:t_ Str}{k:Nat}{sp:Sp}(F:Fun K x a g f fd)(S:Ac N i (AN g))(len:∀c H Q E,sp c H Q E->c.length=i.length)
  (d:∀(e:Ev) (A:gS) (b:t_ Env) (s:On) (H:Hp) (c:t_ V) (Q:VK) (E:XK),Room k (A.deeper (envOfC a (AN g) s.heap.objs.size f e))->sp c H Q E->
   ∃t,PSs (IV B1 P w K mg base N a (AN g) f e A b s H E).nox (Bh g) t/\t {nx:=λ_ m=>Q .non m,rt:=Q} (start N c) H):A3 P w K mg base B1 (k+1) f fd i sp:=by
 obtain⟨u,v,y,n,z,B,e,C,o,rfl,p,j⟩:=F.ex;refine Y0 p j S len λA b s H c Q E r l=>?_;obtain⟨t,h,q⟩:=d _ A _ s H c Q E r l;exact⟨t,h.nox,q⟩
theorem Fun.binds{x a:Str}{d:gG}{f:Db}{fd:gZ}{ps:t_ Str}(F:Fun K x a d f fd)
  (h:∀(e b g:Ev) (i:u_ Db) (c j:Ev) (k:t_ Ev),k.length=ps.length->bindArgs (fnOf x a (Cy d) (Bh d) (AN d) .none e b g i c j) ⟨k,[]⟩=pure (ps.zip k)):Binds K fd ps []:=by
 obtain⟨n,o,e,b,g,i,c,j,l,rfl,p,m⟩:=F.ex;exact .all (h e _ g i _ j)
theorem Vl{x a:Str}{st:gG}{f:Db}{j:Ev}{od e:u_ Db}{g:Array (u_ Ev)}{kV d h b i:Ev}(l:K.lookup f=P3 ⟨j,od,.func (fnOf x a (Cy st) (Bh st) (AN st) .none kV d h e b i),g⟩)
  (c:codeIn K b a=r_) (k:keepIn K (.ref f)=r_):Fun K x a st f (fnOf x a (Cy st) (Bh st) (AN st) .none kV d h e b i):=⟨⟨j,od,kV,_,h,e,_,i,_,rfl,l,c⟩,k⟩
end
theorem GG{A:gS}{k:Nat}(a:Room k A):A.units+1<cLine:=kO (Nat.add_le_add_left (by decide) _) a.units
section
variable {X:Cx}
theorem pv(i:Nat){x:Str}{pos:Pos}(b:X.N[i]?=P3 x:=by rfl)(c:Te X.env.scope x:=by first|exact XV rfl|exact gx (XV rfl)|exact gx (gx rfl))(d:(x==("__debug__":Str))=s_:=by decide)
  (a:(x==("__classdict__":Str))=s_:=by decide):PE X (.Name x pos) (BN i):=Ea b c d a
end
theorem CH{A B:Prop}(h:B):if s_=r_ then A else B:=by
 grind
theorem Ef{A B:Prop}(h:A):if r_=r_ then A else B:=by
 grind
theorem Cp{c A B:Prop}[Decidable c](a:c->A)(b:¬c->B):if c then A else B:=by
 grind
section
variable {κ:Type}[DecidableEq κ]
def B8(a:t_ (κ×V))(k:κ):u_ V:=(a.find? λb=>decide (b.1=k)).map (·.2)
def putK(a:t_ (κ×V))(k:κ)(v:V):t_ (κ×V):=
 if(a.any λb=>decide (b.1=k))=r_ then a.map (λb=>if b.1=k then(b.1,v)else b)else a++[(k,v)]
theorem D1{p:κ×V}{r:t_ (κ×V)}{k:κ}(e:p.1=k):B8 (p::r) k=P3 p.2:=by simp[B8,e]
theorem D3{p:κ×V}{r:t_ (κ×V)}{k:κ}(e:¬p.1=k):B8 (p::r) k=B8 r k:=by simp[B8,e]
theorem Nj(k:κ):∀a:t_ (κ×V),(a.any λb=>decide (b.1=k))=(B8 a k).isSome
 |[]=>rfl
 |p::r=>by
  rw[n9]
  by_cases e:p.1=k
  ·simp[D1 e,decide_eq_true e,Bool.true_or]
  ·rw[D3 e,decide_eq_false e]; exact Nj k r
theorem FK(a:t_ (κ×V))(k:κ)(v:V):(putK a k v).length<=a.length+1:=by
 unfold putK
 grind
theorem RelO.isSome_eq{o:u_ V}{u:u_ Ev}(r:RelO o u):o.isSome=u.isSome:=by
 cases o with
 |none=>cases u with
  |none=>rfl
  |some _=>exact(r).elim
 |some _=>cases u with
  |none=>exact(r).elim
  |some _=>rfl
theorem KV.val{a:t_ (κ×V)}{f:t_ (κ×Ev)}(r:KV a f)(k:κ):RelO (B8 a k) (valueAt f k):=by
 induction r with
 |nil=>exact jL
 | @cons p q l c h t i=>
  obtain⟨g,j⟩:=h
  by_cases e:p.1=k
  ·have d:=g.symm.trans e
   have b:valueAt (q::c) k=P3 q.2:=by simp[valueAt,d]
   rw[D1 e,b]; exact j
  ·have d:¬q.1=k:=λz=>e (g.trans z)
   have b:valueAt (q::c) k=valueAt c k:=by simp[valueAt,d]
   rw[D3 e,b]; exact i
theorem KV.any{a:t_ (κ×V)}{c:t_ (κ×Ev)}(r:KV a c)(k:κ):(a.any λb=>decide (b.1=k))=c.any λb=>decide (b.1=k):=by
 induction r with
 |nil=>rfl
 |cons h t d=>simp_all
theorem KV.repl{b:t_ (κ×V)}{c:t_ (κ×Ev)}(r:KV b c)(k:κ){y:V}{u:Ev}(f:RelV y u):
  KV (b.map λa=>if a.1=k then(a.1,y)else a) (c.map λa=>if a.1=k then(a.1,u)else a):=by
 induction r with
 |nil=>exact .nil
 |@cons p q g i h t d=>
  refine .cons ?_ d
  by_cases e:p.1=k
  ·simp_all
  simp_all
theorem KV.put{kvs:t_ (κ×V)}{a:t_ (κ×Ev)}(r:KV kvs a)(k:κ){y:V}{u:Ev}(b:RelV y u):KV (putK kvs k y) (stored a k u):=by
 unfold putK stored;rw[r.any k]
 by_cases e:(a.any λc=>decide (c.1=k))=r_
 ·rw[if_pos e,if_pos e]; exact r.repl k b
 ·rw[if_neg e,if_neg e]; exact Paired.snoc r ⟨rfl,b⟩
theorem KV.length{a:t_ (κ×V)}{b:t_ (κ×Ev)}(r:KV a b):a.length=b.length:=Paired.length r
end
theorem Km{P:gD}{w:gK}{k:Key}{u:Ev}(r:RelV (kV k) u):(Ar P w).is k u=r_:=by
 cases k with
 |inl i=>obtain⟨t,e⟩:=(r); subst e; exact OY P w i t
 |inr x=>obtain⟨t,e⟩:=(r); subst e; exact OX P w x t
theorem L1{P:gD}{w:gK}:∀{a:t_ Key}{b:t_ Ev},Vals (a.map kV) b->ItemsAre (Ar P w) a b
 |[],_,r=>by cases r; exact .nil
 |k::a,_,r=>by
  cases r with
  |cons h t=>exact .cons (Km h) (L1 t)
abbrev KT(H:Hp):t_ (t_ Key×V)->t_ (t_ Key×Db×Ev)->Prop:=Paired λp q=>p.1=q.1/\H q.2.1=P3 (.tup (p.1.map kV))/\RelV p.2 q.2.2
theorem KT.val{H:Hp}{a:t_ (t_ Key×V)}{f:t_ (t_ Key×Db×Ev)}(r:KT H a f)(k:t_ Key):RelO (B8 a k) ((atKey f k).map (·.2)):=by
 induction r with
 |nil=>exact jL
 | @cons p q l c h t i=>
  obtain⟨g,_,j⟩:=h
  by_cases e:p.1=k
  ·have d:=g.symm.trans e
   have b:atKey (q::c) k=P3 q.2:=by simp[atKey,d]
   rw[D1 e,b]; exact j
  ·have d:¬q.1=k:=λz=>e (g.trans z)
   have b:atKey (q::c) k=atKey c k:=by simp[atKey,d]
   rw[D3 e,b]; exact i
theorem KT.repl{H:Hp}{a:t_ (t_ Key×V)}{c:t_ (t_ Key×Db×Ev)}(r:KT H a c)(k:t_ Key){y:V}{u:Ev}(f:RelV y u):
  KT H (a.map λb=>if b.1=k then(b.1,y)else b) (c.map (putAt k u)):=by
 induction r with
 |nil=>exact .nil
 |@cons p q g i h t d=>
  refine .cons ?_ d;unfold putAt
  by_cases e:p.1=k
  ·simp_all
  simp_all
theorem KT.put{H:Hp}{kvs:t_ (t_ Key×V)}{a:t_ (t_ Key×Db×Ev)}(r:KT H kvs a)(k:t_ Key){b:Db}{y:V}{u:Ev}(d:H b=P3 (.tup (k.map kV)))(c:RelV y u):
  KT H (putK kvs k y) (storedH a k b u):=by
 have e:(kvs.any λf=>decide (f.1=k))=(atKey a k).isSome:=by
  rw[Nj,(r.val k).isSome_eq,mZ]
 unfold putK storedH;rw[e]
 by_cases q:(atKey a k).isSome=r_
 ·rw[if_pos q,if_pos q]; exact r.repl k c
 ·rw[if_neg q,if_neg q]; exact Paired.snoc r ⟨rfl,d,c⟩
theorem KT.keeps{H c:Hp}{a:t_ (t_ Key×V)}{d:t_ (t_ Key×Db×Ev)}(r:KT H a d)(f:∀b e,H b=P3 (.tup e)->c b=P3 (.tup e)):KT c a d:=
 Paired.mapP r λ_ _ z=>⟨z.1,f _ _ z.2.1,z.2.2⟩
section
variable {P:Program}{w:World}{H:Hp}{h:Heap}{a:Addr}
theorem Yi{u:HO}(ok:HOk P w H h)(e:Rd H a u):ObjOk P w H h a u:=e.ok ok
theorem Kw{b:t_ (Key×V)}(ok:HOk P w H h)(e:Rd H a (.dK b)):b.length<=sizeLine/\(a==sysModules)=s_/\∃c,KV b c/\h.DictOf (Ar P w) a c:=
 Yi ok e
theorem Y4{b:t_ (Key×V)}(ok:HOk P w H h)(e:H a=P3 (.dK b)):b.length<=sizeLine/\(a==sysModules)=s_/\∃c,KV b c/\h.DictOf (Ar P w) a c:=Kw ok (.inl e)
theorem IN{b:t_ Key}(ok:HOk P w H h)(e:H a=P3 (.tup (b.map kV))):(tupleKind (Ar P w)).is h b a:=by
 obtain⟨_,c,r,o,d,f,n,g,_⟩:=(ok a _ e);exact⟨o,_,n,d,f,g,by simpa using L1 r⟩
theorem Im{b:t_ (t_ Key×V)}(ok:HOk P w H h)(e:Rd H a (.dT b)):b.length<=sizeLine/\(a==sysModules)=s_ /\
  ∃d,KT H b d/\h.DictOfH (tupleKind (Ar P w)) a d:=by
 obtain⟨z,y,d,r,o,f,g,i,j,k,n,s⟩:=(Yi ok e);refine⟨z,y,d,r,o,f,g,i,j,k,n,λx c=>?_,s⟩
 have all:∀{l:t_ _}{m:t_ _},KT H l m->∀x∈m,(tupleKind (Ar P w)).is h x.1 x.2.1:=by
  intro l m q
  induction q with
  |nil=>grind
  |@cons p q v A B t u=>
   intro x c
   rcases fi.mp c with e|c
   ·exact IN ok (by grind)
   ·exact u x c
 exact all r x c
theorem cT{b:t_ (t_ Key×V)}(ok:HOk P w H h)(e:H a=P3 (.dT b)):b.length<=sizeLine/\(a==sysModules)=s_ /\
  ∃c,KT H b c/\h.DictOfH (tupleKind (Ar P w)) a c:=Im ok (.inl e)
end
def DGet(H:Hp)(a:Db)(y:V)(r:u_ V):Prop:=
 (∃c k,Rd H a (.dK c)/\y=kV k/\r=B8 c k)\/∃c k b,Rd H a (.dT c)/\y=.ref b/\H b=P3 (.tup (k.map kV))/\r=B8 c k
def DPut(H:Hp)(a:Db)(y v:V)(d:Hp):Prop:=
 (∃c k,H a=P3 (.dK c)/\y=kV k/\c.length<sizeLine/\d=A2 H a (.dK (putK c k v))) \/
 ∃c k b,H a=P3 (.dT c)/\y=.ref b/\H b=P3 (.tup (k.map kV))/\c.length<sizeLine/\d=A2 H a (.dT (putK c k v))
theorem DGet.k{H:Hp}{a:Db}{b:t_ (Key×V)}{k:Key}(e:H a=P3 (.dK b)):DGet H a (kV k) (B8 b k):=.inl ⟨_,k,.inl e,rfl,rfl⟩
theorem DPut.k{H:Hp}{a:Db}{b:t_ (Key×V)}{k:Key}{v:V}(e:H a=P3 (.dK b))(c:b.length<sizeLine):DPut H a (kV k) v (A2 H a (.dK (putK b k v))):=.inl ⟨_,k,e,rfl,c,rfl⟩
theorem DPut.t{H:Hp}{a b:Db}{c:t_ (t_ Key×V)}{k:t_ Key}{v:V}(e:H a=P3 (.dT c))(eb:H b=P3 (.tup (k.map kV)))(d:c.length<sizeLine):
  DPut H a (.ref b) v (A2 H a (.dT (putK c k v))):=.inr ⟨_,k,b,e,rfl,eb,d,rfl⟩
section
variable {X:Cx}{zH:t_ (Addr×Obj)}{Z:St}{H:Hp}{s:Shared}{a:Addr}{y v:V}{u r:Value}{o:u_ V}{A:Around}{E:Value->Shared->Prop}
theorem Inv.big(I:Inv X zH Z H s):sysModules<s.heap.objs.size:=mw (by decide) (I.mod.glob.keeps I.bk).lt
theorem TL{Q:Ev->On->Prop}(B:A.units+1<cLine)(I:Inv X zH Z H s)(g:DGet H a y (P3 v))(t:RelV y u)(h:∀f x,Inv X zH Z H x->RelV v f->Q f x):
  wpAny (model X.prog X.w) A (getItem (.ref a) u) Q E s:=by
 rcases g with⟨i,k,e,j,l⟩|⟨i,k,b,e,j,C,l⟩
 ·subst j
  obtain⟨z,D,F,c,m⟩:=Kw I.hok e;obtain⟨f,n,d⟩:=RelO.some_of (v:=v) (o:=valueAt F k) (by rw[l]; exact c.val k);exact wpAny_getItem_of (Km t) m.mapOf n (h f _ (I.tok _) d)
 ·subst j
  cases(show u=fj b from t);obtain⟨z,D,G,c,m⟩:=Im I.hok e;obtain⟨f,n,d⟩:=RelO.some_of (v:=v) (o:=(atKey G k).map (·.2)) (by rw[l]; exact c.val k);obtain⟨p,J,q⟩:=f7.mp n;refine wpAny_getItem_heap (jr B) (IN I.hok C) m J ?_;rw[q];exact h f _ (I.tok _) d
theorem eI{Q:Ev->On->Prop}(p:A.units+1<cLine)(I:Inv X zH Z H s)(g:DGet H a y o)(m:RelV y u)(h:∀n,Inv X zH Z H n->Q (.bool o.isSome) n):
  wpAny (model X.prog X.w) A (compareOp .In u (.ref a)) Q E s:=by
 rcases g with⟨d,k,e,f,l⟩|⟨d,k,b,e,f,t,l⟩
 ·subst f
  obtain⟨z,i,x,c,j⟩:=Kw I.hok e;refine wpAny_in_of (Km m) i j.mapOf ?_;rw[←(c.val k).isSome_eq,←l];exact h _ (I.tok _)
 ·subst f
  cases(show u=fj b from m);obtain⟨z,i,B,c,j⟩:=Im I.hok e;refine wpAny_in_heap (jr p) (IN I.hok t) i j ?_;have q:=(c.val k).isSome_eq;rw[mZ]at q;rw[←q,←l];exact h _ (I.tok _)
theorem YQ{Q:Ev->On->Prop}(p:A.units+1<cLine)(I:Inv X zH Z H s)(g:DGet H a y o)(m:RelV y u)(h:∀n,Inv X zH Z H n->Q (.bool (!o.isSome)) n):
  wpAny (model X.prog X.w) A (compareOp .NotIn u (.ref a)) Q E s:=by
 rcases g with⟨d,k,e,f,l⟩|⟨d,k,b,e,f,t,l⟩
 ·subst f
  obtain⟨z,i,x,c,j⟩:=Kw I.hok e;refine wpAny_notIn_of (Km m) i j.mapOf ?_;rw[←(c.val k).isSome_eq,←l];exact h _ (I.tok _)
 ·subst f
  cases(show u=fj b from m);obtain⟨z,i,B,c,j⟩:=Im I.hok e;refine wpAny_notIn_heap (jr p) (IN I.hok t) i j ?_;have q:=(c.val k).isSome_eq;rw[mZ]at q;rw[←q,←l];exact h _ (I.tok _)
theorem NK{c:fu}{e:Nat}{d:HO}(I:Inv X zH Z H s)(f:cy (H a))(g:i6 a s.heap c)(h:∃q,c.get? a=P3 q)(new:ObjOk X.prog X.w (A2 H a d) c a d):
  Inv X zH Z (A2 H a d) {s with heap:=c,toks:=e}:=
 I.write f (.inl rfl) (λb q i z=>(g.2 b i).trans z) h new
theorem QT{P:gD}{w:gK}{f:Hp}{e:fu}{b:t_ (Key×V)}{c:t_ (Key×Ev)}(z:b.length<=sizeLine)(g:(a==sysModules)=s_)(d:KV b c)(h:e.DictOf (Ar P w) a c):
  ObjOk P w f e a (.dK b):=⟨z,g,c,d,h⟩
theorem TK{D:Hp}{Q:Unit->On->Prop}(M:A.units+1<cLine)(I:Inv X zH Z H s)(g:DPut H a y v D)(F:RelV y u)(rv:RelV v r)(h:∀G,Inv X zH Z D G->Q () G):
  wpAny (model X.prog X.w) A (setItem (.ref a) u r) Q E s:=by
 rcases g with⟨d,k,e,m,l,n⟩|⟨d,k,b,e,m,J,l,n⟩
 ·subst m n
  obtain⟨z,p,N,f,t⟩:=Y4 I.hok e;have x:N.length<=sizeLine:=by rw[←f.length]; exact z
  have B:(putK d k v).length<=sizeLine:=by have:=FK d k v; omega
  refine wpAny_setItem_pairs (hsz:=x) (Km F) t λK i C=>h _ ?_;have O:∃q,K.get? a=P3 q:=let ⟨q,_,_,j,_⟩:=i; ⟨q,j⟩
  exact NK I (by rw[e]; exact jL) C O (QT B p (f.put k rv) i)
 ·subst m n
  cases(show u=fj b from F);obtain⟨z,p,P,f,t⟩:=cT I.hok e;have x:P.length<=sizeLine:=by rw[←Paired.length f]; exact z
  have B:(putK d k v).length<=sizeLine:=by have:=FK d k v; omega
  refine wpAny_setItem_heap (hsz:=x) (jr M) (IN I.hok J) t λK i C=>h _ ?_;obtain⟨q,R,S,j,T,U,V,_,W⟩:=i;refine NK I (by rw[e]; exact jL) C ⟨q,j⟩ ⟨B,p,_,(f.put k J rv).keeps λc Y L=>?_,q,R,S,j,T,U,V,W⟩;rw[AM (cC L e (λz=>nomatch z))];exact L
end
def Tg(i:gB):Prop:=∀a b,subscripted i s_ a b=operate [a,b] (getItem a b)
theorem W6{b:gD}{w:gK}{A:gS}{E:Ev->On->Prop}{s:On}{g:Env}{c a:gB}{pos:Pos}{T m:String}{Q:Ev->On->Prop}
  (n:typeLookup (.type T) "__getitem__"=pure (P3 (.builtin m))) (p:Tg a)
  (h:wpAny (model b w) A (eval c g) (λo f=>wpAny (model b w) A (eval a g) (λi d=>d.TypeIs o T/\wpAny (model b w) A (getItem o i) Q E d) E f) E s):
  wpAny (model b w) A (eval (.Subscript c a pos) g) Q E s:=by
 refine Subscript_ (gU h (λo f j=>gU j (λi d e=>?_) λ_ _ x=>x) λ_ _ x=>x);obtain⟨q,e⟩:=e;refine Ch ?_;refine Ch (nC q n ?_)
 first
  |exact Op (Ch (by
  rw[p o i];exact wpAny_operating (gU e (λr l k=>Ch (wpAny_letTemporaryGo (Op k))) λ_ _ x=>x)))
  |grind
  |grind
theorem O2{X:Cx}{f:t_ (Db×Obj)}{Z:St}{H:Hp}{s:On}{a:Db}{y:V}{o:u_ V}(I:Inv X f Z H s)(g:DGet H a y o):s.TypeIs (.ref a) "dict":=by
 rcases g with⟨c,k,e,_,_⟩|⟨c,k,b,e,_,_,_⟩
 ·obtain⟨_,_,h,_,d⟩:=Kw I.hok e
  exact d.typeIs
 ·obtain⟨_,_,i,_,d⟩:=Im I.hok e
  exact d.typeIs
def bV(c ty:TE):TE:=λZ H Q=>c Z H λx H1=>ty Z H1 λy b=>∃a v,x=.ref a/\DGet b a y (P3 v)/\Q v b
def bZ(c ty d:TE):TS:=λD Z H=>d Z H λv H1=>c Z H1 λx e=>ty Z e λy f=>∃a b,x=.ref a/\DPut f a y v b/\D.nx Z b
section
variable {X:Cx}{o i value:Expr}{pos pos':Pos}{td ty tv:TE}
theorem Fp(d:X.A.units+1<cLine)(e:PE X o td)(f:PE X i ty)(j:Tg i):PE X (.Subscript o i pos) (bV td ty):=by
 intro w s Z H Q I h;refine W6 PySem.F.slot_dict_getitem.lookup j (thn (e _ s Z H _ I h) λu k ⟨x,H1,l,m,n⟩=>thn (f _ k Z H1 _ l n) λz B ⟨y,p,c,q,a,v,ex,g,r⟩=>?_);subst ex;obtain rfl:u=fj a:=m;exact⟨O2 c g,TL d c g q λC D t b=>⟨v,p,t,b,r⟩⟩
theorem Fo(b:X.A.units+1<cLine)(c:PE X o td)(d:PE X i ty)(e:PE X value tv)(f:swapsWith value (P3 (.Subscript o i pos')) pos.line X.env=pure s_):
  PS X (.Assign [.Subscript o i pos'] value pos) (bZ td ty tv):=by
 intro G s Z H D I h;refine wpAny_Assign_Subscript (thn (e _ s Z H _ I h) λr j ⟨v,H1,k,l,m⟩=>thn (c _ j Z H1 _ k m) λu n ⟨x,p,q,t,w⟩=>thn (d _ n Z p _ q w) λJ K ⟨y,L,z,B,a,C,ex,g,E⟩=>?_) f;subst ex;obtain rfl:u=fj a:=t;exact TK b z g B l λM F=>⟨Z,C,F,E⟩
end
theorem O1{P:gD}{w:gK}{H:Hp}(h:fu)(a:sysModules<h.objs.size):ObjOk P w H (h.push {cls:=.type "dict",data:=.dict #[]}) h.objs.size (.dK []):=
 ⟨fo _,beq_eq_false_iff_ne.mpr (gP (f_ a)),[],.nil,Heap.DictOf.new h⟩
theorem V5{P:gD}{w:gK}{H:Hp}(h:fu)(a:sysModules<h.objs.size):ObjOk P w H (h.push {cls:=.type "dict",data:=.dict #[]}) h.objs.size (.dT []):=
 ⟨fo _,beq_eq_false_iff_ne.mpr (gP (f_ a)),[],.nil,_,_,0,TW _ rfl,⟨rfl,rfl,rfl⟩,rfl,rfl,gW⟩
def Zb:TE:=λ_ H Q=>∀p,H p=q_->Q (.ref p) (A2 H p (.dK []))
def Za:TE:=λ_ H Q=>∀p,H p=q_->Q (.ref p) (A2 H p (.dT []))
section
variable {X:Cx}{pos:Pos}
theorem ON:PE X (.Dict [] [] pos) Zb:=λa s Z H Q I h=>
 wpAny_Dict_empty ⟨.ref _,_,I.laid (λ_ _ q=>No _ q) (Re _) (O1 _ I.big),rfl,h _ (I.hok.fresh (Re _))⟩
theorem VC:PE X (.Dict [] [] pos) Za:=λa s Z H Q I h=>
 wpAny_Dict_empty ⟨.ref _,_,I.laid (λ_ _ q=>No _ q) (Re _) (V5 _ I.big),rfl,h _ (I.hok.fresh (Re _))⟩
end
def Pk:t_ (TE×TE)->St->Hp->(t_ (V×V)->Hp->Prop)->Prop
 |[],_,H,Q=>Q [] H
 |(a,b)::r,Z,H,Q=>a Z H λx H1=>b Z H1 λy c=>Pk r Z c λd e=>Q ((x,y)::d) e
abbrev VV:t_ (V×V)->t_ (Ev×Ev)->Prop:=Paired λp q=>RelV p.1 q.1/\RelV p.2 q.2
def dL(X:Cx)(pos:Pos)(b:t_ (u_ gB))(a:t_ gB)(c:t_ (TE×TE)):Prop:=
 ∀(d:t_ (Db×Obj)) (s:On) (Z:St) (H:Hp) (Q:t_ (V×V)->Hp->Prop),Inv X d Z H s->Pk c Z H Q->
  wpAny (model X.prog X.w) X.A (evalPairs (pairTrees b a X.env pos)) (λg h=>∃e f,Inv X d Z f h/\VV e g/\Q e f) X.xe s
theorem Q4{X:Cx}{pos:Pos}:dL X pos [] [] []:=λa s Z H Q I h=>pairTrees_nil_walk ⟨[],H,I,.nil,h⟩
theorem FH{X:Cx}{pos:Pos}{k v:gB}{c:t_ (u_ gB)}{d:t_ gB}{e f:TE}{a:t_ (TE×TE)}(g:PE X k e)(i:PE X v f)(j:dL X pos c d a):
  dL X pos (P3 k::c) (v::d) ((e,f)::a):=λC s Z H Q I h=>
 pairTrees_cons_walk (thn (g _ s Z H _ I h) λu l ⟨x,H1,m,n,o⟩=>thn (i _ l Z H1 _ m o) λD p ⟨y,q,r,t,w⟩=>
  thn (j _ p Z q _ r w) λE F ⟨G,z,A,b,B⟩=>⟨_,z,A,.cons ⟨n,t⟩ b,B⟩)
def Ga(a more:t_ (Key×V)):t_ (Key×V):=more.foldl (λb c=>putK b c.1 c.2) a
theorem KV.merge:∀{a:t_ (Key×V)}{d:t_ (Key×Ev)}{b:t_ (Key×V)}{c:t_ (Key×Ev)},KV a d->KV b c->KV (Ga b a) (merged c d):=by
 intro a d b c r
 induction r generalizing b c with
 |nil=>intro q; exact q
 | @cons p q g i h t e=>
  intro f
  exact e (by
   have:=f.put p.1 h.2
   simp_all)
theorem GF:∀(more a:t_ (Key×V)),(Ga a more).length<=a.length+more.length
 |[],a=>by show a.length<=a.length+0; omega
 |p::r,a=>by
  have b:=GF r (putK a p.1 p.2);have c:=FK a p.1 p.2;show(Ga _ r).length<=_
  grind
theorem K1{P:gD}{w:gK}:∀{d:t_ (Key×V)}{f:t_ (Ev×Ev)},VV (d.map λg=>(kV g.1,g.2)) f->∃e,Carries (Ar P w) f e/\KV d e
 |[],_,r=>by cases r; exact⟨[],jL,.nil⟩
 | p::d,_,r=>by
  cases r with
  |@cons a b j k h t=>
   obtain⟨e,c,q⟩:=K1 t;obtain⟨l,i⟩:=b;exact⟨(p.1,i)::e,⟨Km h.1,rfl,c⟩,.cons ⟨rfl,h.2⟩ q⟩
def bU(b:t_ (TE×TE)):TE:=λZ H Q=>∀p,H p=q_->Pk b Z (A2 H p (.dK [])) λe c=>c p=P3 (.dK [])/\∃a:t_ (Key×V),e=a.map (λd=>(kV d.1,d.2))/\a.length<=15/\Q (.ref p) (A2 c p (.dK (Ga [] a)))
theorem Q8{X:Cx}{pos:Pos}{b:t_ (u_ gB)}{d:t_ gB}{f:t_ (TE×TE)}(h:dL X pos b d f)(g:b.all (·.isSome)=r_)(n:b.length=d.length)(p:b≠[])
  (k:b.length<=15):PE X (.Dict b d pos) (bU f):=by
 intro r s Z H Q I q;have t:=I.hok.fresh (Re s.heap.objs.size);have u:=I.laid (a:=s.heap.objs.size) (o:=.dK []) (h':=s.heap.push {cls:=.type "dict",data:=.dict #[]}) (t':=s.toks) (λ_ _ q=>No _ q) (Re _) (O1 s.heap I.big);refine wpAny_Dict_walk (knd:=Ar X.prog X.w) g n p k (thn (h r _ Z _ _ u (q _ t)) λM N ⟨O,R,m,l,e,i,v,S,x⟩=>?_);subst v;obtain⟨y,c,A⟩:=K1 (P:=X.prog) (w:=X.w) l;obtain⟨z,B,C,D,E⟩:=Y4 m.hok e;cases D;refine⟨y,c,E,λh' j F=>⟨.ref s.heap.objs.size,_,?_,rfl,x⟩⟩
 have G:(Ga [] i).length<=sizeLine:=by
  have J:=GF i [];rw[iL]at J;rw[gc]; omega
 have K:∃q,h'.get? s.heap.objs.size=P3 q:=let ⟨q,_,_,L,_⟩:=j; ⟨q,L⟩
 exact NK m (by rw[e]; exact jL) F K (QT G B (A.merge .nil) j)
structure M1 (X:Cx) (o:gB) (m:Str) (apos:Pos) (e:gB) (cpos:Pos):Prop where
 base:attributeBase o m X.env (eval o X.env)=eval o X.env
 few:((backTo cpos (starEach [e] X.env)).all (λx=>!x.1)&&(backToKw cpos (keywordEach [] X.env)).all (λx=>x.1.isSome)
  && decide (([e]:List gB).length+([]:List j8).length+(if([]:List j8).isEmpty then 0 else 1)<30))=r_
 line:(apos.endLine==cpos.line)=r_
 trees:backTo cpos (starEach [e] X.env)=[(s_,eval e X.env)]
structure M2 (X:Cx) (o:gB) (m:Str) (apos:Pos) (e f:gB) (cpos:Pos):Prop where
 base:attributeBase o m X.env (eval o X.env)=eval o X.env
 few:((backTo cpos (starEach [e,f] X.env)).all (λx=>!x.1)&&(backToKw cpos (keywordEach [] X.env)).all (λx=>x.1.isSome)
  && decide (([e,f]:List gB).length+([]:List j8).length+(if([]:List j8).isEmpty then 0 else 1)<30))=r_
 line:(apos.endLine==cpos.line)=r_
 trees:backTo cpos (starEach [e,f] X.env)=[(s_,eval e X.env),(s_,eval f X.env)]
def fc(H:Hp)(a:Db):Prop:=(∃b,Rd H a (.dK b))\/∃b,Rd H a (.dT b)
theorem aF{X:Cx}{k:t_ (Db×Obj)}{Z:St}{H:Hp}{s:On}{a:Db}(I:Inv X k Z H s)(d:fc H a):
  s.TypeIs (.ref a) "dict"/\(∀b,fj a=.ref b->∃c,s.heap.get? b=P3 c/\c.dict=q_)/\(a==sysModules)=s_:=by
 rcases d with⟨g,e⟩|⟨g,e⟩
 ·obtain⟨_,h,l,_,f⟩:=Kw I.hok e
  refine⟨f.typeIs,λb q=>?_,h⟩;cases q;obtain⟨c,_,_,i,j,_⟩:=f;exact⟨c,i,j.2.1⟩
 ·obtain⟨_,h,m,_,f⟩:=Im I.hok e
  refine⟨f.typeIs,λb q=>?_,h⟩;cases q;obtain⟨c,_,_,i,j,_⟩:=f;exact⟨c,i,j.2.1⟩
end L2
set_option maxHeartbeats 4000000
namespace L2
section
theorem QZ{g:Env}:∀(f:t_ (Str×jJ)) (h:t_ (Str×Db)),(∀x,(x,g9)∈f->∃c,g.cells.lookup x=P3 c)->(∀x c,h.lookup x=P3 c->g.cells.lookup x=P3 c)->
  ∃i,(forIn f h fun(x:Str×jJ) (r:t_ (Str×Db))=>(if(x.2==g9)=r_ then do let a ←cellOf g x.1; pure (i_ ((x.1,a)::r))else pure (i_ r):Sem (ForInStep (t_ (Str×Db)))))=(pure i:Sem _) /\
   (∀x c,i.lookup x=P3 c->g.cells.lookup x=P3 c)/\(∀x,((x,g9)∈f\/∃c,h.lookup x=P3 c)->∃c,i.lookup x=P3 c):=by
 intro f
 induction f with
 |nil=>
  intro h _ m;exact⟨h,rfl,m,λx d=>d.elim (λz=>absurd z (by simp)) λz=>z⟩
 | cons p r w=>
  intro h q m;obtain⟨n,k⟩:=p
  by_cases s:k=g9
  ·subst s
   obtain⟨c,y⟩:=q n Sc;have j:cellOf g n=pure c:=by simp only[cellOf,y]
   obtain⟨i,e,a,b⟩:=w ((n,c)::h) (λx d=>q x (Rs _ d)) (λx o d=>by
    rw[ji]at d;cases t:x==n with
    |true=>
     rw[t]at d;have u:P3 c=P3 o:=d;cases u
     have:x=n:=by simpa using t
     rw[this]; exact y
    |false=>rw[t]at d; exact m x o d)
   refine⟨i,?_,a,λx d=>b x ?_⟩
   ·rw[jQ]
    simp only[beq_self_eq_true,if_true,j,pure_bind];exact e
   ·by_cases l:x=n
    ·subst l
     exact .inr ⟨c,by simp[ji]⟩
    ·rcases d with d|⟨o,d⟩
     ·rcases fi.mp d with d|d
      ·cases d; exact absurd rfl l
      ·exact .inl d
     ·refine .inr ⟨o,?_⟩
      have:(x==n)=s_:=by simpa using l
      rw[ji,this];exact d
  ·have v:(k==g9)=s_:=by simpa using s
   obtain⟨i,e,a,b⟩:=w h (λx d=>q x (Rs _ d)) m;refine⟨i,?_,a,λx d=>b x ?_⟩
   ·rw[jQ]
    simp only[v,gm,if_false,pure_bind];exact e
   ·rcases d with d|d
    ·rcases fi.mp d with d|d
     ·cases d; exact absurd rfl s
     ·exact .inl d
    ·exact .inr d
theorem K0{scope:jI}{env:Env}(h:∀x,(x,g9)∈scope.names->∃c,env.cells.lookup x=P3 c):
  ∃d,closureFor scope env=pure d/\(∀x c,d.lookup x=P3 c->env.cells.lookup x=P3 c)/\(∀x,(x,g9)∈scope.names->∃c,d.lookup x=P3 c):=by
 obtain⟨d,e,a,b⟩:=QZ _ [] h (λx c f=>by simp at f);refine⟨d,?_,a,λx f=>b x (.inl f)⟩;simp[closureFor]
 simp_all
variable {prog:Program}{w:World}{A:Around}{R:Result->Shared->Prop}{s:Shared}
theorem NL{t a u:gB}{y:t_ gB}{p:jI}{pos:Pos}{F z:Ev}{b:Env}(I:Nat->On->Prop)
  (B:∀n s,I n s->wpAny (model prog w) A (pyNext F) (λr d=>match r with
   |none=>R (.ok .next) d
   | some v=>wpAny (model prog w) A (letOwnedTupleGo a F v) (λ_ e=>wpAny (model prog w) A (assign a b v) (λ_ i=>
     wpAny (model prog w) A (forIn y r_ λc r=>if r=r_ then do let ok ←isTrue c b (eval c b); pure (i_ ok)else pure (i_ r)) (λok f=>
      if ok=r_ then wpAny (model prog w) A (eval t b) (λx j=>
       wpAny (model prog w) A (call (.builtin "list.append") [z,x]) (λ_ k=>∃m,m<n/\I m k) (λ_ _=>False) j) (λ_ _=>False) f
      else ∃m,m<n/\I m f) (λ_ _=>False) i) (λ_ _=>False) e) (λ_ _=>False) d) (λ_ _=>False) s)
  (n:Nat) (h:I n s):
  codeAny (model prog w) A (.compLoop (.ListComp t [⟨a,u,y,0⟩] p pos) 0 F z b) R s:=by
 refine codeAny_loop rfl I (λn s G=>?_) n h;refine wpAny_noted ?_;refine Ch (lB (Ch (gU (B n s G) (λr d l=>?_) λ_ _ g=>g.elim)));cases r with
 |none=>exact Op l
 | some v=>
  refine Ch (gU l (λ_ e q=>?_) λ_ _ g=>g.elim);refine Ch (gU q (λ_ i C=>Ch (gU C (λok f o=>?_) λ_ _ g=>g.elim)) λ_ _ g=>g.elim);cases ok with
  |false=>exact Op ⟨rfl,o⟩
  |true=>
   exact Ch (Ch (gU o (λx j D=>Ch (gU D (λ_ k E=>Op (Op ⟨rfl,E⟩)) λ_ _ g=>g.elim)) λ_ _ g=>g.elim))
end
def A6(X:Cx)(a:jI)(b:t_ Str)(c:t_ (Str×Db))(C:Db)(s:On)(H:Hp)(ex:t_ Db):Cx where
 prog:=X.prog
 w:=X.w
 K:=X.K
 mg:=X.mg
 base:=X.base
 A:=X.A
 N:=b
 s₀:=s
 H₀:=H
 env:=compEnvC a c C X.env
 outer:=X.stack
 stack:=X.stack
 ex:=ex
 fn:=λ_=>s_
 calm:=r_
 pn:=[]
 xe:=λ_ _=>False
def CO(a:t_ (u_ Nat))(Z:St):St:=a.map λo=>match o with
 |some i=>(Z[i]?).getD q_
 |none=>q_
def Xp(o:u_ jJ):Bool:=match o with
 |some .cell=>r_
 |some .free=>r_
 |_=>s_
theorem RI{o:u_ jJ}(h:Xp o=r_):o=P3 .cell\/o=P3 .free:=by
 unfold Xp at h
 split at h
 ·grind
 ·grind
 ·cases h
def isFree(o:u_ jJ):Bool:=match o with
 |some .free=>r_
 |_=>s_
theorem S3{o:u_ jJ}(h:isFree o=r_):o=P3 .free:=by
 unfold isFree at h
 split at h
 ·rfl
 ·cases h
def Vd(o:u_ jJ):Bool:=match o with
 |some .local=>r_
 |_=>s_
theorem Vc{o:u_ jJ}(h:Vd o=r_):o=P3 .local:=by
 unfold Vd at h
 split at h
 ·rfl
 ·cases h
def Vf(k:ScopeKind):Bool:=match k with
 |.function=>r_
 |_=>s_
theorem Ve{k:ScopeKind}(h:Vf k=r_):k=.function:=by
 unfold Vf at h
 split at h
 ·rfl
 ·cases h
def dh(b a:jI)(p:Str×jJ):Bool:=match p.2 with
 |.cell=>s_
 |.free=>Xp (a.names.lookup p.1)
 |.local=>Vd (b.names.lookup p.1)
 |_=>r_
def eG(x:u_ Str)(y:Str):Bool:=match x with
 |some z=>z==y
 |none=>s_
theorem aN{x:u_ Str}{y:Str}(h:eG x y=r_):x=P3 y:=by
 unfold eG at h
 split at h
 ·grind
 ·cases h
def K2(b a:jI)(N:t_ Str):t_ Str->t_ (u_ Nat)->Bool
 |[],[]=>r_
 |x::c,P3 j::d=>isFree (b.names.lookup x)&&eG (N[j]?) x&&Xp (a.names.lookup x)&&K2 b a N c d
 |_::c,q_::d=>K2 b a N c d
 |_,_=>s_
def Iu(b a:jI)(N c:t_ Str)(d:t_ (u_ Nat)):Bool:=Vf b.kind&&b.names.all (dh b a)&&K2 b a N c d
theorem FS{d b:jI}{N:t_ Str}:∀{c:t_ Str}{a:t_ (u_ Nat)},K2 d b N c a=r_->a.length=c.length
 |[],[],_=>rfl
 |x::e,P3 j::a,h=>by
  unfold K2 at h;rw[gj]at h;rw[eq,eq,FS h.2]
 |x::e,q_::a,h=>by
  unfold K2 at h;rw[eq,eq,FS h]
 |[],P3 _::_,h=>by cases h
 |[],q_::_,h=>by cases h
 |_::_,[],h=>by cases h
theorem NO{e a:jI}{N:t_ Str}:∀{f:t_ Str}{d:t_ (u_ Nat)},K2 e a N f d=r_->∀{k:Nat}{x:Str}{j:Nat},f[k]?=P3 x->d[k]?=P3 (P3 j)->
  e.names.lookup x=P3 .free/\N[j]?=P3 x/\(a.names.lookup x=P3 .cell\/a.names.lookup x=P3 .free)
 |[],_,_,k,x,j,b,_=>by simp at b
 |_::_,[],h,_,_,_,_,_=>by unfold K2 at h; cases h
 | y::g,P3 i::d,h,k,x,j,b,c=>by
  unfold K2 at h;rw[gj,gj,gj]at h;cases k with
  |zero=>
   simp at b c;subst b c;exact⟨S3 h.1.1.1,aN h.1.1.2,RI h.1.2⟩
  |succ k=>exact NO h.2 (k:=k) (by simpa using b) (by simpa using c)
 |y::g,q_::d,h,k,x,j,b,c=>by
  unfold K2 at h;cases k with
  |zero=>simp at c
  |succ k=>exact NO h (k:=k) (by simpa using b) (by simpa using c)
theorem Sx{a:t_ (u_ Nat)}{Z:St}{k:Nat}{v:V}(h:(CO a Z)[k]?=P3 (P3 v)):∃j,a[k]?=P3 (P3 j)/\Z[j]?=P3 (P3 v):=by
 unfold CO at h;rw[T0]at h;cases e:a[k]? with
 |none=>simp_all
 | some o=>
  rw[e]at h;cases o with
  |none=>cases h
  |some j=>
   cases q:Z[j]? with
   |none=>simp_all
   |some w=>simp_all
theorem Cr{a:Env}:∀{b:t_ (Str×jJ)}{x:Str},b.lookup x=P3 .free->
  (b.map fun(n,k)=>if(k==g9&&a.scope.kind==.function&&a.kindOf n==P3 .cell)then(n,lC)else(n,k)).lookup x=P3 .cell \/
  (b.map fun(n,k)=>if(k==g9&&a.scope.kind==.function&&a.kindOf n==P3 .cell)then(n,lC)else(n,k)).lookup x=P3 .free
 |[],_,h=>by simp at h
 | (n,k)::r,x,h=>by
  have d:=@Cr a r x;show List.lookup x ((if(k==g9&&a.scope.kind==.function&&a.kindOf n==P3 .cell)=r_ then(n,lC)else(n,k))::_)=_\/List.lookup x ((if(k==g9&&a.scope.kind==.function&&a.kindOf n==P3 .cell)=r_ then(n,lC)else(n,k))::_)=_
  by_cases e:(k==g9&&a.scope.kind==.function&&a.kindOf n==P3 .cell)=r_
  ·rw[if_pos e]
   cases c:x==n with
   |true=>exact .inl (by simp only[ji,c])
   |false=>
    simp only[ji,c]at h ⊢;exact d h
  ·rw[if_neg e]
   cases c:x==n with
   |true=>
    simp_all
   |false=>
    simp only[ji,c]at h ⊢;exact d h
theorem Ps{env:Env}{a:jI}(c:∀y∈a.names,y.2≠.cell){x:Str}(h:(relabel a env).names.lookup x=P3 .cell\/(relabel a env).names.lookup x=P3 .free):(x,g9)∈a.names:=by
 have e:(x,lC)∈(relabel a _).names\/(x,g9)∈(relabel a _).names:=h.elim (λz=>.inl (PySem.mem_of_lookup z)) λz=>.inr (PySem.mem_of_lookup z)
 have d:∀k,(k=.cell\/k=.free)->(x,k)∈(relabel a env).names->(x,g9)∈a.names:=by
  intro k f b;unfold relabel at b
  grind
 exact e.elim (d _ (.inl rfl)) (d _ (.inr rfl))
section
variable {X:Cx}{zH:t_ (Addr×Obj)}{Z:St}{H:Hp}{s:Shared}
structure CompOk (X:Cx) (sc:jI) (N':List Str) (js:List (Option Nat)):Prop where
 kind:sc.kind=.function
 cell:∀y∈sc.names,y.2≠.cell
 free:∀x,(x,g9)∈sc.names->X.env.scope.names.lookup x=P3 .cell\/X.env.scope.names.lookup x=P3 .free
 names:∀y∈sc.names,y.2=.local->sc.names.lookup y.1=P3 .local
 cap:K2 sc X.env.scope X.N N' js=r_
theorem CompOk.of{c:jI}{d:t_ Str}{f:t_ (u_ Nat)}(h:Iu c X.env.scope X.N d f=r_):CompOk X c d f:=by
 unfold Iu at h;rw[gj,gj,jj]at h;obtain⟨⟨g,a⟩,i⟩:=h;refine⟨Ve g,λy b e=>?_,λx j=>?_,λy b e=>?_,i⟩
 ·have q:=a y b
  unfold dh at q
  simp_all
 ·have q:=a _ j
  exact RI q
 ·have q:=a y b
  unfold dh at q;rw[e]at q;exact Vc q
theorem Ou{D:jI}{E:t_ Str}{K:t_ (u_ Nat)}{B:t_ (Str×Db)}{F:t_ Db}{f:fu}{V:Nat}(I:Inv X zH Z H s)(W:X.calm=r_)(O:CompOk X D E K)
  (d:∀x c,B.lookup x=P3 c->X.env.cells.lookup x=P3 c) (k:∀x,(x,g9)∈D.names->∃c,B.lookup x=P3 c)
  (G:∀b∈F,GA X zH H b) (Y:∀b∈F,∃o,s.heap.get? b=P3 o)
  (L:f.Ns (s.heap.objs.size+1) (λ_=>q_)) (J:∀b o,s.heap.get? b=P3 o->f.get? b=P3 o) (hD:∃n,f.get? s.heap.objs.size=P3 {cls:=.type "list",data:=.seq #[] n}):
  Inv (A6 X D E B (s.heap.objs.size+1) s H F) [] (CO K Z) (A2 H s.heap.objs.size (.lst [])) {s with heap:=f,toks:=V}:=by
 have fr:∀a,s.heap.objs.size<=a->H a=q_:=λa ha=>I.hok.fresh ha
 have h:∀x c,B.lookup x=P3 c->c<s.heap.objs.size:=λx c e=>by
  obtain⟨v,q⟩:=I.cell x c (d x c e);exact q.lt
 have ok:(A6 X D E B (s.heap.objs.size+1) s H F).Ok:=by
  refine⟨I.ok.mod,O.kind,I.ok.glob,I.ok.blt,iO _,λx y c C M=>I.ok.inj x y c (d x c C) (d y c M),λx N=>?_,λx c N=>?_,λ_=>I.ok.hd W,I.ok.frames,.inl rfl,λb t=>⟨?_,λx c e=>?_⟩,I.bs,gO I.ok.bsz I.sz,λb o e t=>?_,λb t P=>?_,I.stack,I.stkFree⟩
  ·exact k x (Ps (env:=X.env) O.cell N)
  ·exact absurd (show s_=r_ from N) f6
  ·obtain⟨o,e⟩:=Y b t
   exact f_ (ik (Tk e))
  ·exact(G b t).2.2.2.2.1 x c (d x c e)
  ·rcases(G b t).2.2.2.1 with z|z
   ·exact I.ok.noex b o e z
   ·have C:b<X.base.objs.size:=Tk e
    exact absurd (f8 C (gO I.ok.bsz z)) (gY _)
  ·rcases fi.mp (I.stkSub b P)with z|z
   ·exact(G b t).2.1 z
   ·exact(G b t).2.2.1 z
 refine⟨ok,rfl,I.bare,?_,⟨_,L,λi x v C M h3=>?_⟩,λx c e=>?_,?_,λx c e=>?_,λp hp=>absurd (show p∈([]:t_ (Db×Obj))from hp) (by simp),?_,?_⟩
 ·exact Un.laid J (Re _) (fr _ (Re _))
 ·obtain⟨j,e1,e2⟩:=Sx M
  obtain⟨T,c2,A⟩:=NO O.cap C e1;obtain⟨m,_,hl⟩:=I.loc;obtain⟨u,r,l⟩:=hl j x v c2 e2 (.inr A);refine⟨u,r,.inr ⟨Cr T,?_⟩⟩
  rcases l with⟨l1,_⟩|⟨_,c,l2,l3⟩
  ·have Q:X.env.scope.names.lookup x=P3 .local:=l1
   rcases A with A|A <;>(rw[Q]at A; cases A)
  ·obtain⟨R,U⟩:=k x (PySem.mem_of_lookup T)
   have:R=c:=ft ((d x R U).symm.trans l2)
   subst this;obtain⟨S,w,g⟩:=id l3;exact⟨R,U,S,J _ _ w,g⟩
 ·obtain⟨v,S,w,g⟩:=I.cell x c (d x c e)
  exact⟨v,S,J _ _ w,g⟩
 ·show A2 H s.heap.objs.size (.lst []) (s.heap.objs.size+1)=q_
  rw[AM (Nat.succ_ne_self _)];exact fr _ (iO _)
 ·show A2 H s.heap.objs.size (.lst []) c=q_
  rw[AM (f_ (h x c e))];exact I.freeC x c (d x c e)
 ·refine I.hok.laid J (Re _) ?_
  obtain⟨n,e⟩:=hD;exact⟨fo _,[],n,.nil,e⟩
 ·unfold CO
  show(K.map _).length=E.length;rw[Go];exact FS O.cap
theorem Un.but{fs ex:t_ Db}{H H1:Hp}{h a d:fu}{C:Db}(u:Un fs ex H H1 h a)(j:h.get? C=q_)(f:∀b,b≠C->d.get? b=a.get? b):Un fs ex H H1 h d:=by
 have g:∀{b:Db}{o:Obj},h.get? b=P3 o->b≠C:=λ{b o} e z=>by grind
 refine⟨λb o e n a c=>(f b (g e)).trans (u.keep b o e n a c),λb o e n a c=>?_,u.free,λb o e a=>?_,u.tups,u.frzs,u.tbls⟩
 ·obtain⟨i,q⟩:=u.slot b o e n a c
  exact⟨i,(f b (g e)).trans q⟩
 ·obtain⟨k,q⟩:=u.there b o e a
  simp_all
theorem Kq{j:jI}{k:t_ Str}{l:t_ (Str×Db)}{C:Db}{g:t_ Db}{c:t_ (Db×Obj)}{m:St}{d:Hp}{f:On}{h':fu}(I:Inv X zH Z H s)(n:∀b∈g,GA X zH H b)(p:s.heap.objs.size<=C)
  (J:Inv (A6 X j k l C s H g) c m d f) (h:∀b,b≠C->h'.get? b=f.heap.get? b):Inv X zH Z d {f with heap:=h'}:=by
 have r:d C=q_:=J.free
 refine I.call' J.os (Un.but J.base (by
  cases e:s.heap.get? C with
  |none=>rfl
  |some o=>exact absurd (Tk e) (kX.mpr p)) h) (λa o e=>(J.hok a o e).stay (λb u i q=>(h b (λz=>by
   grind)).trans q) (λ_ q=>q) λ_ _ q=>q) J.bare λb i=>?_
 ·obtain⟨y,t,A,v,w,x⟩:=n b i
  exact⟨v,t,w,x⟩
end
def cv(X:Cx)(a:t_ gB)(t:TT):Prop:=
 ∀(b:t_ (Db×Obj)) (s:On) (Z:St) (H:Hp) (Q:Bool->Hp->Prop),Inv X b Z H s->t Z H Q->
  wpAny (model X.prog X.w) X.A (forIn a r_ λc r=>if r=r_ then do let ok ←isTrue c X.env (eval c X.env); pure (i_ ok)else pure (i_ r)) (TP X b Z Q) X.xe s
def dR:TT:=λ_ H Q=>Q r_ H
theorem Q7{X:Cx}:cv X [] dR:=λa s Z H Q I h=>wpAny_tests_nil ⟨H,I,h⟩
theorem XM{X:Cx}{c:gB}{t:TT}(h:PT X c t):cv X [c] t:=λa s Z H Q I q=>wpAny_tests_one (h _ s Z H Q I q)
def UU(X:Cx)(e:jI)(f:t_ Str)(w:t_ (u_ Nat))(z h:gB)(j:t_ gB)(wi:TI):TE:=λZ H Q=>wi Z H λJ H1=>∀l,H1 l=q_->X.K.lookup l=q_->∀k C s H0 n,∃(g:TG) (p:TT) (q:TE) (W:Nat->Nat->St->Hp->Prop),
 PG (A6 X e f k C s H0 n) z g/\cv (A6 X e f k C s H0 n) j p/\PE (A6 X e f k C s H0 n) h q/\(∃m,W 0 m (CO w Z) (A2 H1 l (.lst [])))/\∀i m r a,W i m r a->
 (J.stop i a/\Q (.ref l) a)\/(J.go i a/\∀x t,J.yld i a x t->g x r t λd A=>p d A λb u=>if b=r_ then q d u λy v=>∃o,v l=P3 (.lst o)/\o.length<sizeLine/\∃c,c<m/\W (i+1) c d (A2 v l (.lst (o++[y])))else ∃c,c<m/\W (i+1) c d u)
section
variable {X:Cx}{tg elt iter:Expr}{ifs:t_ Expr}{sc:Scope}{pos:Pos}{N':t_ Str}{js:t_ (u_ Nat)}{wi:TI}{g:TG}{tt:TT}{te:TE}
theorem L9{zH:t_ (Db×Obj)}{Z:St}{H:Hp}{s:On}{h:t_ (Str×Db)}{C l it:Db}{a:t_ Db}{U:Nat->fu->Prop}{J:It}{s3:On}{Q:VK}{R:Result->On->Prop}{W:Nat->Nat->St->Hp->Prop}{m0:Nat}{zI:St}{H0:Hp}
  (I:Inv X zH Z H s) (hf:∀b∈a,GA X zH H b) (a3:∀b∈a,b<s.heap.objs.size) (hC:s.heap.objs.size<=C)
  (T:Turn X.prog X.w X.K tg J a it U)
  (hg:PG (A6 X sc N' h C s H a) tg g) (ht:cv (A6 X sc N' h C s H a) ifs tt) (he:PE (A6 X sc N' h C s H a) elt te)
  (hW:∀i m k c,W i m k c->
   (J.stop i c/\Q (.ref l) c)\/(J.go i c/\∀x H2,J.yld i c x H2->g x k H2 λV H3=>tt V H3 λb z=>if b=r_ then te V z λy H5=>∃E,H5 l=P3 (.lst E)/\E.length<sizeLine/\∃f,f<m/\W (i+1) f V (A2 H5 l (.lst (E++[y])))else ∃f,f<m/\W (i+1) f V z))
  (hR:∀k c G,Inv (A6 X sc N' h C s H a) [] k c G->Q (.ref l) c->R (.ok .next) G)
  (I3:Inv (A6 X sc N' h C s H a) [] zI H0 s3) (t3:U 0 s3.heap) (f3:∀b∈a,H0 b=q_) (w0:W 0 m0 zI H0):
  codeAny (model X.prog X.w) X.A (.compLoop (.ListComp elt [⟨tg,iter,ifs,0⟩] sc pos) 0 (.ref it) (.ref l) (compEnvC sc h C X.env)) R s3:=by
 have j:∀{c:Hp},(∀b∈a,c b=q_)->∀b∈a,GA (A6 X sc N' h C s H a) [] c b:=λhn b t=>by
  have q:=I3.ok.exf b t;refine⟨hn b t,q.1,I3.ok.exfs b t,.inl t,q.2,λp hp=>absurd (show p∈([]:t_ (Db×Obj))from hp) (by simp)⟩
 refine NL (λn G=>∃i k c,Inv (A6 X sc N' h C s H a) [] k c G/\U i G.heap/\(∀b∈a,c b=q_)/\W i n k c) ?_ m0 ⟨0,zI,H0,I3,t3,f3,w0⟩;rintro n s4 ⟨i,L,z,I4,M,N,w4⟩
 rcases hW i n L z w4 with⟨O,qn⟩|⟨go,step⟩
 ·refine thn (T.done (A6 X sc N' h C s H a) rfl rfl rfl rfl i [] s4 L z (λ_ _=>False) I4 (j N) M O) λr s5 ⟨hr,I5⟩=>?_
  subst hr;exact hR L z s5 I5 qn
 ·refine thn (T.item (A6 X sc N' h C s H a) rfl rfl rfl rfl i [] s4 L z (λ_ _=>False) I4 (j N) M go) λr s5 ⟨u,hr,h5⟩=>?_
  subst hr;refine thn h5 λ_ s6 ⟨x,H6,I6,r6,y6,B,a0⟩=>?_;have a1:=I6.pinned (j a0) (T.obj _ _ B);refine thn (hg _ s6 L H6 x u _ a1 r6 (step x H6 y6)) λ_ s7 ⟨Y,H7,I7,q7⟩=>?_
  have again:∀{zK:St}{D:Hp}{F:On}{f:Nat},Inv (A6 X sc N' h C s H a) ([]++KL a s6.heap) zK D F->f<n->W (i+1) f zK D->∃m,m<n/\∃i k c,Inv (A6 X sc N' h C s H a) [] k c F/\U i F.heap/\(∀b∈a,c b=q_)/\W i m k c:=λ{zK D F f} P S w9=>by
   refine⟨f,S,i+1,zK,D,P.unpinned,T.keep _ _ _ B λb t o e=>(P.pin (b,o) (fz _ (fz _ (Eb t e)))).1,λb t=>?_,w9⟩;obtain⟨o,e,d⟩:=T.obj _ _ B b t;exact(P.pin (b,o) (fz _ (fz _ (Eb t e)))).2.1
  refine thn (ht _ s7 Y H7 _ I7 q7) λok s8 ⟨H8,I8,q8⟩=>?_;cases ok with
  |false=>
   have a2:∃f,f<n/\W (i+1) f Y H8:=q8;obtain⟨f,S,w8⟩:=a2;show ∃m,m<n/\_;exact again I8 S w8
  |true=>
   refine thn (he _ s8 Y H8 _ I8 q8) λy F ⟨yv,D,P,ry,q9⟩=>?_;obtain⟨E,hl,hz,f,S,w9⟩:=q9;refine thn (II (X:=A6 X sc N' h C s H a) _ F Y D (.ref l) [yv] (.ref l) [y] (λv c=>v=.non/\c=A2 D l (.lst (E++[yv]))) P rfl (.cons ry .nil) ⟨l,E,yv,rfl,rfl,hl,hz,rfl,rfl⟩) λ_ sa ⟨v,Ha,Ia,_,_,eH⟩=>?_;subst eH;exact again Ia S w9
theorem XQ(hc:X.calm=r_)(N':t_ Str)(js:t_ (u_ Nat))(hi:PI X tg iter wi)
  (hB:Iu sc X.env.scope X.N N' js=r_)
  (hs:∀x,foldedSetIterable iter X.env x=pure x:=by intro _; rfl):
  PE X (.ListComp elt [⟨tg,iter,ifs,0⟩] sc pos) (UU X sc N' js tg elt ifs wi):=by
 intro U s Z H Q I h;have O:CompOk X sc N' js:=CompOk.of hB;obtain⟨z,l,P,B⟩:=K0 (scope:=sc) (env:=X.env) λx hx=>I.ok.has x (O.free x hx);rw[eval_ListComp];refine wpAny_comprehension_free (use:=q_) rfl hs l O.kind O.names (thn (hi U s Z H _ I h) λv s1 h1=>thn h1 λa0 c h2=>?_);obtain⟨V,G,tn,J,L,e,C,T,p,M,hq⟩:=h2;subst e
 have r:X.K.lookup c.heap.objs.size=q_:=by
  cases q:X.K.lookup c.heap.objs.size with
  |none=>rfl
  |some o=>exact absurd (Tk (C.kIn _ _ q)) (gY _)
 obtain⟨g,tt,te,W,hg,ht,he,⟨m0,w0⟩,hW⟩:=hq c.heap.objs.size (C.hok.fresh (Re _)) r z (c.heap.objs.size+1) c L G;refine iI (wpAny_newFunctionEnv O.cell (by intro y hy; simp at hy) (λf d a=>?_) O.kind)
 dsimp only at d a ⊢
 generalize t:c.heap.push {cls:=.type "list",dict:=q_,data:=.seq ([]:t_ Ev).toArray}=Hh at d a ⊢;have i:Hh.objs.size=c.heap.objs.size+1:=by rw[←t,iF]
 have D:∀b∈G,b<c.heap.objs.size:=λb j=>by
  obtain⟨o,e,_⟩:=T.obj _ _ p b j;exact Tk e
 have E:∀b o,c.heap.get? b=P3 o->f.get? b=P3 o:=λb o e=>a.extBut b o (by rw[i]; exact f_ (ik (Tk e))) (No _ (t▸No _ e));have hD:∃n,f.get? c.heap.objs.size=P3 {cls:=.type "list",data:=.seq #[] n}:=⟨_,a.extBut _ _ (by rw[i]; exact f_ (mx _)) (No _ (t▸TW _ rfl))⟩
 have I3:∀u,Inv (A6 X sc N' z (c.heap.objs.size+1) c L G) [] (CO js Z) (A2 L c.heap.objs.size (.lst [])) {c with heap:=f,toks:=u}:=λu=>
  Ou C hc O P B M (λb j=>let ⟨o,e,_⟩:=T.obj _ _ p b j; ⟨o,e⟩) (by rw[←i]; exact d) E hD
 have F:tn 0 f:=T.keep _ _ _ p λb j o e=>E b o e
 have R:∀b∈G,A2 L c.heap.objs.size (.lst []) b=q_:=λb j=>by
  rw[AM (f_ (D b j))];exact(M b j).1
 have k:∀u,codeAny (model X.prog X.w) X.A (.compLoop (.ListComp elt [⟨tg,iter,ifs,0⟩] sc pos) 0 (.ref V) (.ref c.heap.objs.size) (compEnvC sc z (c.heap.objs.size+1) X.env))
   (compPost (model X.prog X.w) X.A X.xe q_ (EP X U Z Q) (.ref c.heap.objs.size) (c.heap.objs.size+1)) {c with heap:=f,toks:=u}:=λu=>by
  refine L9 (W:=W) (m0:=m0) (Q:=Q) C M D (iO _) T hg ht he hW (λzZ H' s' Y q'=>?_) (I3 u) F R w0;obtain⟨m,hn,_⟩:=Y.loc;exact⟨m,hn,λh' S=>⟨.ref _,H',Kq C M (iO _) Y λb j=>S.2 b j,rfl,q'⟩⟩
 rw[show(newEnv sc Hh.objs.size X.env.globals z X.env.qual q_ .none (P3 X.env) builtinsNs).locals=c.heap.objs.size+1 from i];show codeAny (model X.prog X.w) X.A (.compStart (.ListComp elt [⟨tg,iter,ifs,0⟩] sc pos) 0 (.ref V) (.ref c.heap.objs.size) (compEnvC sc z (c.heap.objs.size+1) X.env)) _ _;exact codeAny_compStart_list (k _) (T.self _ 0 _ _ _ F (k _))
end
structure Fly (B:fu) (l:List Env) (a C:Db) (dx:Option Db) (h:fu):Prop where
 stays:B.StaysIn h
 new:B.get? a=q_
 frames:h.FunFrames B l
 obj:∃vs sl tb,h.get? a=P3 ⟨.ref C,dx,.fields vs,sl⟩/\vs[2]?=P3 .none/\vs[1]?=P3 tb/\(tb=.none\/∃T oT ts,tb=.ref T/\B.get? T=q_/\T≠a/\h.get? T=P3 oT/\oT.data=.fields ts/\3<ts.size)
section
variable {M:Model}{A:Around}{E:Value->Shared->Prop}{s:Shared}{B:Heap}{env:Env}{outer l:t_ Env}{L a C:Addr}{dx:u_ Addr}{Q:Unit->Shared->Prop}
theorem size_of{b:Array Ev}{i:Nat}{x:Ev}(h:b[i]?=P3 x):i<b.size:=(kC.mp h).1
theorem L6{d:Array Ev}{r:Array (u_ Ev)}{g O:Ev}{P:Bool}(t:A.frames=P3 (env::outer))(R:env.frame=P3 L)(m:s.heap.FunFrames B (env::outer))(S:B.StaysIn s.heap)(y:B.get? a=q_)
  (u:s.heap.get? a=P3 ⟨.ref C,dx,.fields d,r⟩) (T:d[1]?=P3 O) (D:d[2]?=P3 .none)
  (h:∀v,Fly B (env::outer) a C dx v->s.heap.UpToSlots v->Q () {s with heap:=v}):
  wpAny M A (do let f ←frameOf env; let n ←entryPlaceOf L P; let b ←oE g f .none (rawInt L) .none n; setField (.ref a) 1 b) Q E s:=by
 have F:=size_of T;have Y:=size_of D
 have U:a∉(env::outer).filterMap (·.frame):=λq=>by
  obtain⟨_,o,G,c⟩:=m.mem q;rw[u]at G;cases G;exact c d rfl
 refine Ch (wpAny_frameOf_fun t m R λk p=>?_);refine Ch (wpAny_entryPlaceOf λn w=>?_);unfold oE newFields;refine Ch (iI ?_ (w.sizeOk5 _ _ _ _ _));have H:k.get? a=P3 ⟨.ref C,dx,.fields d,r⟩:=(p.2.1 a U).trans u;have I:B.StaysIn k:=λb o q=>(p.2.1 b λz=>by rw[(m.mem z).1]at q; cases q).trans (S b o q);generalize i:({cls:=.type "traceback",dict:=q_,data:=.fields ([g,.ref L,.none,rawInt L,.none]++(if n.isEmpty then UF 6 gH else n)).toArray}:Obj)=ob;have J:(k.push ob).get? a=P3 ⟨.ref C,dx,.fields d,r⟩:=No _ H;refine jf J rfl F ?_;have K:k.objs.size≠a:=i7 (Tk H);have V:=iQ (jE (·.setIfInBounds 1 (fj k.objs.size))) J rfl
 have W:((k.push ob).update a (jE (·.setIfInBounds 1 (fj k.objs.size)))).get? k.objs.size=P3 ob:=by
  rw[fv _ _ (gP K)];exact TW k (by subst i; rfl)
 have x:∀b o,b≠a->k.get? b=P3 o->((k.push ob).update a (jE (·.setIfInBounds 1 (fj k.objs.size)))).get? b=P3 o:=λb o X q=>by
  rw[fv _ _ (gP X)];exact No _ q
 have N:∀b o,s.heap.get? b=P3 o->(∀d,o.data≠.fields d)->b≠a:=λb o q c z=>by
  rw[z,u]at q;cases q;exact c d rfl
 refine h _ ⟨λb o q=>x b o (λz=>by rw[z,y]at q; cases q) (I b o q),y,m.of_keeps λb o q c=>?_,_,_,_,V,?_,?_,.inr ⟨k.objs.size,ob,_,rfl,I.fresh,K,W,by subst i; rfl,?_⟩⟩ λb o q c=>?_
 ·obtain⟨j,e⟩:=p.2.2 b o q
  exact⟨_,x b _ (N b o q c) e,rfl⟩
 ·rw[Array.getElem?_setIfInBounds_ne (by decide)]; exact D
 ·simp[F]
 ·simp only[fk,fw,eq,iL]; omega
 ·obtain⟨j,e⟩:=p.2.2 b o q
  exact⟨j,x b _ (N b o q c) e⟩
theorem Fly.mark{T:Db}{g:Obj}{h d:Array Ev}{x:Ev}{f:Array (u_ Ev)}(F:Fly B l a C dx s.heap)(n:s.heap.get? a=P3 ⟨.ref C,dx,.fields d,f⟩)(p:d[1]?=P3 (.ref T))(r:d[2]?=P3 .none)(t:B.get? T=q_)(i:T≠a)(u:s.heap.get? T=P3 g)
  (j:g.data=.fields h) (w:3<h.size):Fly B l a C dx (s.heap.update T (jE (·.setIfInBounds 3 x)))/\s.heap.UpToSlots (s.heap.update T (jE (·.setIfInBounds 3 x)))/\(s.heap.update T (jE (·.setIfInBounds 3 x))).get? a=P3 ⟨.ref C,dx,.fields d,f⟩:=by
 have e:∀b,b≠T->(s.heap.update T (jE (·.setIfInBounds 3 x))).get? b=s.heap.get? b:=λb v=>fv _ _ (gP v)
 have k:∀b o,s.heap.get? b=P3 o->(∀d,o.data≠.fields d)->b≠T:=λb o q c z=>by
  simp_all
 have m:=(e a (gP i)).trans n;refine⟨⟨λb o q=>(e b λz=>by grind).trans (F.stays b o q),F.new,F.frames.of_keeps λb o q c=>⟨o,(e b (k b o q c)).trans q,rfl⟩,d,f,_,m,r,p,.inr ⟨T,_,_,rfl,t,i,iQ _ u (lO (jM j _)),jM j _,by simp_all⟩⟩,λb o q c=>⟨o.slots,(e b (k b o q c)).trans q⟩,m⟩
theorem Gg(F:Fly B l a C dx s.heap)(h:∀c,Fly B l a C dx c->s.heap.UpToSlots c->Q () {s with heap:=c}):wpAny M A (setFlight (.ref a) q_) Q E s:=by
 obtain⟨q,r,t,d,j,e,k⟩:=F.obj;refine Ch (gf d rfl e ?_)
 rcases k with rfl|⟨T,u,v,rfl,m,n,f,g,i⟩
 ·exact Op (h _ F (oF _))
 ·obtain⟨o,p,_⟩:=F.mark d e j m n f g i
  exact jf f g i (h _ o p)
theorem Ov(c:A.frames=P3 (env::outer))(g:env.frame=P3 L)(F:Fly B (env::outer) a C dx s.heap)
  (h:∀d,Fly B (env::outer) a C dx d->s.heap.UpToSlots d->Q () {s with heap:=d}):wpAny M A (noteFrame (.ref a) env) Q E s:=by
 obtain⟨D,G,H,i,j,f,p⟩:=F.obj;unfold noteFrame;simp only[g];refine Ch (gf i rfl f ?_)
 rcases p with rfl|⟨T,I,q,rfl,r,t,k,m,n⟩
 ·rw[if_neg (by decide)]
  exact L6 c g F.frames F.stays F.new i f j h
 ·rw[if_pos (show(fj T !=gH)=r_ by simp)]
  obtain⟨x,u⟩:∃x,q[3]?=P3 x:=⟨_,iY n⟩;refine Ch (gf k m u ?_)
  by_cases e:(x==rawInt L)=r_
  ·rw[if_pos e]
   exact Op (h _ F (oF _))
  ·rw[if_neg e]
   obtain⟨o,v,w⟩:=F.mark (x:=gH) i f j r t k m n;refine Ch (jf k m n ?_);exact L6 c g o.frames o.stays o.new w f j λd y z=>h d y (v.trans z)
theorem S6(d:A.frames=P3 (env::outer))(e:env.frame=P3 L)(F:Fly B (env::outer) a C dx s.heap)
  (h:∀c,Fly B (env::outer) a C dx c->s.heap.UpToSlots c->Q () {s with heap:=c}):wpAny M A (leaving env (.ref a)) Q E s:=Ch (Ov d e F λc f g=>Gg f λi j k=>h i j (g.trans k))
theorem Fly.tail(F:Fly B (env::outer) a C dx s.heap):Fly B outer a C dx s.heap:=⟨F.stays,F.new,F.frames.2.2,F.obj⟩
end
section
variable {A:Around}{E:Value->Shared->Prop}{h:Heap}{g:Array GenState}{d:Drawn}{t:Nat}{os:OsState}
variable {nm q:Str}{C N f:Addr}{bs bm:t_ Value}{hdct:Bool}{sn:t_ Str}{sub:t_ Value}{ab:Bool}{col:u_ Bool}{dd:u_ Addr}{k0 k1 k2 k3 k5:u_ Value}{newId:String}
def Gh(C t:Db):Obj:={cls:=.ref C,data:=.fields #[.ref t,.none,.none,.none,.bool s_,.none]}
theorem P1{s:On}{env:Env}{x:Sem Ev}{Q:Flow->On->Prop}{M:Model}(hbase:bm.contains (.type "BaseException")=r_)(hh:A.handled=q_)
  (hx:wpAny M A x (λv s₁=>∃e dx vs sl,v=.ref e/\s₁.heap.get? C=P3 (excClassObj nm q C N bs bm hdct sn sub ab col dd k0 k1 k2 k3 k5 newId) /\
   s₁.heap.get? e=P3 ⟨.ref C,dx,.fields vs,sl⟩/\vs[1]?=P3 .none/\E (.ref e) s₁) E s):
  wpAny M A (raiseStmt env (P3 x) q_) Q E s:=by
 have hcB:(fj C::bm).contains (.type "BaseException")=r_:=by grind
 unfold raiseStmt;refine Ch (gU hx (λv s₁ h₁=>?_) λ_ _ x=>x);obtain⟨e,dx,vs,sl,rfl,hC,he,h1,hE⟩:=h₁
 repeat (first|omega|omega|(with_reducible refine iX hC ?_; rw[hcB])|wp_step)
 rw[h1];refine Op ?_;exact Op (wpAny_raiseNew_none hh hE)
theorem S8{M:Model}{e D N':Db}{oe:Obj}{nm' q':Str}{bs' bmD:t_ Ev}{hdct':Bool}{sn':t_ Str}{sub':t_ Ev}{ab':Bool}{col':u_ Bool}{dd':u_ Db}{l0 l1 l2 l3 l5:u_ Ev}{newId':String}{Q:Bool->On->Prop}
  (hC:h.get? C=P3 (excClassObj nm q C N bs bm hdct sn sub ab col dd k0 k1 k2 k3 k5 newId)) (hD:h.get? D=P3 (excClassObj nm' q' D N' bs' bmD hdct' sn' sub' ab' col' dd' l0 l1 l2 l3 l5 newId')) (hbase:bmD.contains (.type "BaseException")=r_)
  (he:h.get? e=P3 oe) (hcls:oe.cls=.ref C) (hq:Q ((fj C::bm).contains (.ref D)) ⟨h,g,d,t,os⟩):wpAny M A (excMatches (.ref e) (.ref D)) Q E ⟨h,g,d,t,os⟩:=by
 have hcB:(fj D::bmD).contains (.type "BaseException")=r_:=by grind
 have f:=tc_notTuple;generalize hb:(fj C::bm).contains (.ref D)=b at hq;unfold excMatches
 repeat (first|(with_reducible refine iW he ?_; rw[hcls])|omega|(with_reducible refine iX hD ?_; rw[hcB])|wp_step)
 refine iX hC ?_;rw[hb];cases b <;>(wp_walk; exact hq)
end
def Cq:t_ Ev:=[.type "ValueError",.type "Exception",.type "BaseException",.type "object"]
structure XC (K:Frag) (nm:Str) (C U:Db):Prop where
 obj:∃q N bs sn sub ab col dd k0 k1 k2 k3 k5,K.lookup C=P3 (excClassObj nm q C N bs (.ref U::Cq) r_ sn sub ab col dd k0 k1 k2 k3 k5 "ValueError.__new__")
 up:∃q N bs sn sub ab col dd k0 k1 k2 k3 k5 hd,K.lookup U=P3 (excClassObj "ThinError" q U N bs Cq hd sn sub ab col dd k0 k1 k2 k3 k5 "ValueError.__new__")
 kp:keepIn K (.ref C)=r_
 ga:PySem.W.findIn K (.ref C) "__getattribute__"=P3 (P3 (.builtin "BaseException.__getattribute__"))
 gt:PySem.W.findIn K (.ref C) "__getattr__"=P3 q_
 sa:PySem.W.findIn K (.ref C) "__setattr__"=P3 (P3 (.builtin "object.__setattr__"))
 at_:nsIn K mainGlobals nm=P3 (P3 (.ref C))
 atU:nsIn K mainGlobals "ThinError"=P3 (P3 (.ref U))
 ca:PySem.W.findIn K (.ref C) "__class__"=P3 (P3 (.builtin "object.__class__"))
 nw:PySem.W.findIn K (.ref C) "word"=P3 q_
 nn:PySem.W.findIn K (.ref C) "number"=P3 q_
 nr:PySem.W.findIn K (.ref C) "row"=P3 q_
section
variable {K:Frag}{nm name:Str}{C U:Addr}
theorem XC.cls(c:XC K nm C U):∃a,PySem.W.clsIn K C=P3 a/\a.mro=.ref C::.ref U::Cq/\a.hasDict=r_/\a.name=nm:=by
 obtain⟨q,N,f,g,b,h,d,i,j,k,l,m,n,e⟩:=c.obj;refine⟨_,by unfold PySem.W.clsIn; rw[e],rfl,rfl,rfl⟩
end
section
variable {M:Model}{prog:Program}{w:World}{A:Around}{E:Value->Shared->Prop}{R:Result->Shared->Prop}{h:Heap}{g:Array GenState}{d:Drawn}{t:Nat}{os:OsState}
variable {K:Frag}{nm q:Str}{C U N:Addr}{bs:t_ Value}{sn:t_ Str}{sub:t_ Value}{ab:Bool}{col:u_ Bool}{dd:u_ Addr}{k0 k1 k2 k3 k5:u_ Value}{rest:t_ Value}
theorem YT{Q:Unit->On->Prop}(hC:h.get? C=P3 (excClassObj nm q C N bs (.ref U::Cq) r_ sn sub ab col dd k0 k1 k2 k3 k5 "ValueError.__new__"))
  (hq:Q () ⟨h,g,d,t,os⟩):wpAny M A (checkBuiltinCall "ValueError.__new__" ⟨.ref C::rest,[]⟩) Q E ⟨h,g,d,t,os⟩:=by
 have F:=PySem.F.excBase_ValueError;have hcont:(fj C::.ref U::Cq).contains (.type "ValueError")=r_:=by simp[Cq]
 have hstar:=F.noStar;simp only[checkBuiltinCall,F.newKind,F.newSplit,F.newRow]
 repeat (first|refine iW hC ?_|(refine iX hC ?_; rw[hcont])|refine wpAny_staticBase_exc hC ?_|refine wpAny_madeBy_exc hC ?_|simp only[bne_self_eq_false,gm,if_false]|wp_step)
 exact hq
theorem X1(hC:h.get? C=P3 (excClassObj nm q C N bs (.ref U::Cq) r_ sn sub ab col dd k0 k1 k2 k3 k5 "ValueError.__new__"))
  (hq:R (.ok (.ret (.ref (h.objs.size+1)))) ⟨(h.push {cls:=.type "tuple",data:=.seq rest.toArray}).push (Gh C h.objs.size),g,d,t,os⟩) (hrest:rest.length<=sizeLine):
  codeAny (model prog w) A (.builtin "ValueError.__new__" ⟨.ref C::rest,[]⟩) R ⟨h,g,d,t,os⟩:=by
 have F:=PySem.F.excBase_ValueError;have hends:=F.ends;have hcB:(fj C::.ref U::Cq).contains (.type "ValueError")=r_:=by simp[Cq]
 have hcA:(fj C::.ref U::Cq).contains (.type "AttributeError")=s_:=by simp[Cq]
 have hcN:(fj C::.ref U::Cq).contains (.type "NameError")=s_:=by simp[Cq]
 refine codeAny_builtinAt F.entry ?_;unfold iS.«BaseException.__new__»;refine PySem.wpAt_bind ?_;show PySem.wpAt _ _ _ (stack >>=_) _ _ _;refine PySem.wpAt_bind (PySem.wpAt_stack λp below=>wpAt_of_wpAny ?_)
 wp_walk
 refine wpAt_of_wpAny ?_;rw[F.owner]
 repeat (first|with_reducible refine wpAny_madeHere_exc F.canon hC ?_|with_reducible refine iW hC ?_|(with_reducible refine iX hC ?_; first|rw[hcB]|rw[hcA]|rw[hcN])|wp_step)
 show R _ _;rw[iF];exact hq
theorem WP{e:Db}{oe:Obj}{Q:Unit->On->Prop}(hC:h.get? C=P3 (excClassObj nm q C N bs (.ref U::Cq) r_ sn sub ab col dd k0 k1 k2 k3 k5 "ValueError.__new__"))(he:h.get? e=P3 oe)(hcls:oe.cls=.ref C)(hq:Q () ⟨h,g,d,t,os⟩):
  wpAny M A (checkBuiltinCall "ValueError.__init__" ⟨.ref e::rest,[]⟩) Q E ⟨h,g,d,t,os⟩:=by
 have F:=PySem.F.excBase_ValueError;have hcB:(fj C::.ref U::Cq).contains (.type "ValueError")=r_:=by simp[Cq]
 have hshort:=F.noStar;simp only[checkBuiltinCall,F.initKind,F.initSplit,F.initRow]
 repeat (first|(with_reducible refine iW he ?_; rw[hcls])|with_reducible refine iW hC ?_|(with_reducible refine iX hC ?_; rw[hcB])|wp_step)
 refine lD ?_
 rw[show ∀(a b:String) (n:Nat),Bind.check ⟨.positional,"*","ValueError",.self,[⟨"args",.varPos,s_⟩]⟩ a b n (List.map (λx=>x.fst) ({pos:=fj e::rest}:Args).kw)=pure ()from
  λa b n=>check_star_args _ _ _ _ _ _]
 exact Op hq
theorem S9(X:K.In h)(c:XC K nm C U)(hi:PySem.W.findIn K (.ref C) "__init__"=P3 (P3 (.builtin "ValueError.__init__")))(hrest:rest.length<=sizeLine)
  (hq:∀h',(∀b o,h.get? b=P3 o->h'.get? b=P3 o)->h'.get? (h.objs.size+1)=P3 (Gh C (h.objs.size+2))->R (.ok (.ret (.ref (h.objs.size+1)))) ⟨h',g,d,t,os⟩):
  codeAny (model prog w) A (.call (.ref C) ⟨rest,[]⟩) R ⟨h,g,d,t,os⟩:=by
 have F:=PySem.F.excBase_ValueError;obtain⟨q,N,bs,sn,sub,ab,col,dd,k0,k1,k2,k3,k5,eC⟩:=c.obj;have hC:=X _ _ eC;have f1:=tc_lookup;have f2:=tc_bind (.ref C);have hT:(⟨h,g,d,t,os⟩:On).TypeIs (.ref C) "type":=⟨_,hC,rfl⟩;refine nF ?_;show wpAny _ _ (callAny (.ref C) _) _ _ _
 repeat (any_goals (first|assumption|with_reducible refine iW hC ?_|wp_step))
 refine⟨rfl,?_⟩;refine codeAny_call_builtin_at (mJ _ (by decide +kernel)) entry_typeCall (wpAny_check_type_call_sub hC ?_)
 repeat (first|with_reducible refine iW hC ?_|with_reducible refine wpAny_madeBy_exc hC ?_|wp_step)
 refine codeAny_call_builtin_code (mJ _ F.quiet) (YT hC ?_);refine X1 hC ?_ hrest;show wpAny _ _ _ _ _ _;have kk:∀b o,h.get? b=P3 o->((h.push {cls:=.type "tuple",data:=.seq rest.toArray}).push (Gh C h.objs.size)).get? b=P3 o:=λb o e=>No _ (No _ e);have hC₁:=kk _ _ hC;have hget:((h.push {cls:=.type "tuple",data:=.seq rest.toArray}).push (Gh C h.objs.size)).get? (h.objs.size+1)=P3 (Gh C h.objs.size):=by unfold Gh; heap_get
 have hcC:(fj C::fj U::Cq).contains (.ref C)=r_:=by simp
 unfold isInstance;unfold Gh at *
 repeat (first|with_reducible refine iW hget ?_|(with_reducible refine iX hC₁ ?_; rw[hcC])|wp_step)
 show wpAny _ _ (isSubtype (.ref C) (.ref C)) _ _ _;refine iX hC₁ ?_;rw[hcC,if_neg (by decide)];refine Ch (gQ ?_);unfold callSpecial? specialOf
 repeat (first|with_reducible refine iW hget ?_|wp_step)
 show wpAny _ _ (typeLookup (.ref C) _) _ _ _;refine(PySem.W.looks_findIn (X.keeps kk) hi).here ?_;refine gQ (Ch (k7 (F.init.bind _) ?_));refine Ch (jq (kA F.init.plain F.initEntry (WP hC₁ hget rfl ?_)))
 wp_walk
 refine hq _ (λb o e=>?_) ?_
 ·rw[fv _ _ (i7 (ik (Tk e)))]
  exact No _ (kk b o e)
 ·refine(iQ (jE (·.setIfInBounds 0 (fj _))) (No _ hget) rfl).trans ?_
  simp only[iF];rfl
end
structure CXD (P:gD) (w:gK) (outer:List Env) (H:Hp) (s:On) (a C:Db) (dx:Option Db) (B:fu) (H':Hp) (s':On):Prop where
 os:s'.os=s.os
 bare:jz s'.gens
 un:Un (L5 outer) [] H H' s.heap s'.heap
 hok:HOk P w H' B
 all:∀b o o',s.heap.get? b=P3 o->b∉L5 outer->s'.heap.get? b=P3 o'->B.get? b=P3 o'
 fly:Fly B outer a C dx s'.heap
 new:s.heap.objs.size<=a
 free:H' a=q_
def Wb(P:gD)(w:gK):Tr:=λb H s E e f=>∃a C c B d,e=.ref a/\CXD P w b H s a C c B d f/\E (.ref C) c d
section
variable {P:Program}{w:World}{outer:t_ Env}{H H':Hp}{s s':Shared}{a C:Addr}{dx:u_ Addr}{B h':Heap}
theorem CXD.step(x:CXD P w outer H s a C dx B H' s')(F:Fly B outer a C dx h')(u:s'.heap.UpToSlots h'):CXD P w outer H s a C dx B H' {s' with heap:=h'}:=by
 have fr:∀b∈L5 outer,∃o,s'.heap.get? b=P3 o/\∀k,o.data≠.fields k:=λb c=>(x.fly.frames.mem c).2;refine⟨x.os,x.bare,⟨λb o e n c d=>F.stays _ _ (x.all b o o e c (x.un.keep b o e n c d)),λb o e n c d=>?_,x.un.free,λb o e d=>?_,x.un.tups,x.un.frzs,x.un.tbls⟩,x.hok,λb o j e c q=>?_,F,x.new,x.free⟩
 ·obtain⟨p,q⟩:=x.un.slot b o e n c d
  obtain⟨j,f,h⟩:=fr b c;rw[q]at f;cases f;obtain⟨i,l⟩:=u b _ q h
  grind
 ·obtain⟨g,q⟩:=x.un.there b o e d
  by_cases c:b∈L5 outer
  ·obtain⟨j,f,h⟩:=fr b c
   obtain⟨i,l⟩:=u b _ f h
   grind
  ·exact⟨g,F.stays _ _ (x.all b o g e c q)⟩
 ·obtain⟨g,m⟩:=x.un.there b o e (by simp)
  have z:=x.all b o g e c m;rw[F.stays _ _ z]at q
  grind
end
section
variable {X:Cx}{zH:t_ (Addr×Obj)}{Z:St}{H H':Hp}{s s':Shared}{a C:Addr}{dx:u_ Addr}{B:Heap}
theorem CXD.inv(x:CXD X.prog X.w X.stack H s a C dx B H' s')(I:Inv X zH Z H s):Inv X zH Z H' s':=
 I.call' x.os x.un (x.hok.kept x.fly.stays) x.bare λb z=>absurd z (by simp)
theorem CXD.leave(x:CXD X.prog X.w X.stack H s a C dx B H' s')(I:Inv X zH Z H s)(c:X.stack=X.env::X.outer)(f:X.ex=[]):CXD X.prog X.w X.outer X.H₀ X.s₀ a C dx B H' s':=by
 have J:=x.inv I;have d:=x.fly;rw[c]at d;refine⟨J.os,J.bare,by have z:=J.base; grind,x.hok,λb o g e h q=>?_,d.tail,gO I.sz x.new,x.free⟩;obtain⟨i,j⟩:=I.base.there b o e (by grind);refine x.all b i g j (λz=>?_) q
 rcases fi.mp (I.stkSub b z)with z|z
 ·exact absurd (Tk e) (by rw[z]; exact kX.mpr I.ok.above)
 ·exact h z
theorem VE{P:gD}{w:gK}{K:Frag}{j:Str->u_ Ev}{d:fu}{N:t_ Str}{g:Str}{b:jI}{f:Db}{k:Ev}{A:gS}{c:t_ Env}{h:On}{i:Hp}{E:XK}:
  Gs (Wb P w) (IV (Wb P w) P w K j d N g b f k A c h i E) E:=by
 intro zH Z H s e s' I ⟨a,C,dx,B,H',l,x,q⟩;subst l;exact S6 I.ok.frames rfl x.fly λn m u=>⟨a,C,dx,B,H',rfl,(x.step m u).leave I rfl rfl,q⟩
end
def XO(a C:Db)(c:u_ Db)(h:fu):Prop:=∃b d,h.get? a=P3 ⟨.ref C,c,.fields b,d⟩/\b[2]?=P3 .none/\b[1]?=P3 .none
def XF(d:Db)(fs:t_ (Str×V))(h:fu):Prop:=∃a,h.Ns1 d a/\(∀f,RelO (fs.lookup f) (a f))/\PySem.Within a (fs.map (·.1))/\fs.length<=1000
theorem XO.ok{P:gD}{w:gK}{H:Hp}{a C:Db}{b:u_ Db}{h:fu}(x:XO a C b h):ObjOk P w H h a (.ext (XO a C b)):=by
 refine⟨x,?_,λf g ⟨c,d,e,r⟩ k=>⟨c,d,k _ e,r⟩⟩;obtain⟨c,d,e,_⟩:=x
 simp_all
def del(H:Hp)(a:Db):Hp:=λb=>if b=a then q_ else H b
theorem NH{H:Hp}{a b:Db}(h:b≠a):del H a b=H b:=if_neg h
theorem HH{H:Hp}{a:Db}:del H a a=q_:=if_pos rfl
section
variable {X:Cx}{zH:t_ (Addr×Obj)}{Z:St}{H H1:Hp}{s s1:Shared}{a C:Addr}{dx:u_ Addr}
theorem cK(I:Inv X zH Z H s)(A:s1.os=s.os)(f:jz s1.gens)(u:Un (L5 X.stack) [] H H1 s.heap s1.heap)(h:HOk X.prog X.w H1 s1.heap)(k:H1 a=P3 (.ext (XO a C dx)))(i:s.heap.objs.size<=a):
  CXD X.prog X.w X.stack H s a C dx (PySem.W.hideAll s1.heap (a::L5 X.stack)) (del H1 a) s1:=by
 have J:Inv X zH Z H1 s1:=I.call' A u h f λb z=>absurd z (by simp);have E:∀{b:Db}{u:HO},H1 b=P3 u->(∀g,u≠.ext g)->b≠a:=λ{b u} q p z=>by rw[z,k]at q; exact p _ (ft q).symm
 have of:∀{b:Db}{u:HO},H1 b=P3 u->(∀g,u≠.ext g)->del H1 a b=P3 u:=λq p=>(NH (E q p)).trans q;have B:∀{b:Db}{u:HO},H1 b=P3 u->b∉L5 X.stack:=λ{b u} q z=>by rw[J.stkFree b z]at q; cases q
 obtain⟨⟨F,G,t,K,L⟩,_⟩:=(show ObjOk X.prog X.w H1 s1.heap a _ from h a _ k);refine⟨A,f,⟨u.keep,u.slot,λb o q n t=>?_,u.there,λb j q=>of (u.tups b j q) (by intro g z; cases z),λb o j q=>of (u.frzs b o j q) (by intro g z; cases z),λb M q=>?_⟩,λb o q=>?_,λb o P q x N=>?_,⟨λb o q=>PySem.W.of_hideAll _ q,PySem.W.hideAll_none _ (by simp),PySem.W.funFrames_hide J.stack λy O b x=>?_,F,G,.none,t,K,L,.inl rfl⟩,i,HH⟩
 ·by_cases z:b=a
  ·rw[z]; exact HH
  ·rw[NH z]; exact u.free b o q n t
 ·obtain⟨m,e⟩:=u.tbls b M q
  exact⟨m,of e (by intro g z; cases z)⟩
 ·have D:b≠a:=λz=>by rw[z,HH]at q; cases q
  rw[NH D]at q;refine(h b o q).stay (λc v d r=>PySem.W.hideAll_get _ r λz=>?_) (λc r=>of r (by intro g z; cases z)) λc j r=>of r (by intro g z; cases z)
  rcases fi.mp z with z|z
  ·rcases d with d|d
   ·exact D (d.symm.trans z)
   ·rw[z,k]at d; cases d
  ·rcases d with d|d
   ·exact B q (d▸z)
   ·exact B d z
 ·refine PySem.W.hideAll_get _ N λz=>?_
  rcases fi.mp z with z|z
  ·exact absurd (Tk q) (by rw[z]; exact kX.mpr i)
  ·exact x z
 ·exact Rs _ (mI.mpr ⟨y,O,x⟩)
end
def XS(X:Cx)(a:t_ (Db×Obj))(Z:St)(R:XK)(e:Ev)(b:On):Prop:=∃H s,Inv X a Z H s/\Wb X.prog X.w X.stack H s R e b
def Made(X:Cx)(d:t_ (Db×Obj))(Z:St)(C:Db)(R:XK)(v:Ev)(b:On):Prop:=∃a c H s H1,v=.ref a/\Inv X d Z H s/\b.os=s.os/\jz b.gens/\Un (L5 X.stack) [] H H1 s.heap b.heap/\HOk X.prog X.w H1 b.heap/\H1 a=P3 (.ext (XO a C c))/\s.heap.objs.size<=a/\R (.ref C) c (del H1 a)
section
variable {X:Cx}{zH:t_ (Addr×Obj)}{Z:St}{s:Shared}{C U:Addr}{nm:Str}{R:XK}
theorem R9{e:gB}{pos:Pos}{Q:Flow->On->Prop}{i:Ev->On->Prop}(c:XC X.K nm C U)(D:X.A.handled=q_)(h:wpAny (model X.prog X.w) X.A (eval e X.env) (Made X zH Z C R) i s)(E:∀e t,XS X zH Z R e t->i e t):
  wpAny (model X.prog X.w) X.A (exec (.Raise (P3 e) q_ pos) X.env) Q i s:=by
 obtain⟨q,N,F,G,m,H,n,L,M,O,P,S,T,V⟩:=c.obj
 have W:wpAny (model X.prog X.w) X.A (eval e X.env) (λv d=>∃e k l o,v=.ref e/\d.heap.get? C=P3 (excClassObj nm q C N F (.ref U::Cq) r_ G m H n L M O P S T "ValueError.__new__") /\
   d.heap.get? e=P3 ⟨.ref C,k,.fields l,o⟩/\l[1]?=P3 .none/\i (.ref e) d) i s:=by
  refine thn h λv s1 ⟨a,k,H0,Y,H1,ev,I,y,f,u,g,B,p,r⟩=>?_;obtain⟨⟨l,o,hx,h2,h1⟩,_⟩:=(g a _ B);have J:=I.call' y u g f λb z=>absurd z (by simp);exact⟨a,k,l,o,ev,J.kIn _ _ V,hx,h1,E _ _ ⟨H0,Y,I,a,C,k,_,_,rfl,cK I y f u g B p,r⟩⟩
 first
  |exact Ch (lB (P1 rfl D (Ch (gU W (λv d j=>Ch (lB (Op j))) λ_ _ x=>x))))
  |omega
end
section
variable {X:Cx}{zH:t_ (Addr×Obj)}{Z:St}{H:Hp}{s:Shared}{C U:Addr}{nm:Str}{R:XK}{E:Value->Shared->Prop}{us:t_ Value}
theorem Xf(c:XC X.K nm C U)(f:PySem.W.findIn X.K (.ref C) "__init__"=P3 (P3 (.builtin "ValueError.__init__")))(I:Inv X zH Z H s)(i:us.length<=sizeLine)(h:R (.ref C) q_ H):wpAny (model X.prog X.w) X.A (call (.ref C) us) (Made X zH Z C R) E s:=by
 obtain⟨a,g,l,t,m⟩:=s;have fa:=I.hok.fresh (iO _);refine jq (S9 (K:=X.K) (U:=U) (nm:=nm) I.kIn c f i λn d j=>?_);have k:Inv X zH Z (A2 H (a.objs.size+1) _) _:=I.laid (t':=t) d (iO _) (XO.ok ⟨_,_,j,rfl,rfl⟩);refine⟨a.objs.size+1,q_,H,_,_,rfl,I,rfl,I.bare,Un.laid d (iO _) fa,k.hok,AR,iO _,?_⟩
 have e:del (A2 H (a.objs.size+1) (.ext (XO (a.objs.size+1) C q_))) (a.objs.size+1)=H:=by
  funext b
  by_cases z:b=a.objs.size+1
  ·rw[z,HH,fa]
  ·rw[NH z,AM z]
 grind
end
abbrev au:=Ends->XK->St->Hp->Prop
abbrev cj:=XK->St->Hp->VK->Prop
def XE(X:Cx)(b:t_ (Db×Obj))(Z:St)(R:XK)(e:Ev)(a:On):Prop:=X.xe e a\/XS X b Z R e a
def cu(X:Cx)(b:gG)(t:au):Prop:=
 ∀(a:t_ (Db×Obj)) (s:On) (Z:St) (H:Hp) (D:Ends) (R:XK),Inv X a Z H s->t D R Z H->wpAny (model X.prog X.w) X.A (exec b X.env) (SP X a D) (XE X a Z R) s
def ax(X:Cx)(b:t_ gG)(t:au):Prop:=
 ∀(a:t_ (Db×Obj)) (s:On) (Z:St) (H:Hp) (D:Ends) (R:XK),Inv X a Z H s->t D R Z H->wpAny (model X.prog X.w) X.A (execs b X.env) (SP X a D) (XE X a Z R) s
def eP(X:Cx)(e:gB)(t:cj):Prop:=
 ∀(a:t_ (Db×Obj)) (s:On) (Z:St) (H:Hp) (Q:VK) (R:XK),Inv X a Z H s->t R Z H Q->wpAny (model X.prog X.w) X.A (eval e X.env) (EP X a Z Q) (XE X a Z R) s
section
variable {X:Cx}{st:Stmt}{t u:au}{te:cj}{e:Expr}{es:t_ Expr}{ta:TA}{x nm:Str}{p pos cpos:Pos}{C U f:Addr}{k:Nat}{fd:FuncData}{ps:t_ Str}{sp:Sp}
theorem eX{a:Type}{t:Sem a}{Q:a->On->Prop}{b:t_ (Db×Obj)}{Z:St}{R:XK}{s:On}(h:wpAny (model X.prog X.w) X.A t Q X.xe s):wpAny (model X.prog X.w) X.A t Q (XE X b Z R) s:=gU h (λ_ _ z=>z) λ_ _ z=>.inl z
theorem SO{R:XK}(a:Gs (Wb X.prog X.w) X R)(h:cu X st t):PS X st (λD=>t D R):=λd s Z H D I q=>
 gU (h _ s Z H D R I q) (λ_ _ z=>z) λe b z=>z.elim id fun⟨H,s,J,c⟩=>a _ Z H s e b J c
theorem U5(a:cu X st t):ax X [st] t:=by
 intro c s Z H D R I h;refine mo (gU (a _ s Z H D R I h) (λf d q=>?_) λ_ _ z=>z);cases f with
 |next=>
  obtain⟨e,b,J,q⟩:=q;exact jp ⟨_,b,J,q⟩
 |brk=>exact q
 |cont=>exact q
 |ret v=>exact q
def W1(C:Db)(ta:TA):au:=λ_ R Z H=>ta Z H λa H1=>a.length<=sizeLine/\R (.ref C) q_ H1
theorem P5(c:XC X.K nm C U)(g:PySem.W.findIn X.K (.ref C) "__init__"=P3 (P3 (.builtin "ValueError.__init__")))(i:X.A.handled=q_)(j:Gl X x)(k:X.mg x=P3 (.ref C))(l:PA X (e::es) ta)(a:(x==("__debug__":Str))=s_:=by decide)(m:starEach (e::es) X.env=(s_,eval e X.env)::starEach es X.env:=by rfl)(b:(backTo cpos (starEach es X.env)).any (·.1)=s_:=by rfl):
  cu X (.Raise (P3 (.Call (.Name x p) (e::es) [] cpos)) q_ pos) (W1 C ta):=by
 intro o s Z H D R I h;exact R9 c i (iK (Ee I j k (PySem.W.callWith_K I.ok.mod.kin c.kp (thn (eX (l _ _ s Z H _ I h)) λt u ⟨v,H1,d,r,n,q⟩=>⟨d.kIn,Xf c g d (by rw[gL,←r.length]; exact n) q⟩) m b) a)) λ_ _ z=>.inr z
def Zc(sp:Sp)(ta:TA):cj:=λR Z H Q=>ta Z H λa H1=>sp a H1 Q R
theorem U_(F:A3 X.prog X.w X.K X.mg X.base (Wb X.prog X.w) k f fd ps sp)(l:Room k X.A)(m:Gl X x)(n:X.mg x=P3 (.ref f))(o:keepIn X.K (.ref f)=r_)(t:Binds X.K fd ps [])
  (v:PA X (e::es) ta) (d:(x==("__debug__":Str))=s_:=by decide) (y:starEach (e::es) X.env=(s_,eval e X.env)::starEach es X.env:=by rfl) (g:(backTo pos (starEach es X.env)).any (·.1)=s_:=by rfl):
  eP X (.Call (.Name x p) (e::es) [] pos) (Zc sp ta):=by
 intro z s Z H Q R I h;refine iK (Ee I m n ?_ d);refine PySem.W.callWith_K (h₀:=X.base) I.ok.mod.kin o (thn (eX (v pos z s Z H _ I h)) λa i ⟨j,H1,b,r,q⟩=>⟨b.kIn,?_⟩) y g;have B:(a++[]).length=ps.length:=by rw[gk,←r.length]; exact F.len _ _ _ _ q
 have D:Vals j (a++[]):=by grind
 refine jq (lU (F.run X.A X.stack i H1 ⟨a,[]⟩ (a++[]) j Q R l b.env0 (t i a b.kIn B) D q) λr G c=>?_);cases r with
 |error e=>exact .inr ⟨H1,i,b,c⟩
 |ok E=>
  cases E with
  |ret u=>exact b.after c
  |next=>exact iP c
  |brk=>exact iP c
  |cont=>exact iP c
def ZZ(te:cj):au:=λD R Z H=>te R Z H λ_ H1=>D.nx Z H1
theorem U4(a:eP X e te)(b:swapsWith e q_ pos.line X.env=pure s_:=by rfl):cu X (.Expr e pos) (ZZ te):=λd s Z H D R I h=>wpAny_Expr_any (thn (a _ s Z H _ R I h) λu g ⟨v,H1,c,_,q⟩=>⟨Z,H1,c,q⟩) I.quiet b
end
def Cx.hush(X:Cx)(A:gS):Cx:={X with A:=A,calm:=s_,xe:=λ_ _=>False}
section
variable {X:Cx}{A:Around}{zH:t_ (Addr×Obj)}{Z:St}{H:Hp}{s:Shared}
theorem Inv.hush(I:Inv X zH Z H s)(a:A.frames=P3 X.stack):Inv (X.hush A) zH Z H s:=
 ⟨⟨I.ok.mod,I.ok.kind,I.ok.glob,I.ok.blt,I.ok.above,I.ok.inj,I.ok.has,I.ok.cab,λz=>absurd (z) f6,a,I.ok.stk,I.ok.exf,I.ok.bs,I.ok.bsz,I.ok.noex,I.ok.exfs,I.ok.funs,I.ok.frf⟩,I.os,I.bare,I.base,I.loc,I.cell,I.free,I.freeC,I.pin,I.hok,I.len⟩
theorem Inv.unhush(I:Inv (X.hush A) zH Z H s)(ok:X.Ok):Inv X zH Z H s:=⟨ok,I.os,I.bare,I.base,I.loc,I.cell,I.free,I.freeC,I.pin,I.hok,I.len⟩
theorem Inv.track{a:Db}{o:HO}(I:Inv X zH Z H s)(n:H a=q_)(d:X.s₀.heap.objs.size<=a)(f:a≠X.env.locals)(g:∀x c,X.env.cells.lookup x=P3 c->c≠a)(h:∀p∈X.pn++zH,p.1≠a)(new:ObjOk X.prog X.w (A2 H a o) s.heap a o):
  Inv X zH Z (A2 H a o) s:=by
 have of:∀{b:Db}{u:HO},H b=P3 u->A2 H a o b=P3 u:=λ{b u} q=>by rw[AM (λz=>by grind)]; exact q
 refine I.step (g':=s.gens) (d':=s.drawn) (t':=s.toks) (h':=s.heap) (ch:=[a]) (λb l=>?_) (λb o _ _ _ e _=>e) (λb o _ _ _ e _=>⟨o.slots,e⟩) (λb o i _ m=>?_) (λb o _ e=>⟨o,e⟩) (λb j e=>of e) (λb o j e=>of e) (λb r e=>⟨#[],by grind⟩) (λm k=>k) (λb u e=>?_) I.bare
 ·have e:b=a:=by grind
  subst e;exact⟨.inr d,f,g,h⟩
 ·rw[AM (λz=>i (by simp[z]))]; exact m
 ·by_cases z:b=a
  ·subst z
   rw[AR]at e
   grind
  ·rw[AM z]at e
   exact(I.hok b u e).stay (λ_ _ _ q=>q) (λ_ q=>of q) λ_ _ q=>of q
theorem Inv.gone{i:Nat}{x:Str}{v:u_ Ev}{m:Str->u_ Ev}{t:fu}{D:Nat}(I:Inv X zH Z H s)(E:X.N.Nodup)(F:X.N[i]?=P3 x)
  (G:∀(i:Nat) (x:Str) (v:V),X.N[i]?=P3 x->Z[i]?=P3 (P3 v)->Te X.env.scope x->∃u,RelV v u/\Look X.env s.heap m x u)
  (J:t.Ns X.env.locals (λy=>if y=x then v else m y)) (a:i6 X.env.locals s.heap t):Inv X zH (Z.set i q_) H {s with heap:=t,toks:=D}:=by
 have f:∀{b:Db}{o:Obj},X.s₀.heap.get? b=P3 o->b≠X.env.locals:=λ{b o} e=>f_ (f8 (Tk e) I.ok.above);refine⟨I.ok,I.os,I.bare,⟨λb o e n w l=>(a.2 b (f e)).trans (I.base.keep b o e n w l),λb o e n w l=>?_,I.base.free,λb o e l=>?_,I.base.tups,I.base.frzs,I.base.tbls⟩,⟨_,J,λj y K g h L=>?_⟩,λy c e=>?_,I.free,I.freeC,λp M=>?_,λb o e=>?_,by simpa using I.len⟩
 ·obtain⟨O,g⟩:=I.base.slot b o e n w l
  exact⟨O,(a.2 b (f e)).trans g⟩
 ·obtain⟨P,g⟩:=I.base.there b o e l
  exact⟨P,(a.2 b (f e)).trans g⟩
 ·by_cases B:j=i
  ·subst B
   rw[kj]at h
   split at h
   ·split at h <;>cases h
   ·rename_i z; exact absurd rfl z
  ·rw[lT (gP B)]at h
   obtain⟨Q,R,q⟩:=G j y K g h L;refine⟨Q,R,?_⟩
   rcases q with⟨k,e⟩|⟨k,c,e,z⟩
   ·refine .inl ⟨k,?_⟩
    have:y≠x:=λe=>B (FJ E g (e▸F))
    simp[this,e]
   ·exact .inr ⟨k,c,e,z.sameBut a (I.cne y c e)⟩
 ·obtain⟨C,z⟩:=I.cell y c e
  exact⟨C,z.sameBut a (I.cne y c e)⟩
 ·obtain⟨e,n,f,S,d⟩:=I.pin p M
  exact⟨(a.2 p.1 f).trans e,n,f,S,d⟩
 ·refine(I.hok b o e).stay (λc C r q=>(a.2 c ?_).trans q) (λ_ q=>q) λ_ _ q=>q
  rintro rfl
  rcases r with rfl|r
  ·rw[I.free]at e; cases e
  ·rw[I.free]at r; cases r
end
def XT(C:Db)(c:u_ Db)(a:Db)(u:HO):Prop:=∃b d,u=.frz ⟨.ref C,c,.fields b,d⟩ (.own a)/\b[2]?=P3 .none
abbrev TH:=Ends->Db->u_ Db->St->Hp->Prop
def PH(X:Cx)(e:t_ kE)(t:TH):Prop:=
 ∀(b:t_ (Db×Obj)) (Z:St) (D:Ends) (a C:Db) (c:u_ Db) (B:fu) (H0:Hp) (d:On) (H:Hp) (s:On),Inv X b Z H0 d->CXD X.prog X.w X.stack H0 d a C c B H s->t D C c Z H->
  wpAny (model X.prog X.w) X.A (handleBy (.ref a) X.env e) (SP X b D) X.xe s
section
variable {X:Cx}{i:Nat}{n x:Str}{np pos:Pos}{b₀:Stmt}{suite body:t_ Stmt}{rest:t_ ExceptHandler}{Dc U:Addr}{nm:Str}{th:TH}{ts:Addr->TS}{tb:au}
def bR(K:Frag)(Dc:Db)(i:Nat)(ts:Db->TS)(th:TH):TH:=λD C d Z H=>∃nm U,XC K nm C U/\((C=Dc\/U=Dc)/\(∀a u,H a=q_->XT C d a u->ts a {nx:=λb c=>D.nx (b.set i q_) c,rt:=D.rt,bk:=λb c=>D.bk (b.set i q_) c,ct:=λb c=>D.ct (b.set i q_) c} (Z.set i (P3 (.ref a))) (A2 H a u))\/C≠Dc/\U≠Dc/\th D C d Z H)
def bE(K:Frag)(D:Db):Prop:=∃nm q N d c e f a g b h j k l m o,K.lookup D=P3 (excClassObj nm q D N d c e f a g b h j k l m o "ValueError.__new__")/\c.contains (.type "BaseException")=r_
theorem XC.isX{K:Frag}{C:Db}(c:XC K nm C U):bE K C:=by
 obtain⟨q,N,a,b,d,f,g,h,j,k,l,m,o,e⟩:=c.obj;exact⟨nm,q,N,a,_,_,b,_,f,_,h,j,k,l,m,o,e,by simp[Cq]⟩
theorem XC.isU{K:Frag}{C:Db}(c:XC K nm C U):bE K U:=by
 obtain⟨q,N,a,b,d,f,g,h,j,k,l,m,o,p,e⟩:=c.up;exact⟨_,q,N,a,_,_,b,_,f,_,h,j,k,l,m,o,e,by simp[Cq]⟩
theorem Ir{C U D:Db}:(fj C::fj U::Cq).contains (.ref D)=(decide (C=D)||decide (U=D)):=by
 simp only[List.contains_cons,Cq,List.contains_nil]
 have d:∀(a b:Db),(fj a==fj b)=decide (b=a):=λa b=>by
  grind
 have c:∀T,(fj D==kU T)=s_:=λT=>rfl;rw[d,d,c,c,c,c];simp
theorem XN(hN:X.N.Nodup)(hi:X.N[i]?=P3 n)(R:X.env.scope.names.lookup n=P3 .local)(hg:Gl X x)(hm:X.mg x=P3 (.ref Dc))(hD:bE X.K Dc)(a4:X.stack=X.env::X.outer)(a5:X.env.frame=P3 X.env.locals)
  (hs:∀a,PSs (X.hush (X.A.mark (P3 (.ref a)))) (b₀::suite) (ts a)) (o:PH X rest th) (hd:(x==("__debug__":Str))=s_:=by decide):
  PH X (.ExceptHandler (P3 (.Name x np)) (P3 n) (b₀::suite) pos::rest) (bR X.K Dc i ts th):=by
 intro t Z D a C dx B H0 s0 H s I c h;obtain⟨nm,U,xc,h⟩:=h;have J:=c.inv I;have E:(X.A.mark (P3 (.ref a))).frames=P3 X.stack:=I.ok.frames;have J':=J.hush E;refine wpAny_handleBy_cons (codeAny_handlers_test ?_) (by intro q; cases q);refine Ee (X:=X.hush (X.A.mark (P3 (.ref a)))) J' hg hm ?_ hd;obtain⟨a6,q',N',a7,a8,a9,b0,a2,b1,a3,b2,l0,l1,l2,l3,l5,eD,hB⟩:=hD;obtain⟨q,N,bs,sn,b3,ab,b4,dd,k0,k1,k2,k3,k5,eC⟩:=xc.obj;obtain⟨vs,sl,tb,hx,h2,h1,hT⟩:=c.fly.obj;obtain⟨hh,g,dr,tk,os⟩:=s;refine S8 (J.kIn _ _ eC) (J.kIn _ _ eD) hB hx rfl ?_;rw[Ir]
 rcases h with⟨S,h⟩|⟨n1,n2,h⟩
 ·have e:(decide (C=Dc)||decide (U=Dc))=r_:=by rcases S with z|z <;>simp[z]
  rw[e];refine codeAny_handlers_suite_as ?_;refine Gg (s:=⟨hh,g,dr,tk,os⟩) c.fly λh' f' u'=>?_;have c2:=c.step f' u';have J2:=c2.inv I;obtain⟨F,G,b5,L,T,_⟩:=f'.obj
  have J3:Inv X t Z (A2 H a (.frz ⟨.ref C,dx,.fields F,G⟩ (.own a))) ⟨h',g,dr,tk,os⟩:=by
   refine J2.track c.free (gO I.sz c.new) (i7 (f8 I.lt c.new)) (λy c' e z=>?_) (λp hp z=>?_) ⟨L,_,L⟩
   ·obtain⟨v,q⟩:=I.cell y c' e
    exact absurd (f8 q.lt c.new) (by rw[z]; exact gY _)
   ·exact absurd (f8 (Tk (I.pin p hp).1) c.new) (by rw[z]; exact gY _)
  refine Gy J3 hN hi (.inl R) (v:=.ref a) (u:=.ref a) rfl (λs4 J4=>?_) (.inr R);have V:=hs a t s4 _ _ _ (J4.hush E) (h a _ c.free ⟨F,G,rfl,T⟩);refine gU V (λf W O=>?_) λe W z=>z.elim
  have j:∀{k:St}{b:Hp}{P:St->Hp->Prop}{Q:On->Prop},Inv (X.hush (X.A.mark (P3 (.ref a)))) t k b W->P (k.set i q_) b->(∀l,Inv X t (k.set i q_) b l->Q l)->
    wpAny (model X.prog X.w) X.A (do bindName X.env n .none; unbindBehindTheSuite X.env n pos) (λ_ l=>Q l) X.xe W:=λ{k b P Q} d _ kq=>by
   obtain⟨m,hn,Y⟩:=d.loc;refine wpAny_nameGoes_keeps (M:=model X.prog X.w) R hn (by show(X.env.scope.kind==.class||(X.env.scope.kind==.module&&X.env.locals !=X.env.globals))=s_; rw[I.ok.kind]; rfl) λh6 v a0 a1=>?_;exact kq _ ((d.unhush I.ok).gone hN hi Y a0 a1)
  cases f with
  |next=>
   obtain⟨k,b,d,q⟩:=O;exact j (P:=D.nx) d q λl r=>⟨_,b,r,q⟩
  |brk=>
   obtain⟨k,b,d,q⟩:=O;exact j (P:=D.bk) d q λl r=>⟨_,b,r,q⟩
  |cont=>
   obtain⟨k,b,d,q⟩:=O;exact j (P:=D.ct) d q λl r=>⟨_,b,r,q⟩
  |ret u=>
   obtain⟨v,k,b,d,rv,q⟩:=O;exact j (P:=λ_ b=>D.rt v b) d q λl r=>⟨v,_,b,r,rv,q⟩
 ·have e:(decide (C=Dc)||decide (U=Dc))=s_:=by simp[n1,n2]
  rw[e];exact o t Z D a C dx B H0 s0 H _ I c h
def ZY:TH:=λ_ _ _ _ _=>False
theorem Zp:PH X [] ZY:=λ_ _ _ _ _ _ _ _ _ _ _ _ _ h=>h.elim
def dU(tb:au)(th:TH):TS:=λD Z H=>tb D (λC a b=>∃Ca,C=.ref Ca/\th D Ca a Z b) Z H
theorem Zm{b:kE}(d:X.stack=X.env::X.outer)(g:X.env.frame=P3 X.env.locals)(K:∀e s,X.xe e s->False)(o:ax X body tb)(p:PH X (b::rest) th):PS X (.Try body (b::rest) [] [] pos) (dU tb th):=by
 intro k s Z H D I h;refine wpAny_Try_except (gU (o k s Z H D _ I h) (λf l q=>?_) λe l q=>?_)
 ·cases f with
  |next=>exact jp q
  |_=>exact q
 ·rcases q with q|⟨H0,r,t,a,C,u,B,v,rfl,c,Ca,w,j⟩
  ·grind
  ·cases w
   have m:=c.fly;rw[d]at m;have fr:=I.ok.frames;rw[d]at fr;refine Ov fr g m λy z A=>?_;have E:=c.step (by grind) A;refine Gg (s:={l with heap:=y}) z λL F G=>?_;have J:=E.step (by rw[d]; exact F) G;exact p k Z D a C u B H0 r v _ t J j
end
end L2
namespace Dp
open L2
inductive D where
 |non|bl (b:Bool)|int (i:Int)|str (x:Str)|tup (xs:List D)|lst (xs:List D)|dic (ks:List Key) (xs:List D)|fdi (ks:List Key) (xs:List D)|dit (ks:List (List Key)) (xs:List D)
 deriving Inhabited
def NdT(M:Db->Prop)(H:Hp)(a:Db)(b:t_ V):Prop:=H a=P3 (.tup b)
def NdL(M:Db->Prop)(H:Hp)(a:Db)(b:t_ V):Prop:=¬M a/\H a=P3 (.lst b)
def NdD(M:Db->Prop)(H:Hp)(a:Db)(b:t_ Key)(c:t_ V):Prop:=¬M a/\H a=P3 (.dK (b.zip c))
def NdF(M:Db->Prop)(H:Hp)(a:Db)(b:t_ Key)(c:t_ V):Prop:=∃o,¬M a/\H a=P3 (.frz o (.dK (b.zip c)))
def NdU(M:Db->Prop)(H:Hp)(a:Db)(b:t_ (t_ Key))(c:t_ V):Prop:=¬M a/\H a=P3 (.dT (b.zip c))
mutual
def At(K:Frag)(M:Db->Prop)(H:Hp):D->V->Prop
 |.non,v=>v=.non
 |.bl b,v=>v=.bl b
 |.int i,v=>v=.int i
 |.str x,v=>v=.str x/\x.length<=sizeLine
 |.tup ds,v=>∃a vs,v=.ref a/\NdT M H a vs/\Ats K M H ds vs
 |.lst ds,v=>∃a vs,v=.ref a/\NdL M H a vs/\Ats K M H ds vs
 |.dic ks ds,v=>∃a vs,v=.ref a/\NdD M H a ks vs/\ks.length=ds.length/\Ats K M H ds vs
 |.fdi ks ds,v=>∃a vs,v=.ref a/\NdF M H a ks vs/\ks.length=ds.length/\Ats K M H ds vs
 |.dit ks ds,v=>∃a vs,v=.ref a/\NdU M H a ks vs/\ks.length=ds.length/\Ats K M H ds vs
def Ats(K:Frag)(M:Db->Prop)(H:Hp):t_ D->t_ V->Prop
 |[],vs=>vs=[]
 |d::ds,vs=>∃v r,vs=v::r/\At K M H d v/\Ats K M H ds r
end
section
variable {K:Frag}{M M':Addr->Prop}{H H':Hp}{a:Addr}{vs:t_ V}{ks:t_ Key}
theorem NdT.sq(h:NdT M H a vs):SqT K H a vs:=.inl (.inl h)
theorem NdL.sq(h:NdL M H a vs):SqL K H a vs:=.inl (.inl h.2)
def Pres(M:Db->Prop)(H:Hp)(M':Db->Prop)(H':Hp):Prop:=(∀b o,H b=P3 o->¬M b->H' b=P3 o)/\(∀b,M' b->M b\/H b=q_)/\∀b vs,H b=P3 (.tup vs)->H' b=P3 (.tup vs)
theorem Pres.nd{u:HO}(p:Pres M H M' H')(n:¬M a)(h:H a=P3 u):¬M' a/\H' a=P3 u:=by
 refine⟨λz=>?_,p.1 _ _ h n⟩
 rcases p.2.1 a z with z|z
 ·exact n z
 grind
theorem NdT.pres(p:Pres M H M' H')(h:NdT M H a vs):NdT M' H' a vs:=p.2.2 _ _ h
theorem NdL.pres(p:Pres M H M' H')(h:NdL M H a vs):NdL M' H' a vs:=p.nd h.1 h.2
theorem NdD.pres(p:Pres M H M' H')(h:NdD M H a ks vs):NdD M' H' a ks vs:=p.nd h.1 h.2
theorem NdU.pres{ks:t_ (t_ Key)}(p:Pres M H M' H')(h:NdU M H a ks vs):NdU M' H' a ks vs:=p.nd h.1 h.2
theorem NdF.pres(p:Pres M H M' H')(h:NdF M H a ks vs):NdF M' H' a ks vs:=let ⟨o,b,c⟩:=h; ⟨o,p.nd b c⟩
mutual
theorem At.pres(p:Pres M H M' H'):∀{d:D}{v:V},At K M H d v->At K M' H' d v
 |.non,v,h=>h
 |.bl b,v,h=>h
 |.int i,v,h=>h
 |.str x,v,h=>h
 |.tup ds,v,h=>by
  obtain⟨a,vs,e,hn,hs⟩:=h;exact⟨a,vs,e,hn.pres p,Ats.pres p hs⟩
 |.lst ds,v,h=>by
  obtain⟨a,vs,e,hn,hs⟩:=h;exact⟨a,vs,e,hn.pres p,Ats.pres p hs⟩
 |.dic ks ds,v,h=>by
  obtain⟨a,vs,e,hn,hl,hs⟩:=h;exact⟨a,vs,e,hn.pres p,hl,Ats.pres p hs⟩
 |.fdi ks ds,v,h=>by
  obtain⟨a,vs,e,hn,hl,hs⟩:=h;exact⟨a,vs,e,hn.pres p,hl,Ats.pres p hs⟩
 |.dit ks ds,v,h=>by
  obtain⟨a,vs,e,hn,hl,hs⟩:=h;exact⟨a,vs,e,hn.pres p,hl,Ats.pres p hs⟩
theorem Ats.pres(p:Pres M H M' H'):∀{ds:t_ D}{vs:t_ V},Ats K M H ds vs->Ats K M' H' ds vs
 |[],vs,h=>h
 |d::ds,vs,h=>by
  obtain⟨v,r,e,h1,h2⟩:=h;exact⟨v,r,e,At.pres p h1,Ats.pres p h2⟩
end
theorem Pres.trans{M1 M2 c:Db->Prop}{H1 d f:Hp}(p:Pres M1 H1 M2 d)(q:Pres M2 d c f):Pres M1 H1 c f:=by
 refine⟨λb o e n=>?_,λb z=>?_,λb vs e=>q.2.2 b vs (p.2.2 b vs e)⟩
 ·refine q.1 b o (p.1 b o e n) λz=>?_
  rcases p.2.1 b z with z|z
  ·exact n z
  grind
 ·rcases q.2.1 b z with z|z
  ·exact p.2.1 b z
  ·cases e:H1 b with
   |none=>grind
   |some o=>
    by_cases n:M1 b
    ·exact .inl n
    ·rw[p.1 b o e n]at z; cases z
theorem Pres.refl(M:Db->Prop)(H:Hp):Pres M H M H:=⟨λ_ _ e _=>e,λ_ z=>.inl z,λ_ _ e=>e⟩
theorem Pres.less(h:∀b,M' b->M b):Pres M H M' H:=⟨λ_ _ e _=>e,λb z=>.inl (h b z),λ_ _ e=>e⟩
theorem Ats.length:∀{b:t_ D}{vs:t_ V},Ats K M H b vs->vs.length=b.length
 |[],vs,h=>by cases h; rfl
 |d::b,vs,h=>by
  obtain⟨v,r,e,f,c⟩:=h;subst e;rw[eq,eq,Ats.length c]
theorem Ats.get:∀{b:t_ D}{vs:t_ V}{i:Nat}{d:D},Ats K M H b vs->b[i]?=P3 d->∃v,vs[i]?=P3 v/\At K M H d v
 |[],vs,i,d,h,e=>by simp at e
 |f::b,vs,0,d,h,e=>by
  obtain⟨v,r,g,j,c⟩:=h
  simp_all
 |f::b,vs,i+1,d,h,e=>by
  obtain⟨v,r,g,j,c⟩:=h;obtain⟨u,k,l⟩:=Ats.get c (by simpa using e)
  simp_all
theorem Ats.append:∀{f b:t_ D}{vs c:t_ V},Ats K M H f vs->Ats K M H b c->Ats K M H (f++b) (vs++c)
 |[],b,vs,c,h,g=>by cases h; exact g
 |d::f,b,vs,c,h,g=>by
  obtain⟨v,r,e,i,j⟩:=h;subst e;exact⟨v,_,rfl,i,Ats.append j g⟩
theorem Ats.drop:∀{b:t_ D}{vs:t_ V} (n:Nat),Ats K M H b vs->Ats K M H (b.drop n) (vs.drop n)
 |b,vs,0,h=>h
 |[],vs,n+1,h=>by cases h; exact rfl
 |d::b,vs,n+1,h=>by
  obtain⟨v,r,e,f,c⟩:=h;subst e;exact Ats.drop n c
theorem Ats.take:∀{b:t_ D}{vs:t_ V} (n:Nat),Ats K M H b vs->Ats K M H (b.take n) (vs.take n)
 |b,vs,0,h=>rfl
 |[],vs,n+1,h=>by cases h; exact rfl
 |d::b,vs,n+1,h=>by
  obtain⟨v,r,e,c,f⟩:=h;subst e;exact⟨v,_,rfl,c,Ats.take n f⟩
theorem Ats.one{d:D}{v:V}(h:At K M H d v):Ats K M H [d] [v]:=⟨v,[],rfl,h,rfl⟩
theorem Ats.eraseIdx:∀{b:t_ D}{vs:t_ V} (i:Nat),Ats K M H b vs->Ats K M H (b.eraseIdx i) (vs.eraseIdx i)
 |[],vs,i,h=>by cases h; exact rfl
 |f::b,vs,0,h=>by
  obtain⟨u,r,c,d,e⟩:=h
  grind
 |f::b,vs,i+1,h=>by
  obtain⟨u,r,c,d,e⟩:=h;subst c;exact⟨u,_,rfl,d,Ats.eraseIdx i e⟩
theorem Ats.reverse:∀{b:t_ D}{vs:t_ V},Ats K M H b vs->Ats K M H b.reverse vs.reverse
 |[],vs,h=>by cases h; exact rfl
 |d::b,vs,h=>by
  obtain⟨v,r,e,c,f⟩:=h;subst e;rw[kh,kh];exact Ats.append (Ats.reverse f) (Ats.one c)
end
inductive Kd where
 |sh|tp|fr
def Tops(K:Frag)(M:Db->Prop)(H:Hp)(a:Db):D->Prop
 |.lst c=>∃b,H a=P3 (.lst b)/\Ats K M H c b
 |.dic d c=>∃b,H a=P3 (.dK (d.zip b))/\d.length=c.length/\Ats K M H c b
 |.dit d c=>∃b,H a=P3 (.dT (d.zip b))/\d.length=c.length/\Ats K M H c b
 |_=>False
theorem Tops.notT{K:Frag}{M:Db->Prop}{H:Hp}{a:Db}{d:D}(h:Tops K M H a d){f:t_ V}:H a≠P3 (.tup f):=λq=>by
 cases d with
 |lst b=>obtain⟨c,e,_⟩:=h; grind
 |dic g b=>obtain⟨c,e,_⟩:=h; grind
 |dit g b=>obtain⟨c,e,_⟩:=h; grind
 |_=>exact h.elim
theorem Tops.pres{K:Frag}{M j:Db->Prop}{H g:Hp}{a:Db}{d:D}(h:Tops K M H a d)(p:Pres M H j g)(e:∀o,H a=P3 o->g a=P3 o):Tops K j g a d:=by
 cases d with
 |lst k=>obtain⟨b,c,f⟩:=h; exact⟨b,e _ c,f.pres p⟩
 |dic l k=>obtain⟨b,c,f,i⟩:=h; exact⟨b,e _ c,f,i.pres p⟩
 |dit l k=>obtain⟨b,c,f,i⟩:=h; exact⟨b,e _ c,f,i.pres p⟩
 |_=>assumption
theorem Tops.at{K:Frag}{M:Db->Prop}{H:Hp}{a:Db}{d:D}(h:Tops K M H a d)(n:¬M a):At K M H d (.ref a):=by
 cases d with
 |lst g=>obtain⟨b,c,e⟩:=h; exact⟨a,b,rfl,⟨n,c⟩,e⟩
 |dic i g=>obtain⟨b,c,e,f⟩:=h; exact⟨a,b,rfl,⟨n,c⟩,e,f⟩
 |dit i g=>obtain⟨b,c,e,f⟩:=h; exact⟨a,b,rfl,⟨n,c⟩,e,f⟩
 |_=>exact(h).elim
def AtT(K:Frag)(U:Db->Prop)(M:Db->Prop)(H:Hp):D->V->Prop
 |.lst c,v=>∃a b,v=.ref a/\¬U a/\Rd H a (.lst b)/\Ats K M H c b
 |.dic e c,v=>∃a b,v=.ref a/\¬U a/\H a=P3 (.dK (e.zip b))/\e.length=c.length/\Ats K M H c b
 |.dit e c,v=>∃a b,v=.ref a/\¬U a/\H a=P3 (.dT (e.zip b))/\e.length=c.length/\Ats K M H c b
 |d,v=>At K M H d v
theorem Tops.att{K:Frag}{U M:Db->Prop}{H:Hp}{a:Db}{d:D}(h:Tops K M H a d)(n:¬U a):AtT K U M H d (.ref a):=by
 cases d with
 |lst g=>obtain⟨b,c,e⟩:=h; exact⟨a,b,rfl,n,.inl c,e⟩
 |dic i g=>obtain⟨b,c,e,f⟩:=h; exact⟨a,b,rfl,n,c,e,f⟩
 |dit i g=>obtain⟨b,c,e,f⟩:=h; exact⟨a,b,rfl,n,c,e,f⟩
 |_=>exact(h).elim
def VR(K:Frag)(U:Db->Prop)(M:Db->Prop)(H c:Hp):Kd->V->D->Prop
 |.sh,v,d=>At K M c d v
 |.tp,v,d=>AtT K U M c d v
 |.fr,v,d=>∃a,v=.ref a/\H a=q_/\Tops K (λb=>M b\/b=a) c a d
mutual
def Er:D->Bool
 |.tup ds=>Co ds
 |.lst ds=>Co ds
 |.dic _ _=>s_
 |.fdi _ _=>s_
 |.dit _ _=>s_
 |_=>r_
def Co:t_ D->Bool
 |[]=>r_
 |d::ds=>Er d&&Co ds
end
structure Fd where
 a:Db
 b:Db
 t:Option (List Key×List D×List V)
def c5(M:Db->Prop)(H:Hp)(f:Fd)(n:Nat):Prop:=
 ∃(at_ b:Int) (a:t_ Int),H f.1=P3 (.lst [.ref f.2,.int at_,.int b])/\f.2≠f.1/\NdL M H f.2 (a.map V.int)/\a.length<=63/\0<=at_/\at_+n<=2 ^ 60
def ZG(K:Frag)(M:Db->Prop)(H:Hp)(a:Db)(c:t_ Key)(b:t_ D)(d:t_ V)(n:Nat):Prop:=∃r:Int,H a=P3 (.dK ((c++[(gl "room":Key)]).zip (d++[V.int r])))/\c.length=b.length/\Ats K M H b d/\(n:Int)<=r/\r<=100000/\Co b=r_
def FeedOk(K:Frag)(M:Db->Prop)(H:Hp)(f:Fd)(n:Nat):Prop:=f.t=q_/\c5 M H f n\/∃a b c,f.t=P3 (a,b,c)/\ZG K M H f.1 a b c n
def FeedC(K:Frag)(F:u_ Fd)(M:Db->Prop)(H:Hp)(n:Nat):Prop:=∀f,F=P3 f->FeedOk K M H f n
def Ext(U:Db->Prop)(H c:Hp):Prop:=∀b o,H b=P3 o->∃a,c b=P3 a/\(¬U b->a=o)/\∀d,o=.tup d->a=o
theorem Ext.keep{U:Db->Prop}{H a:Hp}(p:Ext U H a){b:Db}{o:HO}(e:H b=P3 o)(n:¬U b):a b=P3 o:=by
 obtain⟨c,q,r,_⟩:=p b o e;rw[q,r n]
theorem Ext.tup{U:Db->Prop}{H a:Hp}(p:Ext U H a){b:Db}{c:t_ V}(e:H b=P3 (.tup c)):a b=P3 (.tup c):=by
 obtain⟨d,q,_,r⟩:=p b _ e
 grind
theorem Ext.free{U:Db->Prop}{H a:Hp}(p:Ext U H a){b:Db}(e:a b=q_):H b=q_:=by
 cases q:H b with
 |none=>rfl
 |some o=>
  obtain⟨c,z,_⟩:=p b o q
  grind
theorem Ext.refl(U:Db->Prop)(H:Hp):Ext U H H:=λ_ o e=>⟨o,e,λ_=>rfl,λ_ _=>rfl⟩
theorem Ext.trans{U:Db->Prop}{H1 c d:Hp}(p:Ext U H1 c)(q:Ext U c d):Ext U H1 d:=λb o e=>by
 obtain⟨g,h,i,f⟩:=p b o e;obtain⟨j,k,l,m⟩:=q b g h;exact⟨j,k,λn=>(l n).trans (i n),λa z=>(m a ((f a z).trans z)).trans (f a z)⟩
def Grow(H a:Hp):Prop:=a=H\/∃p o,H p=q_/\a=A2 H p o
theorem Grow.all{H a:Hp}(g:Grow H a):∀b o,H b=P3 o->a b=P3 o:=by
 intro b o e
 rcases g with rfl|⟨p,u,n,rfl⟩
 ·exact e
 ·rw[AM (Ao e n)]; exact e
theorem Grow.refl{H:Hp}:Grow H H:=.inl rfl
theorem Grow.ext{U:Db->Prop}{H a:Hp}(g:Grow H a):Ext U H a:=λb o e=>⟨o,g.all b o e,λ_=>rfl,λ_ _=>rfl⟩
theorem Grow.pres{M:Db->Prop}{H a:Hp}(g:Grow H a):Pres M H M a:=⟨λb o e _=>g.all b o e,λ_ z=>.inl z,λb c e=>g.all b _ e⟩
theorem FeedOk.pres{K:Frag}{M j:Db->Prop}{H b:Hp}{f:Fd}{n:Nat}(h:FeedOk K M H f n)(p:Pres M H j b)(e:∀o,H f.1=P3 o->b f.1=P3 o):FeedOk K j b f n:=by
 rcases h with⟨t,a,r,k,c,d,g,i⟩|⟨l,m,q,t,r,c,d,g,i⟩
 ·exact .inl ⟨t,a,r,k,e _ c,d,g.pres p,i⟩
 ·exact .inr ⟨l,m,q,t,r,e _ c,d,g.pres p,i⟩
theorem FeedC.pres{K:Frag}{F:u_ Fd}{M b:Db->Prop}{H a:Hp}{n:Nat}(h:FeedC K F M H n)(p:Pres M H b a)(e:∀f o,F=P3 f->H f.1=P3 o->a f.1=P3 o):FeedC K F b a n:=λf c=>(h f c).pres p λo q=>e f o c q
theorem FeedC.grow{K:Frag}{F:u_ Fd}{M:Db->Prop}{H a:Hp}{n:Nat}(h:FeedC K F M H n)(g:Grow H a):FeedC K F M a n:=h.pres g.pres λf o _ e=>g.all _ o e
theorem FeedC.more{K:Frag}{F:u_ Fd}{M:Db->Prop}{H:Hp}{n:Nat}(h:FeedC K F M H n)(a:Db)(m:∀f,F=P3 f->f.t=q_->f.2≠a)(o:∀f e c d,F=P3 f->f.t=P3 (e,c,d)->Ats K (λb=>M b\/b=a) H c d):FeedC K F (λb=>M b\/b=a) H n:=λf g=>by
 rcases h f g with⟨t,x,r,p,i,j,k,l⟩|⟨e,c,d,t,r,i,j,k,l⟩
 ·exact .inl ⟨t,x,r,p,i,j,⟨λz=>z.elim k.1 (m f g t),k.2⟩,l⟩
 ·exact .inr ⟨e,c,d,t,r,i,j,o f e c d g t,l⟩
def AtX(K:Frag)(M:Db->Prop)(H:Hp)(a:Db)(g:Str)(b:t_ Str)(f:t_ D):Prop:=∃C U c u e,XC K g C U/\(¬M a/\H a=P3 u)/\XT C c a u/\(c=q_/\b=[]/\e=[]\/∃d,c=P3 d/\¬M d/\H d=P3 (.ext (XF d (b.zip e))))/\b.length=f.length/\Ats K M H f e
theorem AtX.pres{K:Frag}{M b:Db->Prop}{H e:Hp}{a:Db}{f:Str}{g:t_ Str}{i:t_ D}(h:AtX K M H a f g i)(p:Pres M H b e):AtX K b e a f g i:=by
 obtain⟨C,U,j,u,k,c,⟨n,l⟩,x,m,o,q⟩:=h;refine⟨C,U,j,u,k,c,p.nd n l,x,?_,o,q.pres p⟩
 rcases m with z|⟨d,r,s,t⟩
 ·exact .inl z
 ·exact .inr ⟨d,r,p.nd s t⟩
inductive Slot where
 |no|sh (d:D)|br (d:D)|fd|ow (d:D)|lt (a:Db) (d:D)|ex (a:Db) (nm:Str) (ks:List Str) (ds:List D)|wd (ks:List Key) (ds:List D)
def Slot.owns:Slot->Bool
 |.ow _=>r_
 |.lt _ _=>r_
 |_=>s_
def SlotOk(K:Frag)(F:u_ Fd)(U:Db->Prop)(M:Db->Prop)(H:Hp):Slot->u_ V->Prop
 |.no,_=>True
 |.sh d,o=>∃v,o=P3 v/\At K M H d v
 |.br d,o=>∃v,o=P3 v/\AtT K U M H d v
 |.fd,o=>∃f,o=P3 (.ref f.1)/\F=P3 f/\f.t=q_
 |.wd b c,o=>∃f e,o=P3 (.ref f.1)/\F=P3 f/\f.t=P3 (b,c,e)
 |.ow d,o=>∃a,o=P3 (.ref a)/\M a/\¬U a/\Tops K M H a d
 |.lt a d,o=>o=P3 (.ref a)/\M a/\¬U a/\Tops K M H a d
 |.ex a g b c,o=>o=P3 (.ref a)/\AtX K M H a g b c
structure Fm where
 M0:Db->Prop
 F:Option Fd
 U:Db->Prop
 V:Db->Prop
 H0:Hp
 zH:List ((Db->Prop)×Hp)
 kp:List (Db×HO)
def Apart(b:t_ Slot)(Z:L2.St):Prop:=∀(i j:Nat) (s t:Slot) (a:Db),b[i]?=P3 s->s.owns=r_->b[j]?=P3 t->t.owns=r_->(Z[i]?).getD q_=P3 (.ref a)->(Z[j]?).getD q_=P3 (.ref a)->i=j
structure Rel (K:Frag) (C:Fm) (M:Db->Prop) (H:Hp) (n:Nat) (ρ:List Slot) (Z:L2.St):Prop where
 len:ρ.length=Z.length
 sub:∀a,C.M0 a->M a
 dom:∀a,M a->∃o,H a=P3 o
 ext:Ext C.U C.H0 H
 fU:∀f,C.F=P3 f->C.U f.1
 uV:∀a,C.U a->C.V a
 vM:∀a,C.V a->M a
 feed:FeedC K C.F M H n
 sl:∀(i:Nat) (s:Slot),ρ[i]?=P3 s->SlotOk K C.F C.V M H s ((Z[i]?).getD q_)
 pin:∀p∈C.zH,Pres p.1 p.2 M H
 br0:∀(i:Nat) (d:D) (a:Db),ρ[i]?=P3 (.br d)->(Z[i]?).getD q_=P3 (.ref a)->∃o,C.H0 a=P3 o
 new:∀(i:Nat) (s:Slot) (a:Db),ρ[i]?=P3 s->s.owns=r_->(Z[i]?).getD q_=P3 (.ref a)->¬C.M0 a/\C.H0 a=q_
 two:Apart ρ Z
 kept:∀p∈C.kp,H p.1=P3 p.2/\M p.1/\¬C.V p.1/\∀(i:Nat) (d:D),ρ[i]?=P3 (.ow d)->(Z[i]?).getD q_≠P3 (.ref p.1)
section
variable {K:Frag}{C:Fm}{M:Addr->Prop}{H H':Hp}{n n':Nat}{ρ:t_ Slot}{Z:L2.St}{d:D}{v:V}{κ:Kd}
theorem Rel.pres(R:Rel K C M H n ρ Z)(e:Ext C.U H H'):Pres M H M H':=⟨λb o q a=>e.keep q λz=>a (R.vM b (R.uV b z)),λ_ z=>.inl z,λb c q=>e.tup q⟩
theorem AtT.pres{U q:Db->Prop}{s:Db->Prop}(h:AtT K q M H d v)(p:Pres M H s H')(e:Ext U H H')(l:∀a,U a->q a):AtT K q s H' d v:=by
 cases d with
 |lst m=>
  obtain⟨a,g,j,c,f,k⟩:=h;refine⟨a,g,j,c,?_,k.pres p⟩
  rcases f with f|⟨o,f⟩
  ·exact .inl (e.keep f λz=>c (l a z))
  ·exact .inr ⟨o,e.keep f λz=>c (l a z)⟩
 |dic t m=>
  obtain⟨a,g,j,c,f,r,k⟩:=h;exact⟨a,g,j,c,e.keep f λz=>c (l a z),r,k.pres p⟩
 |dit t m=>
  obtain⟨a,g,j,c,f,r,k⟩:=h;exact⟨a,g,j,c,e.keep f λz=>c (l a z),r,k.pres p⟩
 |non=>assumption
 |bl b=>assumption
 |int i=>assumption
 |str x=>assumption
 |tup m=>exact At.pres p h
 |fdi t m=>exact At.pres p h
theorem AtT.same{U r:Db->Prop}{s:Db->Prop}(h:AtT K U M H d v)(p:Pres M H s H')(e:∀a o,v=.ref a->H a=P3 o->H' a=P3 o)(m:∀a,v=.ref a->¬U a->¬r a):AtT K r s H' d v:=by
 cases d with
 |lst l=>
  obtain⟨a,g,c,j,f,k⟩:=h;refine⟨a,g,c,m a c j,?_,k.pres p⟩
  rcases f with f|⟨o,f⟩
  ·exact .inl (e a _ c f)
  ·exact .inr ⟨o,e a _ c f⟩
 |dic t l=>
  obtain⟨a,g,c,j,f,q,k⟩:=h;exact⟨a,g,c,m a c j,e a _ c f,q,k.pres p⟩
 |dit t l=>
  obtain⟨a,g,c,j,f,q,k⟩:=h;exact⟨a,g,c,m a c j,e a _ c f,q,k.pres p⟩
 |non=>assumption
 |bl b=>assumption
 |int i=>assumption
 |str x=>assumption
 |tup l=>exact At.pres p h
 |fdi t l=>exact At.pres p h
theorem AtT.lies{U:Db->Prop}{a:Db}(h:AtT K U M H d (.ref a)):∃o,H a=P3 o:=by
 cases d with
 |lst f=>
  obtain⟨b,g,e,_,c,_⟩:=h;cases e
  rcases c with c|⟨o,c⟩
  ·exact⟨_,c⟩
  grind
 |dic j f=>
  obtain⟨b,g,e,_,c,_⟩:=h
  grind
 |dit j f=>
  obtain⟨b,g,e,_,c,_⟩:=h
  grind
 |non=>cases(h)
 |bl b=>cases(h)
 |int i=>cases(h)
 |str x=>cases(h).1
 |tup f=>
  obtain⟨b,g,e,c,_⟩:=h;cases e;exact⟨_,c⟩
 |fdi j f=>
  obtain⟨b,g,e,⟨o,_,c⟩,_⟩:=h
  simp_all
theorem SlotOk.pres{F:u_ Fd}{U g i:Db->Prop}{s:Slot}{o:u_ V}(h:SlotOk K F g M H s o)(p:Pres M H i H')(m:∀a,M a->i a)(e:Ext U H H')(j:∀a,U a->g a):SlotOk K F g i H' s o:=by
 cases s with
 |no=>trivial
 |sh d=>obtain⟨v,b,c⟩:=h; exact⟨v,b,c.pres p⟩
 |ex a t l r=>obtain⟨b,c⟩:=h; exact⟨b,c.pres p⟩
 |br d=>obtain⟨v,b,c⟩:=h; exact⟨v,b,c.pres p e j⟩
 |fd=>exact h
 |wd l r=>exact h
 |ow d=>obtain⟨a,b,c,f,k⟩:=h; exact⟨a,b,m a c,f,k.pres p λo q=>e.keep q λz=>f (j a z)⟩
 |lt a d=>obtain⟨b,c,f,k⟩:=h; exact⟨b,m a c,f,k.pres p λo q=>e.keep q λz=>f (j a z)⟩
theorem Rel.step(R:Rel K C M H n ρ Z)(e:Ext C.U H H')(f:FeedC K C.F M H' n'):Rel K C M H' n' ρ Z:=by
 have p:=R.pres e;refine⟨R.len,R.sub,λa z=>?_,R.ext.trans e,R.fU,R.uV,R.vM,f,λi s q=>(R.sl i s q).pres p (λ_ z=>z) e R.uV,λq b=>(R.pin q b).trans p,R.br0,R.new,R.two,λq b=>?_⟩
 ·obtain⟨o,c⟩:=R.dom a z
  obtain⟨k,g,_⟩:=e a o c
  grind
 ·obtain⟨c,g,h,j⟩:=R.kept q b
  exact⟨e.keep c λz=>h (R.uV _ z),g,h,j⟩
theorem Rel.udom(R:Rel K C M H n ρ Z):∀a,C.U a->∃o,H a=P3 o:=λa z=>R.dom a (R.vM a (R.uV a z))
theorem At.tp{U:Db->Prop}(k:∀a,U a->M a)(h:At K M H d v):AtT K U M H d v:=by
 cases d with
 |lst j=>
  obtain⟨a,f,e,c,g⟩:=h;exact⟨a,f,e,λz=>c.1 (k a z),.inl c.2,g⟩
 |dic m j=>
  obtain⟨a,f,e,c,l,g⟩:=h;exact⟨a,f,e,λz=>c.1 (k a z),c.2,l,g⟩
 |dit m j=>
  obtain⟨a,f,e,c,l,g⟩:=h;exact⟨a,f,e,λz=>c.1 (k a z),c.2,l,g⟩
 |non=>exact h
 |bl b=>exact h
 |int i=>exact h
 |str x=>exact h
 |tup j=>exact h
 |fdi m j=>exact h
theorem VR.back{U b:Db->Prop}{H1:Hp}(e:Ext U H H1)(h:VR K b M H1 H' κ v d):VR K b M H H' κ v d:=by
 cases κ with
 |sh=>exact h
 |tp=>exact h
 |fr=>
  obtain⟨a,c,f,g⟩:=h;exact⟨a,c,e.free f,g⟩
theorem VR.shOf{U:Db->Prop}(b:∀a,M a->∃o,H a=P3 o)(h:VR K U M H H' κ v d)(e:κ≠.tp):At K M H' d v:=by
 cases κ with
 |sh=>exact h
 |tp=>grind
 |fr=>
  obtain⟨a,rfl,f,c⟩:=h;refine(c.pres (Pres.less λ_ z=>.inl z) λ_ z=>z).at λz=>?_
  grind
theorem VR.tpOf{U:Db->Prop}(b:∀a,M a->∃o,H a=P3 o)(c:∀a,U a->M a)(h:VR K U M H H' κ v d):AtT K U M H' d v:=by
 cases κ with
 |sh=>exact At.tp c h
 |tp=>exact h
 |fr=>exact At.tp c (VR.shOf b h (by grind))
theorem EO{a:Type}{l:t_ a}{i j:Nat}{x y:a}(h:(l.set i x)[j]?=P3 y):(j=i/\i<l.length/\y=x)\/(j≠i/\l[j]?=P3 y):=by
 rw[kj]at h
 by_cases e:i=j
 ·simp_all
 ·rw[if_neg e]at h
  exact .inr ⟨λz=>e z.symm,h⟩
theorem GO{l:L2.St}{i j:Nat}{x:u_ V}(h:j≠i):((l.set i x)[j]?).getD q_=(l[j]?).getD q_:=by
 rw[kj,if_neg (λz=>h z.symm)]
theorem Pn{l:L2.St}{i:Nat}{x:u_ V}(h:i<l.length):((l.set i x)[i]?).getD q_=x:=by
 simp_all
theorem Rel.set(R:Rel K C M H n ρ Z){i:Nat}(h:At K M H d v):Rel K C M H n (ρ.set i (.sh d)) (Z.set i (P3 v)):=by
 have b:∀(j:Nat) (s:Slot),(ρ.set i (.sh d))[j]?=P3 s->s.owns=r_->ρ[j]?=P3 s/\((Z.set i (P3 v))[j]?).getD q_=(Z[j]?).getD q_:=λj s q o=>by
  rcases EO q with⟨_,_,rfl⟩|⟨f,q⟩
  ·cases o
  ·exact⟨q,GO f⟩
 refine⟨by rw[iq,iq]; exact R.len,R.sub,R.dom,R.ext,R.fU,R.uV,R.vM,R.feed,λj s q=>?_,R.pin,λj e a q c=>?_,λj s a q o c=>?_,λj k s t a g m c r u w=>?_,λp x=>?_⟩
 ·rcases EO q with⟨rfl,y,rfl⟩|⟨f,q⟩
  ·rw[Pn (by rw[←R.len]; exact y)]
   exact⟨v,rfl,h⟩
  ·rw[GO f]
   exact R.sl j s q
 ·rcases EO q with⟨_,_,e⟩|⟨f,q⟩
  ·cases e
  ·rw[GO f]at c
   exact R.br0 j e a q c
 ·obtain⟨g,e⟩:=b j s q o
  rw[e]at c;exact R.new j s a g o c
 ·obtain⟨z,A⟩:=b j s g m
  obtain⟨B,l⟩:=b k t c r;rw[A]at u;rw[l]at w;exact R.two j k s t a z m B r u w
 ·obtain⟨D,E,F,G⟩:=R.kept p x
  refine⟨D,E,F,λj e q=>?_⟩;obtain⟨g,l⟩:=b j _ q rfl;rw[l];exact G j e g
theorem Rel.owner(R:Rel K C M H n ρ Z){i:Nat}{s:Slot}(h:ρ[i]?=P3 s)(o:s.owns=r_):∃a e,(Z[i]?).getD q_=P3 (.ref a)/\M a/\¬C.V a/\Tops K M H a e/\¬C.M0 a/\C.H0 a=q_:=by
 have q:=R.sl i s h;cases s with
 |ow d=>obtain⟨a,b,c,f,g⟩:=q; exact⟨a,d,b,c,f,g,R.new i _ a h o b⟩
 |lt a d=>obtain⟨b,c,f,g⟩:=q; exact⟨a,d,b,c,f,g,R.new i _ a h o b⟩
 |_=>cases o
theorem Rel.setOw(R:Rel K C M H n ρ Z){i:Nat}{a:Db}(e:Ext C.U H H')(f:FeedC K C.F M H' n')(J:H a=q_)(h:Tops K (λb=>M b\/b=a) H' a d):
  Rel K C (λb=>M b\/b=a) H' n' (ρ.set i (.ow d)) (Z.set i (P3 (.ref a))):=by
 have O:=R.step e f
 have L:∀b,M b->b≠a:=λb z q=>by
  obtain⟨o,w⟩:=R.dom b z;rw[q,J]at w; cases w
 have a0:¬C.M0 a/\C.H0 a=q_:=⟨λz=>L a (R.sub a z) rfl,R.ext.free J⟩;have P:Pres M H (λb=>M b\/b=a) H':=⟨λb o q nb=>e.keep q λz=>nb (R.vM b (R.uV b z)),λb z=>z.elim .inl λz=>.inr (by rw[z]; exact J),λb Q q=>e.tup q⟩
 have r:∀(j:Nat) (s:Slot),(ρ.set i (.ow d))[j]?=P3 s->(j=i/\s=.ow d/\((Z.set i (P3 (.ref a)))[j]?).getD q_=P3 (.ref a))\/(j≠i/\ρ[j]?=P3 s/\((Z.set i (P3 (.ref a)))[j]?).getD q_=(Z[j]?).getD q_):=λj s q=>by
  rcases EO q with⟨rfl,hl,rfl⟩|⟨B,q⟩
  ·exact .inl ⟨rfl,rfl,Pn (by rw[←R.len]; exact hl)⟩
  ·exact .inr ⟨B,q,GO B⟩
 have E:∀(j:Nat) (s:Slot) (b:Db),ρ[j]?=P3 s->s.owns=r_->(Z[j]?).getD q_=P3 (.ref b)->b≠a:=λj s b q o z=>by
  obtain⟨c,_,l,m,_⟩:=R.owner q o;rw[l]at z;cases z;exact L _ m
 have hd:∃o,H' a=P3 o:=by
  cases d with
  |lst V=>obtain⟨Q,q,_⟩:=h; exact⟨_,q⟩
  |dic ks V=>obtain⟨Q,q,_⟩:=h; exact⟨_,q⟩
  |dit ks V=>obtain⟨Q,q,_⟩:=h; exact⟨_,q⟩
  |_=>exact(show False from h).elim
 refine⟨by rw[iq,iq]; exact R.len,λb z=>.inl (R.sub b z),λb z=>?_,O.ext,R.fU,R.uV,λb z=>.inl (R.vM b z),f.more a (λg S N q=>?_) (λg a1 a2 a3 S N=>?_),λj s q=>?_,λq hq=>(R.pin q hq).trans P,λj x b q u=>?_,λj s b q o u=>?_,λj k s t b y W u X G D=>?_,λp hp=>?_⟩
 ·rcases z with z|z
  ·exact O.dom b z
  ·rw[z]; exact hd
 ·rcases R.feed g S with⟨_,_,_,_,_,_,I,_⟩|⟨_,_,_,A,_⟩
  ·have:=I.2
   rw[q,J]at this; cases this
  ·rw[N]at A; cases A
 ·rcases R.feed g S with⟨A,_⟩|⟨_,_,_,A,_,_,_,I,_⟩
  ·rw[N]at A; cases A
  ·rw[N]at A; cases A; exact I.pres P
 ·rcases r j s q with⟨rfl,rfl,l⟩|⟨B,y,l⟩
  ·rw[l]
   exact⟨a,rfl,.inr rfl,λz=>L a (R.vM a z) rfl,h⟩
  ·rw[l]
   exact(R.sl j s y).pres P (λ_ z=>.inl z) e R.uV
 ·rcases r j _ q with⟨_,l,_⟩|⟨B,y,l⟩
  ·cases l
  ·rw[l]at u
   exact R.br0 j x b y u
 ·rcases r j s q with⟨_,_,l⟩|⟨B,y,l⟩
  ·rw[l]at u
   cases u;exact a0
  ·rw[l]at u
   exact R.new j s b y o u
 ·rcases r j s y with⟨rfl,_,l⟩|⟨B,Y,l⟩
  ·rw[l]at G
   cases G
   rcases r k t u with⟨rfl,_,_⟩|⟨hk,T,x⟩
   ·rfl
   ·rw[x]at D
    exact absurd rfl (E k t a T X D)
  ·rw[l]at G
   rcases r k t u with⟨rfl,_,x⟩|⟨hk,T,x⟩
   ·rw[x]at D
    cases D;exact absurd rfl (E j s a Y W G)
   ·rw[x]at D
    exact R.two j k s t b Y W T X G D
 ·obtain⟨h1,h2,I,h4⟩:=O.kept p hp
  refine⟨h1,.inl h2,I,λj x q=>?_⟩
  rcases r j _ q with⟨_,_,l⟩|⟨B,y,l⟩
  ·rw[l]
   intro z;cases z;exact L _ h2 rfl
  ·rw[l]
   exact h4 j x y
theorem Rel.mut(R:Rel K C M H n ρ Z){i:Nat}{a:Db}{e:D}{o:HO}(E:ρ[i]?=P3 (.ow d))(N:(Z[i]?).getD q_=P3 (.ref a))(h:Tops K M (A2 H a o) a e):
  Rel K C M (A2 H a o) n (ρ.set i (.ow e)) Z:=by
 obtain⟨b,_,c,m,U,t,n0,V⟩:=R.owner E rfl;rw[N]at c;cases c;have F:Pres M H M (A2 H a o):=⟨λb A q Y=>by rw[AM (λz=>Y (by rw[z]; exact m))]; exact q,λ_ z=>.inl z,λb vs q=>by rw[AM (λz=>t.notT (by rw[←z]; exact q))]; exact q⟩
 have l:∀(j:Nat) (s:Slot),(ρ.set i (.ow e))[j]?=P3 s->(j=i/\s=.ow e)\/(j≠i/\ρ[j]?=P3 s):=λj s q=>by
  rcases EO q with⟨rfl,hl,rfl⟩|⟨y,q⟩
  ·exact .inl ⟨rfl,rfl⟩
  ·exact .inr ⟨y,q⟩
 have I:∀(j:Nat) (s:Slot) (b:Db),j≠i->ρ[j]?=P3 s->s.owns=r_->(Z[j]?).getD q_=P3 (.ref b)->b≠a:=λj s b y q o z w=>by
  subst w;exact y (R.two j i s _ b q o E rfl z N)
 refine⟨by rw[iq]; exact R.len,R.sub,λb z=>?_,λb A q=>?_,R.fU,R.uV,R.vM,R.feed.pres F λf A hf q=>?_,λj s q=>?_,λq hq=>(R.pin q hq).trans F,λj O b q g=>?_,λj s b q G g=>?_,λj k s t b u W g G P Q=>?_,λp hp=>?_⟩
 ·by_cases B:b=a
  ·exact⟨o,by rw[B,AR]⟩
  ·obtain⟨A,q⟩:=R.dom b z
   exact⟨A,by rw[AM B]; exact q⟩
 ·obtain⟨G,g,r⟩:=R.ext b A q
  have B:b≠a:=λz=>by rw[z,V]at q; cases q
  exact⟨G,by rw[AM B]; exact g,r⟩
 ·have B:f.1≠a:=λz=>U (by rw[←z]; exact R.uV _ (R.fU f hf))
  rw[AM B]; exact q
 ·rcases l j s q with⟨rfl,rfl⟩|⟨y,u⟩
  ·rw[N]
   exact⟨a,rfl,m,U,h⟩
  ·have g:=R.sl j s u
   cases s with
   |no=>trivial
   |sh d=>obtain⟨v,c,x⟩:=g; exact⟨v,c,x.pres F⟩
   |ex a nm ks ds=>obtain⟨c,x⟩:=g; exact⟨c,x.pres F⟩
   |br d=>
    obtain⟨v,c,x⟩:=g;refine⟨v,c,x.same F (λb A z q=>?_) λ_ _ z=>z⟩;subst z;obtain⟨o3,w⟩:=R.br0 j d b u c;rw[AM (λz=>by rw[z,V]at w; cases w)];exact q
   |fd=>exact g
   |wd ks ds=>exact g
   |ow d=>
    obtain⟨b,c,x,J,L⟩:=g;exact⟨b,c,x,J,L.pres F λA w=>by rw[AM (I j _ b y u rfl c)]; exact w⟩
   |lt b d=>
    obtain⟨c,x,J,L⟩:=g;exact⟨c,x,J,L.pres F λA w=>by rw[AM (I j _ b y u rfl c)]; exact w⟩
 ·rcases l j _ q with⟨_,c⟩|⟨y,u⟩
  ·cases c
  ·exact R.br0 j O b u g
 ·rcases l j s q with⟨rfl,_⟩|⟨y,u⟩
  ·exact R.new j _ b E rfl g
  ·exact R.new j s b u G g
 ·rcases l j s u with⟨rfl,rfl⟩|⟨y,X⟩
  ·rcases l k t g with⟨rfl,_⟩|⟨hk,S⟩
   ·rfl
   ·exact R.two j k _ t b E rfl S G P Q
  ·rcases l k t g with⟨rfl,rfl⟩|⟨hk,S⟩
   ·exact R.two j k s _ b X W E rfl P Q
   ·exact R.two j k s t b X W S G P Q
 ·obtain⟨x,J,L,T⟩:=R.kept p hp
  have B:p.1≠a:=λz=>T i d E (by rw[N,z]);refine⟨by rw[AM B]; exact x,J,L,λj O q=>?_⟩
  rcases l j _ q with⟨rfl,_⟩|⟨y,u⟩
  ·exact T j d E
  ·exact T j O u
theorem Rel.freeze(R:Rel K C M H n ρ Z){i:Nat}{a:Db}(E:ρ[i]?=P3 (.ow d))(x:(Z[i]?).getD q_=P3 (.ref a)):Rel K C (λb=>M b/\b≠a) H n (ρ.set i (.sh d)) Z:=by
 obtain⟨b,_,c,m,J,_,L,X⟩:=R.owner E rfl;rw[x]at c;cases c;have y:∀b,M b/\b≠a->M b:=λ_ z=>z.1;have r:Pres M H (λb=>M b/\b≠a) H:=Pres.less y
 have e:∀(j:Nat) (s:Slot),(ρ.set i (.sh d))[j]?=P3 s->(j=i/\s=.sh d)\/(j≠i/\ρ[j]?=P3 s):=λj s q=>by
  rcases EO q with⟨rfl,Y,rfl⟩|⟨l,q⟩
  ·exact .inl ⟨rfl,rfl⟩
  ·exact .inr ⟨l,q⟩
 have A:∀(j:Nat) (s:Slot) (b:Db),j≠i->ρ[j]?=P3 s->s.owns=r_->(Z[j]?).getD q_=P3 (.ref b)->b≠a:=λj s b l q o z w=>by
  subst w;exact l (R.two j i s _ b q o E rfl z x)
 have t:Tops K M H a d:=by
  obtain⟨b,c,_,_,u⟩:=R.sl i _ E;rw[x]at c;cases c;exact u
 refine⟨by rw[iq]; exact R.len,λb z=>⟨R.sub b z,λw=>L (by rw[←w]; exact z)⟩,λb z=>R.dom b z.1,R.ext,R.fU,R.uV,λb z=>⟨R.vM b z,λw=>J (by rw[←w]; exact z)⟩,R.feed.pres r λ_ _ _ q=>q,λj s q=>?_,λq N=>(R.pin q N).trans r,λj F b q f=>?_,λj s b q B f=>?_,λj k s t b g G f B O P=>?_,λp Q=>?_⟩
 ·rcases e j s q with⟨rfl,rfl⟩|⟨l,g⟩
  ·rw[x]
   exact⟨_,rfl,(t.pres r λ_ z=>z).at λz=>z.2 rfl⟩
  ·have f:=R.sl j s g
   cases s with
   |no=>trivial
   |sh d=>obtain⟨v,c,h⟩:=f; exact⟨v,c,h.pres r⟩
   |ex a nm S T=>obtain⟨c,h⟩:=f; exact⟨c,h.pres r⟩
   |br d=>obtain⟨v,c,h⟩:=f; exact⟨v,c,h.same r (λ_ _ _ z=>z) λ_ _ z=>z⟩
   |fd=>exact f
   |wd S T=>exact f
   |ow d=>
    obtain⟨b,c,h,D,u⟩:=f;exact⟨b,c,⟨h,A j _ b l g rfl c⟩,D,u.pres r λ_ z=>z⟩
   |lt b d=>
    obtain⟨c,h,D,u⟩:=f;exact⟨c,⟨h,A j _ b l g rfl c⟩,D,u.pres r λ_ z=>z⟩
 ·rcases e j _ q with⟨_,c⟩|⟨l,g⟩
  ·cases c
  ·exact R.br0 j F b g f
 ·rcases e j s q with⟨_,rfl⟩|⟨l,g⟩
  ·cases B
  ·exact R.new j s b g B f
 ·rcases e j s g with⟨_,rfl⟩|⟨l,U⟩
  ·cases G
  ·rcases e k t f with⟨_,rfl⟩|⟨hk,V⟩
   ·cases B
   ·exact R.two j k s t b U G V B O P
 ·obtain⟨h,D,u,I⟩:=R.kept p Q
  have W:p.1≠a:=λz=>I i d E (by rw[x,z]);refine⟨h,⟨D,W⟩,u,λj F q=>?_⟩
  rcases e j _ q with⟨_,c⟩|⟨l,g⟩
  ·cases c
  ·exact I j F g
end
abbrev DW:=Nat->t_ Slot->(D->Nat->Prop)->Prop
abbrev Hm:=Nat->t_ Slot->(Bool->Nat->Prop)->Prop
abbrev Dh:=Nat->t_ Slot->(t_ D->Nat->Prop)->Prop
abbrev Wf:=Nat->t_ Slot->(t_ Slot->Nat->Prop)->Prop
section
variable (X:Cx)
def DE(e:gB)(f:Kd)(w:DW):Prop:=∃t,PE X e t/\∀(C:Fm) (M:Db->Prop) (H:Hp) (n:Nat) (b:t_ Slot) (Z:L2.St) (P:D->Nat->Prop) (Q:VK),Rel X.K C M H n b Z->w n b P->
 (∀v a d c,Ext C.U H a->FeedC X.K C.F M a c->VR X.K C.V M H a f v d->P d c->Q v a)->t Z H Q
def DT(e:gB)(w:Hm):Prop:=∃t,PT X e t/\∀(C:Fm) (M:Db->Prop) (H:Hp) (n:Nat) (c:t_ Slot) (Z:L2.St) (P:Bool->Nat->Prop) (Q:Bool->Hp->Prop),Rel X.K C M H n c Z->w n c P->
 (∀b a d,Ext C.U H a->FeedC X.K C.F M a d->P b d->Q b a)->t Z H Q
def DTW(e:gB)(w:Hm):Prop:=∃t,PW X e t/\∀(C:Fm) (M:Db->Prop) (H:Hp) (n:Nat) (c:t_ Slot) (Z:L2.St) (P:Bool->Nat->Prop) (Q:Bool->Hp->Prop),Rel X.K C M H n c Z->w n c P->
 (∀b a d,Ext C.U H a->FeedC X.K C.F M a d->P b d->Q b a)->t Z H Q
def Yc(g:t_ gB)(w:Dh):Prop:=∃t,PA X g t/\∀(C:Fm) (M:Db->Prop) (H:Hp) (n:Nat) (b:t_ Slot) (Z:L2.St) (P:t_ D->Nat->Prop) (Q:t_ V->Hp->Prop),Rel X.K C M H n b Z->w n b P->
 (∀c a e f,Ext C.U H a->FeedC X.K C.F M a f->Paired (λv d=>AtT X.K C.V M a d v) c e->P e f->Q c a)->t Z H Q
def ZH(f:t_ gB)(w:Dh):Prop:=∃t,PA X f t/\∀(C:Fm) (M:Db->Prop) (H:Hp) (n:Nat) (b:t_ Slot) (Z:L2.St) (P:t_ D->Nat->Prop) (Q:t_ V->Hp->Prop),Rel X.K C M H n b Z->w n b P->
 (∀c a d e,Ext C.U H a->FeedC X.K C.F M a e->Ats X.K M a d c->P d e->Q c a)->t Z H Q
def MN(K:Frag)(F:u_ Fd)(a M:Db->Prop)(H:Hp)(v:V)(s:Slot):Prop:=SlotOk K F a M H s (P3 v)/\s.owns=s_
def c8(e:gB)(w:Nat->t_ Slot->(Slot->Nat->Prop)->Prop):Prop:=∃t,PE X e t/\∀(C:Fm) (M:Db->Prop) (H:Hp) (n:Nat) (b:t_ Slot) (Z:L2.St) (P:Slot->Nat->Prop) (Q:VK),Rel X.K C M H n b Z->w n b P->
 (∀v a s c,Ext C.U H a->FeedC X.K C.F M a c->MN X.K C.F C.V M a v s->P s c->Q v a)->t Z H Q
def bB(f:t_ gB)(w:Wf):Prop:=∃t,PA X f t/\∀(C:Fm) (M:Db->Prop) (H:Hp) (n:Nat) (b:t_ Slot) (Z:L2.St) (P:t_ Slot->Nat->Prop) (Q:t_ V->Hp->Prop),Rel X.K C M H n b Z->w n b P->
 (∀c a d e,Ext C.U H a->FeedC X.K C.F M a e->Paired (MN X.K C.F C.V M a) c d->P d e->Q c a)->t Z H Q
end
def AB(i:Nat):DW:=λn a P=>match a[i]? with
 |some (.sh d)=>P d n
 |_=>False
def B7(i:Nat):DW:=λn a P=>match a[i]? with
 |some (.sh d)=>P d n
 |some (.br d)=>P d n
 |some (.ow d)=>P d n
 |some (.lt _ d)=>P d n
 |_=>False
def wC(d:D):DW:=λn _ P=>P d n
section
variable {X:Cx}{a b c e:Expr}{κ zT zQ:Kd}{wa wb:DW}{pos:Pos}
theorem getD_some{Z:L2.St}{i:Nat}{v:V}(h:(Z[i]?).getD q_=P3 v):Z[i]?=P3 (P3 v):=by
 cases q:Z[i]? with
 |none=>simp_all
 |some o=>simp_all
theorem YK{i:Nat}(h:PE X e (BN i)):DE X e .sh (AB i):=by
 refine⟨_,h,λC M H n j Z P Q R w q=>?_⟩;unfold AB at w
 split at w
 ·rename_i d c
  obtain⟨v,f,g⟩:=R.sl i _ c;exact⟨v,getD_some f,q v H d n (Ext.refl _ _) R.feed g w⟩
 grind
theorem WH{i:Nat}(h:PE X e (BN i)):DE X e .tp (B7 i):=by
 refine⟨_,h,λC M H n l Z P Q R w q=>?_⟩;unfold B7 at w
 split at w
 ·rename_i d c
  obtain⟨v,f,g⟩:=R.sl i _ c;exact⟨v,getD_some f,q v H d n (Ext.refl _ _) R.feed (At.tp R.vM g) w⟩
 ·rename_i d c
  obtain⟨v,f,g⟩:=R.sl i _ c;exact⟨v,getD_some f,q v H d n (Ext.refl _ _) R.feed g w⟩
 ·rename_i d c
  obtain⟨a,f,_,j,k⟩:=R.sl i _ c;exact⟨.ref a,getD_some f,q _ H d n (Ext.refl _ _) R.feed (k.att j) w⟩
 ·rename_i a d c
  obtain⟨f,_,j,k⟩:=R.sl i _ c;exact⟨.ref a,getD_some f,q _ H d n (Ext.refl _ _) R.feed (k.att j) w⟩
 ·exact w.elim
theorem dv(i:Nat){x:Str}{pos:Pos}(d:X.N[i]?=P3 x:=by rfl)(e:Te X.env.scope x:=by first|exact XV rfl|exact gx (XV rfl)|exact gx (gx rfl))(f:(x==("__debug__":Str))=s_:=by decide)
  (c:(x==("__classdict__":Str))=s_:=by decide):DE X (.Name x pos) .sh (AB i):=YK (Ea d e f c)
theorem To(i:Nat){x:Str}{pos:Pos}(d:X.N[i]?=P3 x:=by rfl)(e:Te X.env.scope x:=by first|exact XV rfl|exact gx (XV rfl)|exact gx (gx rfl))(f:(x==("__debug__":Str))=s_:=by decide)
  (c:(x==("__classdict__":Str))=s_:=by decide):DE X (.Name x pos) .tp (B7 i):=WH (Ea d e f c)
theorem FQ{d:D}{v:V}(h:PE X e (tC v))(c:∀M H,At X.K M H d v):DE X e .sh (wC d):=
 ⟨_,h,λC M H n f Z P Q R w q=>q v H d n (Ext.refl _ _) R.feed (c M H) w⟩
theorem AF{i:Int}{j pos}:DE X (.Constant (.int i) j pos) .sh (wC (.int i)):=FQ A0 λ_ _=>rfl
theorem Bq{b:Bool}{j pos}:DE X (.Constant (.bool b) j pos) .sh (wC (.bl b)):=FQ b_ λ_ _=>rfl
theorem BZ{j pos}:DE X (.Constant .none j pos) .sh (wC .non):=FQ KQ λ_ _=>rfl
theorem Ax{x:Str}{j pos}(c:decide (x.length<=1000)=r_:=by rfl):DE X (.Constant (.str x) j pos) .sh (wC (.str x)):=
 FQ GY λ_ _=>⟨rfl,gO (of_decide_eq_true c) (by decide)⟩
theorem Rb{x:Str}{i:Int}{t:Tok}{pos:Pos}(c:Gl X x)(d:X.mg x=P3 (.int i t))(e:(x==("__debug__":Str))=s_:=by decide):DE X (.Name x pos) .sh (wC (.int i)):=
 FQ (Mi c d (v:=.int i) ⟨t,rfl⟩ e) λ_ _=>rfl
def F9(K:Frag)(κ:Kd)(r:R2)(f:D->D->(D->Prop)->Prop):Prop:=∀(U:Db->Prop) (M:Db->Prop) (H:Hp) (d e:D) (x y:V) (P:D->Prop) (Q:VK),(∀a,M a->∃o,H a=P3 o)->(∀a,U a->M a)->
 AtT K U M H d x->AtT K U M H e y->f d e P->(∀v c z,Grow H c->VR K U M H c κ v z->P z->Q v c)->r x y H Q
def Aa(f:D->D->(D->Prop)->Prop)(wa wb:DW):DW:=λn c P=>wa n c λx d=>wb d c λy e=>f x y λz=>P z e
theorem Ej{r:R2}{f:D->D->(D->Prop)->Prop}(u:F9 X.K κ r f){o s:TE}(A:∀(C:Fm) (M:Db->Prop) (H:Hp) (n:Nat) (h:t_ Slot) (Z:L2.St) (P:D->Nat->Prop) (Q:VK),Rel X.K C M H n h Z->wa n h P->
   (∀v c d i,Ext C.U H c->FeedC X.K C.F M c i->VR X.K C.V M H c zT v d->P d i->Q v c)->o Z H Q)
  (B:∀(C:Fm) (M:Db->Prop) (H:Hp) (n:Nat) (h:t_ Slot) (Z:L2.St) (P:D->Nat->Prop) (Q:VK),Rel X.K C M H n h Z->wb n h P->
   (∀v c d i,Ext C.U H c->FeedC X.K C.F M c i->VR X.K C.V M H c zQ v d->P d i->Q v c)->s Z H Q)
  (C:Fm) (M:Db->Prop) (H:Hp) (n:Nat) (h:t_ Slot) (Z:L2.St) (P:D->Nat->Prop) (Q:VK) (R:Rel X.K C M H n h Z) (w:Aa f wa wb n h P)
  (q:∀v c d i,Ext C.U H c->FeedC X.K C.F M c i->VR X.K C.V M H c κ v d->P d i->Q v c):DP r o s Z H Q:=by
 refine A C M H n h Z _ _ R w λx H1 d E m G I J=>?_;have j:=R.step m G;refine B C M H1 E h Z _ _ j J λy L e N k t O S=>?_;have l:=j.step k t;exact u _ M L d e x y _ _ l.dom l.vM ((I.tpOf R.dom R.vM).pres (j.pres k) k R.uV) (O.tpOf j.dom j.vM) S λv T z g W p=>q v T z N ((m.trans k).trans g.ext) (t.grow g) (VR.back (m.trans k) W) p
theorem Aw{h:Operator}{r:R2}{f:D->D->(D->Prop)->Prop}(i:OpR X (binaryOp h) r)(j:F9 X.K κ r f)(k:DE X a zT wa)(l:DE X b zQ wb):DE X (.BinOp a h b pos) κ (Aa f wa wb):=by
 obtain⟨o,c,d⟩:=k;obtain⟨p,e,g⟩:=l;exact⟨_,Bj i c e,λC M H n m Z P Q R w q=>Ej j d g C M H n m Z P Q R w q⟩
theorem AX{r:R2}{f:D->D->(D->Prop)->Prop}(h:IxR X r)(i:F9 X.K κ r f)(j:DE X a zT wa)(k:DE X b zQ wb)(l:Ru b:=by intro _ _; rfl):DE X (.Subscript a b pos) κ (Aa f wa wb):=by
 obtain⟨o,c,d⟩:=j;obtain⟨p,e,g⟩:=k;exact⟨_,BS h c e l,λC M H n m Z P Q R w q=>Ej i d g C M H n m Z P Q R w q⟩
theorem FR{c:CmpOp}{r:R2}{f:D->D->(D->Prop)->Prop}(i:OpR X (compareOp c) r)(j:F9 X.K .sh r f)(k:DE X a zT wa)(l:DE X b zQ wb)(m:behindInMarks c b=s_):DE X (.Compare a [c] [b] pos) .sh (Aa f wa wb):=by
 obtain⟨p,d,e⟩:=k;obtain⟨s,g,h⟩:=l;exact⟨_,XR i d g m,λC M H n o Z P Q R w q=>Ej j e h C M H n o Z P Q R w q⟩
def Ab(w:DW):Hm:=λn c P=>w n c λd e=>match d with
 |.bl b=>P b e
 |_=>False
theorem JX{U:Db->Prop}{K:Frag}{M:Db->Prop}{H c:Hp}{v:V}{b:Bool}(h:VR K U M H c κ v (.bl b)):v=.bl b:=by
 cases κ with
 |sh=>exact h
 |tp=>exact h
 |fr=>obtain⟨a,_,_,t⟩:=h; exact(t).elim
theorem Ai{c:CmpOp}{r:R2}{f:D->D->(D->Prop)->Prop}(k:OpR X (compareOp c) r)(l:F9 X.K .sh r f)(m:DE X a zT wa)(o:DE X b zQ wb)(s:behindInMarks c b=s_):DT X (.Compare a [c] [b] pos) (Ab (Aa f wa wb)):=by
 obtain⟨y,g,h⟩:=m;obtain⟨z,i,j⟩:=o;refine⟨_,Cv k g i s,λC M H n t Z P Q R w q=>?_⟩;refine Ej l h j C M H n t Z _ _ R w λv u d x e f r p=>?_;cases d with
 |bl b=>exact⟨b,JX r,q b u x e f p⟩
 |_=>exact p.elim
theorem BP(h:DE X e κ wa)(g:∀c,isTrue e X.env c=(do let v ←c; standAt e.pos; holding [v] (truthy v)):=by intro _; rfl):DT X e (Ab wa):=by
 obtain⟨t,i,j⟩:=h;refine⟨_,Zk i g,λC M H n k Z P Q R w q=>?_⟩;refine j C M H n k Z _ _ R w λv l d m e f r p=>?_;cases d with
 |bl b=>exact⟨b,JX r,q b l m e f p⟩
 |_=>exact p.elim
def Yf(u v:Hm):Hm:=λn d P=>u n d λc e=>if c=r_ then v e d P else P s_ e
def CF(u v:Hm):Hm:=λn d P=>u n d λc e=>if c=r_ then P r_ e else v e d P
def Br(u:Hm):Hm:=λn d P=>u n d λc e=>P (!c) e
variable {wA wB:Hm}{rest:t_ Expr}
theorem X6(h:DT X a wA):DTW X (.BoolOp .And [a] pos) wA:=by
 obtain⟨t,c,d⟩:=h;exact⟨t,Mf c,d⟩
theorem Bu(h:DT X a wA):DTW X (.BoolOp .Or [a] pos) wA:=by
 obtain⟨t,c,d⟩:=h;exact⟨t,Uy c,d⟩
theorem aP(h:DT X a wA)(i:DTW X (.BoolOp .And (b::rest) pos) wB):DTW X (.BoolOp .And (a::b::rest) pos) (Yf wA wB):=by
 obtain⟨t,j,k⟩:=h;obtain⟨u,l,m⟩:=i;refine⟨_,P2 j l,λC M H n e Z P Q R w q=>?_⟩;refine k C M H n e Z _ _ R w λc H1 f d g p=>?_;cases c with
 |false=>exact q _ H1 f d g p
 |true=>exact m C M H1 f e Z P Q (R.step d g) p λb o r s v x=>q b o r (d.trans s) v x
theorem Bp(h:DT X a wA)(i:DTW X (.BoolOp .Or (b::rest) pos) wB):DTW X (.BoolOp .Or (a::b::rest) pos) (CF wA wB):=by
 obtain⟨t,j,k⟩:=h;obtain⟨u,l,m⟩:=i;refine⟨_,Yv j l,λC M H n e Z P Q R w q=>?_⟩;refine k C M H n e Z _ _ R w λc H1 f d g p=>?_;cases c with
 |true=>exact q _ H1 f d g p
 |false=>exact m C M H1 f e Z P Q (R.step d g) p λb o r s v x=>q b o r (d.trans s) v x
theorem DTW.dt(h:DTW X e wA):DT X e wA:=by
 obtain⟨t,c,d⟩:=h;exact⟨t,c.pt,d⟩
theorem BR(d:DT X a wA):DT X (.UnaryOp .Not a pos) (Br wA):=by
 obtain⟨t,e,f⟩:=d;exact⟨_,Zl e,λC M H n g Z P Q R w q=>f C M H n g Z _ _ R w λc H1 h i j p=>q _ H1 h i j p⟩
def UH(u v:DW):DW:=λn d P=>u n d λc e=>match c with
 |.bl r_=>v e d P
 |.bl s_=>P (.bl s_) e
 |_=>False
def bK(u:DW):DW:=λn d P=>u n d λc e=>match c with
 |.bl b=>P (.bl (!b)) e
 |_=>False
theorem QW{op}(h:DE X a κ wa):DE X (.BoolOp op [a] pos) κ wa:=by
 assumption
theorem NJ(i:DE X a zT wa)(j:DE X (.BoolOp .And (b::rest) pos) .sh wb):DE X (.BoolOp .And (a::b::rest) pos) .sh (UH wa wb):=by
 obtain⟨t,l,m⟩:=i;obtain⟨u,o,r⟩:=j;refine⟨_,Zs l o,λC M H n f Z P Q R w q=>?_⟩;refine m C M H n f Z _ _ R w λc H1 d g e h s p=>?_;cases d with
 | bl k=>
  refine⟨k,JX s,?_⟩;cases k with
  |false=>exact q _ H1 _ g e h (show VR _ _ M H H1 _ _ (.bl _)from rfl) p
  |true=>
   exact r C M H1 g f Z P Q (R.step e h) p λv x d y z A B D=>q v x d y (e.trans z) A B D
 |_=>exact p.elim
theorem aU(e:DE X a zT wa):DE X (.UnaryOp .Not a pos) .sh (bK wa):=by
 obtain⟨t,f,g⟩:=e;refine⟨_,Zq f,λC M H n h Z P Q R w q=>?_⟩;refine g C M H n h Z _ _ R w λc H1 d i j l m p=>?_;cases d with
 |bl k=>exact⟨k,JX m,q _ H1 _ i j l (show VR _ _ M H H1 _ _ (.bl _)from rfl) p⟩
 |_=>exact p.elim
def bC(t:Hm)(u v:DW):DW:=λn d P=>t n d λc e=>if c=r_ then u e d P else v e d P
theorem Ra(r:DT X c wA)(s:DE X a κ wa)(x:DE X b κ wb):DE X (.IfExp c a b pos) κ (bC wA wa wb):=by
 obtain⟨t,y,z⟩:=r;obtain⟨u,A,B⟩:=s;obtain⟨F,D,E⟩:=x;refine⟨_,OM y A D,λC M H n f Z P Q R w q=>?_⟩;refine z C M H n f Z _ _ R w λc H1 m e o p=>?_;cases c with
 |true=>exact B C M H1 m f Z P Q (R.step e o) p λv g d h i j k l=>q v g d h (e.trans i) j (VR.back e k) l
 |false=>exact E C M H1 m f Z P Q (R.step e o) p λv g d h i j k l=>q v g d h (e.trans i) j (VR.back e k) l
def AV:Dh:=λn _ P=>P [] n
def AE(w:DW)(e:Dh):Dh:=λn c P=>w n c λd f=>e f c λg h=>P (d::g) h
variable {es:t_ Expr}{ws:Dh}
theorem AT:Yc X [] AV:=⟨_,A9,λC M H n c Z P Q R w q=>q [] H [] n (Ext.refl _ _) R.feed .nil w⟩
theorem AU:ZH X [] AV:=⟨_,A9,λC M H n c Z P Q R w q=>q [] H [] n (Ext.refl _ _) R.feed rfl w⟩
theorem AL(i:DE X e κ wa)(j:Yc X es ws)(k:starEach (e::es) X.env=(s_,eval e X.env)::starEach es X.env:=by rfl):Yc X (e::es) (AE wa ws):=by
 obtain⟨t,l,m⟩:=i;obtain⟨u,o,r⟩:=j;refine⟨_,Aq l o k,λC M H n f Z P Q R w q=>?_⟩;refine m C M H n f Z _ _ R w λv H1 d s g x y p=>?_;have h:=R.step g x;exact r C M H1 s f Z _ _ h p λF z G A c B D E=>q _ z _ A (g.trans c) B (.cons ((y.tpOf R.dom R.vM).pres (h.pres c) c R.uV) D) E
theorem AD(i:DE X e κ wa)(j:ZH X es ws)(k:κ≠.tp:=by intro z; cases z)(l:starEach (e::es) X.env=(s_,eval e X.env)::starEach es X.env:=by rfl):ZH X (e::es) (AE wa ws):=by
 obtain⟨t,m,o⟩:=i;obtain⟨u,r,s⟩:=j;refine⟨_,Aq m r l,λC M H n c Z P Q R w q=>?_⟩;refine o C M H n c Z _ _ R w λv H1 d x f y A p=>?_;have g:=R.step f y;exact s C M H1 x c Z _ _ g p λB D E F h G I J=>q _ D (d::E) F (f.trans h) G ⟨v,B,rfl,(A.shOf R.dom k).pres (g.pres h),I⟩ J
def BO(ws:Dh):DW:=λn d P=>ws n d λc e=>c.length<=sizeLine/\P (.tup c) e
def Di(ws:Dh):DW:=λn d P=>ws n d λc e=>c.length<=sizeLine/\P (.lst c) e
theorem Ge{M:Db->Prop}{H:Hp}{p:Db}{o:HO}(h:H p=q_):Pres M H (λb=>M b\/b=p) (A2 H p o):=⟨λb u e _=>by rw[AM (Ao e h)]; exact e,λb z=>z.elim .inl λz=>.inr (by grind),λb c e=>by rw[AM (Ao e h)]; exact e⟩
theorem Av{H:Hp}{p:Db}{o:HO}(h:H p=q_):Grow H (A2 H p o):=.inr ⟨p,o,h,rfl⟩
theorem A1{x1}(h:ZH X es ws):DE X (.Tuple es x1 pos) .sh (BO ws):=by
 obtain⟨t,e,f⟩:=h;refine⟨_,VA e,λC M H n i Z P Q R w q=>?_⟩;refine f C M H n i Z _ _ R w λc H1 j k l m d p=>?_;refine⟨by rw[d.length]; exact p.1,λa o=>?_⟩;have g:Grow H1 (A2 H1 a (.tup c)):=Av o;refine q _ _ (.tup j) k (l.trans g.ext) (m.grow g) ⟨a,c,rfl,AR,d.pres g.pres⟩ p.2
theorem BX(h:ZH X es ws):DE X (.List es pos) .fr (Di ws):=by
 obtain⟨t,i,j⟩:=h;refine⟨_,IF i,λC M H n k Z P Q R w q=>?_⟩;refine j C M H n k Z _ _ R w λd H1 l m e o f p=>?_;refine⟨by rw[f.length]; exact p.1,λa c=>?_⟩;have g:Grow H1 (A2 H1 a (.lst d)):=Av c;exact q _ _ (.lst l) m (e.trans g.ext) (o.grow g) (VR.back e ⟨a,rfl,c,d,AR,f.pres (Ge c)⟩) p.2
def CJ(K:Frag)(κ:Kd)(r:t_ V->Hp->VK->Prop)(f:t_ D->(D->Prop)->Prop):Prop:=∀(U:Db->Prop) (M:Db->Prop) (H:Hp) (e:t_ D) (g:t_ V) (P:D->Prop) (Q:VK),(∀a,M a->∃o,H a=P3 o)->(∀a,U a->M a)->
 Paired (λv d=>AtT K U M H d v) g e->f e P->(∀v c z,Grow H c->VR K U M H c κ v z->P z->Q v c)->r g H Q
def Bz(f:t_ D->(D->Prop)->Prop)(ws:Dh):DW:=λn c P=>ws n c λd e=>f d λz=>P z e
theorem Y6{r:t_ V->Hp->VK->Prop}{f:t_ D->(D->Prop)->Prop}{t:TA}(o:CJ X.K κ r f)(s:∀(C:Fm) (M:Db->Prop) (H:Hp) (n:Nat) (e:t_ Slot) (Z:L2.St) (P:t_ D->Nat->Prop) (Q:t_ V->Hp->Prop),Rel X.K C M H n e Z->ws n e P->
   (∀i c j h,Ext C.U H c->FeedC X.K C.F M c h->Paired (λv d=>AtT X.K C.V M c d v) i j->P j h->Q i c)->t Z H Q)
  (C:Fm) (M:Db->Prop) (H:Hp) (n:Nat) (e:t_ Slot) (Z:L2.St) (P:D->Nat->Prop) (Q:VK) (R:Rel X.K C M H n e Z) (w:Bz f ws n e P)
  (q:∀v c d h,Ext C.U H c->FeedC X.K C.F M c h->VR X.K C.V M H c κ v d->P d h->Q v c):dA r t Z H Q:=by
 refine s C M H n e Z _ _ R w λi H1 j u k l x p=>?_;have m:=R.step k l;exact o _ M H1 j i _ _ m.dom m.vM x p λv y z g A B=>q v y z u (k.trans g.ext) (l.grow g) (VR.back k A) B
theorem AY{x:Str}{g:String}{p:Pos}{r:t_ V->Hp->VK->Prop}{f:t_ D->(D->Prop)->Prop}(h:By X (.builtin g) r)(i:CJ X.K κ r f)(j:Gl X x)(k:X.mg x=q_)(l:bootBuiltins x=P3 (.builtin g))(m:Yc X (e::es) ws)
  (o:x ≠ "__name__":=by decide) (c:(x==("__debug__":Str))=s_:=by decide)
  (s:starEach (e::es) X.env=(s_,eval e X.env)::starEach es X.env:=by rfl) (d:(backTo pos (starEach es X.env)).any (·.1)=s_:=by rfl):DE X (.Call (.Name x p) (e::es) [] pos) κ (Bz f ws):=by
 obtain⟨t,u,v⟩:=m;exact⟨_,Cb h j k l u o c s d,λC M H n y Z P Q R w q=>Y6 i v C M H n y Z P Q R w q⟩
theorem BY{x:Str}{T:String}{p:Pos}{r:t_ V->Hp->VK->Prop}{f:t_ D->(D->Prop)->Prop}(g:By X (.type T) r)(h:CJ X.K κ r f)(i:Gl X x)(j:X.mg x=q_)(k:bootBuiltins x=P3 (.type T))(l:Yc X (e::es) ws)
  (m:x ≠ "__name__":=by decide) (c:(x==("__debug__":Str))=s_:=by decide)
  (o:starEach (e::es) X.env=(s_,eval e X.env)::starEach es X.env:=by rfl) (d:(backTo pos (starEach es X.env)).any (·.1)=s_:=by rfl):DE X (.Call (.Name x p) (e::es) [] pos) κ (Bz f ws):=by
 obtain⟨t,s,u⟩:=l;exact⟨_,Lq g i j k s m c o d,λC M H n v Z P Q R w q=>Y6 h u C M H n v Z P Q R w q⟩
end
end Dp
namespace L2
def dM(z:Str):It:=⟨λi _=>i<z.cps.size,λi H x a=>a=H/\∃c,z.cps[i]?=P3 c/\x=.str ⟨#[c]⟩,λi _=>z.cps.size<=i⟩
theorem Nn{P:gD}{w:gK}{K:Frag}{T:gB}(a:Db)(z:Str)(t:Tok)(ty:String)(j:ty="str_ascii_iterator"\/ty="str_iterator")
  (W:∀N:gS,N.handled=q_->Walks P w N a [a] [a] z.cps.size (SignAt z) (λi h=>h.IsStrIter a ty z t i)):Turn P w K T (dM z) [a] a (λi h=>h.IsStrIter a ty z t i) where
 mem:=by simp
 obj:=λi h f b g=>by
  have e:b=a:=by simpa using g
  subst e;obtain⟨o,e,c,d⟩:=f;exact⟨o,e,λv z=>by rw[d]at z; cases z⟩
 keep:=λi h l f k=>let ⟨o,U,r⟩:=f; ⟨o,k a (by simp) o U,r⟩
 item:=by
  intro X D F G n i O s Z H E I p f J;subst D F G;obtain⟨q,x,V,y,B,C⟩:=p a (by simp);refine(W X.A (I.ok.hd n)).item i s _ _ J f λv l R Y m kk=>?_;obtain⟨c,u,L,rfl⟩:=Y;have I1:Inv X O Z H {s with heap:=l,toks:=R}:=I.turned (λb o g e=>kk b o (by simpa using g) e) q x y B C;obtain⟨o,e,cc,d⟩:=id m;exact⟨_,rfl,RJ (s:={s with heap:=l,toks:=R}) e cc d (by rcases j with rfl|rfl <;>decide) ⟨.str ⟨#[c]⟩,H,I1,⟨_,rfl⟩,⟨rfl,c,L,rfl⟩,m,λb g=>(p b g).1⟩⟩
 done:=by
  intro X D F G n i O s Z H E I p f J;subst D F G;obtain⟨q,x,V,y,B,C⟩:=p a (by simp)
  have S:z.cps[i]?=q_:=by
   have:z.cps.size<=i:=J
   simp[this]
  rcases j with rfl|rfl
  ·exact wpAny_pyNext_ascii_end (I.ok.hd n) f S λl M=>⟨rfl,I.turned (t':=s.toks) (λb o g e=>M b o g e) q x y B C⟩
  ·exact wpAny_pyNext_wide_end (I.ok.hd n) f S λl M=>⟨rfl,I.turned (t':=s.toks) (λb o g e=>M b o g e) q x y B C⟩
 self:=λA i s Q E f h=>by
  rcases j with rfl|rfl
  ·exact wpAny_pyIter_striter_ascii f h
  ·exact wpAny_pyIter_striter_wide f h
section
variable {X:Cx}{tg:Expr}
def cH(K:Frag)(c:TE):TI:=λZ H R=>c Z H λx H1=>
 (∃a,x=.ref a/\(∃b,SqL K H1 a b)/\R (Wa K a) H1)\/(∃a,x=.ref a/\(∃b,SqT K H1 a b)/\R (Tq K a) H1)\/∃z,x=.str z/\R (dM z) H1
theorem P8{l:gB}{m:TE}(u:PE X l m):PI X tg l (cH X.K m):=by
 intro n s Z H R I h;refine thn (u n s Z H _ I h) λv c ⟨x,H1,f,i,w⟩=>?_
 have d:∀b,b∈[c.heap.objs.size]->GA X n H1 b:=λb y=>by
  have e:b=c.heap.objs.size:=by simpa using y
  subst e;exact f.fpOk (Re _) (f.hok.fresh (Re _))
 rcases w with⟨a,e,⟨A,j⟩,q⟩|⟨a,e,⟨A,j⟩,q⟩|⟨z,e,q⟩
 ·subst e
  cases i;obtain⟨g,B,p,C⟩:=f.list j;refine im p.isList ?_;exact⟨c.heap.objs.size,[c.heap.objs.size],_,_,H1,rfl,f.kept (t':=c.toks) λb o e=>No _ e,Rz a _,⟨_,TW _ rfl,rfl,rfl⟩,d,q⟩
 ·subst e
  cases i;obtain⟨g,B,p,C⟩:=f.tuple j;refine ie (show c.heap.IsTuple a g.toArray from p) ?_;exact⟨c.heap.objs.size,[c.heap.objs.size],_,_,H1,rfl,f.kept (t':=c.toks) λb o e=>No _ e,Jv a _,⟨_,TW _ rfl,rfl,rfl⟩,d,q⟩
 ·subst e
  obtain⟨t,rfl⟩:=i;cases r:z.cps.all (·<128)
  ·refine wpAny_pyIter_wide r ?_
   exact⟨c.heap.objs.size,[c.heap.objs.size],_,_,H1,rfl,f.kept (t':=c.toks) λb o e=>No _ e,Nn _ z t "str_iterator" (.inr rfl) (λD k=>Walks.strWide k _ z t),⟨_,TW _ rfl,rfl,rfl⟩,d,q⟩
  ·refine wpAny_pyIter_ascii r ?_
   exact⟨c.heap.objs.size,[c.heap.objs.size],_,_,H1,rfl,f.kept (t':=c.toks) λb o e=>No _ e,Nn _ z t "str_ascii_iterator" (.inl rfl) (λD k=>Walks.strAscii k _ z t),⟨_,TW _ rfl,rfl,rfl⟩,d,q⟩
end
section
variable {X:Cx}
theorem LO(bs:t_ Bool):((gF bs.length).all λi=>(bs[i]?).getD r_)=bs.all id:=by
 induction bs with
 |nil=>rfl
 |cons b r a=>
  rw[eq,nP,n_,List.all_map]
  congr 1
theorem WQ(t:X.calm=r_):By X (.builtin "all") (λj H Q=>∃(p:Db) (c:t_ Bool),j=[.ref p]/\SqL X.K H p (c.map V.bl)/\Q (.bl (c.all id)) H):=by
 intro J s Z H j L Q I r h;obtain⟨p,c,rfl,w,q⟩:=h;obtain⟨u,rfl,y⟩:=vals1 r;cases y;obtain⟨a,k,z,M⟩:=I.list w;have d:=k.length;have f:s.heap.IsList p a.toArray:=z.isList;have g:p<s.heap.objs.size:=by obtain⟨_,e,_⟩:=id f; exact Tk e
 refine call_all_walk (im f ?_)
 refine⟨s.heap.objs.size,[s.heap.objs.size,p],[s.heap.objs.size],a.toArray.size,_,_,λi=>(c[i]?).getD r_,rfl,Walks.list (A:=X.A.in1) (I.ok.hd t) _ p (f_ g) a.toArray,
  ⟨⟨_,TW _ rfl,rfl,rfl⟩,f.push _⟩,λi v N O P B l=>?_,λR C D=>?_⟩
 ·have m:a[i]?=P3 v:=by simpa using B
  have E:∃b,c[i]?=P3 b:=by
   have S:i<a.length:=(ZB.mp m).1;rw[Go]at d;exact⟨c[i]'(by omega),FM (by omega)⟩
  obtain⟨b,n⟩:=E;obtain⟨u,o,F⟩:=k.get (i:=i) (x:=.bl b) (by rw[T0,n]; rfl);rw[m]at o;cases o;cases F;simp only[n,Option.getD_some]at l;exact jC l
 ·have e:((gF a.toArray.size).all λi=>(c[i]?).getD r_)=c.all id:=by
   rw[fk,←d,Go]; exact LO c
  rw[e];exact⟨.bl _,H,I.kept (t':=C) λb x e=>D b x (λG=>by rw[TM.mp G]at e; exact gY _ (Tk e)) (No _ e),rfl,q⟩
theorem PB:By X (.builtin "isinstance") (λa H Q=>∃x T t b,a=[x,.ty T]/\Gr X.K H x t/\PySem.W.kitOne X.K t (.type T)=P3 b/\Q (.bl b) H):=by
 intro f s Z H a g Q I r h;obtain⟨x,T,t,b,rfl,ty,e,q⟩:=h;obtain⟨u,i,rfl,c,d⟩:=vals2 r;cases d;exact S2 I c ty e λj=>⟨.bl b,H,I.tok _,rfl,q⟩
theorem Sd:OpR X (compareOp .LtE) (λx y H Q=>∃i j,x=.str i/\y=.str j/\Q (.bl (!(j.cps.toList<i.cps.toList))) H):=by
 intro c s Z H x y v u Q I a b h;obtain⟨i,j,rfl,rfl,q⟩:=h;obtain⟨t,rfl⟩:=a;obtain⟨d,rfl⟩:=b;exact PySem.P.le_str ⟨.bl _,H,I,rfl,q⟩
theorem Pl{b:t_ Str}:∀{a:t_ Ev},Vals (b.map V.str) a->StrsAre a b:=by
 induction b with
 |nil=>intro a r; cases r; exact .nil
 | cons n g c=>
  intro a r;cases r with
  |cons d f=>
   obtain⟨t,e⟩:=d;subst e;exact .cons n t (c f)
theorem Ze:SlR X (λx f g H Q=>∃z,x=.str z/\z.length<=sizeLine/\Q (.str (Txt.slice z f g)) H):=by
 intro o s Z H x v w y f g A Q I p c r m h;obtain⟨z,rfl,d,q⟩:=h;obtain⟨t,rfl⟩:=p;refine⟨"str",_,F.slot_str_getitem.lookup,kW _ _ _,?_⟩;have b:∀a k,EP X o Z Q (.str _ a) {s with toks:=k}:=λa k=>⟨.str _,H,I.tok _,⟨_,rfl⟩,q⟩;cases r with
 |none=>
  cases m with
  |none=>exact jm (l:=q_) (u:=q_) (st:=q_) c rfl (lY ⟨gO (Txt.slice_le z _ _) d,λa k=>b a k⟩)
  |int j e=>exact jm (l:=q_) (u:=P3 (j,e)) (st:=q_) c rfl (lY ⟨gO (Txt.slice_le z _ _) d,λa k=>b a k⟩)
 |int i n=>
  cases m with
  |none=>exact jm (l:=P3 (i,n)) (u:=q_) (st:=q_) c rfl (lY ⟨gO (Txt.slice_le z _ _) d,λa k=>b a k⟩)
  |int j e=>exact jm (l:=P3 (i,n)) (u:=P3 (j,e)) (st:=q_) c rfl (lY ⟨gO (Txt.slice_le z _ _) d,λa k=>b a k⟩)
theorem Sa(d:X.A.units<cLine):OpR X (compareOp .NotEq) (λx y H Q=>∃a b c,x=.ref a/\y=.ref b/\SqL X.K H a c/\SqL X.K H b []/\Q (.bl (!c.isEmpty)) H):=by
 intro w s Z H x y v u Q I m n h;obtain⟨a,b,c,rfl,rfl,o,p,q⟩:=h;cases m;cases n;obtain⟨r,f,g,_⟩:=I.list o;obtain⟨i,k,l,_⟩:=I.list p;cases k;cases f with
 |nil=>exact SeqAt.RcNeAt.lists (e:=λ_=>r_) g.isList l.isList rfl d (λj t z=>absurd t (by simp)) _ _ _ _ ⟨.bl _,H,I,rfl,q⟩
 |cons f k=>exact SeqAt.RcNeAt.lists_lengths g.isList l.isList (by simp) d _ _ _ _ ⟨.bl _,H,I,rfl,q⟩
end
end L2
namespace Dp
open L2
def aw(K:Frag)(F:u_ Fd)(U b M:Db->Prop)(H:Hp)(n:Nat)(c:t_ Slot)(d:t_ V):Prop:=
 (∀a,M a->∃o,H a=P3 o)/\(∀f,F=P3 f->U f.1)/\(∀a,U a->b a)/\(∀a,b a->M a)/\FeedC K F M H n/\Paired (MN K F b M H) d c
abbrev W2:=t_ Slot->Nat->(D->Nat->Prop)->Prop
def Ck(K:Frag)(g:Kd)(W:W2)(h:Nat):Sp:=λb H Q _=>b.length=h/\∃(F:u_ Fd) (U c M:Db->Prop) (n:Nat) (e:t_ Slot) (P:D->Nat->Prop),aw K F U c M H n e b/\W e n P /\
 ∀v a d f,Ext U H a->FeedC K F M a f->VR K c M H a g v d->P d f->Q v a
def AH(w:DW):Nat->t_ Slot->(Slot->Nat->Prop)->Prop:=λn a P=>w n a λd b=>P (.sh d) b
def Jq(w:DW):Nat->t_ Slot->(Slot->Nat->Prop)->Prop:=λn a P=>w n a λd b=>P (.br d) b
def BG(i:Nat):Nat->t_ Slot->(Slot->Nat->Prop)->Prop:=λn a P=>match a[i]? with
 |some .fd=>P .fd n
 |_=>False
def Ae:Wf:=λn _ P=>P [] n
def AC(w:Nat->t_ Slot->(Slot->Nat->Prop)->Prop)(b:Wf):Wf:=λn a P=>w n a λs c=>b c a λd e=>P (s::d) e
def Ad(W:W2)(a:Wf):DW:=λn b P=>a n b λc d=>W c d P
section
variable {X:Cx}{a e:Expr}{es:t_ Expr}{κ zT:Kd}{wa:DW}{pos:Pos}{w1:Nat->t_ Slot->(Slot->Nat->Prop)->Prop}{was:Wf}
theorem AO(h:DE X e κ wa)(b:κ≠.tp:=by intro z; cases z):c8 X e (AH wa):=by
 obtain⟨t,c,g⟩:=h;exact⟨t,c,λC M H n i Z P Q R w q=>g C M H n i Z _ _ R w λv j d k e f r p=>q v j (.sh d) k e f ⟨⟨v,rfl,r.shOf R.dom b⟩,rfl⟩ p⟩
theorem Rc(h:DE X e κ wa):c8 X e (Jq wa):=by
 obtain⟨t,b,c⟩:=h;exact⟨t,b,λC M H n g Z P Q R w q=>c C M H n g Z _ _ R w λv i d j e f r p=>q v i (.br d) j e f ⟨⟨v,rfl,r.tpOf R.dom R.vM⟩,rfl⟩ p⟩
theorem Bk(i:Nat){x:Str}{pos:Pos}(d:X.N[i]?=P3 x:=by rfl)(e:Te X.env.scope x:=by first|exact XV rfl|exact gx (XV rfl)|exact gx (gx rfl))(b:(x==("__debug__":Str))=s_:=by decide)
  (c:(x==("__classdict__":Str))=s_:=by decide):c8 X (.Name x pos) (BG i):=by
 refine⟨_,Ea d e b c,λC M H n j Z P Q R w q=>?_⟩;unfold BG at w
 split at w
 ·rename_i b
  obtain⟨f,g,h⟩:=R.sl i _ b;exact⟨_,getD_some g,q _ H .fd n (Ext.refl _ _) R.feed ⟨⟨f,rfl,h⟩,rfl⟩ w⟩
 grind
theorem AS:bB X [] Ae:=⟨_,A9,λC M H n b Z P Q R w q=>q [] H [] n (Ext.refl _ _) R.feed .nil w⟩
theorem AA(i:c8 X e w1)(j:bB X es was)(k:starEach (e::es) X.env=(s_,eval e X.env)::starEach es X.env:=by rfl):bB X (e::es) (AC w1 was):=by
 obtain⟨t,l,m⟩:=i;obtain⟨u,o,r⟩:=j;refine⟨_,Aq l o k,λC M H n c Z P Q R w q=>?_⟩;refine m C M H n c Z _ _ R w λv H1 d s f x g p=>?_;have h:=R.step f x;exact r C M H1 s c Z _ _ h p λF y G A b B D E=>q _ y _ A (f.trans b) B (.cons ⟨g.1.pres (h.pres b) (λ_ z=>z) b R.uV,g.2⟩ D) E
theorem YO{k:Nat}{f:Db}{fd:gZ}{b:t_ Str}{W:W2}{x:Str}{p:Pos}(G:A3 X.prog X.w X.K X.mg X.base B1 k f fd b (Ck X.K κ W b.length))(o:∀c n P,W c n P->c.length=b.length)
  (r:Room k X.A) (s:Gl X x) (u:X.mg x=P3 (.ref f)) (y:keepIn X.K (.ref f)=r_) (z:Binds X.K fd b []) (B:bB X (e::es) was)
  (h:(x==("__debug__":Str))=s_:=by decide) (D:starEach (e::es) X.env=(s_,eval e X.env)::starEach es X.env:=by rfl) (i:(backTo pos (starEach es X.env)).any (·.1)=s_:=by rfl):
  DE X (.Call (.Name x p) (e::es) [] pos) κ (Ad W was):=by
 obtain⟨t,E,F⟩:=B;refine⟨_,Mj G r s u y z .nil Q_ E h D i,λC M H n I Z P Q R w q=>?_⟩;refine F C M H n I Z _ _ R w λV H1 c J j l m p=>?_;have g:=R.step j l;rw[gk];exact⟨(Paired.length m).trans (o _ _ _ p),_,_,_,M,J,c,P,⟨g.dom,g.fU,g.uV,g.vM,l,m⟩,p,λv L d N O S T U=>q v L d N (j.trans O) S (VR.back j T) U⟩
def fZ(K:Frag)(κ:Kd)(T:String)(r:V->t_ V->Hp->VK->Prop)(f:D->t_ D->(D->Prop)->Prop):Prop:=∀(U:Db->Prop) (M:Db->Prop) (H:Hp) (d:D) (c:t_ D) (x:V) (e:t_ V) (P:D->Prop) (Q:VK),(∀a,M a->∃o,H a=P3 o)->(∀a,U a->M a)->
 AtT K U M H d x->Paired (λv d=>AtT K U M H d v) e c->f d c P->(∀v b z,Grow H b->VR K U M H b κ v z->P z->Q v b)->r x e H Q
def em(T:String)(d:D):Prop:=match d with
 |.str _=>T="str"
 |.int _=>T="int"
 |.lst _=>T="list"
 |_=>False
theorem aE{T:String}{K:Frag}{U:Db->Prop}{M:Db->Prop}{H:Hp}{d:D}{x:V}(h:em T d)(b:AtT K U M H d x):dQ K T x H:=by
 cases d with
 |str z=>obtain⟨e,_⟩:=b; subst e; exact h
 |int i=>cases(b); exact h
 |lst g=>obtain⟨a,c,e,_,f,_⟩:=b; subst e; exact .inl ⟨h,c,.inl f⟩
 |_=>exact(h).elim
def DO(X:Cx)(e:u_ gB)(w:Nat->t_ Slot->(u_ Int->Nat->Prop)->Prop):Prop:=∃t,PO X e t/\∀(C:Fm) (M:Db->Prop) (H:Hp) (n:Nat) (c:t_ Slot) (Z:L2.St) (P:u_ Int->Nat->Prop) (Q:u_ Int->Hp->Prop),Rel X.K C M H n c Z->w n c P->
 (∀o b d,Ext C.U H b->FeedC X.K C.F M b d->P o d->Q o b)->t Z H Q
def DN:Nat->t_ Slot->(u_ Int->Nat->Prop)->Prop:=λn _ P=>P q_ n
def Ig(w:DW):Nat->t_ Slot->(u_ Int->Nat->Prop)->Prop:=λn b P=>w n b λd c=>match d with
 |.int i=>P (P3 i) c
 |_=>False
theorem F3:DO X q_ DN:=⟨_,Q6,λC M H n b Z P Q R w q=>q _ H n (Ext.refl _ _) R.feed w⟩
theorem QL{U:Db->Prop}{K:Frag}{M:Db->Prop}{H b:Hp}{v:V}{i:Int}(h:VR K U M H b κ v (.int i)):v=.int i:=by
 cases κ with
 |sh=>exact h
 |tp=>exact h
 |fr=>obtain⟨a,_,_,t⟩:=h; exact(t).elim
theorem F2(h:DE X e κ wa):DO X (P3 e) (Ig wa):=by
 obtain⟨t,b,c⟩:=h;refine⟨_,Q5 b,λC M H n f Z P Q R w q=>?_⟩;refine c C M H n f Z _ _ R w λv H1 d g j k l p=>?_;cases d with
 |int i=>exact⟨i,QL l,q _ H1 g j k p⟩
 |_=>exact p.elim
def e9(K:Frag)(κ:Kd)(r:V->u_ Int->u_ Int->Hp->VK->Prop)(f:D->u_ Int->u_ Int->(D->Prop)->Prop):Prop:=∀(U:Db->Prop) (M:Db->Prop) (H:Hp) (d:D) (x:V) (c e:u_ Int) (P:D->Prop) (Q:VK),(∀a,M a->∃o,H a=P3 o)->(∀a,U a->M a)->
 AtT K U M H d x->f d c e P->(∀v b z,Grow H b->VR K U M H b κ v z->P z->Q v b)->r x c e H Q
def Ye(f:D->u_ Int->u_ Int->(D->Prop)->Prop)(w:DW)(c e:Nat->t_ Slot->(u_ Int->Nat->Prop)->Prop):DW:=λn b P=>w n b λd g=>c g b λh i=>e i b λj k=>f d h j λz=>P z k
theorem L8{i j:u_ gB}{k:Pos}{r:V->u_ Int->u_ Int->Hp->VK->Prop}{f:D->u_ Int->u_ Int->(D->Prop)->Prop}{s x:Nat->t_ Slot->(u_ Int->Nat->Prop)->Prop}(B:SlR X r)(E:e9 X.K κ r f)(F:DE X e zT wa)(G:DO X i s)(I:DO X j x):
  DE X (.Subscript e (.Slice i j q_ k) pos) κ (Ye f wa s x):=by
 obtain⟨t,J,L⟩:=F;obtain⟨u,N,O⟩:=G;obtain⟨u',S,T⟩:=I;refine⟨_,OL B J N S,λC M H n l Z P Q R w q=>?_⟩;refine L C M H n l Z _ _ R w λv H1 d U m W Y p=>?_;have o:=R.step m W;have tv:=Y.tpOf R.dom R.vM;refine O C M H1 U l Z _ _ o p λi H2 n2 c f2 k=>?_;have b:=o.step c f2;refine T C M H2 n2 l Z _ _ b k λj H3 n3 h y p3=>?_;have A:=b.step h y;refine E C.V M H3 d v i j _ _ A.dom A.vM ((tv.pres (o.pres c) c R.uV).pres (b.pres h) h R.uV) p3 λv H4 z g vr pz=>?_;exact q v H4 z n3 (((m.trans c).trans h).trans g.ext) (y.grow g) (VR.back ((m.trans c).trans h) vr) pz
end
structure E2 where
 nx:Nat->List Slot->Prop
 rt:D->Nat->Prop
 bk:Nat->List Slot->Prop:=λ_ _=>False
 ct:Nat->List Slot->Prop:=λ_ _=>False
abbrev AZ:=E2->Nat->t_ Slot->Prop
structure Hl (K:Frag) (C:Fm) (κ:Kd) (D2:E2) (E:Ends):Prop where
 nx:∀M H n ρ Z,Rel K C M H n ρ Z->D2.nx n ρ->E.nx Z H
 rt:∀v H d n,Ext C.U C.H0 H->FeedC K C.F C.M0 H n->VR K C.V C.M0 C.H0 H κ v d->D2.rt d n->E.rt v H
 bk:∀M H n ρ Z,Rel K C M H n ρ Z->D2.bk n ρ->E.bk Z H
 ct:∀M H n ρ Z,Rel K C M H n ρ Z->D2.ct n ρ->E.ct Z H
def DS(X:Cx)(c:Kd)(d:gG)(w:AZ):Prop:=∃t,PS X d t/\∀(C:Fm) (M:Db->Prop) (H:Hp) (n:Nat) (a:t_ Slot) (Z:L2.St) (b:E2) (E:Ends),Rel X.K C M H n a Z->Hl X.K C c b E->w b n a->t E Z H
def Pb(X:Cx)(c:Kd)(d:t_ gG)(w:AZ):Prop:=∃t,PSs X d t/\∀(C:Fm) (M:Db->Prop) (H:Hp) (n:Nat) (a:t_ Slot) (Z:L2.St) (b:E2) (E:Ends),Rel X.K C M H n a Z->Hl X.K C c b E->w b n a->t E Z H
def Ay:AZ:=λa n b=>a.nx n b
def Af(u v:AZ):AZ:=λa n b=>u {a with nx:=v a} n b
def As(w:DW):AZ:=λa n b=>w n b λd c=>a.rt d c
def BC(t:Hm)(u v:AZ):AZ:=λb n a=>t n a λc d=>if c=r_ then u b d a else v b d a
def A5(i:Nat)(w:DW):AZ:=λb n a=>w n a λd c=>b.nx c (a.set i (.sh d))
section
variable {X:Cx}{κ zS:Kd}{st:Stmt}{rest:t_ Stmt}{u v:AZ}{wa:DW}{wA:Hm}{e c:Expr}{pos:Pos}
theorem Aj:Pb X κ [] Ay:=⟨_,G4,λC M H n a Z b E R L w=>L.nx M H n a Z R w⟩
theorem AG(c:DS X κ st u)(d:Pb X κ rest v):Pb X κ (st::rest) (Af u v):=by
 obtain⟨t,e,f⟩:=c;obtain⟨i,g,h⟩:=d;exact⟨_,Az e g,λC M H n a Z b E R L w=>f C M H n a Z {b with nx:=v b} _ R ⟨λM H n a Z R w=>h C M H n a Z b E R L w,L.rt,L.bk,L.ct⟩ w⟩
theorem AJ(a:DS X κ st u):Pb X κ [st] u:=by
 obtain⟨t,b,c⟩:=a;exact⟨t,BQ b,c⟩
theorem Zg{K:Frag}{C:Fm}{M:Db->Prop}{H g:Hp}{n h:Nat}{j:t_ Slot}{Z:L2.St}{i:E2}{E:Ends}{d:D}{v:V}(R:Rel K C M H n j Z)(L:Hl K C κ i E)(e:Ext C.U H g)(f:FeedC K C.F M g h)(r:VR K C.V M H g κ v d)(o:κ≠.tp)(p:i.rt d h):E.rt v g:=by
 have c:Pres M g _ g:=Pres.less R.sub;refine L.rt v g d h (R.ext.trans e) (f.pres c λ_ _ _ z=>z) ?_ p;cases κ with
 |sh=>exact At.pres c r
 |tp=>grind
 |fr=>
  obtain⟨a,k,l,m⟩:=VR.back R.ext r;exact⟨a,k,l,m.pres (Pres.less λb z=>z.imp (R.sub b) id) λ_ z=>z⟩
theorem AW(h:DE X e κ wa)(a:κ≠.tp:=by intro z; cases z):DS X κ (.Return (P3 e) pos) (As wa):=by
 obtain⟨t,b,c⟩:=h;exact⟨_,FE b,λC M H n f Z k E R L w=>c C M H n f Z _ _ R w λv l d m g i j p=>Zg R L g i j a p⟩
theorem A8{a b:t_ gG}(i:DT X c wA)(j:Pb X κ a u)(k:Pb X κ b v):DS X κ (.If c a b pos) (BC wA u v):=by
 obtain⟨t,l,m⟩:=i;obtain⟨y,o,q⟩:=j;obtain⟨r,s,x⟩:=k;refine⟨_,Ln l o s,λC M H n d Z e E R L w=>?_⟩;refine m C M H n d Z _ _ R w λb H1 f g h p=>?_;cases b with
 |true=>exact q C M H1 f d Z e E (R.step g h) L p
 |false=>exact x C M H1 f d Z e E (R.step g h) L p
theorem Ag{i:Nat}{x:Str}{a:Pos}(b:X.N.Nodup)(c:X.N[i]?=P3 x)(f:Loc X.env.scope x)(g:DE X e zS wa)(h:zS≠.tp:=by intro z; cases z)(j:swapsWith e (P3 (.Name x a)) pos.line X.env=pure s_:=by rfl)
  (k:X.fn x=r_\/X.env.scope.names.lookup x=P3 .local:=by first|exact .inl rfl|exact .inr rfl|assumption):DS X κ (.Assign [.Name x a] e pos) (A5 i wa):=by
 obtain⟨t,l,m⟩:=g;exact⟨_,DA b c f l j k,λC M H n o Z A E R L w=>m C M H n o Z _ _ R w λv q d r s u y p=>L.nx M q r _ _ ((R.step s u).set (y.shOf R.dom h)) p⟩
end
section
variable {X:Cx}{κ:Kd}{e:Expr}{wa:DW}{pos:Pos}
def Jr(i:Nat)(w:DW):AZ:=λb n a=>w n a λd c=>b.nx c (a.set i (.ow d))
theorem F1{i:Nat}{x:Str}{b:Pos}(c:X.N.Nodup)(f:X.N[i]?=P3 x)(g:Loc X.env.scope x)(h:DE X e .fr wa)(j:swapsWith e (P3 (.Name x b)) pos.line X.env=pure s_:=by rfl)
  (k:X.fn x=r_\/X.env.scope.names.lookup x=P3 .local:=by first|exact .inl rfl|exact .inr rfl|assumption):DS X κ (.Assign [.Name x b] e pos) (Jr i wa):=by
 obtain⟨t,l,m⟩:=h;refine⟨_,DA c f g l j k,λC M H n o Z B E R L w=>?_⟩;refine m C M H n o Z _ _ R w λv q d r s u y p=>?_;obtain⟨a,rfl,z,A⟩:=y;exact L.nx _ q r _ _ (R.setOw s u z A) p
def Wo(i:Nat)(w:AZ):AZ:=λb n a=>∃d,a[i]?=P3 (.ow d)/\w b n (a.set i (.sh d))
theorem aJ{K:Frag}{C:Fm}{M:Db->Prop}{H:Hp}{n:Nat}{b:t_ Slot}{Z:L2.St}{i:Nat}{d:D}(R:Rel K C M H n b Z)(c:b[i]?=P3 (.ow d)):∃e,Rel K C e H n (b.set i (.sh d)) Z:=by
 obtain⟨a,f,_⟩:=R.sl i _ c;exact⟨_,R.freeze c f⟩
theorem RS{a:t_ gG}{w:AZ}(i:Nat)(h:Pb X κ a w):Pb X κ a (Wo i w):=by
 obtain⟨t,b,c⟩:=h;refine⟨t,b,λC M H n l Z e E R L ⟨d,f,g⟩=>?_⟩;obtain⟨j,k⟩:=aJ R f;exact c C j H n _ Z e E k L g
def T7(i:Nat):AZ:=λa n b=>∃d,b[i]?=P3 (.ow d)/\a.rt d n
theorem YC{x:Str}{p:Pos}(i:Nat)(h:PE X (.Name x p) (BN i)):DS X .fr (.Return (P3 (.Name x p)) pos) (T7 i):=by
 refine⟨_,FE h,λC M H n g Z j E R L ⟨d,c,f⟩=>?_⟩;obtain⟨a,e,m,k,t⟩:=R.sl i _ c;exact⟨_,getD_some e,L.rt _ H d n R.ext (R.feed.pres (Pres.less R.sub) λ_ _ _ z=>z) ⟨a,rfl,(R.new i _ a c rfl e).2,t.pres (Pres.less λb z=>z.elim (R.sub b) λz=>by grind) λ_ z=>z⟩ f⟩
def Yb(K:Frag)(r:V->t_ V->Hp->VK->Prop)(f:D->t_ D->(D->D->Prop)->Prop):Prop:=∀(M:Db->Prop) (H:Hp) (a:Db) (d:D) (b:t_ D) (c:t_ V) (P:D->D->Prop) (Q:VK),M a->Tops K M H a d->Ats K M H b c->f d b P->
 (∀o e z v,Tops K M (A2 H a o) a e->At K M (A2 H a o) z v->P e z->Q v (A2 H a o))->r (.ref a) c H Q
def Wm(i:Nat)(T:String)(f:D->t_ D->(D->D->Prop)->Prop)(b:Dh):AZ:=λc n a=>∃d,a[i]?=P3 (.ow d)/\em T d/\b n a λg h=>f d g λe _=>c.nx h (a.set i (.ow e))
theorem Cw{M:Db->Prop}{H:Hp}{a:Db}{o u:HO}(m:M a)(e:H a=P3 u)(t:∀c,u≠.tup c:=by intro _ z; cases z):Pres M H M (A2 H a o):=⟨λb f q d=>by rw[AM (λz=>d (by simp_all))]; exact q,λ_ z=>.inl z,λb c q=>by rw[AM (λz=>by grind)]; exact q⟩
theorem O0{x name:Str}{p c b:Pos}{T w:String}{r:V->t_ V->Hp->VK->Prop}{f:D->t_ D->(D->D->Prop)->Prop}{j:t_ gB}{I:Dh}(i:Nat)(N:PlainAttrs T)(q:PySem.Slot T name w)(y:typeOf (.builtin w)=pure (.type "method_descriptor"))
  (O:cz X w r) (P:Yb X.K r f) (h:PE X (.Name x p) (BN i)) (Q:ZH X (e::j) I)
  (k:attributeBase (.Name x p) name X.env (eval (.Name x p) X.env)=eval (.Name x p) X.env:=by rfl)
  (s:((backTo b (starEach (e::j) X.env)).all (λx=>!x.1)&&(backToKw b (keywordEach [] X.env)).all (λx=>x.1.isSome)
   && decide ((e::j).length+([]:t_ j8).length+(if([]:t_ j8).isEmpty then 0 else 1)<30))=r_:=by rfl)
  (l:(c.endLine==b.line)=r_:=by rfl) (S:starEach (e::j) X.env=(s_,eval e X.env)::starEach j X.env:=by rfl) (g:(backTo b (starEach j X.env)).any (·.1)=s_:=by rfl)
  (A:swapsWith (.Call (.Attribute (.Name x p) name c) (e::j) [] b) q_ pos.line X.env=pure s_:=by rfl):
  DS X κ (.Expr (.Call (.Attribute (.Name x p) name c) (e::j) [] b) pos) (Wm i T f I):=by
 obtain⟨t,U,W⟩:=Q;refine⟨_,XJ (b9 N q y O h U k s l S g) A,λC M H n Y Z D2 E R L ⟨d,B,hT,hw⟩=>?_⟩;obtain⟨a,F,m,nv,tt⟩:=R.sl i _ B;refine⟨.ref a,getD_some F,aE hT (tt.att nv),?_⟩;refine W C M H n Y Z _ _ R hw λvs H1 ds n1 ee f1 r1 p=>?_;have J:=R.step ee f1;obtain⟨a',u,m',a0,G⟩:=J.sl i _ B;rw[F]at u;cases u;exact P M H1 a d ds vs _ _ m' G r1 p λo d' z v t2 hz pp=>L.nx M _ n1 _ Z (J.mut B F t2) pp
def Xz(d:D)(b:t_ D)(P:D->D->Prop):Prop:=∃a y,d=.lst a/\b=[y]/\a.length<sizeLine/\P (.lst (a++[y])) .non
theorem ZC{K:Frag}:Yb K Qy Xz:=by
 intro M H a d j k P Q m t e w q;obtain⟨l,y,rfl,rfl,f,w⟩:=w;obtain⟨g,b,c⟩:=t;obtain⟨u,r,rfl,h,i⟩:=e;cases(i);exact⟨a,g,u,rfl,rfl,b,by rw[c.length]; exact f,q _ (.lst _) .non _ ⟨_,AR,(c.append (Ats.one h)).pres (Cw m b)⟩ rfl w⟩
def Vu(d:D)(c:t_ D)(P:D->D->Prop):Prop:=∃a b,d=.lst a/\c=[.lst b]/\a.length+b.length<=sizeLine/\P (.lst (a++b)) .non
theorem ZA{K:Frag}:Yb K Qx Vu:=by
 intro M H a d o p P Q m t g w q;obtain⟨s,v,rfl,rfl,h,w⟩:=w;obtain⟨i,c,e⟩:=t;obtain⟨u,r,rfl,j,k⟩:=g;cases(k);obtain⟨b,l,rfl,n,f⟩:=j;exact⟨a,b,i,l,rfl,rfl,c,n.2,by rw[e.length,f.length]; exact h,q _ (.lst _) .non _ ⟨_,AR,(e.append f).pres (Cw m c)⟩ rfl w⟩
end
def Yields(K:Frag)(M:Db->Prop)(H:Hp)(J:It)(f:t_ D):Prop:=∀(i:Nat) (c:Db->Prop) (b:Hp),Pres M H c b->(∀a,c a->∃o,b a=P3 o)->
 (∀d,f[i]?=P3 d->J.go i b/\∀x e,J.yld i b x e->Grow b e/\At K c e d x)/\(f.length<=i->J.stop i b)
def Ro(K:Frag)(U M:Db->Prop)(H:Hp)(J:It)(f:t_ D):Prop:=∀(i:Nat) (c:Db->Prop) (b:Hp),Pres M H c b->Ext U H b->(∀a,c a->∃o,b a=P3 o)->
 (∀d,f[i]?=P3 d->J.go i b/\∀x e,J.yld i b x e->Grow b e/\At K c e d x)/\(f.length<=i->J.stop i b)
theorem Yields.e{K:Frag}{U M:Db->Prop}{H:Hp}{J:It}{a:t_ D}(h:Yields K M H J a):Ro K U M H J a:=λi b c p _ d=>h i b c p d
def bG(X:Cx)(g a:gB)(w:Dh):Prop:=∃c,PI X g a c/\∀(C:Fm) (M:Db->Prop) (H:Hp) (n:Nat) (d:t_ Slot) (Z:L2.St) (P:t_ D->Nat->Prop) (R:It->Hp->Prop),Rel X.K C M H n d Z->w n d P->
 (∀J b e f,Ext C.U H b->FeedC X.K C.F M b f->Ro X.K C.U M b J e->P e f->R J b)->c Z H R
def DI(X:Cx)(g a:gB)(w:Dh):Prop:=∃c,PI X g a c/\∀(C:Fm) (M:Db->Prop) (H:Hp) (n:Nat) (d:t_ Slot) (Z:L2.St) (P:t_ D->Nat->Prop) (R:It->Hp->Prop),Rel X.K C M H n d Z->w n d P->
 (∀J b e f,Ext C.U H b->FeedC X.K C.F M b f->Yields X.K M b J e->P e f->R J b)->c Z H R
def signs(x:Str):t_ D:=x.cps.toList.map λc=>.str ⟨#[c]⟩
def BL(w:DW):Dh:=λn c P=>w n c λd a=>match d with
 |.lst b=>P b a
 |.tup b=>P b a
 |.str x=>P (signs x) a
 |_=>False
theorem Na{K:Frag}{M:Db->Prop}{H:Hp}{a:Db}{b:t_ V}{f:t_ D}(h:NdL M H a b)(g:Ats K M H f b):Yields K M H (Wa K a) f:=by
 intro i o j p _;have c:SqL K j a b:=(h.pres p).sq;refine⟨λd k=>?_,λl=>⟨b,c,by rw[g.length]; exact l⟩⟩;obtain⟨v,e,m⟩:=(g.pres p).get k;refine⟨⟨b,v,c,e⟩,λx q y=>?_⟩;obtain⟨n,y⟩:=y;subst n
 have:=e.symm.trans (y b c)
 cases this;exact⟨.refl,m⟩
theorem Jo{K:Frag}{M:Db->Prop}{H:Hp}{a:Db}{b:t_ V}{f:t_ D}(h:NdT M H a b)(g:Ats K M H f b):Yields K M H (Tq K a) f:=by
 intro i o j p _;have c:SqT K j a b:=(h.pres p).sq;refine⟨λd k=>?_,λl=>⟨b,c,by rw[g.length]; exact l⟩⟩;obtain⟨v,e,m⟩:=(g.pres p).get k;refine⟨⟨b,v,c,e⟩,λx q y=>?_⟩;obtain⟨n,y⟩:=y;subst n
 have:=e.symm.trans (y b c)
 cases this;exact⟨.refl,m⟩
theorem yields_str{K:Frag}{M:Db->Prop}{H:Hp}{z:Str}:Yields K M H (dM z) (signs z):=by
 intro i h j p _;refine⟨λd a=>?_,λe=>?_⟩
 ·unfold signs at a
  rw[T0]at a
  have f:i<z.cps.size:=by
   cases q:z.cps.toList[i]? with
   |none=>simp_all
   |some c=>simpa using (ZB.mp q).1
  refine⟨f,λx k y=>?_⟩;obtain⟨g,c,l,rfl⟩:=y;subst g
  have:z.cps.toList[i]?=P3 c:=by grind
  rw[this]at a;have b:D.str ⟨#[c]⟩=d:=ft a;subst b;exact⟨.refl,rfl,by rw[gc]; show 1<=16777216; decide⟩
 ·show z.cps.size<=i
  unfold signs at e
  simp_all
def CZ(a:Int)(n:Nat):t_ D:=(gF n).map fun(i:Nat)=>.int (a+(i:Int))
theorem Gu{K:Frag}{M:Db->Prop}{H:Hp}{e:Int}{m:Nat}:Yields K M H (ZE e m) (CZ e m):=by
 intro i k l p _;refine⟨λd a=>?_,λg=>?_⟩
 ·unfold CZ at a
  rw[T0]at a
  have f:=by
   cases q:(gF m)[i]? with
   |none=>simp_all
   |some c=>simpa using (ZB.mp q).1
  rw[List.getElem?_range f]at a;have b:=ft a;subst b;refine⟨f,λx n y=>?_⟩;obtain⟨h,j⟩:=y;subst h;exact⟨.refl,j⟩
 ·show m<=i
  unfold CZ at g
  simp_all
section
variable {X:Cx}{tg e e2:Expr}{κ:Kd}{wa:DW}{ws:Dh}{p pos:Pos}
theorem IU(h:DE X e κ wa)(m:κ≠.tp:=by intro z; cases z):DI X tg e (BL wa):=by
 obtain⟨t,o,r⟩:=h;refine⟨_,P8 o,λC M H n s Z P x R w q=>?_⟩;refine r C M H n s Z _ _ R w λv H1 d c f g u p=>?_;have i:=u.shOf R.dom m;cases d with
 |lst j=>
  obtain⟨a,k,e,b,l⟩:=i;exact .inl ⟨a,e,⟨k,b.sq⟩,q _ H1 j c f g (Na b l) p⟩
 |tup j=>
  obtain⟨a,k,e,b,l⟩:=i;exact .inr (.inl ⟨a,e,⟨k,b.sq⟩,q _ H1 j c f g (Jo b l) p⟩)
 |str z=>exact .inr (.inr ⟨z,i.1,q _ H1 _ c f g yields_str p⟩)
 |_=>exact p.elim
def Js(ws:Dh):Dh:=λn a P=>ws n a λb c=>∃j:Int,b=[.int j]/\(-(2 ^ 62)<=j/\j<2 ^ 62)/\P (CZ 0 j.toNat) c
theorem EB(b:Gl X "range")(c:X.mg "range"=q_)(d:Yc X [e] ws)(f:starEach [e] X.env=[(s_,eval e X.env)]:=by rfl):DI X tg (.Call (.Name "range" p) [e] [] pos) (Js ws):=by
 obtain⟨t,g,h⟩:=d;refine⟨_,Cz b c g f,λC M H n i Z P u R w q=>?_⟩;refine h C M H n i Z _ _ R w λv H1 x k l m o p=>?_;obtain⟨j,rfl,a,p⟩:=p;cases o with
 |cons r s=>
  cases s;exact⟨j,by rw[r],a.1,a.2,q _ H1 _ k l m Gu p⟩
theorem DI.c(h:DI X tg e ws):bG X tg e ws:=by
 obtain⟨a,b,d⟩:=h;exact⟨a,b,λC M H n f Z P g R w q=>d C M H n f Z P g R w λJ i j k l m y p=>q J i j k l m y.e p⟩
theorem Bg(h:DE X e κ wa):bG X tg e (BL wa):=by
 obtain⟨t,A,B⟩:=h;refine⟨_,P8 A,λC M H n D Z P L R w q=>?_⟩;refine B C M H n D Z _ _ R w λv H1 d j k l E p=>?_;have f:AtT X.K C.V M H1 d v:=E.tpOf R.dom R.vM;cases d with
 | lst m=>
  obtain⟨a,b,e,s,c,g⟩:=f;refine .inl ⟨a,e,⟨b,.inl c⟩,q _ H1 m j k l (λi N F G ex _=>?_) p⟩
  have r:SqL X.K F a b:=by
   rcases c with c|⟨o,c⟩
   ·exact .inl (.inl (ex.keep c λz=>s (R.uV a z)))
   ·exact .inl (.inr ⟨o,ex.keep c λz=>s (R.uV a z)⟩)
  refine⟨λd I=>?_,λJ=>⟨b,r,by rw[g.length]; exact J⟩⟩;obtain⟨v,e,f⟩:=(g.pres G).get I;refine⟨⟨b,v,r,e⟩,λx O y=>?_⟩;obtain⟨e2,y⟩:=y;subst e2
  have:P3 v=P3 x:=e.symm.trans (y b r)
  cases this;exact⟨.refl,f⟩
 |tup m=>
  obtain⟨a,b,e,u,g⟩:=f;exact .inr (.inl ⟨a,e,⟨b,u.sq⟩,q _ H1 m j k l (Jo u g).e p⟩)
 |str z=>exact .inr (.inr ⟨z,f.1,q _ H1 _ j k l yields_str.e p⟩)
 |_=>exact p.elim
end
abbrev BW:=D->t_ Slot->(t_ Slot->Prop)->Prop
def DG(X:Cx)(f:gB)(b:BW):Prop:=∃g,PG X f g/\∀(C:Fm) (M:Db->Prop) (H:Hp) (n:Nat) (a:t_ Slot) (Z:L2.St) (d:D) (v:V) (P:t_ Slot->Prop) (Q:L2.St->Hp->Prop),Rel X.K C M H n a Z->At X.K M H d v->b d a P->
 (∀c e,Rel X.K C M H n c e->P c->Q e H)->g v Z H Q
def Al(i:Nat):BW:=λd a P=>P (a.set i (.sh d))
theorem Ah{X:Cx}{i:Nat}{x:Str}{pos:Pos}(a:X.N.Nodup)(b:X.N[i]?=P3 x)(c:Loc X.env.scope x)(e:X.fn x=r_\/X.env.scope.names.lookup x=P3 .local:=by first|exact .inl rfl|exact .inr rfl|assumption):DG X (.Name x pos) (Al i):=
 ⟨_,Bv a b c e,λC M H n f Z d v P Q R h w q=>q _ _ (R.set h) w⟩
def CI(b:BW)(a:AZ)(c:E2):t_ D->Nat->t_ Slot->Prop
 |[],n,e=>c.nx n e
 |d::f,n,e=>b d e λg=>a {c with nx:=CI b a c f,ct:=CI b a c f,bk:=c.nx} n g
def Gv(c:Dh)(b:BW)(a:AZ):AZ:=λe n d=>c n d λf g=>CI b a e f g d
theorem Rel.unpin{K:Frag}{C:Fm}{p:(Db->Prop)×Hp}{M:Db->Prop}{H:Hp}{n:Nat}{a:t_ Slot}{Z:L2.St}(R:Rel K {C with zH:=p::C.zH} M H n a Z):Rel K C M H n a Z:=
 ⟨R.len,R.sub,R.dom,R.ext,R.fU,R.uV,R.vM,R.feed,R.sl,λq b=>R.pin q (Rs _ b),R.br0,R.new,R.two,R.kept⟩
theorem Rel.pinned{K:Frag}{C:Fm}{M:Db->Prop}{H:Hp}{n:Nat}{a:t_ Slot}{Z:L2.St}(R:Rel K C M H n a Z):Rel K {C with zH:=(M,H)::C.zH} M H n a Z:=
 ⟨R.len,R.sub,R.dom,R.ext,R.fU,R.uV,R.vM,R.feed,R.sl,λq b=>(fi.mp b).elim (λe=>e▸Pres.refl M H) (R.pin q),R.br0,R.new,R.two,R.kept⟩
section
variable {X:Cx}{κ:Kd}{tg iter:Expr}{body:t_ Stmt}{src:Dh}{b:BW}{wb:AZ}{pos:Pos}
theorem CQ(S:PassesOwn (model X.prog X.w) X.A X.env X.xe)(T:X.calm=r_)(I:DI X tg iter src)(U:DG X tg b)(V:Pb X κ body wb)
  (W:∀x,foldedSetIterable iter X.env x=pure x:=by intro _; rfl):DS X κ (.For tg iter body [] pos) (Gv src b wb):=by
 obtain⟨wi,Y,a2⟩:=I;obtain⟨g,g1,g2⟩:=U;obtain⟨tb,b1,b2⟩:=V;refine⟨_,FF S T Y g1 b1 W,λC M H n N Z h E R L w=>?_⟩;refine a2 C M H n N Z _ _ R w λJ H1 a n1 e1 f1 y w1=>?_;have R1:=R.step e1 f1;refine⟨λi m v j=>m=a.length - i/\i<=a.length/\∃c k p,Rel X.K {C with zH:=(M,H1)::C.zH} c j k p v/\CI b wb h (a.drop i) k p,⟨a.length,by simp,fo _,M,n1,N,R1.pinned,w1⟩,?_⟩;rintro i m v j ⟨rfl,I,c,k,p,l,z⟩;have O:Pres M H1 c j:=l.pin (M,H1) Sc
 by_cases d:i<a.length
 ·have ed:a.drop i=a[i]::a.drop (i+1):=i5 d
  rw[ed]at z;obtain⟨go,yl⟩:=(y i c j O l.dom).1 a[i] (FM d);refine .inr ⟨go,λP o=>∃M2 B D,Rel X.K {C with zH:=(M,H1)::C.zH} M2 o B D P/\CI b wb h (a.drop (i+1)) B D,λP o ⟨M2,B,D,f,w2⟩=>⟨a.length - (i+1),by omega,rfl,d,M2,B,D,f,w2⟩,λx o hy=>?_⟩;obtain⟨Q,hx⟩:=yl x o hy;have f:=l.step Q.ext (l.feed.grow Q);refine g2 _ c o k p v a[i] x _ _ f hx z λzP zV R3 w3=>?_;refine b2 _ c o k zP zV {h with nx:=CI b wb h (a.drop (i+1)),ct:=CI b wb h (a.drop (i+1)),bk:=h.nx} _ R3 ⟨λq F r s G t u=>⟨q,r,s,t,u⟩,L.rt,λq F r s G t u=>L.nx q F r s G t.unpin u,λq F r s G t u=>⟨q,r,s,t,u⟩⟩ w3
 ·have e:i=a.length:=by omega
  subst e;rw[my]at z;exact .inl ⟨(y _ c j O l.dom).2 (Re _),L.nx c j k p v l.unpin z⟩
end
def GD(b:BW)(f:Hm)(g:DW)(P:t_ D->Nat->Prop):t_ D->t_ D->Nat->t_ Slot->Prop
 |[],a,n,_=>P a n
 |d::h,a,n,j=>b d j λe=>f n e λc i=>if c=r_ then g i e λy k=>GD b f g P h (a++[y]) k e else GD b f g P h a i e
def VO:Slot->Slot
 |.ow d=>.br d
 |.lt _ d=>.br d
 |s=>s
theorem Sv(s:Slot):(VO s).owns=s_:=by cases s <;>rfl
theorem Ec{a:t_ (u_ Nat)}{b:t_ Slot}{i:Nat}{s:Slot}(h:(a.map λo=>match o with|some i=>VO ((b[i]?).getD .no)|none=>Slot.no)[i]?=P3 s):s.owns=s_:=by
 rw[T0]at h;cases q:a[i]? with
 |none=>grind
 | some o=>
  rw[q]at h;cases o with
  |none=>
   rw[←ft h]; rfl
  |some j=>
   rw[←ft h]; exact Sv _
def HA(a:t_ (u_ Nat))(b:t_ Slot):t_ Slot:=a.map λo=>match o with
 |some i=>VO ((b[i]?).getD .no)
 |none=>.no
def Ba(f:t_ (u_ Nat))(a:Dh)(b:BW)(g:Hm)(h:DW):DW:=λn d P=>a n d λe i=>e.length<=10000000/\GD b g h (λc j=>P (.lst c) j) e [] i (HA f d)
def bF(X:Cx)(a:t_ gB)(w:Hm):Prop:=∃t,cv X a t/\∀(C:Fm) (M:Db->Prop) (H:Hp) (n:Nat) (d:t_ Slot) (Z:L2.St) (P:Bool->Nat->Prop) (Q:Bool->Hp->Prop),Rel X.K C M H n d Z->w n d P->
 (∀b c e,Ext C.U H c->FeedC X.K C.F M c e->P b e->Q b c)->t Z H Q
def C4:Hm:=λn _ P=>P r_ n
theorem Be{X:Cx}:bF X [] C4:=⟨_,Q7,λC M H n a Z P Q R w q=>q _ H n (Ext.refl _ _) R.feed w⟩
theorem Jf{X:Cx}{c:gB}{w:Hm}(h:DT X c w):bF X [c] w:=by
 obtain⟨t,a,b⟩:=h;exact⟨t,XM a,b⟩
theorem Lv{c:t_ (u_ Nat)}{d:t_ Slot}{Z:L2.St}{i:Nat}{s:Slot}(a:(HA c d)[i]?=P3 s):s=.no\/∃(j:Nat) (b:Slot),d[j]?=P3 b/\s=VO b/\((CO c Z)[i]?).getD q_=(Z[j]?).getD q_:=by
 unfold HA at a;unfold CO;rw[T0]at a ⊢;cases q:c[i]? with
 |none=>simp_all
 | some o=>
  rw[q]at a;cases o with
  |none=>simp_all
  | some j=>
   have e:VO _=s:=ft a;cases f:d[j]? with
   |none=>rw[f]at e; exact .inl e.symm
   |some b=>
    rw[f]at e;exact .inr ⟨j,b,f,e.symm,rfl⟩
theorem Od{K:Frag}{F:u_ Fd}{U m M g:Db->Prop}{H h:Hp}{n:t_ (u_ Nat)}{o:t_ Slot}{Z:L2.St}(k:∀(i:Nat) (s:Slot),o[i]?=P3 s->SlotOk K F U M H s ((Z[i]?).getD q_))
  (p:Pres M H g h) (br:∀d v,AtT K U M H d v->AtT K m g h d v):∀(i:Nat) (s:Slot),(HA n o)[i]?=P3 s->SlotOk K F m g h s (((CO n Z)[i]?).getD q_):=by
 intro i s u
 rcases Lv u with rfl|⟨j,r,q,rfl,e⟩
 ·trivial
 ·rw[e]
  have c:=k j r q;cases r with
  |no=>trivial
  |sh d=>obtain⟨v,b,f⟩:=c; exact⟨v,b,f.pres p⟩
  |ex a y w x=>obtain⟨b,f⟩:=c; exact⟨b,f.pres p⟩
  |br d=>obtain⟨v,b,f⟩:=c; exact⟨v,b,br d v f⟩
  |fd=>exact c
  |wd w x=>exact c
  |ow d=>obtain⟨a,b,_,l,t⟩:=c; exact⟨_,b,br d _ (t.att l)⟩
  |lt a d=>obtain⟨b,_,l,t⟩:=c; exact⟨_,b,br d _ (t.att l)⟩
theorem RE{K:Frag}{F:u_ Fd}{U M:Db->Prop}{H:Hp}{k:t_ (u_ Nat)}{l:t_ Slot}{Z:L2.St}(g:∀(i:Nat) (s:Slot),l[i]?=P3 s->SlotOk K F U M H s ((Z[i]?).getD q_)){i:Nat}{d:D}{a:Db}
  (p:(HA k l)[i]?=P3 (.br d)) (m:((CO k Z)[i]?).getD q_=P3 (.ref a)):∃o,H a=P3 o:=by
 rcases Lv p with z|⟨j,n,q,z,e⟩
 ·cases z
 ·rw[e]at m
  have f:=g j n q;rw[m]at f;cases n with
  |br d=>obtain⟨v,c,r⟩:=f; cases c; exact r.lies
  |ow d=>obtain⟨b,c,_,h,t⟩:=f; cases c; exact(t.att h).lies
  |lt b d=>obtain⟨c,_,h,t⟩:=f; cases c; exact(t.att h).lies
  |no=>cases z
  |sh d=>cases z
  |ex a x u w=>cases z
  |fd=>cases z
  |wd u w=>cases z
section
variable {X:Cx}{zS:Kd}{tg elt iter:Expr}{ifs:t_ Expr}{sc:Scope}{pos:Pos}{src:Dh}{b:BW}{tt:Hm}{te:DW}
theorem YN(hc:X.calm=r_)(N':t_ Str)(js:t_ (u_ Nat))(hi:bG X tg iter src)(hg:∀I C s H L,DG (A6 X sc N' I C s H L) tg b)(ht:∀I C s H L,bF (A6 X sc N' I C s H L) ifs tt)(he:∀I C s H L,DE (A6 X sc N' I C s H L) elt zS te)
  (hB:Iu sc X.env.scope X.N N' js=r_) (hk:zS≠.tp:=by intro z; cases z)
  (hs:∀x,foldedSetIterable iter X.env x=pure x:=by intro _; rfl):DE X (.ListComp elt [⟨tg,iter,ifs,0⟩] sc pos) .fr (Ba js src b tt te):=by
 obtain⟨wi,a1,a2⟩:=hi;refine⟨_,XQ hc N' js a1 hB hs,λC M H n ρ Z P Q R w q=>?_⟩;refine a2 C M H n ρ Z _ _ R w λJ H1 r n1 A f1 y w1=>?_;obtain⟨b2,w1⟩:=w1;have R1:=R.step A f1;intro l hl b4 I Ca s0 H0 L;obtain⟨g,g1,g2⟩:=hg I Ca s0 H0 L;obtain⟨tc,c1,c2⟩:=ht I Ca s0 H0 L;obtain⟨tx,x1,x2⟩:=he I Ca s0 H0 L
 have a3:¬C.U l:=λz=>by
  obtain⟨o,z⟩:=R1.udom l z;rw[hl]at z; cases z
 generalize O:(λb=>M b\/b=l)=M';have a4:M' l:=by rw[←O]; exact .inr rfl
 have M'of:∀b,M b->M' b:=λb z=>by rw[←O]; exact .inl z
 have a0:∀b,M' b->M b\/b=l:=λb z=>by rw[←O]at z; exact z
 have a9:∀b,C.V b\/b=l->M' b:=λb z=>z.elim (λz=>M'of b (R1.vM b z)) λz=>by rw[z]; exact a4
 have b3:js.length=N'.length:=FS (CompOk.of hB).cap
 refine⟨g,tc,tx,λi m zZ D=>m=r.length - i/\i<=r.length/\∃n' zW k E,Rel X.K ⟨M',C.F,C.U,λb=>C.V b\/b=l,H1,[],[]⟩ M' D n' zW zZ/\D l=P3 (.lst E)/\Ats X.K M' D k E/\k.length<=i/\Pres M H1 M' D /\
   GD b tt te (λk n2=>P (.lst k) n2) (r.drop i) k n' zW,g1,c1,x1,⟨r.length,by simp,fo _,n1,HA js ρ,[],[],?_⟩,?_⟩
 ·have G:Grow H1 (A2 H1 l (.lst [])):=Av hl
  have S:Pres M H1 M' (A2 H1 l (.lst [])):=⟨λb o e _=>G.all b o e,λb z=>(a0 b z).elim .inl λz=>.inr (by rw[z]; exact hl),λb E e=>G.all b _ e⟩;refine⟨⟨?_,λa z=>z,λa z=>?_,G.ext,R1.fU,λa z=>.inl (R1.uV a z),a9,f1.pres S λf o _ e=>G.all f.1 o e,?_,λp hp=>absurd hp (by simp),λi d a q z=>RE R1.sl q z,λi s a q o _=>absurd o (by rw[Ec q]; decide),λi j s t a q o _ _ _ _=>absurd o (by rw[Ec q]; decide),λp hp=>absurd hp (by simp)⟩,AR,rfl,fo _,S,w1⟩
  ·unfold HA CO
   rw[Go,Go]
  ·rcases a0 a z with z|z
   ·obtain⟨o,z⟩:=R1.dom a z
    exact⟨o,G.all a o z⟩
   ·subst z
    exact⟨_,AR⟩
  ·refine Od R1.sl S λd v h=>h.same S (λa o _ e=>G.all a o e) λa e n1 z=>z.elim n1 λz=>?_
   subst e;obtain⟨o,w⟩:=h.lies;rw[z,hl]at w;cases w
 ·rintro i m zZ D ⟨rfl,hi,n',zW,k,E,R',a6,T,a7,S,w'⟩
  by_cases W:i<r.length
  ·have ed:r.drop i=r[i]::r.drop (i+1):=i5 W
   rw[ed]at w';obtain⟨go,yl⟩:=(y i M' D S R'.ext R'.dom).1 r[i] (FM W);refine .inr ⟨go,λx H2 hy=>?_⟩;obtain⟨G,hx⟩:=yl x H2 hy;have b0:=R'.step G.ext (R'.feed.grow G);refine g2 _ M' H2 n' zW zZ r[i] x _ _ b0 hx w' λzP zV R3 w3=>?_;refine c2 _ M' H2 n' zP zV _ _ R3 w3 λc H4 n4 e4 f4 w4=>?_;have R4:=R3.step e4 f4;have p4:Pres M' D M' H4:=G.pres.trans (R3.pres e4);have l4:H4 l=P3 (.lst E):=e4.keep (G.all _ _ a6) a3;cases c with
   |false=>exact⟨r.length - (i+1),by omega,rfl,W,n4,zP,k,E,R4,l4,T.pres p4,by omega,S.trans p4,w4⟩
   | true=>
    refine x2 _ M' H4 n4 zP zV _ _ R4 w4 λyv H5 d5 n5 e5 f5 r5 w5=>?_;have B:=R4.step e5 f5;have p5:Pres M' H4 M' H5:=R4.pres e5;have l5:H5 l=P3 (.lst E):=e5.keep l4 a3;have b1:=r5.shOf R4.dom hk;have a5:=(T.pres p4).pres p5;have pu:Pres M' H5 M' (A2 H5 l (.lst (E++[yv]))):=Cw a4 l5;have b5:E.length=k.length:=T.length;refine⟨E,l5,by rw[gc]; omega,r.length - (i+1),by omega,rfl,W,n5,zP,k++[d5],E++[yv],?_,AR,(a5.append (Ats.one b1)).pres pu,by rw[fw,gC]; omega,(S.trans p4).trans (p5.trans pu),w5⟩;refine⟨B.len,B.sub,λa z=>?_,λb o e=>?_,B.fU,B.uV,B.vM,?_,λj s hs=>?_,λp hp=>absurd hp (by simp),B.br0,B.new,B.two,λp hp=>absurd hp (by simp)⟩
    ·by_cases ha:a=l
     ·subst ha; exact⟨_,AR⟩
     ·rw[AM ha]; exact B.dom a z
    ·obtain⟨o',q1,q2⟩:=B.ext b o e
     by_cases hb:b=l
     ·subst hb
      have e':H1 b=P3 o:=e;rw[hl]at e'; cases e'
     ·exact⟨o',by rw[AM hb]; exact q1,q2⟩
    ·refine f5.pres pu λf o hf e=>?_
     rw[AM (λz=>a3 (by rw[←z]; exact R1.fU f hf))];exact e
    ·have u:=B.sl j s hs
     cases s with
     |no=>trivial
     |sh d=>obtain⟨v,A,Y⟩:=u; exact⟨v,A,Y.pres pu⟩
     |ex a nm ks r=>obtain⟨A,Y⟩:=u; exact⟨A,Y.pres pu⟩
     | br d=>
      obtain⟨v,A,Y⟩:=u;refine⟨v,A,Y.same pu (λa o z e=>?_) λ_ _ z=>z⟩;subst z;obtain⟨o3,w⟩:=B.br0 j d a hs A
      have a7:a≠l:=λz=>by
       have w':H1 a=P3 o3:=w;rw[z,hl]at w'; cases w'
      rw[AM a7]; exact e
     |ow d=>
      obtain⟨a,A,Y,_⟩:=u;exact absurd Y (B.new j _ a hs rfl A).1
     |lt a d=>
      obtain⟨A,Y,_⟩:=u;exact absurd Y (B.new j _ a hs rfl A).1
     |fd=>exact u
     |wd ks r=>exact u
  ·have e:i=r.length:=by omega
   subst e;rw[my]at w';refine .inl ⟨(y _ M' D S R'.ext R'.dom).2 (Re _),?_⟩;have eb:Ext C.U H1 D:=R'.ext;have a8:Pres M' D M D:=Pres.less M'of;refine q _ D (.lst k) n' (A.trans eb) (R'.feed.pres a8 λ_ _ _ z=>z) (VR.back A ?_) w';exact⟨l,rfl,hl,E,a6,by rw[O]; exact T⟩
end
theorem Lm{K:Frag}{F:u_ Fd}{U k M:Db->Prop}{H:Hp}{n:Nat}{c:t_ Slot}{f:t_ V}{N:t_ Str}(h:aw K F U k M H n c f)(I:f.length<=N.length):
  Rel K ⟨M,F,U,k,H,[],[]⟩ M H n (c++UF (N.length - c.length) .no) (L2.start N f):=by
 obtain⟨u,A,B,C,fd,q⟩:=h;have D:f.length=c.length:=Paired.length q
 have E:∀{f:t_ V}{c:t_ Slot}{i:Nat}{s:Slot},Paired (MN K F k M H) f c->c[i]?=P3 s->∃v,f[i]?=P3 v/\MN K F k M H v s:=by
  intro f c i s q
  induction q generalizing i with
  |nil=>intro e; simp at e
  | cons r t G=>
   intro e;cases i with
   |zero=>simp at e; subst e; exact⟨_,rfl,r⟩
   |succ i=>
    obtain⟨v,l,m⟩:=G (i:=i) (by simpa using e);exact⟨v,by simpa using l,m⟩
 have g:∀(i:Nat) (s:Slot),(c++UF (N.length - c.length) Slot.no)[i]?=P3 s->s=.no\/∃v,((L2.start N f)[i]?).getD q_=P3 v/\MN K F k M H v s:=by
  intro i s b
  by_cases x:i<c.length
  ·rw[jX x]at b
   obtain⟨v,l,m⟩:=E q b;refine .inr ⟨v,?_,m⟩;unfold L2.start;rw[jX (by rw[Go,D]; exact x),T0,l];rfl
  ·rw[iT (by omega),kZ]at b
   split at b
   ·exact .inl (ft b).symm
   ·cases b
 refine⟨?_,λa z=>z,u,Ext.refl _ _,A,B,C,fd,λi s b=>?_,λp w=>absurd w (by simp),λi d a b y=>?_,λi s a b o _=>?_,λi j s t a b o _ _ _ _=>?_,λp w=>absurd w (by simp)⟩
 ·unfold L2.start
  simp only[fw,Go,nU];omega
 ·rcases g i s b with rfl|⟨v,e,h⟩
  ·trivial
  ·rw[e]; exact h.1
 ·rcases g i _ b with z|⟨v,e,h⟩
  ·cases z
  ·rw[e]at y
   cases y;obtain⟨v,l,m⟩:=h.1;cases l;exact m.lies
 ·rcases g i s b with rfl|⟨v,e,h⟩
  ·cases o
  ·rw[h.2]at o; cases o
 ·rcases g i s b with rfl|⟨v,e,h⟩
  ·cases o
  ·rw[h.2]at o; cases o
theorem eA{P:gD}{w:gK}{K:Frag}{u:Str->u_ Ev}{e:fu}{x b:Str}{j:gG}{f:Db}{fd:gZ}{N g:t_ Str}{k:Nat}{m:Kd}{W:W2}{y:AZ}(F:Fun K x b j f fd)(S:Ac N g (AN j))(D:g.length<=N.length)
  (G:∀(c:Ev) (A:gS) (a:t_ Env) (s:On) (H:Hp) (E:XK),Room k (A.deeper (envOfC b (AN j) s.heap.objs.size f c))->Pb (IV B1 P w K u e N b (AN j) f c A a s H E).nox m (Bh j) y)
  (hW:∀l n i,l.length=g.length->W l n i->y {nx:=λn _=>m=.sh/\i .non n,rt:=i} n (l++UF (N.length - g.length) .no)):
  A3 P w K u e B1 (k+1) f fd g (Ck K m W g.length):=by
 refine F.ok S (λB H Q E h=>h.1) (λc A a s H B Q E I h=>?_);obtain⟨hl,J,U,L,M,n,l,i,C,hw,q⟩:=h;obtain⟨t,O,T⟩:=G c A a s H E I;refine⟨t,O,?_⟩;have el:B.length=l.length:=Paired.length C.2.2.2.2.2;have R:=Lm (N:=N) C (by omega);refine T ⟨M,J,U,L,H,[],[]⟩ M H n _ _ {nx:=λn _=>m=.sh/\i .non n,rt:=i} _ R ⟨λM1 H1 o zR zL r p=>?_,λv H1 d o V X Y p=>q v H1 d o V X Y p,λ_ _ _ _ _ _ z=>z.elim,λ_ _ _ _ _ _ z=>z.elim⟩ ?_
 ·obtain⟨Z,p⟩:=p
  subst Z;exact q .non H1 .non o r.ext (r.feed.pres (Pres.less r.sub) λ_ _ _ z=>z) rfl p
 grind
end Dp
namespace L2
section
variable {X:Cx}
theorem Inv.rdl{c:t_ (Db×Obj)}{Z:L2.St}{H:Hp}{s:On}{l:Db}{b:t_ V}(I:Inv X c Z H s)(h:Rd H l (.lst b)):b.length<=sizeLine/\∃(a:t_ Ev) (n:Nat),Vals b a/\b.length=a.length/\s.heap.get? l=P3 {cls:=.type "list",data:=.seq a.toArray n}:=by
 obtain⟨z,a,n,r,e⟩:=h.ok I.hok;exact⟨z,_,n,r,r.length,e⟩
theorem XY:OpR X (binaryOp .Add) (λx y H Q=>∃l b d f,x=.ref l/\y=.ref b/\Rd H l (.lst d)/\Rd H b (.lst f)/\d.length+f.length<=sizeLine/\∀p,H p=q_->Q (.ref p) (A2 H p (.lst (d++f)))):=by
 intro A s Z H x y v u Q I g i h;obtain⟨l,b,d,f,rfl,rfl,j,k,B,q⟩:=h;cases g;cases i;obtain⟨z,c,n,r,C,e⟩:=I.rdl j;obtain⟨D,a,E,m,o,t⟩:=I.rdl k;refine PySem.P.add_list e t ?_ (by grind);have w:c.toArray++a.toArray=(c++a).toArray:=by simp
 rw[w];exact⟨.ref _,_,I.lnew (r.append m) (by grind),rfl,q _ I.fresh⟩
end
end L2
namespace Dp
open L2
section
variable {K:Frag}
theorem AtT.int{U M:Db->Prop}{H:Hp}{i:Int}{v:V}(h:AtT K U M H (.int i) v):v=.int i:=h
theorem AtT.bl{U M:Db->Prop}{H:Hp}{i:Bool}{v:V}(h:AtT K U M H (.bl i) v):v=.bl i:=h
theorem AtT.str{U M:Db->Prop}{H:Hp}{x:Str}{v:V}(h:AtT K U M H (.str x) v):v=.str x/\x.length<=sizeLine:=h
theorem AtT.tup{U M:Db->Prop}{H:Hp}{b:t_ D}{v:V}(h:AtT K U M H (.tup b) v):∃a c,v=.ref a/\NdT M H a c/\Ats K M H b c:=h
def dI(g:Int->Int->(D->Prop)->Prop)(d e:D)(P:D->Prop):Prop:=match d,e with
 |.int i,.int j=>g i j P
 |_,_=>False
theorem M_{g:Int->Int->(D->Prop)->Prop}{d e:D}{P:D->Prop}(w:dI g d e P):∃i j,d=.int i/\e=.int j/\g i j P:=by
 unfold dI at w
 split at w
 ·grind
 grind
def f2(g:Int->Int->D):D->D->(D->Prop)->Prop:=dI λi j P=>P (g i j)
def We(C:Int->Int->Prop)(g:Int->Int->D):D->D->(D->Prop)->Prop:=dI λi j P=>C i j/\P (g i j)
theorem WW{g:Int->Int->Int}:F9 K .sh (Ij λi j=>.int (g i j)) (f2 λi j=>.int (g i j)):=by
 intro U M H d e x y P Q a f b c w q;obtain⟨i,j,rfl,rfl,w⟩:=M_ w;exact⟨i,j,b,c,q _ H (.int _) .refl rfl w⟩
theorem NR{g:Int->Int->Bool}:F9 K .sh (Ij λi j=>.bl (g i j)) (f2 λi j=>.bl (g i j)):=by
 intro U M H d e x y P Q a f b c w q;obtain⟨i,j,rfl,rfl,w⟩:=M_ w;exact⟨i,j,b,c,q _ H (.bl _) .refl rfl w⟩
theorem Ek{C:Int->Int->Prop}{g:Int->Int->Int}:F9 K .sh (rI C λi j=>.int (g i j)) (We C λi j=>.int (g i j)):=by
 intro U M H d e x y P Q a f b c w q;obtain⟨i,j,rfl,rfl,w⟩:=M_ w;exact⟨i,j,b,c,w.1,q _ H (.int _) .refl rfl w.2⟩
def dH(g:Str->Str->(D->Prop)->Prop)(d e:D)(P:D->Prop):Prop:=match d,e with
 |.str i,.str j=>g i j P
 |_,_=>False
theorem RN{g:Str->Str->(D->Prop)->Prop}{d e:D}{P:D->Prop}(w:dH g d e P):∃i j,d=.str i/\e=.str j/\g i j P:=by
 unfold dH at w
 split at w
 ·grind
 grind
theorem WT{g:Str->Str->Bool}:F9 K .sh (λx y H Q=>∃i j,x=.str i/\y=.str j/\Q (.bl (g i j)) H) (dH λi j P=>P (.bl (g i j))):=by
 intro U M H d e x y P Q a f b c w q;obtain⟨i,j,rfl,rfl,w⟩:=RN w;exact⟨i,j,b.1,c.1,q _ H (.bl _) .refl rfl w⟩
theorem Tc:F9 K .sh (λx y H Q=>∃i j,x=.str i/\y=.str j/\i.length+j.length<=sizeLine/\Q (.str (i++j)) H) (dH λi j P=>i.length+j.length<=sizeLine/\P (.str (i++j))):=by
 intro U M H d e x y P Q a f b c w q;obtain⟨i,j,rfl,rfl,w⟩:=RN w;exact⟨i,j,b.1,c.1,w.1,q _ H (.str _) .refl ⟨rfl,by rw[Str.length_append i j]; exact w.1⟩ w.2⟩
def eB(g:t_ D->t_ D->(D->Prop)->Prop)(d e:D)(P:D->Prop):Prop:=match d,e with
 |.tup i,.tup j=>g i j P
 |_,_=>False
def eE(g:t_ D->t_ D->(D->Prop)->Prop)(d e:D)(P:D->Prop):Prop:=match d,e with
 |.lst i,.lst j=>g i j P
 |_,_=>False
theorem Xv{g:t_ D->t_ D->(D->Prop)->Prop}{d e:D}{P:D->Prop}(w:eB g d e P):∃i j,d=.tup i/\e=.tup j/\g i j P:=by
 unfold eB at w
 split at w
 ·grind
 grind
theorem Xx{g:t_ D->t_ D->(D->Prop)->Prop}{d e:D}{P:D->Prop}(w:eE g d e P):∃i j,d=.lst i/\e=.lst j/\g i j P:=by
 unfold eE at w
 split at w
 ·grind
 grind
theorem D_{M:Db->Prop}{H:Hp}{p:Db}{b:t_ V}{c:t_ D}(d:∀a,M a->∃o,H a=P3 o)(e:H p=q_)(h:Ats K M H c b):At K M (A2 H p (.tup b)) (.tup c) (.ref p):=⟨p,b,rfl,AR,h.pres (Av e).pres⟩
theorem Cg{U M:Db->Prop}{H:Hp}{p:Db}{a:t_ V}{b:t_ D}(c:H p=q_)(h:Ats K M H b a):VR K U M H (A2 H p (.lst a)) .fr (.ref p) (.lst b):=
 ⟨p,rfl,c,a,AR,h.pres (Ge c)⟩
theorem Tb:F9 K .sh (Uw K) (eB λi j P=>i≠[]/\i.length+j.length<=sizeLine/\P (.tup (i++j))):=by
 intro U M H d e x y P Q c u o r w q;obtain⟨i,j,rfl,rfl,w⟩:=Xv w;obtain⟨a,g,rfl,h,f⟩:=o.tup;obtain⟨b,s,rfl,t,k⟩:=r.tup;have l:=f.length;have m:=k.length;refine⟨a,b,g,s,rfl,rfl,h.sq,t.sq,λz=>w.1 ?_,by simp_all,λz=>?_,λz p n=>?_⟩
 ·rw[z]at l; exact jn.mp l.symm
 ·rw[z]at m
  have:j=[]:=jn.mp m.symm
  subst this;exact q _ H (.tup i) .refl ⟨a,g,rfl,h,f⟩ (by grind)
 ·exact q _ _ (.tup (i++j)) (Av n) (D_ c n (f.append k)) w.2.2
theorem Td:F9 K .fr (λx y H Q=>∃l b c f,x=.ref l/\y=.ref b/\Rd H l (.lst c)/\Rd H b (.lst f)/\c.length+f.length<=sizeLine/\∀p,H p=q_->Q (.ref p) (A2 H p (.lst (c++f)))) (eE λi j P=>i.length+j.length<=sizeLine/\P (.lst (i++j))):=by
 intro U M H d e x y P Q m v n o w q;obtain⟨i,j,rfl,rfl,w⟩:=Xx w;obtain⟨a,r,rfl,_,s,g⟩:=n;obtain⟨b,t,rfl,_,u,h⟩:=o;exact⟨a,b,r,t,rfl,rfl,s,u,by rw[g.length,h.length]; exact w.1,λp k=>q _ _ _ (Av k) (Cg k (g.append h)) w.2⟩
def Ku(a:Bool)(d e:D)(P:D->Prop):Prop:=match d,e with
 |.bl i,.bl j=>P (.bl (if a then !(i==j)else i==j))
 |.int i,.int j=>P (.bl (if a then !(i==j)else i==j))
 |.str i,.str j=>P (.bl (if a then !(i==j)else i==j))
 |_,_=>False
theorem RP{a:Bool}{d e:D}{P:D->Prop}(w:Ku a d e P):(∃i j,d=.bl i/\e=.bl j/\P (.bl (if a then !(i==j)else i==j)))\/(∃i j,d=.int i/\e=.int j/\P (.bl (if a then !(i==j)else i==j)))\/∃i j,d=.str i/\e=.str j/\P (.bl (if a then !(i==j)else i==j)):=by
 unfold Ku at w
 split at w
 ·simp_all
 ·simp_all
 ·simp_all
 grind
theorem NS:F9 K .sh eh (Ku s_):=by
 intro U M H d e x y P Q c f a b w q
 rcases RP w with⟨i,j,rfl,rfl,w⟩|⟨i,j,rfl,rfl,w⟩|⟨i,j,rfl,rfl,w⟩
 ·rw[a.bl,b.bl]; exact⟨rfl,q _ H _ .refl (by rw[NI]; rfl) w⟩
 ·rw[a.int,b.int]; exact⟨rfl,q _ H _ .refl (by rw[Ji]; rfl) w⟩
 ·rw[a.str.1,b.str.1]; exact⟨rfl,q _ H _ .refl (by rw[Jh]; rfl) w⟩
theorem NQ:F9 K .sh eY (Ku r_):=by
 intro U M H d e x y P Q c f a b w q
 rcases RP w with⟨i,j,rfl,rfl,w⟩|⟨i,j,rfl,rfl,w⟩|⟨i,j,rfl,rfl,w⟩
 ·rw[a.bl,b.bl]; exact⟨rfl,q _ H _ .refl (by rw[NI]; rfl) w⟩
 ·rw[a.int,b.int]; exact⟨rfl,q _ H _ .refl (by rw[Ji]; rfl) w⟩
 ·rw[a.str.1,b.str.1]; exact⟨rfl,q _ H _ .refl (by rw[Jh]; rfl) w⟩
def Va:D->Bool
 |.non=>r_
 |_=>s_
theorem Ot{U M:Db->Prop}{H:Hp}{d:D}{x:V}(h:AtT K U M H d x):decide (x=.non)=Va d:=by
 cases d with
 |non=>rw[h]; rfl
 |bl b=>rw[h.bl]; rfl
 |int i=>rw[h.int]; rfl
 |str z=>rw[h.str.1]; rfl
 |tup c=>obtain⟨a,e,rfl,_⟩:=h.tup; rfl
 |lst c=>obtain⟨a,e,rfl,_⟩:=h; rfl
 |dic f c=>obtain⟨a,e,rfl,_⟩:=h; rfl
 |fdi f c=>obtain⟨a,e,rfl,_⟩:=h; rfl
 |dit f c=>obtain⟨a,e,rfl,_⟩:=h; rfl
def BA(d e:D)(P:D->Prop):Prop:=match d,e with
 |.lst a,.int i=>∃z,atI a i=P3 z/\P z
 |.tup a,.int i=>∃z,atI a i=P3 z/\P z
 |.str x,.int i=>∃c,atI x.cps.toList i=P3 c/\P (.str ⟨#[c]⟩)
 |_,_=>False
theorem Xy{d e:D}{P:D->Prop}(w:BA d e P):(∃a i z,d=.lst a/\e=.int i/\atI a i=P3 z/\P z)\/(∃a i z,d=.tup a/\e=.int i/\atI a i=P3 z/\P z)\/∃x i c,d=.str x/\e=.int i/\atI x.cps.toList i=P3 c/\P (.str ⟨#[c]⟩):=by
 unfold BA at w
 split at w
 ·simp_all
 ·simp_all
 ·simp_all
 grind
theorem Ats.atI{M:Db->Prop}{H:Hp}{a:t_ D}{b:t_ V}{i:Int}{z:D}(h:Ats K M H a b)(e:atI a i=P3 z):∃v,L2.atI b i=P3 v/\At K M H z v:=by
 unfold L2.atI at e ⊢;rw[h.length];cases q:Tl _ i with
 |none=>grind
 |some j=>
  rw[q]at e;exact h.get e
theorem Am:F9 K .sh (eZ K) BA:=by
 intro U M H d e x y P Q n r f g w q
 rcases Xy w with⟨o,i,z,rfl,rfl,h,w⟩|⟨o,i,z,rfl,rfl,h,w⟩|⟨x,i,c,rfl,rfl,p,w⟩
 ·obtain⟨a,j,rfl,_,k,l⟩:=f
  obtain⟨v,m,b⟩:=l.atI h;exact .inl ⟨a,j,i,v,rfl,g,.inl k,m,q v H z .refl b w⟩
 ·obtain⟨a,j,rfl,k,l⟩:=f.tup
  obtain⟨v,m,b⟩:=l.atI h;exact .inr (.inl ⟨a,j,i,v,rfl,g,k.sq,m,q v H z .refl b w⟩)
 ·exact .inr (.inr ⟨x,i,c,f.str.1,g,f.str.2,p,q _ H (.str _) .refl ⟨rfl,by show 1<=16777216; decide⟩ w⟩)
def cutD{b:Type}(a:t_ b)(c d:u_ Int):t_ b:=(a.drop (HT.sIx a.length 0 c)).take (HT.sIx a.length a.length d - HT.sIx a.length 0 c)
theorem D4{R:V->D->Prop}{a:t_ V}{d:D}(h:Paired R a [d]):∃v,a=[v]/\R v d:=by
 cases h with
 |cons r t=>cases t; grind
def di:D->u_ Nat
 |.str x=>P3 x.length
 |.tup a=>P3 a.length
 |.lst a=>P3 a.length
 |_=>q_
def B6(a:t_ D)(P:D->Prop):Prop:=∃d n,a=[d]/\di d=P3 n/\P (.int (n:Int))
theorem BU:CJ K .sh (λe H Q=>∃x n,e=[x]/\az K x H n/\Q (.int n) H) B6:=by
 intro U M H k l P Q i m j w q;obtain⟨d,n,rfl,b,w⟩:=w;obtain⟨v,rfl,c⟩:=D4 j;refine⟨v,n,rfl,?_,q _ H (.int _) .refl rfl w⟩;cases d with
 |str z=>cases b; rw[c.str.1]; exact⟨c.str.2,rfl⟩
 |tup e=>
  cases b;obtain⟨a,f,rfl,g,h⟩:=c.tup;exact .inr ⟨f,g.sq,h.length.symm⟩
 |lst e=>
  cases b;obtain⟨a,f,rfl,_,g,h⟩:=c;exact .inl ⟨f,.inl g,h.length.symm⟩
 |_=>cases b
def allB:t_ D->u_ (t_ Bool)
 |[]=>P3 []
 |.bl b::r=>(allB r).map (b::·)
 |_::_=>q_
theorem Rl{M:Db->Prop}{H:Hp}:∀{d:t_ D}{a:t_ V}{c:t_ Bool},allB d=P3 c->Ats K M H d a->a=c.map V.bl
 |[],a,c,e,h=>by cases e; exact h
 |.bl b::r,a,c,e,h=>by
  obtain⟨v,l,f,g,i⟩:=h;obtain⟨j,k,rfl⟩:=f7.mp e;rw[f,Rl k i,g];rfl
 |.non::r,a,c,e,h=>by cases e
 |.int _::r,a,c,e,h=>by cases e
 |.str _::r,a,c,e,h=>by cases e
 |.tup _::r,a,c,e,h=>by cases e
 |.lst _::r,a,c,e,h=>by cases e
 |.dic _ _::r,a,c,e,h=>by cases e
 |.fdi _ _::r,a,c,e,h=>by cases e
 |.dit _ _::r,a,c,e,h=>by cases e
def cR(c:t_ D)(P:D->Prop):Prop:=∃a b,c=[.lst a]/\allB a=P3 b/\P (.bl (b.all id))
theorem cf:CJ K .sh (λc H Q=>∃(p:Db) (b:t_ Bool),c=[.ref p]/\SqL K H p (b.map V.bl)/\Q (.bl (b.all id)) H) cR:=by
 intro U M H j k P Q d l f w q;obtain⟨c,b,rfl,e,w⟩:=w;obtain⟨v,rfl,g⟩:=D4 f;obtain⟨a,m,rfl,_,h,i⟩:=g
 have:=Rl e i
 subst this;exact⟨a,b,rfl,.inl h,q _ H (.bl _) .refl rfl w⟩
def Qg:t_ D->u_ (t_ Str)
 |[]=>P3 []
 |.str b::r=>(Qg r).map (b::·)
 |_::_=>q_
theorem Rj{M:Db->Prop}{H:Hp}:∀{d:t_ D}{a:t_ V}{c:t_ Str},Qg d=P3 c->Ats K M H d a->a=c.map V.str
 |[],a,c,e,h=>by cases e; exact h
 |.str b::r,a,c,e,h=>by
  obtain⟨v,l,f,g,i⟩:=h;obtain⟨j,k,rfl⟩:=f7.mp e;rw[f,Rj k i,g.1];rfl
 |.non::r,a,c,e,h=>by cases e
 |.int _::r,a,c,e,h=>by cases e
 |.bl _::r,a,c,e,h=>by cases e
 |.tup _::r,a,c,e,h=>by cases e
 |.lst _::r,a,c,e,h=>by cases e
 |.dic _ _::r,a,c,e,h=>by cases e
 |.fdi _ _::r,a,c,e,h=>by cases e
 |.dit _ _::r,a,c,e,h=>by cases e
def M9(b:t_ D)(P:D->Prop):Prop:=match b with
 |[.lst a]=>P (.lst a)
 |[.tup a]=>P (.lst a)
 |_=>False
theorem Rn:CJ K .fr (λi H Q=>∃p c,i=[.ref p]/\(SqL K H p c\/SqT K H p c)/\∀l,H l=q_->Q (.ref l) (A2 H l (.lst c))) M9:=by
 intro U M H k m P Q j n h w q;unfold M9 at w
 split at w
 ·obtain⟨v,rfl,d⟩:=D4 h
  obtain⟨a,e,rfl,_,f,g⟩:=d;exact⟨a,e,rfl,.inl (.inl f),λl b=>q _ _ _ (Av b) (Cg b g) w⟩
 ·obtain⟨v,rfl,d⟩:=D4 h
  obtain⟨a,e,rfl,f,g⟩:=d.tup;exact⟨a,e,rfl,.inr f.sq,λl b=>q _ _ _ (Av b) (Cg b g) w⟩
 grind
end
def c_:D->String
 |.non=>"NoneType"
 |.bl _=>"bool"
 |.int _=>"int"
 |.str _=>"str"
 |.tup _=>"tuple"
 |.lst _=>"list"
 |.dic _ _=>"dict"
 |.fdi _ _=>"dict"
 |.dit _ _=>"dict"
def cE(t T:String):Bool:=t==T||(t=="bool"&&T=="int")
def GK(T:String)(a:DW):DW:=λn b P=>a n b λd c=>P (.bl (cE (c_ d) T)) c
structure WZ (K:Frag) (T:String):Prop where
 ans:∀t∈["NoneType","bool","int","str","tuple","list","dict"],PySem.W.kitOne K (.type t) (.type T)=P3 (cE t T)
theorem Ws{K:Frag}{M U:Db->Prop}{H:Hp}{d:D}{x:V}(h:AtT K U M H d x):Gr K H x (.type (c_ d)):=by
 cases d with
 |non=>cases(h); exact .non
 |bl b=>cases h.bl; exact .bl b
 |int i=>cases h.int; exact .int i
 |str z=>cases h.str.1; exact .str z
 |tup e=>
  obtain⟨a,f,rfl,c,j⟩:=h.tup;exact .tup c
 |lst e=>
  obtain⟨a,f,rfl,_,c,j⟩:=h
  rcases c with c|⟨o,c⟩
  ·exact .lst c
  ·exact .frz c
 |dic g e=>
  obtain⟨a,f,rfl,_,c,_⟩:=h;exact .dK c
 |fdi g e=>
  obtain⟨a,f,rfl,⟨o,_,c⟩,_⟩:=h;exact .dF c
 |dit g e=>
  obtain⟨a,f,rfl,_,c,_⟩:=h;exact .dT c
theorem Wu(d:D):c_ d∈["NoneType","bool","int","str","tuple","list","dict"]:=by cases d <;>simp[c_]
theorem CD{X:Cx}{a:gB}{o:Kd}{l:DW}{T:String}{b:Str}{p c pos:Pos}(r:WZ X.K T)(s:DE X a o l)(u:Gl X "isinstance")(x:X.mg "isinstance"=q_)(e:Gl X b)(f:X.mg b=q_)(g:bootBuiltins b=P3 (.type T))
  (h:b ≠ "__name__":=by decide) (i:(b==("__debug__":Str))=s_:=by decide)
  (m:starEach [a,.Name b c] X.env=(s_,eval a X.env)::starEach [.Name b c] X.env:=by rfl) (j:starEach [.Name b c] X.env=[(s_,eval (.Name b c) X.env)]:=by rfl)
  (k:(backTo pos (starEach [.Name b c] X.env)).any (·.1)=s_:=by rfl):DE X (.Call (.Name "isinstance" p) [a,.Name b c] [] pos) .sh (GK T l):=by
 obtain⟨t,y,z⟩:=s;have A:PE X (.Name b c) (tC (.ty T)):=Q9 e f g rfl h i;exact⟨_,Cb PB u x (by decide +kernel) (Aq y (Aq A A9 j) m) (by decide) (by decide) m k,λC M H n B Z P Q R w q=>z C M H n B Z _ _ R w λv H1 d D E F G p=>⟨v,T,_,_,rfl,Ws (G.tpOf R.dom R.vM),r.ans _ (Wu d),q _ H1 (.bl _) D E F rfl p⟩⟩
section
variable {K:Frag}{X:Cx}
def Y3(d e:D)(P:D->Prop):Prop:=match d,e with
 |.int i,.int j=>P (.int (i+j))
 |.str i,.str j=>i.length+j.length<=sizeLine/\P (.str (i++j))
 |.tup i,.tup j=>i≠[]/\i.length+j.length<=sizeLine/\P (.tup (i++j))
 |.lst i,.lst j=>i.length+j.length<=sizeLine/\P (.lst (i++j))
 |_,_=>False
def bz:R2:=λx y H Q=>∃l b a c,x=.ref l/\y=.ref b/\Rd H l (.lst a)/\Rd H b (.lst c)/\a.length+c.length<=sizeLine/\∀p,H p=q_->Q (.ref p) (A2 H p (.lst (a++c)))
def bx:R2:=λx y H Q=>∃i j,x=.str i/\y=.str j/\i.length+j.length<=sizeLine/\Q (.str (i++j)) H
def Yl(g:Str->Str->Bool):R2:=λx y H Q=>∃i j,x=.str i/\y=.str j/\Q (.bl (g i j)) H
def Ux(K:Frag):R2:=λx y H Q=>(Ij λi j=>.int (i+j)) x y H Q\/bx x y H Q\/Uw K x y H Q\/bz x y H Q
theorem op_addU:OpR X (binaryOp .Add) (Ux X.K):=op_add.or ((QA).or (op_catT.or (XY)))
theorem NT:F9 X.K .sh (Ux X.K) Y3:=λU M H d e x y P Q a b c f w q=>by
 unfold Y3 at w
 split at w
 ·exact .inl (WW U M H _ _ x y P Q a b c f w q)
 ·exact .inr (.inl (Tc U M H _ _ x y P Q a b c f w q))
 ·exact .inr (.inr (.inl (Tb U M H _ _ x y P Q a b c f w q)))
 ·exact .inr (.inr (.inr (Td U M H _ _ x y P Q a b c f w λv h z g r p=>q v h z g (r.shOf a (by grind)) p)))
 grind
def cP(d e:D)(P:D->Prop):Prop:=match d,e with
 |.int i,.int j=>P (.bl (decide (i<j)))
 |.str i,.str j=>P (.bl (decide (i.cps.toList<j.cps.toList)))
 |_,_=>False
def Zi:R2:=λx y H Q=>(Ij λi j=>.bl (decide (i<j))) x y H Q\/Yl (λi j=>decide (i.cps.toList<j.cps.toList)) x y H Q
theorem op_ltU:OpR X (compareOp .Lt) Zi:=op_lt.or Sb
theorem Y9:F9 X.K .sh Zi cP:=λU M H d e x y P Q a b c f w q=>by
 unfold cP at w
 split at w
 ·exact .inl (NR U M H _ _ x y P Q a b c f w q)
 ·exact .inr (WT U M H _ _ x y P Q a b c f w q)
 grind
def aM(d e:D)(P:D->Prop):Prop:=match d,e with
 |.int i,.int j=>P (.bl (decide (i<=j)))
 |.str i,.str j=>P (.bl (!(decide (j.cps.toList<i.cps.toList))))
 |_,_=>False
def bn:R2:=λx y H Q=>(Ij λi j=>.bl (decide (i<=j))) x y H Q\/Yl (λi j=>!(decide (j.cps.toList<i.cps.toList))) x y H Q
theorem Zw:OpR X (compareOp .LtE) bn:=op_le.or Sd
theorem cZ:F9 X.K .sh bn aM:=λU M H d e x y P Q a b c f w q=>by
 unfold aM at w
 split at w
 ·exact .inl (NR U M H _ _ x y P Q a b c f w q)
 ·exact .inr (WT U M H _ _ x y P Q a b c f w q)
 grind
def bq:R2:=Ij λi j=>.bl (decide (j<i))
theorem FI:OpR X (compareOp .Gt) bq:=Yx
theorem Iv:F9 X.K .sh bq (f2 λi j=>.bl (decide (j<i))):=NR
def bu:R2:=Ij λi j=>.bl (decide (j<=i))
theorem VJ:OpR X (compareOp .GtE) bu:=Yy
theorem Y_:F9 X.K .sh bu (f2 λi j=>.bl (decide (j<=i))):=NR
def bc:V->u_ Int->u_ Int->Hp->VK->Prop:=λx a b H Q=>∃z,x=.str z/\z.length<=sizeLine/\Q (.str (Txt.slice z a b)) H
theorem sl_U:SlR X bc:=Ze
def Wn(w:DW):DW:=λn a P=>w n a λd b=>∃i,d=.int i/\P (.int (-i)) b
theorem WG{a:gB}{c:Kd}{b:DW}{pos:Pos}(h:DE X a c b):DE X (.UnaryOp .USub a pos) .sh (Wn b):=by
 obtain⟨t,e,f⟩:=h;refine⟨_,b8 ZP e,λC M H n g Z P Q R w q=>?_⟩;refine f C M H n g Z _ _ R w λv H1 d j k l m p=>?_;obtain⟨i,rfl,p⟩:=p;exact⟨i,QL m,q _ H1 (.int _) j k l rfl p⟩
def Got(P:gD)(w:gK)(K:Frag)(c:Str->u_ Ev)(a:fu)(x:Str)(k:Nat)(b:t_ Str)(e:Kd)(W:W2):Prop:=
 ∃f fd,A3 P w K c a B1 k f fd b (Ck K e W b.length)/\c x=P3 (.ref f)/\keepIn K (.ref f)=r_/\Binds K fd b []/\∀d n P,W d n P->d.length=b.length
theorem BF{e:gB}{a:t_ gB}{k:Nat}{h:t_ Str}{g:Kd}{W:W2}{x:Str}{p pos:Pos}{b:Wf}(G:Got X.prog X.w X.K X.mg X.base x k h g W)
  (i:Room k X.A) (j:Gl X x) (l:bB X (e::a) b)
  (c:(x==("__debug__":Str))=s_:=by decide) (m:starEach (e::a) X.env=(s_,eval e X.env)::starEach a X.env:=by rfl) (d:(backTo pos (starEach a X.env)).any (·.1)=s_:=by rfl):
  DE X (.Call (.Name x p) (e::a) [] pos) g (Ad W b):=by
 obtain⟨f,fd,G,n,o,q,r⟩:=G;exact YO G r i j n o q l c m d
theorem Xm:WZ K "int":=⟨λt a=>by
 simp at a
 rcases a with rfl|rfl|rfl|rfl|rfl|rfl|rfl <;>kernel_rfl⟩
theorem Oh:WZ K "bool":=⟨λt a=>by
 simp at a
 rcases a with rfl|rfl|rfl|rfl|rfl|rfl|rfl <;>kernel_rfl⟩
theorem RF:WZ K "str":=⟨λt a=>by
 simp at a
 rcases a with rfl|rfl|rfl|rfl|rfl|rfl|rfl <;>kernel_rfl⟩
theorem kit_tuple:WZ K "tuple":=⟨λt a=>by
 simp at a
 rcases a with rfl|rfl|rfl|rfl|rfl|rfl|rfl <;>kernel_rfl⟩
end
theorem PQ{b:Type}(p:b->Bool):∀l:t_ b,allB (l.map λc=>.bl (p c))=P3 (l.map p)
 |[]=>rfl
 |a::l=>by
  rw[f9];unfold allB;rw[PQ p l];rfl
theorem QM{P:gD}{w:gK}{K:Frag}{d:Str->u_ Ev}{a:fu}{x:Str}{h:gG}{f:Db}{fd:gZ}{k:Nat}{c:t_ Str}{e:Kd}{W:W2}(F:Fun K x x h f fd)(m:d x=P3 (.ref f))(b:Binds K fd c [])
  (i:∀g n P,W g n P->g.length=c.length) (ok:A3 P w K d a B1 k f fd c (Ck K e W c.length)):Got P w K d a x k c e W:=⟨f,fd,ok,m,F.kp,b,i⟩
def N3(K:Frag):Sp:=λc H Q _=>∃a b,c=[V.ref a]/\(kz (α:=Int) b<=63/\SqL K H a (b.map V.int))/\∀d,Q (.bl r_) d
def MU(K:Frag):Sp:=λe H Q _=>∃a b,e=[V.ref a]/\(kz (α:=Int) b<=63/\SqL K H a (b.map V.int)) /\
 ∀(c f:Db) (d:Hp),c≠f->d c=P3 (.lst (b.map V.int))->d f=P3 (.lst [.ref c,.int 0,.int 0])->Q (.ref f) d
theorem cV{a:t_ Int}(h:a.length<=63):O4 (a.map V.int) q_ (P3 63)=a.map V.int:=by
 have e:HT.sIx (a.map V.int).length (a.map V.int).length (P3 63)=a.length:=by
  rw[show(63:Int)=(63:Nat)from rfl,HT.sIx_nat,Go,Nat.min_eq_right h]
 unfold O4;rw[HT.sIx_none]
 grind
theorem cJ{P:gD}{w:gK}{K:Frag}{J:Str->u_ Ev}{u:fu}{C O:gG}{B:t_ gG}{f:Db}{fd:gZ}{D:t_ Str}{k n0:Nat}{T:AZ}(F:Fun K "law" "law" C f fd)
  (S:Ac ("_law_script"::"_law_feed_here"::D) ["_law_script"] (AN C)) (L:Bh C=O::B) (Y:n0<=2 ^ 60)
  (Z:∀(n:Ev) (A:gS) (l:t_ Env) (s:On) (H:Hp) (E:XK),Room k (A.deeper (envOfC "law" (AN C) s.heap.objs.size f n))->
   PS (IV B1 P w K J u ("_law_script"::"_law_feed_here"::D) "law" (AN C) f n A l s H E).nox O (Nx (Qq (MU K) [] E0 (Nw (BN 0) R0)) (Il 1)))
  (h2:∀(n:Ev) (A:gS) (l:t_ Env) (s:On) (H:Hp) (E:XK),Room k (A.deeper (envOfC "law" (AN C) s.heap.objs.size f n))->
   Pb (IV B1 P w K J u ("_law_script"::"_law_feed_here"::D) "law" (AN C) f n A l s H E).nox .sh B T)
  (hW:T {nx:=λ_ _=>False,rt:=λd _=>d=.bl r_} n0 (.no::.fd::UF D.length .no)):A3 P w K J u B1 (k+1) f fd ["_law_script"] (N3 K):=by
 refine F.ok S (λvs H Q E h=>?_) (λn A l s H vs Q E U h=>?_)
 ·obtain⟨a,M,rfl,_⟩:=h
  rfl
 ·obtain⟨a,M,rfl,⟨W,hS⟩,q⟩:=h
  obtain⟨t,t1,t2⟩:=h2 n A l s H E U;refine⟨Pj (Nx (Qq (MU K) [] E0 (Nw (BN 0) R0)) (Il 1)) t,by rw[L]; exact Az (Z n A l s H E U) t1,?_⟩;refine⟨_,rfl,a,M,rfl,⟨W,hS⟩,λc g I G hc X=>?_⟩
  have y:∀(i:Nat) (x:Slot),(Slot.no::Slot.fd::UF D.length Slot.no)[i]?=P3 x->Slot.no=x\/(Slot.fd=x/\i=1):=by
   intro i x m
   match i,m with
   |0,m=>exact .inl (ft m)
   |1,m=>exact .inr ⟨ft m,rfl⟩
   |i+2,m=>
    rw[nA,nA,kZ]at m
    split at m
    ·exact .inl (ft m)
    ·cases m
  have R:Rel K ⟨λb=>b=g,P3 ⟨g,c,q_⟩,λb=>b=g,λb=>b=g,I,[],[]⟩ (λb=>b=g) I n0 (.no::.fd::UF D.length .no) ((start ("_law_script"::"_law_feed_here"::D) [V.ref a]).set 1 (P3 (.ref g))):=by
   refine⟨by simp[L2.start],λ_ z=>z,λb z=>⟨_,(congrArg I z).trans X⟩,Ext.refl _ _,λb z=>by rw[←ft z],λ_ z=>z,λ_ z=>z,λb z=>?_,λi x m=>?_,λp N=>absurd N (by simp),λi d b m _=>?_,λi x b m o _=>?_,λi j x t b m o _ _ _ _=>?_,λp N=>absurd N (by simp)⟩
   ·have e:(⟨g,c,q_⟩:Fd)=b:=ft z
    subst e;exact .inl ⟨rfl,0,0,M,X,G,⟨G,hc⟩,W,by decide,by omega⟩
   ·rcases y i x m with e|⟨e,rfl⟩
    ·rw[←e]; trivial
    ·rw[←e]
     exact⟨⟨g,c,q_⟩,by simp[L2.start],rfl,rfl⟩
   ·rcases y i _ m with e|⟨e,_⟩ <;>cases e
   ·rcases y i x m with e|⟨e,_⟩ <;>(rw[←e]at o; cases o)
   ·rcases y i x m with e|⟨e,_⟩ <;>(rw[←e]at o; cases o)
  refine t2 _ _ I n0 _ _ {nx:=λ_ _=>False,rt:=λd _=>d=.bl r_} _ R ⟨λ_ _ _ _ _ _ z=>z.elim,λv H2 d n' _ _ r p=>?_,λ_ _ _ _ _ _ z=>z.elim,λ_ _ _ _ _ _ z=>z.elim⟩ hW;have e:d=.bl r_:=p;subst e;have e2:v=.bl r_:=r;subst e2;exact q H2
end Dp
namespace L2
section
variable {X:Cx}
theorem Gw:∀{a:t_ Ev}{b:t_ Str},StrsAre a b->Vals (b.map V.str) a
 |_,_,.nil=>.nil
 |_,_,.cons x t r=>.cons ⟨t,rfl⟩ (Gw r)
def Uq(K:Frag):t_ V->Hp->VK->Prop:=λc H Q=>∃(p:Db) (b:t_ Str),c=[.ref p]/\SqL K H p (b.map V.str)/\b.length<64/\∀(a:t_ Str) (l:Db),a.Perm b->sortedS a=r_->H l=q_->Q (.ref l) (A2 H l (.lst (a.map V.str)))
theorem Qc:By X (.builtin "sorted") (Uq X.K):=by
 intro y s Z H A B Q I r h;obtain⟨p,C,rfl,f,g,q⟩:=h;obtain⟨u,rfl,i⟩:=vals1 r;cases i;obtain⟨j,c,k,D⟩:=I.list f;have a:=c.length;rw[Go]at a;refine sorted_strs k.isList (Pl c) (by omega) λl m n d t=>?_;obtain⟨e,v⟩:=sortedAll_at _ _ _;have w:=d.length_eq;have x:=I.hok.fresh (iO _);refine⟨.ref _,_,I.laid (λb o z=>sortedAll_old z) (iO _) (show ObjOk _ _ _ _ _ (.lst _)from⟨?_,_,e,Gw n,?_⟩),rfl,q _ _ d t x⟩
 ·grind
 ·exact v
def Yo:R2:=λx y H Q=>∃z k,x=.str z/\y=.int k/\MulOk z k/\Q (.str (Txt.mul z k)) H
theorem XX:OpR X (binaryOp .Mult) Yo:=by
 intro e s Z H x y v u Q I a b h;obtain⟨z,k,rfl,rfl,c,q⟩:=h;obtain⟨t,rfl⟩:=a;obtain⟨d,rfl⟩:=b;exact SB.mul c λd k=>⟨.str _,H,I.tok _,⟨_,rfl⟩,q⟩
end
end L2
namespace Dp
open L2
section
variable {K:Frag}
def B2(b:t_ D)(P:D->Prop):Prop:=match b with
 |[.lst a]=>P (.tup a)
 |[.tup a]=>P (.tup a)
 |_=>False
theorem Cj:CJ K .sh (λj H Q=>∃p d,j=[.ref p]/\((SqL K H p d/\∀l,H l=q_->Q (.ref l) (A2 H l (.tup d)))\/(SqT K H p d/\Q (.ref p) H))) B2:=by
 intro U M H k m P Q e n h w q;unfold B2 at w
 split at w
 ·obtain⟨v,rfl,f⟩:=D4 h
  obtain⟨a,b,rfl,_,c,g⟩:=f;exact⟨a,b,rfl,.inl ⟨.inl c,λl i=>q _ _ (.tup _) (Av i) (D_ e i g) w⟩⟩
 ·obtain⟨v,rfl,f⟩:=D4 h
  obtain⟨a,b,rfl,c,g⟩:=f.tup;exact⟨a,b,rfl,.inr ⟨c.sq,q _ H (.tup _) .refl ⟨a,b,rfl,c,g⟩ w⟩⟩
 grind
theorem Ats.strs{M:Db->Prop}{H:Hp}:∀{a:t_ Str},(∀x∈a,x.length<=sizeLine)->Ats K M H (a.map D.str) (a.map V.str)
 |[],_=>rfl
 |x::r,h=>⟨_,_,rfl,⟨rfl,h x Sc⟩,Ats.strs λy b=>h y (Rs _ b)⟩
theorem Ats.strs_le{M:Db->Prop}{H:Hp}:∀{b:t_ Str}{c:t_ V},Ats K M H (b.map D.str) c->∀x∈b,x.length<=sizeLine
 |[],_,_=>λx a=>by cases a
 |y::r,c,h=>λx a=>by
  obtain⟨v,t,e,d,f⟩:=h
  rcases fi.mp a with rfl|a
  ·exact d.2
  ·exact Ats.strs_le f x a
def Vq(d:t_ D)(P:D->Prop):Prop:=∃(c:t_ D) (b:t_ Str),d=[.lst c]/\Qg c=P3 b/\b.length<64/\∀a:t_ Str,a.Perm b->sortedS a=r_->P (.lst (a.map .str))
theorem Rk:∀{c:t_ D}{a:t_ Str},Qg c=P3 a->c=a.map .str
 |[],a,h=>by cases h; rfl
 |.str b::r,a,h=>by
  obtain⟨t,e,rfl⟩:=f7.mp h;rw[f9,←Rk e]
 |.non::r,a,h=>by cases h
 |.int _::r,a,h=>by cases h
 |.bl _::r,a,h=>by cases h
 |.tup _::r,a,h=>by cases h
 |.lst _::r,a,h=>by cases h
 |.dic _ _::r,a,h=>by cases h
 |.fdi _ _::r,a,h=>by cases h
 |.dit _ _::r,a,h=>by cases h
theorem YX:CJ K .fr (Uq K) Vq:=by
 intro U M H p r P Q h s i w q;obtain⟨t,j,rfl,e,b,w⟩:=w;obtain⟨v,rfl,c⟩:=D4 i;obtain⟨a,u,rfl,_,k,d⟩:=c
 have:=Rj e d
 subst this;have m:=Rk e;subst m;exact⟨a,j,rfl,.inl k,b,λn l f o g=>q _ _ _ (Av g) (Cg g (Ats.strs λx c=>d.strs_le x (f.mem_iff.mp c))) (w _ f o)⟩
def DX(d e:D)(P:D->Prop):Prop:=match d,e with
 |.int i,.int j=>CMul i j/\P (.int (i*j))
 |.str z,.int k=>MulOk z k/\(Txt.mul z k).length<=sizeLine/\P (.str (Txt.mul z k))
 |_,_=>False
def Yp:R2:=λx y H Q=>(rI CMul λi j=>.int (i*j)) x y H Q\/Yo x y H Q
theorem CT{X:Cx}:OpR X (binaryOp .Mult) Yp:=op_mul.or XX
theorem Du:F9 K .sh Yp DX:=λU M H d e x y P Q a f b c w q=>by
 unfold DX at w
 split at w
 ·exact .inl (Ek U M H _ _ x y P Q a f b c w q)
 ·rename_i z k
  exact .inr ⟨z,k,b.1,c,w.1,q _ H (.str _) .refl ⟨rfl,w.2.1⟩ w.2.2⟩
 grind
end
section
variable {X:Cx}{tg e e2:Expr}{es:t_ Expr}{ws:Dh}{p pos:Pos}
def Le(ws:Dh):Dh:=λn a P=>ws n a λb c=>∃i j:Int,b=[.int i,.int j]/\(-(2 ^ 62)<=i/\i<2 ^ 62/\-(2 ^ 62)<=j/\j<2 ^ 62)/\P (CZ i (j - i).toNat) c
theorem IT(d:Gl X "range")(f:X.mg "range"=q_)(g:Yc X [e,e2] ws)(h:starEach [e,e2] X.env=[(s_,eval e X.env),(s_,eval e2 X.env)]:=by rfl)(a:starEach [e2] X.env=[(s_,eval e2 X.env)]:=by rfl):DI X tg (.Call (.Name "range" p) [e,e2] [] pos) (Le ws):=by
 obtain⟨t,k,l⟩:=g;refine⟨_,SU d f k h a,λC M H n m Z P A R w q=>?_⟩;refine l C M H n m Z _ _ R w λB H1 D o s u v p=>?_;obtain⟨i,j,rfl,x,p⟩:=p;cases v with
 | cons r b=>
  cases b with
  |cons y b=>
   cases b;have z:=r;have c:=y;exact⟨i,j,by rw[z,c],x,q _ H1 _ o s u Gu p⟩
def dP(X:Cx)(h:t_ gB)(b:t_ D->t_ Slot->(t_ Slot->Prop)->Prop):Prop:=∃g,cw X h g/\∀(C:Fm) (M:Db->Prop) (H:Hp) (n:Nat) (a:t_ Slot) (Z:L2.St) (c:t_ D) (d:t_ V) (P:t_ Slot->Prop) (Q:L2.St->Hp->Prop),Rel X.K C M H n a Z->Ats X.K M H c d->b c a P->
 (∀e f,Rel X.K C M H n e f->P e->Q f H)->g d Z H Q
def EC:t_ D->t_ Slot->(t_ Slot->Prop)->Prop:=λa b P=>a=[]/\P b
def A_(b:BW)(bs:t_ D->t_ Slot->(t_ Slot->Prop)->Prop):t_ D->t_ Slot->(t_ Slot->Prop)->Prop:=λa c P=>match a with
 |d::r=>b d c λe=>bs r e P
 |[]=>False
theorem Eg:dP X [] EC:=⟨_,Mg,λC M H n a Z b c P Q R h w q=>by
 obtain⟨rfl,w⟩:=w;exact⟨h,q a Z R w⟩⟩
theorem BE{b:BW}{bs:t_ D->t_ Slot->(t_ Slot->Prop)->Prop}(c:DG X e b)(f:dP X es bs)(i:(assignEach (e::es) X.env).map (·.2)=assign e X.env::(assignEach es X.env).map (·.2):=by rfl):dP X (e::es) (A_ b bs):=by
 obtain⟨g,j,k⟩:=c;obtain⟨z,l,m⟩:=f;refine⟨_,DB j l i,λC M H n o Z s A P Q R h w q=>?_⟩;cases s with
 |nil=>exact w.elim
 |cons d r=>
  obtain⟨v,a,e,t,u⟩:=h;exact⟨v,a,e,k C M H n o Z d v _ _ R t w λB E x y=>m C M H n _ _ r a _ _ x u y q⟩
def IZ(k:Nat)(bs:t_ D->t_ Slot->(t_ Slot->Prop)->Prop):BW:=λd b P=>match d with
 |.tup a=>a.length=k/\bs a b P
 |_=>False
theorem Gi{bs:t_ D->t_ Slot->(t_ Slot->Prop)->Prop}{k:Nat}{j:Nat}(f:X.calm=r_)(h:dP X es bs)(i:(assignEach es X.env).length=k:=by rfl)(b:(assignEach es X.env).findIdx? (·.1)=q_:=by rfl):DG X (.Tuple es j pos) (IZ k bs):=by
 obtain⟨g,l,m⟩:=h;refine⟨_,P9 f l i b,λC M H n o Z d v P Q R h w q=>?_⟩;cases d with
 |tup r=>
  obtain⟨a,c,rfl,s,e⟩:=h;exact⟨a,c,rfl,s.sq,by rw[e.length]; exact w.1,m C M H n o Z r c P Q R e w.2 q⟩
 |_=>exact w.elim
def Wp(c:DW)(b:BW):AZ:=λe n a=>c n a λd f=>b d a λg=>e.nx f g
theorem WA{j a:Kd}{c:DW}{b:BW}(k:DE X e a c)(l:DG X tg b)(m:a≠.tp:=by intro z; cases z)(o:swapsWithSole [tg] e pos.line X.env=pure s_:=by rfl)(q:swappedStores [tg] e X.env=pure q_:=by rfl)
  (r:(assignEach [tg] X.env).map (·.2)=[assign tg X.env]:=by rfl):DS X j (.Assign [tg] e pos) (Wp c b):=by
 obtain⟨t,s,u⟩:=k;obtain⟨g,x,y⟩:=l;exact⟨_,FG s x o q r,λC M H n f Z I E R L w=>u C M H n f Z _ _ R w λv h d i A B D p=>y C M h i f Z d v _ _ (R.step A B) (D.shOf R.dom m) p λJ K F G=>L.nx M h i _ _ F G⟩
end
end Dp
namespace L2
mutual
def RV(H:Hp):jt->V->Prop
 |.none,v=>v=.non
 |.bool b,v=>v=.bl b
 |.int i,v=>v=.int i
 |.str x,v=>v=.str x
 |.tuple xs,v=>∃a vs,v=.ref a/\H a=P3 (.tup vs)/\RVs H xs vs
 |.list xs,v=>∃a vs,v=.ref a/\Rd H a (.lst vs)/\RVs H xs vs
 |.dict _,_=>False
def RVs(H:Hp):t_ jt->t_ V->Prop
 |[],vs=>vs=[]
 |x::xs,vs=>∃v r,vs=v::r/\RV H x v/\RVs H xs r
end
section
variable {X:Cx}{zH:t_ (Addr×Obj)}{Z:L2.St}{H:Hp}{s:Shared}
mutual
theorem RV.reads(I:Inv X zH Z H s):∀{d:jt}{v:V}{u:Ev},RV H d v->RelV v u->∃as,Reads s.heap u d as
 |.none,v,u,h,r=>by
  cases(show v=.non from h);cases(show u=gH from r);exact⟨_,.none⟩
 |.bool b,v,u,h,r=>by
  cases(show v=.bl b from h);cases(show u=jW b from r);exact⟨_,.bool b⟩
 |.int i,v,u,h,r=>by
  cases(show v=.int i from h);obtain⟨t,rfl⟩:=r;exact⟨_,.int i t⟩
 |.str x,v,u,h,r=>by
  cases(show v=.str x from h);obtain⟨t,rfl⟩:=r;exact⟨_,.str x t⟩
 |.tuple xs,v,u,h,r=>by
  obtain⟨a,vs,rfl,hq,hs⟩:=h;cases r;obtain⟨its,rv,⟨o,e,c,n,d⟩,_⟩:=I.tuple (X:=X) (xs:=vs) (.inl (.inl hq));obtain⟨as,ra⟩:=RVs.reads I hs rv;exact⟨_,.tuple e c d ra⟩
 |.list xs,v,u,h,r=>by
  obtain⟨a,vs,rfl,hq,hs⟩:=h;cases r;obtain⟨its,rv,pl,_⟩:=I.list (X:=X) (xs:=vs) (.inl hq);obtain⟨o,e,c,n,d⟩:=pl.isList;obtain⟨as,ra⟩:=RVs.reads I hs rv;exact⟨_,.list e c d ra⟩
 |.dict _,v,u,h,r=>h.elim
theorem RVs.reads(I:Inv X zH Z H s):∀{ds:t_ jt}{vs:t_ V}{us:t_ Ev},RVs H ds vs->Vals vs us->∃as,ReadsAll s.heap us ds as
 |[],vs,us,h,r=>by
  cases(show vs=[]from h);cases r;exact⟨_,.nil⟩
 | d::ds,vs,us,h,r=>by
  obtain⟨v,w,rfl,h1,h2⟩:=h;cases r with
  |cons r1 r2=>
   obtain⟨as,a1⟩:=RV.reads I h1 r1;obtain⟨bs,a2⟩:=RVs.reads I h2 r2;exact⟨_,.cons a1 a2⟩
end
end
theorem RV.noDict{H:Hp}:∀(d:jt) (v:V),RV H d v->d.hasDict=s_
 | d,v,h=>by
  have k:∀(n:Nat),(∀(d:jt) (v:V),sizeOf d<=n->RV H d v->d.hasDict=s_)/\∀(c:t_ jt) (e:t_ V),sizeOf c<=n->RVs H c e->ma c=s_:=by
   intro n
   induction n with
   |zero=>
    refine⟨λd v h _=>?_,λc e h _=>?_⟩
    ·cases d <;>simp at h
    ·cases c <;>simp at h
   | succ n j=>
    refine⟨λd v h f=>?_,λc e h f=>?_⟩
    ·cases d with
     |tuple g=>
      obtain⟨a,e,_,_,l⟩:=f;simp only[j9]
      grind
     |list g=>
      obtain⟨a,e,_,_,l⟩:=f;simp only[j9]
      grind
     |dict m=>exact(show False from f).elim
     |none=>simp only[j9]
     |bool b=>simp only[j9]
     |int i=>simp only[j9]
     |str x=>simp only[j9]
    ·cases c with
     |nil=>simp only[ma]
     |cons x g=>
      obtain⟨v,w,_,o,p⟩:=f;simp only[ma,j.1 x v (by simp at h; omega) o,j.2 g w (by simp at h; omega) p,Bool.or_false]
  exact(k (sizeOf d)).1 d v (Re _) h
section
variable {X:Cx}
def Yn:t_ V->Hp->VK->Prop:=λa H Q=>∃x d,a=[x]/\RV H d x/\d.showable=r_/\d.depth<=100/\d.shown.length<=sizeLine/\Q (.str d.shown) H
theorem C2{k:Nat}(g:Room k X.A):By X (.builtin "repr") Yn:=by
 intro B s Z H C D Q I r h;obtain⟨x,d,rfl,c,j,E,l,q⟩:=h;obtain⟨u,rfl,f⟩:=vals1 r;have F:=g.un;cases d with
 |none=>
  cases(show x=.non from c);cases(show u=gH from f);exact PySem.P.repr_of_none ⟨.str _,H,I.tok _,⟨_,rfl⟩,q⟩
 |bool b=>
  cases(show x=.bl b from c);cases(show u=jW b from f);refine PySem.P.repr_of_bool ⟨.str _,H,I.tok _,⟨_,rfl⟩,?_⟩
  assumption
 |int i=>
  cases(show x=.int i from c);obtain⟨t,rfl⟩:=f;refine PySem.P.repr_of_int (by simpa [PyData.showable]using j) ⟨.str _,H,I.tok _,⟨_,rfl⟩,q⟩
 |str z=>
  cases(show x=.str z from c);obtain⟨t,rfl⟩:=f;exact PySem.P.repr_of_str ⟨.str _,H,I.tok _,⟨_,rfl⟩,q⟩ l
 |tuple p=>
  obtain⟨v,m⟩:=RV.reads I c f;obtain⟨a,w,rfl,_⟩:=id c;cases f;refine repr_of_reads' m j (PyData.noDict_hsm (RV.noDict _ _ c)) g.gd (by omega) (λ_ _ e=>e) (λy u n o=>⟨.str _,H,I.kept (t':=n) o,⟨_,rfl⟩,q⟩) l
 |list p=>
  obtain⟨v,m⟩:=RV.reads I c f;obtain⟨a,w,rfl,_⟩:=id c;cases f;refine repr_of_reads' m j (PyData.noDict_hsm (RV.noDict _ _ c)) g.gd (by omega) (λ_ _ e=>e) (λy u n o=>⟨.str _,H,I.kept (t':=n) o,⟨_,rfl⟩,q⟩) l
 |dict _=>exact(show False from c).elim
def bv:R2:=λx y H Q=>∃d e,RV H d x/\RV H e y/\d.canLay0=r_/\e.canLay0=r_/\d.depth<=100/\Q (.bl (jY d e)) H
theorem Zx{k:Nat}(a:Room k X.A):OpR X (compareOp .Eq) bv:=by
 intro n s Z H x y v u Q I b c h;obtain⟨d,e,f,g,i,j,o,q⟩:=h;obtain⟨p,l⟩:=RV.reads I f b;obtain⟨r,m⟩:=RV.reads I g c;have t:=a.un;have w:min _ e.depth<=d.depth:=Nat.min_le_left _ _;exact PySem.SeqAt.compareEq_reads l m i j (by omega) ⟨.bl _,H,I,rfl,q⟩
def Zj(b:Bool):R2:=λx y H Q=>∃d a,RV H d x/\(RV H (.list a) y\/RV H (.tuple a) y)/\d.canLay0=r_/\jD a=r_/\d.depth<=100/\Q (.bl (if b then !(a.any λy=>jY y d)else a.any λy=>jY y d)) H
theorem KZ{k:Nat}(i:Room k X.A):OpR X (compareOp .In) (Zj s_):=by
 intro o s Z H x y v u Q I j c h;obtain⟨d,l,m,a,e,f,p,q⟩:=h;obtain⟨r,g⟩:=RV.reads I m j;have t:=i.un;have w:min (iZ l) _<=d.depth:=lF _ _
 rcases a with a|a
 ·obtain⟨n,b⟩:=RV.reads I a c
  exact PySem.SeqAt.in_list_reads b g f e (by omega) ⟨.bl _,H,I,rfl,q⟩
 ·obtain⟨n,b⟩:=RV.reads I a c
  exact PySem.SeqAt.in_tuple_reads b g f e (by omega) ⟨.bl _,H,I,rfl,q⟩
theorem C1{k:Nat}(i:Room k X.A):OpR X (compareOp .NotIn) (Zj r_):=by
 intro o s Z H x y v u Q I j c h;obtain⟨d,l,m,a,e,f,p,q⟩:=h;obtain⟨r,g⟩:=RV.reads I m j;have t:=i.un;have w:min (iZ l) _<=d.depth:=lF _ _
 rcases a with a|a
 ·obtain⟨n,b⟩:=RV.reads I a c
  exact PySem.SeqAt.notIn_list_reads b g f e (by omega) ⟨.bl _,H,I,rfl,q⟩
 ·obtain⟨n,b⟩:=RV.reads I a c
  exact PySem.SeqAt.notIn_tuple_reads b g f e (by omega) ⟨.bl _,H,I,rfl,q⟩
end
end L2
namespace Dp
open L2
mutual
def toPy:D->jt
 |.non=>.none
 |.bl b=>.bool b
 |.int i=>.int i
 |.str x=>.str x
 |.tup ds=>.tuple (Bi ds)
 |.lst ds=>.list (Bi ds)
 |.dic _ _=>.dict []
 |.fdi _ _=>.dict []
 |.dit _ _=>.dict []
def Bi:t_ D->t_ jt
 |[]=>[]
 |d::ds=>toPy d::Bi ds
end
theorem B3(a:t_ D):Bi a=a.map toPy:=by
 induction a with
 |nil=>rfl
 |cons d r b=>rw[Bi,b,f9]
section
variable {K:Frag}{M:Addr->Prop}{H:Hp}
mutual
theorem At.rv:∀{d:D}{v:V},At K M H d v->Er d=r_->RV H (toPy d) v
 |.non,v,h,_=>h
 |.bl b,v,h,_=>h
 |.int i,v,h,_=>h
 |.str x,v,h,_=>h.1
 |.tup ds,v,h,n=>by
  obtain⟨a,vs,e,hn,hs⟩:=h;exact⟨a,vs,e,hn,Ats.rv hs n⟩
 |.lst ds,v,h,n=>by
  obtain⟨a,vs,e,hn,hs⟩:=h;exact⟨a,vs,e,.inl hn.2,Ats.rv hs n⟩
 |.dic ks ds,v,h,n=>by cases n
 |.fdi ks ds,v,h,n=>by cases n
 |.dit ks ds,v,h,n=>by cases n
theorem Ats.rv:∀{ds:t_ D}{vs:t_ V},Ats K M H ds vs->Co ds=r_->RVs H (Bi ds) vs
 |[],vs,h,_=>h
 |d::ds,vs,h,n=>by
  obtain⟨v,r,e,h1,h2⟩:=h;have n':(Er d&&Co ds)=r_:=n;rw[gj]at n';exact⟨v,r,e,At.rv h1 n'.1,Ats.rv h2 n'.2⟩
end
theorem AtT.rv{U:Db->Prop}{d:D}{v:V}(h:AtT K U M H d v)(n:Er d=r_):RV H (toPy d) v:=by
 cases d with
 |lst c=>
  obtain⟨a,g,e,_,j,k⟩:=h;exact⟨a,g,e,j,Ats.rv k n⟩
 |dic f c=>cases n
 |fdi f c=>cases n
 |dit f c=>cases n
 |non=>exact h
 |bl b=>exact h
 |int i=>exact h
 |str x=>exact h.1
 |tup c=>exact At.rv h n
def Gz(d:D):Prop:=Er d=r_/\(toPy d).showable=r_/\(toPy d).depth<=100/\(toPy d).shown.length<=sizeLine
def Pm(d:D):Str:=(toPy d).shown
def HE(a:t_ D)(P:D->Prop):Prop:=∃d,a=[d]/\Gz d/\P (.str (Pm d))
theorem Ib:CJ K .sh Yn HE:=by
 intro U M H f g P Q b h c w q;obtain⟨d,rfl,a,w⟩:=w;obtain⟨v,rfl,e⟩:=D4 c;exact⟨v,_,rfl,e.rv a.1,a.2.1,a.2.2.1,a.2.2.2,q _ H (.str _) .refl ⟨rfl,a.2.2.2⟩ w⟩
def CG(d:D):Prop:=Er d=r_/\(toPy d).canLay0=r_/\(toPy d).depth<=100
def Fz(d e:D):Bool:=jY (toPy d) (toPy e)
def cQ(d e:D)(P:D->Prop):Prop:=CG d/\CG e/\P (.bl (Fz d e))
theorem cb:F9 K .sh bv cQ:=λU M H d e x y P Q a f b c w q=>
 ⟨_,_,b.rv w.1.1,c.rv w.2.1.1,w.1.2.1,w.2.1.2.1,w.1.2.2,q _ H (.bl _) .refl rfl w.2.2⟩
def G0:D->u_ (t_ D)
 |.lst a=>P3 a
 |.tup a=>P3 a
 |_=>q_
def IS(a:Bool)(d e:D)(P:D->Prop):Prop:=CG d/\CG e/\∃b,G0 e=P3 b/\P (.bl (if a then !(b.any λy=>Fz y d)else b.any λy=>Fz y d))
theorem Fb{c:Bool}:F9 K .sh (Zj c) (IS c):=λU M H d e x y P Q k m i j w q=>by
 obtain⟨b,f,g,h,w⟩:=w;have a:∀g:t_ D,(g.map _).any (λy=>jY y _)=g.any λy=>Fz y d:=λg=>by rw[List.any_map]; rfl
 cases e with
 |lst l=>
  cases h;refine⟨_,_,i.rv b.1,.inl (j.rv f.1),b.2.1,by simpa [toPy,PyData.canLay0]using f.2.1,b.2.2,?_⟩;rw[B3,a];exact q _ H (.bl _) .refl rfl w
 |tup l=>
  cases h;refine⟨_,_,i.rv b.1,.inr (j.rv f.1),b.2.1,by simpa [toPy,PyData.canLay0]using f.2.1,b.2.2,?_⟩;rw[B3,a];exact q _ H (.bl _) .refl rfl w
 |_=>cases h
def Xw(d e:D)(P:D->Prop):Prop:=CG d/\CG e/\P (.bl (!Fz d e))
end
end Dp
namespace L2
def bh:R2:=λx y H Q=>∃d e,RV H d x/\RV H e y/\d.canLay0=r_/\e.canLay0=r_/\d.depth<=100/\Q (.bl (!PyData.eqv d e)) H
theorem VI{X:Cx}{k:Nat}(a:Room k X.A):OpR X (compareOp .NotEq) bh:=by
 intro n s Z H x y v u Q I b c h;obtain⟨d,e,f,g,i,j,o,q⟩:=h;obtain⟨p,l⟩:=RV.reads I f b;obtain⟨r,m⟩:=RV.reads I g c;have t:=a.un;have w:min _ e.depth<=d.depth:=Nat.min_le_left _ _;exact PySem.SeqAt.compareNe_reads l m i j (by omega) ⟨.bl _,H,I,rfl,q⟩
end L2
namespace Dp
open L2
theorem Y8{K:Frag}:F9 K .sh bh Xw:=λU M H d e x y P Q a f b c w q=>
 ⟨_,_,b.rv w.1.1,c.rv w.2.1.1,w.1.2.1,w.2.1.2.1,w.1.2.2,q _ H (.bl _) .refl rfl w.2.2⟩
end Dp
namespace L2
def kOf:Key->V
 |.inl i=>.int i
 |.inr x=>.str x
def dE:Key->Key->Bool
 |.inl i,.inl j=>decide (i<j)
 |.inr x,.inr y=>decide (x.cps.toList<y.cps.toList)
 |_,_=>s_
def Ll:Key->Key->Bool
 |.inl _,.inl _=>r_
 |.inr _,.inr _=>r_
 |_,_=>s_
def IK:t_ Key->t_ Key->Bool
 |[],[]=>s_
 |[],_::_=>r_
 |_::_,[]=>s_
 |x::a,y::b=>if x=y then IK a b else dE x y
def B0:t_ Key->t_ Key->Bool
 |x::a,y::b=>Ll x y&&B0 a b
 |_,_=>r_
theorem Vw{A:gS}{s:On}{x y:Key}{u v:Ev}(a:RelV (kOf x) u)(b:RelV (kOf y) v):∃e,SeqAt.EqAt A s u v e/\(e=r_↔x=y):=by
 cases x with
 |inl i=>
  cases y with
  |inl j=>exact⟨_,NB a b rfl rfl,by simp[kOf,cS]⟩
  |inr z=>exact⟨_,NB a b rfl rfl,by simp[kOf,cS]⟩
 |inr z=>
  cases y with
  |inl j=>exact⟨_,NB a b rfl rfl,by simp[kOf,cS]⟩
  |inr c=>exact⟨_,NB a b rfl rfl,by simp[kOf,cS]⟩
theorem Uk(A:gS)(s:On){x y:Key}{u v:Ev}(b:RelV (kOf x) u)(c:RelV (kOf y) v)(d:Ll x y=r_)(a:gD)(w:gK)(E:Ev->On->Prop)(Q:Ev->On->Prop)(h:Q (.bool (dE x y)) s):
  wpAny (model a w) A (richCompare .Lt u v) Q E s:=by
 cases x with
 | inl i=>
  cases y with
  |inl j=>
   obtain⟨t,rfl⟩:=b;obtain⟨e,rfl⟩:=c;exact nO h
  |inr z=>cases d
 | inr z=>
  cases y with
  |inl j=>cases d
  |inr f=>
   obtain⟨t,rfl⟩:=b;obtain⟨e,rfl⟩:=c;exact PySem.P.lt_str h
section
open PySem.SeqAt
open PySem.AutoSeq1 (wpAny_loadPart')
open PySem.MeetsSeq PySem.MeetsSeq2 PySem.MeetsSeq3
theorem GB(l b:Db)(items items2:Array Ev)(n n2:Nat)(dd dd2:u_ Db)(sl sl2:Array (u_ Ev))(ns ms:t_ Key)(hi:Vals (ns.map kOf) items.toList)(hj:Vals (ms.map kOf) items2.toList)(hsame:B0 ns ms=r_):
  Meets (iS.«tuple.__lt__» ⟨[.ref l,.ref b],[]⟩)
   (λ_ R s=>s.heap.get? l=P3 {cls:=.type "tuple",dict:=dd,data:=.seq items n,slots:=sl}/\s.heap.get? b=P3 {cls:=.type "tuple",dict:=dd2,data:=.seq items2 n2,slots:=sl2} /\
    R (.ok (.ret (.bool (IK ns ms)))) s):=
 .of_wp λprog w A R s h=>by
  obtain⟨hp,g,d,tk,os⟩:=s; obtain⟨hl,hb,h⟩:=h
  have f2:=AutoSeq1.sub_tuple_tuple;have z1:items.size=ns.length:=by have:=hi.length; rw[Go]at this; rw[this]; simp
  have z2:items2.size=ms.length:=by have:=hj.length; rw[Go]at this; rw[this]; simp
  wp_walk using jR hl,jR hb,wpAny_forIn_list _ (λrest b s'=>b.1=q_/\s'=⟨hp,g,d,tk,os⟩/\∃(vs ws:t_ Ev) (ns' ms':t_ Key),rest=vs.zip ws /\
   Vals (ns'.map kOf) vs/\Vals (ms'.map kOf) ws/\B0 ns' ms'=r_/\ns'.length+items2.size=ms'.length+items.size/\R (.ok (.ret (.bool (IK ns' ms')))) ⟨hp,g,d,tk,os⟩) _
  case turn=>
   rintro⟨y,x⟩ rest b s' ⟨hb',rfl,vs,ws,ns',ms',hz,hvi,hwi,hsm,hlen,hR⟩;cases ns' with
   |nil=>cases hvi; rw[List.zip_nil_left]at hz; cases hz
   | cons a ns'=>
    cases ms' with
    |nil=>cases hwi; rw[List.zip_nil_right]at hz; cases hz
    | cons c ms'=>
     rw[f9]at hvi hwi;cases hvi with
     | cons ra hvi'=>
      cases hwi with
      | cons rc hwi'=>
       rw[mL]at hz;injection hz with hyx hrest
       injection hyx with hy hx
       subst hy hx;have hR':R (.ok (.ret (.bool (if a=c then IK ns' ms' else dE a c)))) ⟨hp,g,d,tk,os⟩:=hR;have hsm':(Ll a c&&B0 ns' ms')=r_:=hsm;rw[gj]at hsm';simp only[eq]at hlen;obtain⟨e,he,hiff⟩:=Vw (A:=A.in1) (s:=⟨hp,g,d,tk,os⟩) ra rc;refine Ch (he prog w _ _ ?_);cases e with
       |true=>
        rw[if_pos (hiff.mp rfl)]at hR'
        wp_walk
        exact⟨rfl,rfl,_,_,_,_,hrest,hvi',hwi',hsm'.2,by omega,hR'⟩
       |false=>
        rw[if_neg (λq=>absurd (hiff.mpr q) f6)]at hR';have hri:=Uk A.in1 ⟨hp,g,d,tk,os⟩ ra rc hsm'.1 prog w
        wp_walk using hri
        exact⟨_,rfl,by simpa using hR'⟩
  case fin=>
   rintro⟨b1,b2⟩ s' ⟨hb',rfl,vs,ws,ns',ms',hz,hvi,hwi,hsm,hlen,hR⟩;simp only at hb';subst hb'
   have hv:IK ns' ms'=decide (items.size<items2.size):=by
    cases ns' with
    | nil=>
     cases ms' with
     |nil=>
      simp only[iL]at hlen;exact(decide_eq_false (by omega)).symm
     |cons c u=>
      simp only[iL,eq]at hlen;exact(decide_eq_true (by omega)).symm
    | cons a t=>
     cases ms' with
     |nil=>
      simp only[iL,eq]at hlen;exact(decide_eq_false (by omega)).symm
     |cons c u=>
      rw[f9]at hvi hwi;cases hvi;cases hwi;rw[mL]at hz;cases hz
   rw[hv]at hR
   wp_walk
   exact⟨_,rfl,by simpa [Builtin.Tuple.tupleCompareSizes]using hR⟩
  case h=>
   exact⟨rfl,rfl,items.toList,items2.toList,ns,ms,rfl,hi,hj,hsame,by omega,h⟩
end
section
variable {X:Cx}
def bi(K:Frag):R2:=λx y H Q=>∃a b c d,x=.ref a/\y=.ref b/\SqT K H a (c.map kOf)/\SqT K H b (d.map kOf)/\B0 c d=r_/\Q (.bl (IK c d)) H
theorem Zv(m:X.A.units<cLine):OpR X (compareOp .Lt) (bi X.K):=by
 intro T s Z H x y v u Q I o p h;obtain⟨a,b,r,t,rfl,rfl,w,z,d,q⟩:=h;cases o;cases p;obtain⟨B,C,D,_⟩:=I.tuple w;obtain⟨i,E,G,_⟩:=I.tuple z;obtain⟨⟨J,L,j,M⟩,k,N,n,O⟩:=id D;obtain⟨⟨l,P,e,R⟩,c,f,S,g⟩:=id G;subst N O f g
 exact richCompare_meets_room (op:=.Lt) ⟨_,k,rfl⟩ ⟨_,c,rfl⟩ PySem.F.slot_tuple_lt PySem.F.entry_tuple_lt (PySem.F.args_tuple_lt_2 _ _) (GB a b _ _ n S L _ M _ r t C E d)
  ⟨k,c,⟨(λx=>nomatch x),⟨.bl _,H,I,rfl,q⟩⟩⟩ m
end
def ItAt(b:Bool)(h:fu)(a l:Db)(k:Nat):Prop:=match b with
 |true=>h.IsListIter a l k
 |false=>h.IsTupleIter a l k
def SqAt(b:Bool)(h:fu)(l:Db)(a:Array Ev):Prop:=match b with
 |true=>h.IsList l a
 |false=>h.IsTuple l a
section
variable {κ:Bool}{h h':Heap}{it l b:Addr}{k:Nat}{items:Array Value}
theorem ItAt.mv(x:ItAt κ h it l k)(e:∀o,h.get? it=P3 o->h'.get? it=P3 o):ItAt κ h' it l k:=by
 cases κ with
 |true=>obtain⟨o,a,r⟩:=x; exact⟨o,e o a,r⟩
 |false=>obtain⟨o,a,r⟩:=x; exact⟨o,e o a,r⟩
theorem SqAt.mv(x:SqAt κ h l items)(e:∀o,h.get? l=P3 o->h'.get? l=P3 o):SqAt κ h' l items:=by
 cases κ with
 |true=>obtain⟨o,a,r⟩:=x; exact⟨o,e o a,r⟩
 |false=>obtain⟨o,a,r⟩:=x; exact⟨o,e o a,r⟩
theorem ItAt.eb(x:ItAt κ h it l k)(a:nQ b h h')(n:it≠b):ItAt κ h' it l k:=x.mv λo e=>a it o n e
theorem SqAt.eb(x:SqAt κ h l items)(a:nQ b h h')(n:l≠b):SqAt κ h' l items:=x.mv λo e=>a l o n e
theorem ItAt.lies(x:ItAt κ h it l k):∃o,h.get? it=P3 o/\∀v,o.data≠.cell v:=by
 cases κ with
 |true=>obtain⟨o,a,_,d⟩:=x; simp_all
 |false=>obtain⟨o,a,_,d⟩:=x; simp_all
theorem SqAt.lies(x:SqAt κ h l items):∃o,h.get? l=P3 o:=by
 cases κ with
 |true=>obtain⟨o,a,_⟩:=x; grind
 |false=>obtain⟨o,a,_⟩:=x; grind
end
section
variable {prog:Program}{w:World}{A:Around}{E:Value->Shared->Prop}{s:Shared}
theorem EA{f:Bool}{c l:Db}{i:Nat}{a:Array Ev}{x:Ev}{Q:Ev->On->Prop}(d:ItAt f s.heap c l i)(n:SqAt f s.heap l a)(p:a[i]?=P3 x)
  (q:∀h,ItAt f h c l (i+1)->i6 c s.heap h->Q x {s with heap:=h}):wpAny (model prog w) A (gs (.ref c)) Q E s:=by
 cases f with
 |true=>exact wpAny_nextOf_list_item d n p q
 |false=>
  have b:s.heap.IsTupleIter c l i:=d;have j:s.heap.IsTuple l a:=n;obtain⟨o,g,t,e⟩:=id b; obtain⟨u,k,_,v,m⟩:=j
  unfold gs;refine Ch (gw (name:=ig "__next__") b.typeIs jU (iN jU b.typeIs mM ?_ (mC _)));show wpAny (model prog w) _ (field (.ref c) 0 >>=_) _ _ s; refine Ch (gf g e (x:=.ref l) rfl ?_)
  show wpAny (model prog w) _ (if(fj l==gH)=r_ then _ else _) _ _ s; rw[if_neg (show ¬((fj l==gH)=r_)from f6)]
  show wpAny (model prog w) _ (field (.ref c) 1 >>=_) _ _ s; refine Ch (gf g e (x:=.int i 0) rfl ?_)
  show wpAny (model prog w) _ (seqItems? (.ref l) >>=_) _ _ s; refine Ch (hX k m ?_); simp only[gz,p]
  refine Ch (jf g e (by simp) (Op ⟨x,rfl,Op (q _ (show Heap.IsTupleIter _ c l (i+1)from ?_) (kF ..))⟩));exact⟨_,iQ _ g (lO (jM e _)),(Obj.cls_mapFields ..).trans t,by(rw[jM e]; simp[rawInt])⟩
theorem Kv{g:Bool}{f l:Db}{i:Nat}{b:Array Ev}{Q:Ev->On->Prop}(r:A.handled=q_)(d:ItAt g s.heap f l i)(t:SqAt g s.heap l b)(u:b[i]?=q_)
  (v:∀h e,nQ f s.heap h->(∃o,h.get? e=P3 o/\o.cls=.type "StopIteration")->E (.ref e) {s with heap:=h}):wpAny (model prog w) A (gs (.ref f)) Q E s:=by
 cases g with
 |true=>exact wpAny_nextOf_list_end r d t u v
 |false=>
  have c:=d;have j:s.heap.IsTuple l b:=t;obtain⟨o,k,z,n⟩:=id c; obtain⟨B,p,_,C,q⟩:=j
  refine Ch (gw c.typeIs jU (iN jU c.typeIs mM ?_ (mC _)));show wpAny (model prog w) _ (field (.ref f) 0 >>=_) _ _ s; refine Ch (gf k n (x:=.ref l) rfl ?_)
  refine Ch (gf k n (x:=.int i 0) rfl ?_);refine Ch (hX p q ?_); simp only[gz,u]
  refine Ch (kY (Ch (jf k n (by simp) ?_))); refine Ch ?_; refine Ch (m:=firstArgMember _ _) (k7 (a:=gH) (by first|rfl|omega) ?_); refine iI ?_ (by size_fits)
  simp only[raiseNew]; refine Ch (wpAny_handled ?_); first|grind|rw[r]
  refine Ch (Op (wpAny_throw ?_)); exact v _ _ (((kF ..).extBut.push _).push _) ⟨_,TW _ rfl,rfl⟩
structure Tp (z TI TO i1 i2 l1 l2:Db):Prop where
 TIz:TI≠z
 TOz:TO≠z
 i1z:i1≠z
 i2z:i2≠z
 TOi1:TO≠i1
 TOi2:TO≠i2
 i12:i1≠i2
 l1z:l1≠z
 l1TO:l1≠TO
 l1i1:l1≠i1
 l1i2:l1≠i2
 l2z:l2≠z
 l2TO:l2≠TO
 l2i1:l2≠i1
 l2i2:l2≠i2
theorem Ts{S T:Bool}{z TI TO p q J K:Db}{k:Nat}{xs ys:Array Ev}{x y a b:Ev}{Q:Ev->On->Prop}(D:Tp z TI TO p q J K)
  (L:jZ s.heap z TI TO .none) (W:hZ s.heap TI (.ref p) (.ref q)) (X:hZ s.heap TO a b) (h1:ItAt S s.heap p J k) (h2:ItAt T s.heap q K k) (Y:SqAt S s.heap J xs) (Z:SqAt T s.heap K ys) (hx:xs[k]?=P3 x) (hy:ys[k]?=P3 y)
  (hQ:∀r,jZ r z TI TO (rawInt s.heap.objs.size)->hZ r TO x y->ItAt S r p J (k+1)->ItAt T r q K (k+1)->hZ r s.heap.objs.size x y->r.objs.size=s.heap.objs.size+1->(∀c o,c≠z->c≠TO->c≠p->c≠q->s.heap.get? c=P3 o->r.get? c=P3 o)->Q (.ref s.heap.objs.size) {s with heap:=r}):
  wpAny (model prog w) A (iS.«zip.__next__» ⟨[.ref z],[]⟩) (λa0 s'=>∃v,a0=.done (.ret v)/\Q v s') E s:=by
 show wpAny (model prog w) A (field (.ref z) 2 >>=_) _ _ _; refine Ch (gf L rfl (x:=.bool s_) rfl ?_)
 show wpAny (model prog w) A (field (.ref z) 3 >>=_) _ _ _; refine Ch (gf L rfl (x:=.ref TI) rfl ?_); refine Ch (hX W rfl ?_)
 show wpAny (model prog w) A (gX (.ref z) >>=_) _ _ _; refine Ch ?_; unfold gX
 refine Ch (gf L rfl (x:=.none) rfl (Op ?_)); simp only[if_true]; refine Ch (kY ?_); refine Ch (gf L rfl (x:=.ref TO) rfl ?_)
 refine Ch (iw L (by simp) λha C d=>?_);replace C:jZ ha z TI TO .ellipsis:=C;refine Ch ?_; simp only[List.zipIdx_cons,List.zipIdx_nil,jQ,mE]
 refine Ch (Ch (lD ?_)); show wpAny (model prog w) _ (gs (.ref p) >>=_) _ _ _
 refine Ch (EA (h1.eb d.extBut D.i1z) (Y.eb d.extBut D.l1z) hx λhb a1 h=>Op ?_);have t:hZ hb TO a b:=h.extBut _ _ D.TOi1 (d.extBut _ _ D.TOz X);refine Ch (hX t rfl ?_); refine Ch (lZ t λhc j i=>?_)
 replace j:hZ hc TO x b:=j;refine Ch (jx (Op ?_)); refine Ch (Ch (lD ?_)); show wpAny (model prog w) _ (gs (.ref q) >>=_) _ _ _
 refine Ch (EA (((h2.eb d.extBut D.i2z).eb h.extBut D.i12.symm).eb i.extBut D.TOi2.symm) (((Z.eb d.extBut D.l2z).eb h.extBut D.l2i1).eb i.extBut D.l2TO) hy λhd a2 l=>Op ?_);have u:hZ hd TO x b:=l.extBut _ _ D.TOi2 j;refine Ch (hX u rfl ?_); refine Ch (lZ u λf g m=>?_)
 replace g:hZ f TO x y:=g;refine Ch (jx (Op (Op ?_))); refine Ch (hX g rfl ?_); refine Ch (mF ?_)
 have M:f.objs.size=s.heap.objs.size:=by rw[m.1,l.1,i.1,h.1,d.1]
 have N:jZ f z TI TO .ellipsis:=m.extBut _ _ D.TOz.symm (l.extBut _ _ D.i2z.symm (i.extBut _ _ D.TOz.symm (h.extBut _ _ D.i1z.symm C)));have a3:∀c o,c≠z->c≠TO->c≠p->c≠q->s.heap.get? c=P3 o->f.get? c=P3 o:=λc o F U c3 c4 e=>m.extBut _ _ U (l.extBut _ _ c4 (i.extBut _ _ U (h.extBut _ _ c3 (d.extBut _ _ F e))));have a4:ItAt S f p J (k+1):=((a1.eb i.extBut D.TOi1.symm).eb l.extBut D.i12).eb m.extBut D.TOi1.symm;have a5:ItAt T f q K (k+1):=a2.eb m.extBut D.TOi2.symm;have B:z<f.objs.size:=Tk N;show wpAny (model prog w) _ (kP (.ref z) (.ref f.objs.size) >>=_) _ _ _; refine Ch ?_; unfold kP
 have a6:jZ (f.push {cls:=.type "tuple",data:=.seq #[x,y]}) z TI TO .ellipsis:=No _ N;refine Ch (iw a6 (by simp) λhg G H=>?_);replace G:jZ hg z TI TO (rawInt f.objs.size):=G;refine iw G (by simp) λO n I=>?_;replace n:jZ O z TI TO (rawInt f.objs.size):=n;have V:∀c o,c≠z->f.get? c=P3 o->O.get? c=P3 o:=λc o F e=>I.extBut _ _ F (H.extBut _ _ F (No _ e));have P:hZ O f.objs.size x y:=I.extBut _ _ (i7 B) (H.extBut _ _ (i7 B) (TW _ rfl));have R:O.objs.size=f.objs.size+1:=by rw[I.1,H.1,iF]
 rw[M]at n P R;refine Op ⟨_,rfl,?_⟩;show Q (.ref f.objs.size) _; rw[M]
 exact hQ O n (V _ _ D.TOz g) (a4.mv λo e=>V _ o D.i1z e) (a5.mv λo e=>V _ o D.i2z e) P R λc o F U c3 c4 e=>V c o F (a3 c o F U c3 c4 e)
theorem Fn{U V:Bool}{z TI TO p q G H:Db}{k:Nat}{I J:Array Ev}{a b:Ev}{Q:Fin->On->Prop}(W:A.handled=q_)(D:Tp z TI TO p q G H)
  (r:jZ s.heap z TI TO .none) (K:hZ s.heap TI (.ref p) (.ref q)) (L:hZ s.heap TO a b) (X:ItAt U s.heap p G k) (h2:ItAt V s.heap q H k) (t:SqAt U s.heap G I) (M:SqAt V s.heap H J) (u:I[k]?=q_\/J[k]?=q_)
  (Y:∀N e,(∀c o,c≠z->c≠TO->c≠p->c≠q->s.heap.get? c=P3 o->N.get? c=P3 o)->(∃o,N.get? e=P3 o/\o.cls=.type "StopIteration")->E (.ref e) {s with heap:=N}):
  wpAny (model prog w) A (iS.«zip.__next__» ⟨[.ref z],[]⟩) Q E s:=by
 show wpAny (model prog w) A (field (.ref z) 2 >>=_) _ _ _; refine Ch (gf r rfl (x:=.bool s_) rfl ?_)
 show wpAny (model prog w) A (field (.ref z) 3 >>=_) _ _ _; refine Ch (gf r rfl (x:=.ref TI) rfl ?_); refine Ch (hX K rfl ?_)
 show wpAny (model prog w) A (gX (.ref z) >>=_) _ _ _; refine Ch ?_; unfold gX
 refine Ch (gf r rfl (x:=.none) rfl (Op ?_)); simp only[if_true]; refine Ch (kY ?_); refine Ch (gf r rfl (x:=.ref TO) rfl ?_)
 refine Ch (iw r (by simp) λha l d=>?_);replace l:jZ ha z TI TO .ellipsis:=l;refine Ch ?_; simp only[List.zipIdx_cons,List.zipIdx_nil,jQ,mE]
 refine Ch (Ch (lD ?_)); show wpAny (model prog w) _ (gs (.ref p) >>=_) _ _ _
 cases O:I[k]? with
 |none=>
  refine Ch (Kv W (X.eb d.extBut D.i1z) (t.eb d.extBut D.l1z) O λP e f R=>?_);obtain⟨S,g,j⟩:=R;have v:jZ P z TI TO .ellipsis:=f _ _ D.i1z.symm l;have n:e≠z:=λx=>by subst x; rw[v]at g; cases g; simp at j
  exact iw v (by simp) λZ _ i=>Y Z e (λc o y _ T _ x=>i.extBut _ _ y (f _ _ T (d.extBut _ _ y x))) ⟨S,i.extBut _ _ n g,j⟩
 | some x=>
  have hy:J[k]?=q_:=by
   rcases u with h|h
   ·rw[O]at h; cases h
   ·exact h
  refine Ch (EA (X.eb d.extBut D.i1z) (t.eb d.extBut D.l1z) O λP a1 f=>Op ?_);have m:hZ P TO a b:=f.extBut _ _ D.TOi1 (d.extBut _ _ D.TOz L);refine Ch (hX m rfl ?_); refine Ch (lZ m λZ a0 i=>?_)
  refine Ch (jx (Op ?_)); refine Ch (Ch (lD ?_)); show wpAny (model prog w) _ (gs (.ref q) >>=_) _ _ _
  refine Ch (Kv W (((h2.eb d.extBut D.i2z).eb f.extBut D.i12.symm).eb i.extBut D.TOi2.symm) (((M.eb d.extBut D.l2z).eb f.extBut D.l2i1).eb i.extBut D.l2TO) hy λhd e B R=>?_);obtain⟨S,g,j⟩:=R;have C:jZ hd z TI TO .ellipsis:=B _ _ D.i2z.symm (i.extBut _ _ D.TOz.symm (f.extBut _ _ D.i1z.symm l));have n:e≠z:=λx=>by subst x; rw[C]at g; cases g; simp at j
  exact iw C (by simp) λhf _ F=>Y hf e (λc o y c2 T c4 x=>F.extBut _ _ y (B _ _ c4 (i.extBut _ _ c2 (f.extBut _ _ T (d.extBut _ _ y x))))) ⟨S,F.extBut _ _ n g,j⟩
end
def aD(a:Bool):String:=match a with
 |true=>"list_iterator"
 |false=>"tuple_iterator"
def VZ(a:Bool)(l:Db):Obj:={cls:=.type (aD a),data:=.fields #[.ref l,.int 0 0]}
abbrev zA(a:Bool)(h:fu)(b:Db):fu:=h.push (VZ a b)
abbrev zB(a b:Bool)(h:fu)(c d:Db):fu:=(zA a h c).push (VZ b d)
abbrev zC(a c:Bool)(h:fu)(b d:Db):fu:=(zB a c h b d).push {cls:=.type "tuple",data:=.seq #[.ref h.objs.size,.ref (zA a h b).objs.size]}
abbrev zD(a b:Bool)(h:fu)(c d:Db):fu:=(zC a b h c d).push {cls:=.type "tuple",data:=.seq #[.none,.none]}
abbrev zE(a b:Bool)(h:fu)(c d:Db):fu:=(zD a b h c d).push {cls:=.type "zip",data:=.fields #[.none,.bool s_,.bool s_,.ref (zB a b h c d).objs.size,.ref (zC a b h c d).objs.size]}
theorem Xd(zY zX:Bool)(l1 l2:Db)(xs ys:Array Ev):Meets (iS.«zip.__new__» ⟨[.type "zip",.ref l1,.ref l2],[]⟩)
  (λ_ R s=>SqAt zY s.heap l1 xs/\SqAt zX s.heap l2 ys/\R (.ok (.ret (.ref (zD zY zX s.heap l1 l2).objs.size))) {s with heap:=zE zY zX s.heap l1 l2}):=
 .of_wp λprog w A R s h=>by
  obtain⟨hp,g,d,tk,os⟩:=s; obtain⟨hl1,hl2,h⟩:=h
  have hsub:=sub_zip;have hL2:SqAt zX (zA zY hp l1) l2 ys:=hl2.mv λo e=>No _ e;cases zY with
  | true=>
   have g1:Heap.IsList (k8 ⟨hp,g,d,tk,os⟩) l1 xs:=hl1;cases zX with
   |true=>
    have g2:Heap.IsList (k8 ⟨hp.push {cls:=.type "list_iterator",data:=.fields #[.ref l1,.int 0 0]},g,d,tk,os⟩) l2 ys:=hL2
    wp_walk using im g1,im g2
    exact⟨_,rfl,h⟩
   |false=>
    have g2:oJ (k8 ⟨hp.push {cls:=.type "list_iterator",data:=.fields #[.ref l1,.int 0 0]},g,d,tk,os⟩) l2 ys:=hL2
    wp_walk using im g1,ie g2
    exact⟨_,rfl,h⟩
  | false=>
   have g1:oJ (k8 ⟨hp,g,d,tk,os⟩) l1 xs:=hl1;cases zX with
   |true=>
    have g2:Heap.IsList (k8 ⟨hp.push {cls:=.type "tuple_iterator",data:=.fields #[.ref l1,.int 0 0]},g,d,tk,os⟩) l2 ys:=hL2
    wp_walk using ie g1,im g2
    exact⟨_,rfl,h⟩
   |false=>
    have g2:oJ (k8 ⟨hp.push {cls:=.type "tuple_iterator",data:=.fields #[.ref l1,.int 0 0]},g,d,tk,os⟩) l2 ys:=hL2
    wp_walk using ie g1,ie g2
    exact⟨_,rfl,h⟩
theorem Oq(a:Bool)(h:fu)(l:Db):ItAt a (h.push (VZ a l)) h.objs.size l 0:=by
 cases a with
 |true=>exact⟨_,TW _ rfl,rfl,rfl⟩
 |false=>exact⟨_,TW _ rfl,rfl,rfl⟩
section
variable {prog:Program}{w:World}{A:Around}{E:Value->Shared->Prop}{s:Shared}
theorem HI{b f:Bool}{a d:Db}{t u:Array Ev}{Q:Ev->On->Prop}(i:SqAt b s.heap a t)(j:SqAt f s.heap d u)
  (h:∀g,jZ g (s.heap.objs.size+4) (s.heap.objs.size+2) (s.heap.objs.size+3) .none->hZ g (s.heap.objs.size+2) (.ref s.heap.objs.size) (.ref (s.heap.objs.size+1))->hZ g (s.heap.objs.size+3) .none .none->
   ItAt b g s.heap.objs.size a 0->ItAt f g (s.heap.objs.size+1) d 0->(∀c o,s.heap.get? c=P3 o->g.get? c=P3 o)->Q (.ref (s.heap.objs.size+4)) {s with heap:=g}):
  wpAny (model prog w) A (call (.type "zip") [.ref a,.ref d]) Q E s:=by
 refine callType_new F.called_zip (by decide) (F.typeCall_zip_2 _ _) (F.newCall_zip_2 _ _) (λk=>F.args_object_init_3 k _ _) F.entry_zip_new (Xd b f a d t u) ⟨i,j,?_⟩;have l:(zA b s.heap a).objs.size=s.heap.objs.size+1:=iF ..;have m:(zB b f s.heap a d).objs.size=s.heap.objs.size+2:=by rw[iF,l]
 have n:(zC b f s.heap a d).objs.size=s.heap.objs.size+3:=by rw[iF,m]
 have p:(zD b f s.heap a d).objs.size=s.heap.objs.size+4:=by rw[iF,n]
 have q:(zE b f s.heap a d).get? (zD b f s.heap a d).objs.size=P3 _:=TW _ rfl;have v:(zE b f s.heap a d).get? (zC b f s.heap a d).objs.size=P3 _:=No _ (TW _ rfl);have x:(zE b f s.heap a d).get? (zB b f s.heap a d).objs.size=P3 _:=No _ (No _ (TW _ rfl));have y:ItAt f (zE b f s.heap a d) (zA b s.heap a).objs.size d 0:=(Oq f (zA b s.heap a) d).mv λo e=>No _ (No _ (No _ e));have z:ItAt b (zE b f s.heap a d) s.heap.objs.size a 0:=(Oq b s.heap a).mv λo e=>No _ (No _ (No _ (No _ e)));rw[p]at q;rw[n]at v;rw[m]at x;rw[l]at y;have r:=h (zE b f s.heap a d) (by rw[jZ,q,m,n]) (by rw[hZ,x,l]) v z y (λc o e=>No _ (No _ (No _ (No _ (No _ e)))));refine⟨⟨_,by rw[p]; exact q,rfl⟩,?_⟩;rw[p];exact r
theorem GC{i j:Bool}{z TI TO e f g h:Db}{k:Nat}{q r:Array Ev}{x y a b:Ev}{Q:u_ Ev->On->Prop}(D:Tp z TI TO e f g h)
  (t:jZ s.heap z TI TO .none) (l:hZ s.heap TI (.ref e) (.ref f)) (m:hZ s.heap TO a b) (v:ItAt i s.heap e g k) (B:ItAt j s.heap f h k) (n:SqAt i s.heap g q) (p:SqAt j s.heap h r) (C:q[k]?=P3 x) (F:r[k]?=P3 y)
  (G:∀d,jZ d z TI TO (rawInt s.heap.objs.size)->hZ d TO x y->ItAt i d e g (k+1)->ItAt j d f h (k+1)->hZ d s.heap.objs.size x y->d.objs.size=s.heap.objs.size+1->(∀c o,c≠z->c≠TO->c≠e->c≠f->s.heap.get? c=P3 o->d.get? c=P3 o)->Q (P3 (.ref s.heap.objs.size)) {s with heap:=d}):
  wpAny (model prog w) A (pyNext (.ref z)) Q E s:=by
 have u:s.TypeIs (.ref z) "zip":=⟨_,t,rfl⟩;unfold pyNext
 exact Ch (jF (gw (name:=ig "__next__") u jA (iN jA u lG
  (Ts D t l m v B n p C F λd H I J K L M N=>Op (G d H I J K L M N)) (km _))))
theorem G_{r t:Bool}{z TI TO g h i j:Db}{k:Nat}{u v:Array Ev}{a b:Ev}{Q:u_ Ev->On->Prop}(B:A.handled=q_)(D:Tp z TI TO g h i j)
  (x:jZ s.heap z TI TO .none) (l:hZ s.heap TI (.ref g) (.ref h)) (m:hZ s.heap TO a b) (C:ItAt r s.heap g i k) (F:ItAt t s.heap h j k) (n:SqAt r s.heap i u) (p:SqAt t s.heap j v) (f:u[k]?=q_\/v[k]?=q_)
  (G:∀q,(∀c o,c≠z->c≠TO->c≠g->c≠h->s.heap.get? c=P3 o->q.get? c=P3 o)->Q q_ {s with heap:=q}):wpAny (model prog w) A (pyNext (.ref z)) Q E s:=by
 have y:s.TypeIs (.ref z) "zip":=⟨_,x,rfl⟩;unfold pyNext;refine Ch (jF (gw (name:=ig "__next__") y jA (iN jA y lG (Fn B D x l m C F n p f λq e H I=>?_) (km _))));obtain⟨o,J,K⟩:=I;exact Ch (lH (T:="StopIteration") (b:=r_) ⟨o,J,K⟩ isSubtype_stop (Op (G _ H)))
end
section
variable {X:Cx}{zH:t_ (Addr×Obj)}{Z:L2.St}{H:Hp}{s:Shared}{h':Heap}
theorem Inv.turnedL{t':Nat}{ch:t_ Db}(I:Inv X zH Z H s)(d:∀b∈ch,GA X zH H b)(k:∀b o,b∉ch->s.heap.get? b=P3 o->h'.get? b=P3 o):Inv X zH Z H {s with heap:=h',toks:=t'}:=by
 have f:∀b u,H b=P3 u->b∉ch:=λb u e z=>by rw[(d b z).1]at e; cases e
 refine I.step (λb g=>?_) (λb o _ _ a e _=>k b o a e) (λb o _ _ a e _=>⟨_,k b o a e⟩) (λ_ _ _ _ n=>n) (λb o a e=>⟨o,k b o a e⟩) (λ_ _ e=>e) (λ_ _ _ e=>e) (λb y e=>⟨#[],by rw[e]; simp⟩) (λm h=>?_) (λb u e=>(I.hok b u e).stay (λc v a q=>k c v (a.elim (λz=>by grind) λz=>f c _ z) q) (λ_ q=>q) λ_ _ q=>q) I.bare
 ·obtain⟨A,i,B,j,l,p⟩:=d b g
  exact⟨j,i,l,p⟩
 ·obtain⟨o,t,w,x,r⟩:=h
  exact⟨o,t,w,k _ o (λz=>(d _ z).2.1 rfl) x,r⟩
theorem Inv.turnLaid{t':Nat}{ch:t_ Db}{a:Db}{o:HO}(I:Inv X zH Z H s)(h:∀b∈ch,GA X zH H b)(k:∀b o,b∉ch->s.heap.get? b=P3 o->h'.get? b=P3 o)(j:s.heap.objs.size<=a)(new:ObjOk X.prog X.w (A2 H a o) h' a o):
  Inv X zH Z (A2 H a o) {s with heap:=h',toks:=t'}:=by
 have i:∀b u,H b=P3 u->b∉ch:=λb u e z=>by rw[(h b z).1]at e; cases e
 have l:H a=q_:=I.hok.fresh j;have f:∀b u,H b=P3 u->A2 H a o b=P3 u:=λb u e=>by rw[AM (Ao e l)]; exact e
 refine I.step (g':=s.gens) (d':=s.drawn) (ch:=ch) (λb g=>?_) (λb o _ _ d e _=>k b o d e) (λb o _ _ d e _=>⟨o.slots,k b o d e⟩) (λb u _ e n=>?_) (λb o d e=>⟨o,k b o d e⟩) (λb p e=>f _ _ e) (λb o u e=>f _ _ e) (λb F e=>⟨#[],by rw[f _ _ e]; simp⟩) (λm t=>?_) (λb u e=>?_) I.bare
 ·obtain⟨G,x,J,y,A,B⟩:=h b g
  exact⟨y,x,A,B⟩
 ·rw[AM (f_ (f8 (Tk e) j))]; exact n
 ·obtain⟨o,C,D,E,r⟩:=t
  exact⟨o,C,D,k _ o (λz=>(h _ z).2.1 rfl) E,r⟩
 ·by_cases g:b=a
  ·subst g; rw[AR]at e; cases e; exact new
  ·rw[AM g]at e
   exact(I.hok b u e).stay (λc v d q=>k c v (d.elim (λz=>by grind) λz=>i c _ z) q) (λc q=>f _ _ q) λc p q=>f _ _ q
end
def SqK(c:Bool)(K:Frag)(H:Hp)(a:Db)(b:t_ V):Prop:=match c with
 |true=>SqL K H a b
 |false=>SqT K H a b
theorem SqK.at{c:Bool}{X:Cx}{e:t_ (Db×Obj)}{Z:L2.St}{H:Hp}{s:On}{a:Db}{d:t_ V}(I:Inv X e Z H s)(h:SqK c X.K H a d):∃b:t_ Ev,Vals d b/\SqAt c s.heap a b.toArray:=by
 cases c with
 |true=>obtain⟨b,r,f,_⟩:=I.list h; exact⟨_,r,f.isList⟩
 |false=>obtain⟨b,r,p,_⟩:=I.tuple h; exact⟨_,r,p⟩
def bD (K:Frag) (e f:Bool) (a b:Db) (c d:t_ V):It:=
  ⟨λi H=>SqK e K H a c ∧ SqK f K H b d ∧ i < c.length ∧ i < d.length,λi H x g=>∃ T p q,x=.ref T ∧ H T=q_ ∧ g=A2 H T (.tup [p,q]) ∧ c[i]?=P3 p ∧ d[i]?=P3 q,
   λi H=>SqK e K H a c ∧ SqK f K H b d ∧ (c.length ≤ i ∨ d.length ≤ i)⟩
structure ci (zY zX:Bool) (z TI TO i1 i2 a b:Db) (k:Nat) (h:fu):Prop where
 z:jZ h z TI TO .none
 ti:hZ h TI (.ref i1) (.ref i2)
 to:∃a b,hZ h TO a b
 i1:ItAt zY h i1 a k
 i2:ItAt zX h i2 b k
theorem UO{P:gD}{w:gK}{K:Frag}{es:t_ gB}{j:Nat}{pos:Pos}(zY zX:Bool)(z TI TO g l a b:Db)(xs ys:t_ V)(D:Tp z TI TO g l a b)(B:TI∉[z,TO,g,l]):
  Turn P w K (.Tuple es j pos) (bD K zY zX a b xs ys) [z,TI,TO,g,l] z (ci zY zX z TI TO g l a b) where
 mem:=by simp
 obj:=λi h d c f=>by
  simp only[fi,gI,or_false]at f
  rcases f with rfl|rfl|rfl|rfl|rfl
  ·exact⟨_,d.z,λv q=>by cases q⟩
  ·exact⟨_,d.ti,λv q=>by cases q⟩
  ·obtain⟨a,b,e⟩:=d.to
   exact⟨_,e,λv q=>by cases q⟩
  ·exact d.i1.lies
  ·exact d.i2.lies
 keep:=λi h h' d k=>by
  obtain⟨p,q,e⟩:=d.to;exact⟨k z (by simp) _ d.z,k TI (by simp) _ d.ti,⟨p,q,k TO (by simp) _ e⟩,d.i1.mv λo e=>k g (by simp) o e,d.i2.mv λo e=>k l (by simp) o e⟩
 item:=by
  intro X C F G f i zH s Z H E I r d J;subst C F G;obtain⟨L,M,m,hj⟩:=J;obtain⟨us,N,O⟩:=L.at I;obtain⟨ws,R,S⟩:=M.at I;obtain⟨u,hu,ru⟩:=N.get (FM m);obtain⟨v,hv,rv⟩:=R.get (FM hj);obtain⟨p,q,e⟩:=d.to;refine GC D d.z d.ti e d.i1 d.i2 O S (x:=u) (y:=v) (by simpa using hu) (by simpa using hv) λh' a1 a2 a3 a4 a5 a6 a7=>⟨_,rfl,?_⟩;refine wpAny_letOwnedTupleGo_zip a1 λT b1 n=>?_;have hT:H s.heap.objs.size=q_:=I.hok.fresh (Re _)
  have t:∀c o,c∉[z,TO,g,l]->s.heap.get? c=P3 o->T.get? c=P3 o:=λc o f e=>by
   simp only[fi,gI,or_false,not_or]at f;exact n.extBut _ _ f.1 (a7 c o f.1 f.2.1 f.2.2.1 f.2.2.2 e)
  have I2:Inv X zH Z (A2 H s.heap.objs.size (.tup [xs[i],ys[i]])) {s with heap:=T}:=by
   refine I.turnLaid (t':=s.toks) (ch:=[z,TO,g,l]) (λc f=>r c ?_) t (Re _) ?_
   ·simp only[fi,gI,or_false]at f ⊢
    rcases f with rfl|rfl|rfl|rfl <;>simp
   ·have nT:s.heap.objs.size≠z:=i7 (Tk d.z)
    exact⟨by show 2<=sizeLine; decide,[u,v],.cons ru (.cons rv .nil),⟨_,n.extBut _ _ nT a5,rfl,_,rfl,rfl,rfl⟩⟩
  have U:hZ T TI (.ref g) (.ref l):=t _ _ B d.ti;refine⟨.ref s.heap.objs.size,_,I2,rfl,⟨_,_,_,rfl,hT,rfl,FM m,FM hj⟩,⟨b1,U,⟨_,_,n.extBut _ _ D.TOz a2⟩,a3.eb n.extBut D.i1z,a4.eb n.extBut D.i2z⟩,λc f=>?_⟩;have W:H c=q_:=(r c f).1
  have Y:c≠s.heap.objs.size:=λz=>by
   obtain⟨o,ho,_⟩:∃o,s.heap.get? c=P3 o/\True:=by
    simp only[fi,gI,or_false]at f
    rcases f with rfl|rfl|rfl|rfl|rfl
    ·exact⟨_,d.z,trivial⟩
    ·exact⟨_,d.ti,trivial⟩
    ·exact⟨_,e,trivial⟩
    ·obtain⟨o,q,_⟩:=d.i1.lies; exact⟨o,q,trivial⟩
    ·obtain⟨o,q,_⟩:=d.i2.lies; exact⟨o,q,trivial⟩
   rw[z]at ho;exact gY _ (Tk ho)
  rw[AM Y]; exact W
 done:=by
  intro X C F G f i zH s Z H E I r d J;subst C F G;obtain⟨L,M,m⟩:=J;obtain⟨us,N,O⟩:=L.at I;obtain⟨ws,R,S⟩:=M.at I;obtain⟨p,q,e⟩:=d.to;have l1:=N.length;have l2:=R.length;refine G_ (I.ok.hd f) D d.z d.ti e d.i1 d.i2 O S (m.imp (λm=>by simp; omega) λm=>by simp; omega) λh' t=>⟨rfl,?_⟩;refine I.turnedL (t':=s.toks) (ch:=[z,TO,g,l]) (λc f=>r c ?_) λc o f e=>?_
  ·simp only[fi,gI,or_false]at f ⊢
   rcases f with rfl|rfl|rfl|rfl <;>simp
  ·simp only[fi,gI,or_false,not_or]at f
   exact t c o f.1 f.2.1 f.2.2.1 f.2.2.2 e
 self:=λA i s Q E d h=>mz d.z h
section
variable {X:Cx}
theorem Tu(n a b:Nat)(c:a<n)(d:b<n):Tp (n+4) (n+2) (n+3) n (n+1) a b:=by
 constructor <;>(grind)
theorem ZK(n:Nat):(n+2)∉[n+4,n+3,n,n+1]:=by
 grind
theorem ZL(n c:Nat)(h:c∈[n+4,n+2,n+3,n,n+1]):n<=c:=by
 grind
def d7(K:Frag)(g:TA):TI:=λZ H R=>g Z H λh H1=>∃c d a b e f,h=[.ref a,.ref b]/\SqK c K H1 a e/\SqK d K H1 b f/\R (bD K c d a b e f) H1
theorem Zo{m f:gB}{G:t_ gB}{j:Nat}{g:Pos}{y:TA}{p pos:Pos}(J:Gl X "zip")(L:X.mg "zip"=q_)(M:PA X [m,f] y)(N:starEach [m,f] X.env=[(s_,eval m X.env),(s_,eval f X.env)]:=by rfl)(i:starEach [f] X.env=[(s_,eval f X.env)]:=by rfl):
  PI X (.Tuple G j g) (.Call (.Name "zip" p) [m,f] [] pos) (d7 X.K y):=by
 intro O s Z H R I h;refine Call_ (DJ I J L boot_zip (hU (thn (M pos O s Z H _ I h) λP d ⟨vs,H1,k,Q,n⟩=>?_) (by rw[N,i]) (by rw[i]; rfl)));obtain⟨z,A,a,b,B,C,e,S,T,q⟩:=n;subst e;obtain⟨u,v,rfl,U,V⟩:=vals2 Q;cases U;cases V;obtain⟨P,W,n⟩:=S.at k;obtain⟨ws,Y,E⟩:=T.at k;have la:a<d.heap.objs.size:=by obtain⟨o,e⟩:=n.lies; exact Tk e
 have lb:b<d.heap.objs.size:=by obtain⟨o,e⟩:=E.lies; exact Tk e
 refine HI n E λh' F r t w x hk=>?_;refine mz F ?_;have D:=Tu d.heap.objs.size a b la lb;refine⟨d.heap.objs.size+4,[d.heap.objs.size+4,d.heap.objs.size+2,d.heap.objs.size+3,d.heap.objs.size,d.heap.objs.size+1],_,bD X.K z A a b B C,H1,rfl,k.kept (t':=d.toks) hk,UO z A _ _ _ _ _ a b B C D (ZK d.heap.objs.size),⟨F,r,⟨_,_,t⟩,w,x⟩,λc hc=>?_,q⟩;have l:d.heap.objs.size<=c:=ZL d.heap.objs.size c hc;exact k.fpOk l (k.hok.fresh l)
end
end L2
namespace Dp
open L2
def Ho(a b:t_ D):t_ D:=gn (λd e=>.tup [d,e]) a b
section
variable {K:Frag}
theorem MW{U g M:Db->Prop}{H:Hp}{d:D}{v:V}{l:t_ D}(h:AtT K g M H d v)(e:G0 d=P3 l)(m:∀a,U a->g a)(s:∀a,g a->M a):∃p a c,v=.ref a/\Ats K M H l c/\∀i f,Pres M H i f->Ext U H f->SqK p K f a c:=by
 cases d with
 |lst q=>
  cases e;obtain⟨a,c,j,n,b,k⟩:=h;refine⟨r_,a,c,j,k,λi f _ ex=>?_⟩
  rcases b with b|⟨o,b⟩
  ·exact .inl (.inl (ex.keep b λz=>n (m a z)))
  ·exact .inl (.inr ⟨o,ex.keep b λz=>n (m a z)⟩)
 |tup q=>
  cases e;obtain⟨a,c,j,b,k⟩:=h;exact⟨s_,a,c,j,k,λi f r _=>(b.pres r).sq⟩
 |_=>cases e
theorem UZ{M:Db->Prop}{H:Hp}{d:D}{v:V}{l:t_ D}(h:At K M H d v)(e:G0 d=P3 l):∃m a b,v=.ref a/\Ats K M H l b/\∀f c,Pres M H f c->SqK m K c a b:=by
 cases d with
 |lst n=>
  cases e;obtain⟨a,b,g,i,j⟩:=h;exact⟨r_,a,b,g,j,λf c k=>(i.pres k).sq⟩
 |tup n=>
  cases e;obtain⟨a,b,g,i,j⟩:=h;exact⟨s_,a,b,g,j,λf c k=>(i.pres k).sq⟩
 |_=>cases e
theorem Pc{M:Db->Prop}{H:Hp}{l m:Bool}{a b:Db}{f g:t_ V}{h j:t_ D}(v:Ats K M H h f)(w:Ats K M H j g){i:Nat}{s:Db->Prop}{c:Hp}(z:Pres M H s c)(A:SqK l K c a f)(B:SqK m K c b g)(t:∀a,s a->∃o,c a=P3 o):
  (∀d,(Ho h j)[i]?=P3 d->(bD K l m a b f g).go i c/\∀x n,(bD K l m a b f g).yld i c x n->Grow c n/\At K s n d x)/\((Ho h j).length<=i->(bD K l m a b f g).stop i c):=by
 have Q:=v.length;have R:=w.length;refine⟨λd e=>?_,λG=>⟨A,B,?_⟩⟩
 ·unfold Ho at e
  rw[lP]at e;cases k:h[i]? with
  |none=>rw[k]at e; simp at e
  | some I=>
   cases r:j[i]? with
   |none=>rw[k,r]at e; simp at e
   |some J=>
    rw[k,r]at e;have u:D.tup [I,J]=d:=ft e;have S:i<h.length:=(ZB.mp k).1;have U:i<j.length:=(ZB.mp r).1;refine⟨⟨A,B,by omega,by omega⟩,λx n y=>?_⟩;obtain⟨T,p,q,rfl,C,rfl,L,N⟩:=y;obtain⟨W,E,O⟩:=(v.pres z).get k;obtain⟨X,F,P⟩:=(w.pres z).get r;rw[L]at E;rw[N]at F;cases E;cases F;subst u;exact⟨Av C,D_ t C ⟨p,[q],rfl,O,q,[],rfl,P,rfl⟩⟩
 ·unfold Ho at G
  grind
end
section
variable {X:Cx}{e1 e2:Expr}{es:t_ Expr}{j:Nat}{tpos p pos:Pos}{ws:Dh}
def ZM(ws:Dh):Dh:=λn c P=>ws n c λf g=>∃d e a b,f=[d,e]/\G0 d=P3 a/\G0 e=P3 b/\P (Ho a b) g
theorem WC(u:Gl X "zip")(x:X.mg "zip"=q_)(y:ZH X [e1,e2] ws)(z:starEach [e1,e2] X.env=[(s_,eval e1 X.env),(s_,eval e2 X.env)]:=by rfl)(c:starEach [e2] X.env=[(s_,eval e2 X.env)]:=by rfl):
  DI X (.Tuple es j tpos) (.Call (.Name "zip" p) [e1,e2] [] pos) (ZM ws):=by
 obtain⟨t,A,B⟩:=y;refine⟨_,Zo u x A z c,λC M H n D Z P V R w q=>?_⟩;refine B C M H n D Z _ _ R w λW H1 Y E F G f p=>?_;obtain⟨d,e,xs,ys,rfl,I,J,p⟩:=p;obtain⟨v,r,rfl,f,v',K,rfl,L,N⟩:=f;cases(show K=[]from N);obtain⟨O,a,Q,rfl,S,l⟩:=UZ f I;obtain⟨T,b,g,rfl,U,m⟩:=UZ L J;exact⟨O,T,a,b,Q,g,rfl,l M H1 (Pres.refl _ _),m M H1 (Pres.refl _ _),q _ H1 _ E F G (λi o s h k=>Pc S U h (l o s h) (m o s h) k) p⟩
def dq:D->u_ Key
 |.int i=>P3 (.inl i)
 |.str x=>P3 (.inr x)
 |_=>q_
def Ly:t_ D->u_ (t_ Key)
 |[]=>P3 []
 |d::a=>match dq d,Ly a with
  |some k,P3 b=>P3 (k::b)
  |_,_=>q_
theorem HD{K:Frag}{M:Db->Prop}{H:Hp}:∀{c:t_ D}{a:t_ V}{b:t_ Key},Ly c=P3 b->Ats K M H c a->a=b.map kOf
 |[],a,b,e,h=>by cases e; exact h
 | d::c,a,b,e,h=>by
  obtain⟨v,r,e1,l,m⟩:=h;unfold Ly at e
  split at e
  ·rename_i k n f g
   cases e;rw[e1,HD g m]
   congr 1
   cases d with
   |int i=>cases f; exact l
   |str x=>cases f; exact l.1
   |_=>cases f
  ·cases e
def Ox(d e:D)(P:D->Prop):Prop:=match d,e with
 |.int i,.int j=>P (.bl (decide (i<j)))
 |.str i,.str j=>P (.bl (decide (i.cps.toList<j.cps.toList)))
 |.tup c,.tup f=>∃a b,Ly c=P3 a/\Ly f=P3 b/\B0 a b=r_/\P (.bl (IK a b))
 |_,_=>False
def bj(K:Frag):R2:=λx y H Q=>Zi x y H Q\/bi K x y H Q
theorem KY{k:Nat}(a:Room k X.A):OpR X (compareOp .Lt) (bj X.K):=op_ltU.or (Zv a.units0)
theorem PR:F9 X.K .sh (bj X.K) Ox:=λU M H d e x y P Q c h f g w q=>by
 unfold Ox at w
 split at w
 ·exact .inl (Y9 U M H _ _ x y P Q c h f g w q)
 ·exact .inl (Y9 U M H _ _ x y P Q c h f g w q)
 ·obtain⟨i,k,l,m,n,w⟩:=w
  obtain⟨a,u,rfl,o,r⟩:=f.tup;obtain⟨b,v,rfl,s,t⟩:=g.tup;have e1:=HD l r;have e2:=HD m t;subst e1 e2;exact .inr ⟨a,b,i,k,rfl,rfl,o.sq,s.sq,n,q _ H (.bl _) .refl rfl w⟩
 grind
end
end Dp
namespace L2
section
variable {prog:Program}{w:World}{A:Around}{E:Value->Shared->Prop}{s:Shared}
theorem Nq{t f:Db}{a:Array Ev}{k l:Ev}{b e:u_ Int}{Q:Ev->On->Prop}(c:IsTup s.heap t a)(n:s.heap.IsSliceOf f k l .none)(p:lV k b)(q:lV l e)
  (o:HT.sIx a.size 0 b=0/\HT.sIx a.size a.size e=a.size) (h:Q (.ref t) s):wpAny (model prog w) A (getItem (.ref t) (.ref f)) Q E s:=by
 obtain⟨r,g,i,u⟩:=id n;have j:s.TypeIs (.ref f) "slice":=⟨r,g,i⟩;unfold getItem
 (try with_reducible refine gQ ?_); (first|refine Ch (Op ?_)|skip)
 refine Ch (wpAny_sequenceKey c.typeIs (by decide) (Ch (gw (name:=ig "__getitem__") c.typeIs iB (iN iB c.typeIs entry_tuple_getitem ?_ (args_tuple_getitem _ _)))));show wpAny (model prog w) _ (mU (.ref t) >>=_) _ _ s;refine Ch (tupleItemsOf_ c (Ch (i9 j ?_))); rw[if_pos (by decide)]
 refine Ch (HT.sliceApplied_gen n p q ?_);have d:(((HT.sIx a.size 0 b:Nat):Int)==0&&(1:Int)==1&&(HT.sIx a.size a.size e - HT.sIx a.size 0 b)==a.size)=r_:=by rw[o.1,o.2]; simp
 show wpAny (model prog w) _ (if(((HT.sIx a.size 0 b:Nat):Int)==0&&(1:Int)==1&&(HT.sIx a.size a.size e - HT.sIx a.size 0 b)==a.size)=r_ then _ else _) _ _ s;rw[if_pos d];refine Ch (m:=mV _) ?_;unfold mV;refine Ch (i9 c.typeIs (Op ?_));show wpAny (model prog w) _ (if((kU "tuple"==kU "tuple")=r_)then _ else _) _ _ s;rw[if_pos (by decide)]
 first
  |grind
  |exact Ch (kY (Op ⟨_,rfl,Op h⟩))
  |grind
end
section
variable {X:Cx}
def Ym(K:Frag):V->u_ Int->u_ Int->Hp->VK->Prop:=λx c d H Q=>∃a b,x=.ref a/\SqT K H a b/\(HT.sIx b.length 0 c=0/\HT.sIx b.length b.length d=b.length)/\Q (.ref a) H
theorem W7:SlR X (Ym X.K):=by
 intro k s Z H x v l m n o p Q I d e f g h;obtain⟨a,t,rfl,i,u,q⟩:=h;cases d;obtain⟨j,r,b,w⟩:=I.tuple i;have c:=r.length.symm;exact⟨_,_,iB.lookup,b.typeIs,Nq b e f g (by grind) ⟨.ref a,H,I,rfl,q⟩⟩
end
section
variable {X:Cx}
def Uv(K:Frag):R2:=λx y H Q=>∃a b c,x=.ref a/\y=.ref b/\SqT K H a []/\SqT K H b c/\Q (.ref b) H
theorem VL:OpR X (binaryOp .Add) (Uv X.K):=by
 intro M s Z H x y v u Q I l m h;obtain⟨a,b,N,rfl,rfl,o,p,q⟩:=h;cases l;cases m;obtain⟨r,t,w,_⟩:=I.tuple o;obtain⟨g,O,z,_⟩:=I.tuple p;cases t;obtain⟨⟨A,B,i,C⟩,j,D,n,E⟩:=id w;obtain⟨⟨k,G,d,J⟩,c,e,L,f⟩:=id z;subst D E e f;exact concat_meets ⟨_,j,rfl⟩ ⟨_,c,rfl⟩ mr seq_tuple_add PySem.F.slot_tuple_add PySem.F.entry_tuple_add (PySem.F.args_tuple_add_2 _ _) (tuple_addW0 a b _ _ n L B _ C _ (by simp)) ⟨j,c,⟨.ref b,H,I,rfl,q⟩⟩
def bI(b:Bool):Int:=if b=r_ then 1 else 0
def dC(g:Int->Int->Int):R2:=λx y H Q=>∃k j,x=.bl k/\y=.int j/\Q (.int (g (bI k) j)) H
def ef(g:Int->Int->Int):R2:=λx y H Q=>∃i k,x=.int i/\y=.bl k/\Q (.int (g i (bI k))) H
theorem op_add_bi:OpR X (binaryOp .Add) (dC λi j=>i+j):=by
 intro c s Z H x y v u Q I a b h;obtain⟨k,j,rfl,rfl,q⟩:=h;cases a;obtain⟨t,rfl⟩:=b;exact PySem.IntBool.add_bool_int ⟨.int _,H,I.tok _,⟨_,rfl⟩,q⟩
theorem op_sub_bi:OpR X (binaryOp .Sub) (dC λi j=>i - j):=by
 intro c s Z H x y v u Q I a b h;obtain⟨k,j,rfl,rfl,q⟩:=h;cases a;obtain⟨t,rfl⟩:=b;exact PySem.IntBool.sub_bool_int ⟨.int _,H,I.tok _,⟨_,rfl⟩,q⟩
theorem SY:OpR X (binaryOp .Sub) (ef λi j=>i - j):=by
 intro c s Z H x y v u Q I a b h;obtain⟨i,k,rfl,rfl,q⟩:=h;obtain⟨t,rfl⟩:=a;cases b;exact PySem.IntBool.sub_int_bool ⟨.int _,H,I.tok _,⟨_,rfl⟩,q⟩
end
end L2
namespace Dp
open L2
section
variable {K:Frag}{X:Cx}
def BB(d e:D)(P:D->Prop):Prop:=match d,e with
 |.int i,.int j=>P (.int (i+j))
 |.bl k,.int j=>P (.int (bI k+j))
 |.str i,.str j=>i.length+j.length<=sizeLine/\P (.str (i++j))
 |.tup i,.tup j=>i.length+j.length<=sizeLine/\P (.tup (i++j))
 |.lst i,.lst j=>i.length+j.length<=sizeLine/\P (.lst (i++j))
 |_,_=>False
def Yu(K:Frag):R2:=λx y H Q=>Ux K x y H Q\/(dC λi j=>i+j) x y H Q\/Uv K x y H Q
theorem A7:OpR X (binaryOp .Add) (Yu X.K):=op_addU.or (op_add_bi.or VL)
theorem BD:F9 X.K .sh (Yu X.K) BB:=λU M H d e x y P Q c h f g w q=>by
 unfold BB at w
 split at w
 ·exact .inl (NT U M H (.int _) (.int _) x y P Q c h f g w q)
 ·rename_i k j
  exact .inr (.inl ⟨k,j,f,g,q _ H (.int _) .refl rfl w⟩)
 ·exact .inl (NT U M H _ (.str _) x y P Q c h f g w q)
 ·rename_i i j
  cases i with
  |nil=>
   obtain⟨a,r,rfl,n,o⟩:=f.tup;obtain⟨b,l,rfl,m,p⟩:=g.tup;cases(o);exact .inr (.inr ⟨a,b,l,rfl,rfl,n.sq,m.sq,q _ H (.tup j) .refl ⟨b,l,rfl,m,p⟩ (by grind)⟩)
  |cons s i=>exact .inl (NT U M H _ (.tup j) x y P Q c h f g ⟨(by grind),w⟩ q)
 ·exact .inl (NT U M H (.lst _) (.lst _) x y P Q c h f g w q)
 grind
def Et(d e:D)(P:D->Prop):Prop:=match d,e with
 |.int i,.int j=>P (.int (i - j))
 |.bl k,.int j=>P (.int (bI k - j))
 |.int i,.bl k=>P (.int (i - bI k))
 |_,_=>False
def Yk:R2:=λx y H Q=>(Ij λi j=>.int (i - j)) x y H Q\/(dC λi j=>i - j) x y H Q\/(ef λi j=>i - j) x y H Q
theorem DU:OpR X (binaryOp .Sub) Yk:=op_sub.or (op_sub_bi.or SY)
theorem Fa:F9 K .sh Yk Et:=λU M H d e x y P Q a f b c w q=>by
 unfold Et at w
 split at w
 ·exact .inl (WW U M H _ _ x y P Q a f b c w q)
 ·rename_i k j
  exact .inr (.inl ⟨k,j,b,c,q _ H (.int _) .refl rfl w⟩)
 ·rename_i i k
  exact .inr (.inr ⟨i,k,b,c,q _ H (.int _) .refl rfl w⟩)
 grind
def M8(d:D)(a b:u_ Int)(P:D->Prop):Prop:=match d with
 |.str z=>P (.str (Txt.slice z a b))
 |.lst c=>P (.lst (cutD c a b))
 |.tup c=>P (.tup (cutD c a b))
 |_=>False
def bg(K:Frag):V->u_ Int->u_ Int->Hp->VK->Prop:=λx a b H Q=>bc x a b H Q\/be K x a b H Q\/bd K x a b H Q\/Ym K x a b H Q
theorem R7:SlR X (bg X.K):=sl_U.or (sl_list.or (sl_tup.or W7))
theorem Rf{M:Db->Prop}{H:Hp}{a:t_ D}{b:t_ V}(c d:u_ Int)(h:Ats K M H a b):Ats K M H (cutD a c d) (O4 b c d):=by
 unfold cutD O4;rw[h.length];exact(h.drop _).take _
theorem MG:e9 K .sh (bg K) M8:=by
 intro U M H d x c f P Q h n i w q;unfold M8 at w
 split at w
 ·rename_i z
  exact .inl ⟨z,i.str.1,i.str.2,q _ H (.str (Txt.slice z c f)) .refl ⟨rfl,gO (Txt.slice_le z c f) i.str.2⟩ w⟩
 ·rename_i l
  obtain⟨a,b,rfl,_,j,g⟩:=i;exact .inr (.inl ⟨a,b,rfl,.inl j,λp k=>q _ _ (.lst _) (Av k) ((Cg (U:=U) k (Rf c f g)).shOf h (by grind)) w⟩)
 ·rename_i l
  obtain⟨a,b,rfl,j,g⟩:=i.tup
  by_cases m:HT.sIx b.length 0 c=0/\HT.sIx b.length b.length f=b.length
  ·refine .inr (.inr (.inr ⟨a,b,rfl,j.sq,m,?_⟩))
   have e:cutD l c f=l:=by
    unfold cutD;rw[←g.length,m.1,m.2,List.drop_zero,Nat.sub_zero,g.length,lI]
   rw[e]at w;exact q _ H (.tup l) .refl ⟨a,b,rfl,j,g⟩ w
  ·exact .inr (.inr (.inl ⟨a,b,rfl,j.sq,m,λp k=>q _ _ (.tup _) (Av k) (D_ h k (Rf c f g)) w⟩))
 grind
end
end Dp
namespace Nt
open L2 Dp
def Ct:W2:=λa n P=>∃m:Int,a=[.fd,.sh (.int m)]/\1<=m/\m<1073741824/\1<=n/\∀r:Int,0<=r->r<m->P (.int r) (n - 1)
def cs(x:Str):t_ Nat:=x.cps.toList
theorem aY{x y:Str}(h:cs x=cs y):x=y:=by
 obtain⟨a⟩:=x;unfold cs at h
 simp_all
def Vb(x:Str):Prop:=1<=x.length/\x.length<=8/\∀c∈cs x,97<=c/\c<=122
def rising(a:t_ Str):Prop:=a.Pairwise λx y=>cs x<cs y
theorem VN(a b:t_ Nat):ltCps a b=decide (a<b):=ltCps_eq a b
theorem Ik:∀(l:t_ Str) (p:Str),risingS p l=r_->(p::l).Pairwise λa b=>¬cs b<cs a
 |[],p,_=>nB _ _
 |x::r,p,h=>by
  have c:(!ltCps _ _&&risingS x r)=r_:=h;rw[gj,Bool.not_eq_true',VN,decide_eq_false_iff_not]at c;have e:=Ik r x c.2;refine gq.mpr ⟨λy d=>?_,e⟩
  rcases fi.mp d with rfl|d
  ·exact c.1
  ·exact List.le_trans c.1 ((gq.mp e).1 y d)
theorem LG{l:t_ Str}(h:sortedS l=r_)(nd:l.Nodup):rising l:=by
 have c:l.Pairwise λa b=>¬cs b<cs a:=by
  cases l with
  |nil=>simp_all
  |cons x r=>exact Ik r x h
 exact(c.and nd).imp λ{a b} ⟨d,e⟩=>mj λf=>e (aY (List.le_antisymm d f))
theorem CY(a:Int)(n:Nat):(CZ a n).length=n:=by unfold CZ; grind
theorem G3{a:Int}{n:Nat}{d:D}(h:d∈CZ a n):∃k:Nat,k<n/\d=.int (a+k):=by
 obtain⟨k,b,rfl⟩:=Uf.mp h;exact⟨k,iU.mp b,rfl⟩
end Nt
namespace L2
theorem Z0{K:Frag}:PySem.W.specialIn K (.builtin "object.__class__") "__get__"=P3 (P3 (.builtin "getset_descriptor.__get__")):=by kernel_rfl
theorem VM{K:Frag}:PySem.W.takesIn K (.builtin "object.__class__")=P3 r_:=by kernel_rfl
section
variable {K:Frag}{nm n1 n2:Str}{C U D U':Addr}
theorem XC.mro(c:XC K nm C U)(v:Ev):PySem.W.mroIn K C v=P3 ((fj C::fj U::Cq).contains v):=by
 obtain⟨d,a,b,_⟩:=c.cls;unfold PySem.W.mroIn;rw[a,Option.bind_some,b]; rfl
theorem XC.name(c:XC K n1 C U)(d:XC K n2 C U'):n1=n2:=by
 obtain⟨f,g,_,_,h⟩:=c.cls;obtain⟨a,b,_,_,e⟩:=d.cls
 grind
theorem XC.nameU(c:XC K n1 C U)(d:XC K n2 U U'):n2="ThinError":=by
 obtain⟨q,N,i,j,b,k,f,l,m,n,o,p,r,s,e⟩:=c.up;obtain⟨g,a,_,_,h⟩:=d.cls;unfold PySem.W.clsIn at a;rw[e]at a
 grind
theorem XC.ty(c:XC K nm C U):(PySem.W.clsIn K C).isSome=r_/\PySem.W.typeIn K (.ref C)=P3 (.type "type"):=by
 obtain⟨q,N,d,f,a,g,b,h,i,j,k,l,m,e⟩:=c.obj;refine⟨by unfold PySem.W.clsIn; rw[e]; rfl,?_⟩;unfold PySem.W.typeIn
 simp_all
theorem XC.kit(c:XC K n1 C U)(d:XC K n2 D U')(h:n2 ≠ "ThinError"):PySem.W.kitOne K (.ref C) (.ref D)=P3 (decide (n1=n2)):=by
 unfold PySem.W.kitOne
 by_cases e:C=D
 ·subst e
  rw[c.name d];simp
 ·have a:n1≠n2:=λz=>by
   subst z;have q:=c.at_.symm.trans d.at_
   grind
  have b:U≠D:=λz=>by subst z; exact h (c.nameU d)
  rw[if_neg (by simp[e])];show(if((PySem.W.clsIn K D).isSome&&PySem.W.typeIn K _==P3 _)=r_ then PySem.W.subIn K _ _ else q_)=_;rw[if_pos (by rw[d.ty.1,d.ty.2]; rfl)];show PySem.W.mroIn K C (.ref D)=_;rw[c.mro,Ir]
  grind
theorem XC.kitV(c:XC K n1 C U):PySem.W.kitOne K (.ref C) (.type "ValueError")=P3 r_:=by
 show PySem.W.mroIn K C _=_;rw[c.mro];simp[Cq]
end
section
variable {prog:Program}{w:World}{A:Around}{E:Value->Shared->Prop}{s:Shared}{K:Frag}{nm name:Str}{x C U:Addr}{ox:Obj}{od:u_ Obj}{tk:Tok}{fill expr:Bool}
theorem bH{Q:Ev->On->Prop}(X:K.In s.heap)(c:XC K nm C U)(I:PySem.W.InstAt s.heap x ox C od)
  (h:wpAny (model prog w) A.in1 (iS.«object.__getattribute__» ⟨[.ref x,.str name tk],[]⟩) (λa d=>match a with|.done (.ret v)=>wpAny (model prog w) A (handedOut v) Q E d|_=>False) (λ_ _=>False) s):
  wpAny (model prog w) A (getAttrBy (.ref x) (.str name tk) fill expr) Q E s:=by
 have e:=PySem.F.excAttr_ValueError;have f:(jG "BaseException.__getattribute__"==jG "object.__getattribute__")=s_:=by decide +kernel
 have i:(onTheHeap (fj C)&&jG "BaseException.__getattribute__"==jG "object.__getattribute__")=s_:=by rw[f]; rfl
 have g:(expr&&onTheHeap (jG "BaseException.__getattribute__"))=s_:=by cases expr <;>rfl
 have b:PySem.W.Looks (model prog w) s.heap (isInstance (.ref x) (.type "BaseException")) r_:=by
  refine I.type.andThen (PySem.W.looks_mroIn X ?_);rw[c.mro]; simp[Cq]
 refine gQ (Ch (I.type.here (Ch ((PySem.W.looks_findIn X c.ga).here ?_))));show wpAny _ _ (if(onTheHeap (fj C)&&jG _==jG _)=r_ then _ else getAttrByItsOwn _ _ _ _ _ _) _ _ _;refine Ch ((PySem.W.looks_findIn X c.gt).here (Ch (jF (gQ ?_))));unfold callGetattribute boundAndCalled;rw[g,e.ga.bind (.ref x)];refine Ch (Op (jq (kA e.ga.plain PySem.F.entry_bexc_ga (@PySem.W.check_slot (model prog w) _ _ s _ "BaseException" "__getattribute__" (.ref x) [.str name tk] [] _ (by decide +kernel) (by decide +kernel) b (PySem.F.args_bexc_ga _ _) (gU h (λa d z=>?_) λ_ _ z=>z.elim)))))
 rcases a with(_|_|_|_)|_ <;>first|exact z|exact z.elim
theorem Tv{g a v:Ev}{Q:u_ Ev->On->Prop}(X:K.In s.heap)(c:XC K nm C U)(I:PySem.W.InstAt s.heap x ox C od)(b:PySem.W.findObj K C od name=P3 (.bind g a))(d:PySem.W.handedIn v=r_)
  (h:∀{A:gS}{R:Ev->On->Prop},R v {s with toks:=s.toks+1}->wpAny (model prog w) A (call g [a,.ref x,.ref C]) R (λ_ _=>False) {s with toks:=s.toks+1}) (q:Q (P3 v) {s with toks:=s.toks+1}):
  wpAny (model prog w) A (getAttr? (.ref x) name) Q E s:=by
 refine Ch (wpAny_mkText (Ch (jF (bH X c I ?_))));unfold iS.«object.__getattribute__»;refine Ch (Op (Ch (Op (Ch (PySem.W.Looks.here I.type (Ch (PySem.W.Looks.here (PySem.W.looks_find X I b) ?_)))))));refine Ch (gQ (h (Op ?_)));show wpAny _ _ _ _ _ _;rw[PySem.W.handedOut_of d]; exact Op (Op q)
end
section
variable {K:Frag}{nm:Str}{C U:Addr}
theorem XC.kitX{a:Db}(c:XC K nm C U):PySem.W.KitX K (.ref a) (.ref C) (λh=>∃i b,PySem.W.InstAt h a i C b) where
 ty:=λ_ _ _ ⟨_,_,I⟩=>I.type
 it:=λ_ _ X _=>by
  obtain⟨q,N,l,m,d,o,f,p,t,u,v,x,y,e⟩:=c.obj;intro L M O P k q;exact Ch (wpAny_loadPart (k _ _ (X _ _ e)) (Op q))
 ne:=λh tp B D n R X g=>by
  obtain⟨q,N,l,m,d,o,f,p,t,u,v,x,y,e⟩:=c.obj;refine io.mpr λz=>?_;have F:C=tp:=Value.ref.inj (beq_iff_eq.mp z);subst F;have S:=congrArg Obj.data (ft ((X _ _ e).symm.trans g))
  grind
 ca:=λ{j w A E Q s} X J k=>by
  obtain⟨i,b,I⟩:=J
  have G:PySem.W.findObj K C b "__class__"=P3 (.bind (.builtin "getset_descriptor.__get__") (.builtin "object.__class__")):=by
   obtain⟨T,H,_⟩:=c.cls;unfold PySem.W.findObj;rw[H,c.ca];simp[Z0,VM]
  exact Tv X c I G rfl (λr=>jq (PySem.W.class_get X I (c.mro _) r)) k
end
section
variable {X:Cx}{zH:t_ (Addr×Obj)}{Z:St}{H:Hp}{s:Shared}{a C d:Addr}{dx:u_ Addr}{u:HO}
theorem XT.inst(e:XT C dx a u)(I:Inv X zH Z H s)(f:H a=P3 u)(g:∀d,dx=P3 d->∃o,s.heap.get? d=P3 o):∃h b,PySem.W.InstAt s.heap a h C b:=by
 obtain⟨j,k,rfl,l⟩:=e;obtain⟨c,_⟩:=(I.hok a _ f);cases dx with
 |none=>exact⟨_,q_,c,rfl,rfl,trivial⟩
 |some d=>
  obtain⟨o,i⟩:=g d rfl;exact⟨_,P3 o,c,rfl,rfl,i⟩
end
section
variable {X:Cx}{e:Expr}
theorem O_:By X (.builtin "isinstance") (λg H Q=>∃a C U f u i y c b,g=[.ref a,y]/\H a=P3 u/\XT C f a u/\(∀d,f=P3 d->∃j,H d=P3 (.ext (XF d j)))/\XC X.K i C U/\(y=.ty c/\PySem.W.kitOne X.K (.ref C) (.type c)=P3 b\/∃D,y=.ref D/\PySem.W.kitOne X.K (.ref C) (.ref D)=P3 b)/\Q (.bl b) H):=by
 intro E s Z H g F Q I r h;obtain⟨a,C,U,f,u,i,y,c,b,rfl,n,p,t,k,v,q⟩:=h;obtain⟨x,l,rfl,z,m⟩:=vals2 r;cases(show x=fj a from z)
 have J:=p.inst I n λd e=>by
  obtain⟨j,A⟩:=t d e;obtain⟨⟨G,⟨o,_,_,L,_⟩,_⟩,_⟩:=(show ObjOk X.prog X.w H s.heap d _ from I.hok d _ A)
  grind
 rcases v with⟨rfl,e⟩|⟨D,rfl,e⟩
 ·cases(show l=kU c from m)
  exact PySem.W.kia_one k.kitX I.kIn J e (by grind) λB=>⟨.bl b,H,I.tok _,rfl,q⟩
 ·cases(show l=fj D from m)
  exact PySem.W.kia_one k.kitX I.kIn J e (by grind) λB=>⟨.bl b,H,I.tok _,rfl,q⟩
end
end L2
namespace Dp
open L2
def e7(M:Db->Prop)(H:Hp)(a:u_ Db)(b:t_ Str)(c:t_ V):Prop:=a=q_/\b=[]/\c=[]\/∃d,a=P3 d/\¬M d/\H d=P3 (.ext (XF d (b.zip c)))
abbrev PX:=Str->t_ Str->t_ D->Nat->Prop
abbrev WX:=t_ Slot->Nat->(D->Nat->Prop)->PX->Prop
def LiftX(K:Frag)(F:u_ Fd)(U M:Db->Prop)(H:Hp)(h:PX)(E:XK):Prop:=∀d C i b c e f a g,Ext U H a->FeedC K F M a g->XC K d C i->e7 M a f b e->b.length=c.length->Ats K M a c e->h d b c g->E (.ref C) f a
def dB(K:Frag)(h:Kd)(W:WX)(i:Nat):Sp:=λb H Q E=>b.length=i/\∃(F:u_ Fd) (U c M:Db->Prop) (n:Nat) (e:t_ Slot) (P:D->Nat->Prop) (f:PX),aw K F U c M H n e b/\W e n P f /\
 (∀v a d g,Ext U H a->FeedC K F M a g->VR K c M H a h v d->P d g->Q v a)/\LiftX K F U M H f E
section
variable {K:Frag}{C:Fm}{M:Addr->Prop}{H:Hp}{n:Nat}{ρ:t_ Slot}{Z:L2.St}
theorem Rel.setS(R:Rel K C M H n ρ Z){i:Nat}{s:Slot}{o:u_ V}(x:s.owns=s_)(y:∀d,s≠.br d)(h:SlotOk K C.F C.V M H s o):Rel K C M H n (ρ.set i s) (Z.set i o):=by
 have b:∀(j:Nat) (t:Slot),(ρ.set i s)[j]?=P3 t->t.owns=r_->ρ[j]?=P3 t/\((Z.set i o)[j]?).getD q_=(Z[j]?).getD q_:=λj t q w=>by
  rcases EO q with⟨_,_,rfl⟩|⟨f,q⟩
  ·rw[x]at w; cases w
  ·exact⟨q,GO f⟩
 refine⟨by rw[iq,iq]; exact R.len,R.sub,R.dom,R.ext,R.fU,R.uV,R.vM,R.feed,λj s q=>?_,R.pin,λj e a q c=>?_,λj s a q o c=>?_,λj k s t a g m c r u v=>?_,λp z=>?_⟩
 ·rcases EO q with⟨rfl,A,rfl⟩|⟨f,q⟩
  ·rw[Pn (by rw[←R.len]; exact A)]
   exact h
  ·rw[GO f]
   exact R.sl j s q
 ·rcases EO q with⟨_,_,e⟩|⟨f,q⟩
  ·exact absurd e.symm (y _)
  ·rw[GO f]at c
   exact R.br0 j e a q c
 ·obtain⟨g,e⟩:=b j s q o
  rw[e]at c;exact R.new j s a g o c
 ·obtain⟨B,D⟩:=b j s g m
  obtain⟨E,l⟩:=b k t c r;rw[D]at u;rw[l]at v;exact R.two j k s t a B m E r u v
 ·obtain⟨G,I,J,L⟩:=R.kept p z
  refine⟨G,I,J,λj e q=>?_⟩;obtain⟨g,l⟩:=b j _ q rfl;rw[l];exact L j e g
end
def dO(c:Fm->Prop)(X:Cx)(d:Kd)(e:gG)(w:AZ):Prop:=∃t,PS X e t/\∀(C:Fm) (M:Db->Prop) (H:Hp) (n:Nat) (a:t_ Slot) (Z:L2.St) (b:E2) (E:Ends),c C->Rel X.K C M H n a Z->Hl X.K C d b E->w b n a->t E Z H
def PZ(c:Fm->Prop)(X:Cx)(d:Kd)(e:t_ gG)(w:AZ):Prop:=∃t,PSs X e t/\∀(C:Fm) (M:Db->Prop) (H:Hp) (n:Nat) (a:t_ Slot) (Z:L2.St) (b:E2) (E:Ends),c C->Rel X.K C M H n a Z->Hl X.K C d b E->w b n a->t E Z H
section
variable {Φ:Fm->Prop}{X:Cx}{κ:Kd}{st:Stmt}{rest:t_ Stmt}{u v:AZ}{wA:Hm}{c:Expr}{pos p:Pos}
theorem X9(h:Pb X κ rest u):PZ Φ X κ rest u:=let ⟨t,a,b⟩:=h; ⟨t,a,λC M H n c Z d E _=>b C M H n c Z d E⟩
theorem S_(d:dO Φ X κ st u)(e:PZ Φ X κ rest v):PZ Φ X κ (st::rest) (Af u v):=by
 obtain⟨t,f,g⟩:=d;obtain⟨j,h,i⟩:=e;exact⟨_,Az f h,λC M H n a Z b E c R L w=>g C M H n a Z {b with nx:=v b} _ c R ⟨λM H n a Z R w=>i C M H n a Z b E c R L w,L.rt,L.bk,L.ct⟩ w⟩
theorem V8(a:dO Φ X κ st u):PZ Φ X κ [st] u:=by
 obtain⟨t,b,c⟩:=a;exact⟨t,BQ b,c⟩
theorem aQ{a b:t_ gG}(j:DT X c wA)(k:PZ Φ X κ a u)(l:PZ Φ X κ b v):dO Φ X κ (.If c a b pos) (BC wA u v):=by
 obtain⟨t,m,o⟩:=j;obtain⟨z,q,r⟩:=k;obtain⟨s,x,y⟩:=l;refine⟨_,Ln m q x,λC M H n d Z e E f R L w=>?_⟩;refine o C M H n d Z _ _ R w λb H1 g h i p=>?_;cases b with
 |true=>exact r C M H1 g d Z e E f (R.step h i) L p
 |false=>exact y C M H1 g d Z e E f (R.step h i) L p
end
def T8(d:Str)(a:t_ Str)(b:Dh):E2->PX->Nat->t_ Slot->Prop:=λ_ e n g=>b n g λc f=>(a=[]/\c.length<=100/\e d [] [] f)\/(a.length=2/\c.length=2/\e d a c f)
abbrev a_:=E2->PX->Nat->t_ Slot->Prop
def dN(X:Cx)(d:Kd)(e:gG)(w:a_):Prop:=∃t,cu X e t/\∀(C:Fm) (M:Db->Prop) (H:Hp) (n:Nat) (a:t_ Slot) (Z:L2.St) (b:E2) (E:Ends) (R:XK) (c:PX),Rel X.K C M H n a Z->Hl X.K C d b E->LiftX X.K C.F C.U M H c R->w b c n a->t E R Z H
def c7(X:Cx)(d:Kd)(e:t_ gG)(w:a_):Prop:=∃t,ax X e t/\∀(C:Fm) (M:Db->Prop) (H:Hp) (n:Nat) (a:t_ Slot) (Z:L2.St) (b:E2) (E:Ends) (R:XK) (c:PX),Rel X.K C M H n a Z->Hl X.K C d b E->LiftX X.K C.F C.U M H c R->w b c n a->t E R Z H
theorem LiftX.step{K:Frag}{F:u_ Fd}{U M:Db->Prop}{H H1:Hp}{a:PX}{E:XK}(h:LiftX K F U M H a E)(e:Ext U H H1):LiftX K F U M H1 a E:=λb C c d f g i j k l=>h b C c d f g i j k (e.trans l)
section
variable {X:Cx}{κ:Kd}{st:Stmt}{u v:a_}{c e:Expr}{es:t_ Expr}{pos p:Pos}{nm:Str}{ks:t_ Str}{k:Nat}{was:Dh}
theorem V6(a:dN X κ st u):c7 X κ [st] u:=by
 obtain⟨t,b,c⟩:=a;exact⟨t,U5 b,c⟩
theorem QR{R:XK}{j:Fm->Prop}{b:PX}{k:u_ Fd}{l m:Db->Prop}{H0:Hp}{w:a_}(o:Gs (Wb X.prog X.w) X R)(q:LiftX X.K k l m H0 b R)(c:∀C,j C->C.F=k/\C.U=l/\C.M0=m/\C.H0=H0)(h:dN X κ st w):dO j X κ st (λg=>w g b):=by
 obtain⟨t,s,u⟩:=h;refine⟨_,SO o s,λC M H n x Z g E y r L w=>?_⟩;obtain⟨rfl,rfl,rfl,rfl⟩:=c C y;refine u C M H n x Z g E R b r L (λnm A B ks D G I i J e f N xd O P p=>?_) w;have a:Pres M i _ i:=Pres.less r.sub;refine q nm A B ks D G I i J (r.ext.trans e) (f.pres a λ_ _ _ z=>z) N ?_ O (P.pres a) p
 rcases xd with z|⟨d,Q,S,T⟩
 ·exact .inl z
 ·exact .inr ⟨d,Q,λz=>S (r.sub d z),T⟩
def fF(X:Cx)(e:gB)(κ:Kd)(w:Nat->t_ Slot->(D->Nat->Prop)->PX->Prop):Prop:=∃t,eP X e t/\∀(C:Fm) (M:Db->Prop) (H:Hp) (n:Nat) (b:t_ Slot) (Z:L2.St) (P:D->Nat->Prop) (Q:VK) (R:XK) (c:PX),Rel X.K C M H n b Z->LiftX X.K C.F C.U M H c R->w n b P c->
 (∀v a d f,Ext C.U H a->FeedC X.K C.F M a f->VR X.K C.V M H a κ v d->P d f->Q v a)->t R Z H Q
def a9(P:gD)(w:gK)(K:Frag)(c:Str->u_ Ev)(a:fu)(x:Str)(k:Nat)(b:t_ Str)(κ:Kd)(W:WX):Prop:=
 ∃f fd,A3 P w K c a (Wb P w) k f fd b (dB K κ W b.length)/\c x=P3 (.ref f)/\keepIn K (.ref f)=r_/\Binds K fd b []/\∀d n P e,W d n P e->d.length=b.length
def UD(W:WX)(was:Wf):Nat->t_ Slot->(D->Nat->Prop)->PX->Prop:=λn a P b=>was n a λc d=>W c d P b
theorem WE{m:t_ Str}{h:Kd}{W:WX}{x:Str}{was:Wf}(G:a9 X.prog X.w X.K X.mg X.base x k m h W)(o:Room k X.A)(s:Gl X x)(u:bB X (e::es) was)
  (c:(x==("__debug__":Str))=s_:=by decide) (y:starEach (e::es) X.env=(s_,eval e X.env)::starEach es X.env:=by rfl) (g:(backTo pos (starEach es X.env)).any (·.1)=s_:=by rfl):
  fF X (.Call (.Name x p) (e::es) [] pos) h (UD W was):=by
 obtain⟨f,fd,G,z,B,D,E⟩:=G;obtain⟨t,F,I⟩:=u;refine⟨_,U_ G o s z B D F c y g,λC M H n J Z P Q R L r l w q=>?_⟩;refine I C M H n J Z _ _ r w λvs H1 N O a i j p=>?_;have b:=r.step a i;exact⟨(Paired.length j).trans (E _ _ _ _ p),_,_,_,M,O,N,P,L,⟨b.dom,b.fU,b.uV,b.vM,i,j⟩,p,λv S d T U V Y p2=>q v S d T (a.trans U) V (VR.back a Y) p2,l.step a⟩
def UA(w:Nat->t_ Slot->(D->Nat->Prop)->PX->Prop):a_:=λb c n a=>w n a (λ_ d=>b.nx d a) c
theorem V7{c:Kd}{a:Nat->t_ Slot->(D->Nat->Prop)->PX->Prop}(h:fF X e c a)(f:swapsWith e q_ pos.line X.env=pure s_:=by rfl):dN X κ (.Expr e pos) (UA a):=by
 obtain⟨t,g,i⟩:=h;exact⟨_,U4 g f,λC M H n b Z s E R j r L l w=>i C M H n b Z _ _ R j r l w λv k d m o q u p=>L.nx M k m b Z (r.step o q) p⟩
abbrev bA:=E2->Str->t_ Str->t_ D->Nat->t_ Slot->Prop
def DH(X:Cx)(κ:Kd)(g:t_ kE)(w:bA):Prop:=∃t,PH X g t/\∀(C:Fm) (M:Db->Prop) (H:Hp) (n:Nat) (b:t_ Slot) (Z:L2.St) (c:E2) (E:Ends) (nm:Str) (d h:Db) (ks:t_ Str) (a:t_ D) (e:t_ V) (f:u_ Db),
 Rel X.K C M H n b Z->Hl X.K C κ c E->XC X.K nm d h->e7 M H f ks e->ks.length=a.length->Ats X.K M H a e->w c nm ks a n b->t E d f Z H
def bJ(c:a_)(d:bA):AZ:=λa n b=>c a (λnm ks e f=>d a nm ks e f b) n b
theorem aR{a:t_ gG}{b:kE}{c:t_ kE}{h:a_}{i:bA}(d:X.stack=X.env::X.outer)(g:X.env.frame=P3 X.env.locals)(m:∀e s,X.xe e s->False)(o:c7 X κ a h)(q:DH X κ (b::c) i):
  DS X κ (.Try a (b::c) [] [] pos) (bJ h i):=by
 obtain⟨t,u,x⟩:=o;obtain⟨N,y,z⟩:=q;exact⟨_,Zm d g m u y,λC M H n j Z k E r L w=>x C M H n j Z k E _ _ r L (λnm l A ks B D F G I e f J xd K c p=>⟨l,rfl,z C M G I j Z k E nm l A ks B D F (r.step e f) L J xd K c p⟩) w⟩
def T9:bA:=λ_ _ _ _ _ _=>False
theorem aT:DH X κ [] T9:=⟨_,Zp,λ_ _ _ _ _ _ _ _ _ _ _ _ _ _ _ _ _ _ _ _ _ w=>w.elim⟩
def T_(e:Str)(i:Nat)(h:Db->AZ)(j:bA):bA:=λb nm ks f n g=>if nm=e\/e="ThinError" then ∀a,h a {nx:=λc d=>b.nx c (d.set i .no),rt:=b.rt,bk:=λc d=>b.bk c (d.set i .no),ct:=λc d=>b.ct c (d.set i .no)} n (g.set i (.ex a nm ks f))else j b nm ks f n g
theorem YJ{i:Nat}{f y:Str}{h:gG}{b:t_ gG}{x:t_ kE}{J:Db}{O:Db->AZ}{Y:bA}{np:Pos}(hN:X.N.Nodup)(hi:X.N[i]?=P3 y)(hl:X.env.scope.names.lookup y=P3 .local)(hg:Gl X f)(hm:X.mg f=P3 (.ref J))(hK:nsIn X.K mainGlobals f=P3 (P3 (.ref J)))
  (P:f="ThinError"/\bE X.K J\/f ≠ "ThinError"/\∃U,XC X.K f J U) (Q:X.stack=X.env::X.outer) (R:X.env.frame=P3 X.env.locals)
  (S:∀a,Pb (X.hush (X.A.mark (P3 (.ref a)))) κ (h::b) (O a)) (hr:DH X κ x Y) (hd:(f==("__debug__":Str))=s_:=by decide):
  DH X κ (.ExceptHandler (P3 (.Name f np)) (P3 y) (h::b) pos::x) (T_ f i O Y):=by
 obtain⟨th,b1,b2⟩:=hr;have T:∀a,∃t,PSs (X.hush (X.A.mark (P3 (.ref a)))) (h::b) t/\∀(C:Fm) (M:Db->Prop) (H:Hp) (n:Nat) (B:t_ Slot) (Z:L2.St) (k:E2) (E:Ends),Rel X.K C M H n B Z->Hl X.K C κ k E->O a k n B->t E Z H:=S;refine⟨_,XN (ts:=λa=>(T a).choose) hN hi hl hg hm (P.elim (λz=>z.2) fun⟨_,U,c⟩=>c.isX) Q R (λa=>(T a).choose_spec.1) b1 hd,λC M H n B Z k E nm Cc V ks ds vs dx r L m xd D x w=>⟨nm,V,m,?_⟩⟩;unfold T_ at w
 by_cases e:nm=f\/f="ThinError"
 ·rw [if_pos e]at w
  refine .inl ⟨?_,λa u fa xt=>?_⟩
  ·rcases P with⟨z,_⟩|⟨z,U,c⟩
   ·subst z
    have q:=m.atU.symm.trans hK;cases q;exact .inr rfl
   ·rcases e with e|e
    ·subst e
     have q:=m.at_.symm.trans hK;cases q;exact .inl rfl
    ·exact absurd e z
  ·have g:Grow H (A2 H a u):=Av fa
   have r1:=r.step (g.ext) (r.feed.grow g);have na:¬M a:=λz=>by obtain⟨o,q⟩:=r.dom a z; rw[fa]at q; cases q
   have nd:∀{d:Db}{o:HO},H d=P3 o->A2 H a u d=P3 o:=λ{d o} q=>g.all d o q;refine(T a).choose_spec.2 C M (A2 H a u) n (B.set i (.ex a nm ks ds)) _ {nx:=λj l=>k.nx j (l.set i .no),rt:=k.rt,bk:=λj l=>k.bk j (l.set i .no),ct:=λj l=>k.ct j (l.set i .no)} _ (r1.setS rfl (λ_ z=>by cases z) ⟨rfl,Cc,V,dx,u,vs,m,⟨na,AR⟩,xt,?_,D,x.pres g.pres⟩) ⟨λF G j l zZ I q=>?_,L.rt,λF G j l zZ I q=>?_,λF G j l zZ I q=>?_⟩ (w a)
   ·rcases xd with z|⟨d,W,n1,h1⟩
    ·exact .inl z
    ·exact .inr ⟨d,W,n1,nd h1⟩
   ·exact L.nx F G j _ _ (I.setS (s:=.no) rfl (λ_ z=>by cases z) trivial) q
   ·exact L.bk F G j _ _ (I.setS (s:=.no) rfl (λ_ z=>by cases z) trivial) q
   ·exact L.ct F G j _ _ (I.setS (s:=.no) rfl (λ_ z=>by cases z) trivial) q
 ·rw[if_neg e]at w
  have W:nm≠f:=λz=>e (.inl z);have e2:f ≠ "ThinError":=λz=>e (.inr z)
  rcases P with⟨z,_⟩|⟨_,U,c⟩
  ·exact absurd z e2
  ·refine .inr ⟨λz=>?_,λz=>?_,b2 C M H n B Z k E nm Cc V ks ds vs dx r L m xd D x w⟩
   ·subst z
    exact W (m.name c)
   ·subst z
    exact e2 (m.nameU c)
end
end Dp
namespace L2
def HX(A:gS)(H:Hp):Prop:=∃a C b u,A.handled=P3 (.ref a)/\H a=P3 u/\XT C b a u
structure e8 (P:gD) (w:gK) (K:Frag) (tg:gB) (J:It) (fp:List Db) (it:Db) (tn:Nat->fu->Prop):Prop where
 mem:it∈fp
 obj:∀i h,tn i h->∀b∈fp,∃o,h.get? b=P3 o/\∀v,o.data≠.cell v
 keep:∀i h h',tn i h->(∀b∈fp,∀o,h.get? b=P3 o->h'.get? b=P3 o)->tn i h'
 item:∀(X:Cx),X.prog=P->X.w=w->X.K=K->HX X.A X.H₀->∀(i:Nat) (zH:List (Db×Obj)) (s:On) (Z:St) (H:Hp) (E:Ev->On->Prop),Inv X zH Z H s->(∀b∈fp,GA X zH H b)->tn i s.heap->J.go i H->
  wpAny (model P w) X.A (pyNext (.ref it)) (λr s1=>∃u,r=P3 u /\
   wpAny (model P w) X.A (letOwnedTupleGo tg (.ref it) u) (λ_ s2=>∃x H',Inv X zH Z H' s2/\RelV x u/\J.yld i H x H'/\tn (i+1) s2.heap/\∀b∈fp,H' b=q_) E s1) E s
 done:∀(X:Cx),X.prog=P->X.w=w->X.K=K->HX X.A X.H₀->∀(i:Nat) (zH:List (Db×Obj)) (s:On) (Z:St) (H:Hp) (E:Ev->On->Prop),Inv X zH Z H s->(∀b∈fp,GA X zH H b)->tn i s.heap->J.stop i H->
  wpAny (model P w) X.A (pyNext (.ref it)) (λr s1=>r=q_/\Inv X zH Z H s1) E s
 self:∀(A:gS) (i:Nat) (s:On) (Q:Ev->On->Prop) (E:Ev->On->Prop),tn i s.heap->Q (.ref it) s->wpAny (model P w) A (pyIter (.ref it)) Q E s
end L2
namespace Dp
open L2
end Dp
namespace L2
structure cq (k:Nat) (A:gS):Prop where
 dp:A.depth+3*k+5<recursionLimit
 un:A.units+16*k+200<cLine
 gd:A.guards=P3 []
structure fE (P:gD) (w:gK) (K:Frag) (mg:Str->Option Ev) (base:fu) (k:Nat) (f:Db) (fd:gZ) (ps:List Str) (sp:Sp):Prop where
 len:∀vs H Q E,sp vs H Q E->vs.length=ps.length
 run:∀(A:gS) (outer:List Env) (s:On) (H:Hp) (args:Args) (us:List Ev) (vs:List V) (Q:VK) (E:XK),cq k A->HX A H->Env0 P w K mg base A outer s H->mB s fd args (ps.zip us)->Vals vs us->sp vs H Q E->
  codeAny (model P w) A (.call (.ref f) args) (CR B1 outer P w H s Q E) s
end L2
namespace Dp
open L2
section
variable {X:Cx}{p p1 p2 pos:Pos}{i:Nat}{x nm:Str}
def ZN(i:Nat)(a:Str):DW:=λn b P=>match b[i]? with
 |some (.ex _ nm _ _)=>P (.bl (decide (nm=a))) n
 |_=>False
def T4(i:Nat):DW:=λn a P=>match a[i]? with
 |some (.ex _ _ _ _)=>P (.bl r_) n
 |_=>False
theorem aV{b:Str}{D U:Db}(s:b ≠ "ThinError")(xd:XC X.K b D U)(c:Gl X b)(e:X.mg b=P3 (.ref D))(t:Gl X "isinstance")(y:X.mg "isinstance"=q_)(A:X.N[i]?=P3 x:=by rfl)(B:Te X.env.scope x:=by first|exact XV rfl|exact gx (XV rfl)|exact gx (gx rfl))(f:(x==("__debug__":Str))=s_:=by decide)
  (g:(x==("__classdict__":Str))=s_:=by decide) (h:(b==("__debug__":Str))=s_:=by decide) (m:starEach [.Name x p1,.Name b p2] X.env=(s_,eval (.Name x p1) X.env)::starEach [.Name b p2] X.env:=by rfl) (j:starEach [.Name b p2] X.env=[(s_,eval (.Name b p2) X.env)]:=by rfl) (k:(backTo pos (starEach [.Name b p2] X.env)).any (·.1)=s_:=by rfl):
  DE X (.Call (.Name "isinstance" p) [.Name x p1,.Name b p2] [] pos) .sh (ZN i b):=by
 refine⟨_,Cb O_ t y (by decide +kernel) (Aq (Ea A B f g) (Aq (Mi (v:=.ref D) c e rfl h) A9 j) m) (by decide) (by decide) m k,λC M H n S Z P Q R w q=>?_⟩;unfold ZN at w
 split at w
 ·rename_i a nm T V f
  obtain⟨E,F,G,I,u,W,o,⟨Y,J⟩,L,O,hl,hs⟩:=R.sl i _ f;refine⟨.ref a,getD_some E,a,F,G,I,u,nm,.ref D,"",_,rfl,J,L,λd r=>?_,o,.inr ⟨D,rfl,o.kit xd s⟩,q _ H (.bl _) n (Ext.refl _ _) R.feed rfl w⟩
  rcases O with⟨z,_⟩|⟨dd,z,_,l⟩
  ·grind
  ·rw[z]at r; cases r; exact⟨_,l⟩
 grind
theorem YM(c:Gl X "ValueError")(e:X.mg "ValueError"=q_)(o:Gl X "isinstance")(r:X.mg "isinstance"=q_)(s:X.N[i]?=P3 x:=by rfl)(t:Te X.env.scope x:=by first|exact XV rfl|exact gx (XV rfl)|exact gx (gx rfl))(f:(x==("__debug__":Str))=s_:=by decide)
  (g:(x==("__classdict__":Str))=s_:=by decide) (l:starEach [.Name x p1,.Name "ValueError" p2] X.env=(s_,eval (.Name x p1) X.env)::starEach [.Name "ValueError" p2] X.env:=by rfl) (h:starEach [.Name "ValueError" p2] X.env=[(s_,eval (.Name "ValueError" p2) X.env)]:=by rfl) (j:(backTo pos (starEach [.Name "ValueError" p2] X.env)).any (·.1)=s_:=by rfl):
  DE X (.Call (.Name "isinstance" p) [.Name x p1,.Name "ValueError" p2] [] pos) .sh (T4 i):=by
 refine⟨_,Cb O_ o r (by decide +kernel) (Aq (Ea s t f g) (Aq (Q9 (v:=.ty "ValueError") c e PyProof.Rows.Boot.«ValueError» rfl) A9 h) l) (by decide) (by decide) l j,λC M H n I Z P Q R w q=>?_⟩;unfold T4 at w
 split at w
 ·rename_i a nm J K f
  obtain⟨y,A,B,D,u,L,m,⟨O,E⟩,F,G,S,T⟩:=R.sl i _ f;refine⟨.ref a,getD_some y,a,A,B,D,u,nm,.ty "ValueError","ValueError",r_,rfl,E,F,λd b=>?_,m,.inl ⟨rfl,m.kitV⟩,q _ H (.bl _) n (Ext.refl _ _) R.feed rfl w⟩
  rcases G with⟨z,_⟩|⟨U,z,_,k⟩
  ·rw[z]at b; cases b
  ·rw[z]at b; cases b; exact⟨_,k⟩
 ·exact w.elim
end
theorem fnX{P:gD}{w:gK}{K:Frag}{G:Str->u_ Ev}{e:fu}{x a:Str}{m:gG}{f:Db}{fd:gZ}{N i:t_ Str}{k:Nat}{o:Kd}{W:WX}{wb:PX->AZ}(F:Fun K x a m f fd)(S:Ac N i (AN m))(J:i.length<=N.length)
  (L:∀(c:Ev) (A:gS) (b:t_ Env) (s:On) (H:Hp) (E:XK) (g:PX) (r:u_ Fd) (U M:Db->Prop),LiftX K r U M H g E->Room k (A.deeper (envOfC a (AN m) s.heap.objs.size f c))->
   PZ (λC=>C.F=r/\C.U=U/\C.M0=M/\C.H0=H) (IV (Wb P w) P w K G e N a (AN m) f c A b s H E) o (Bh m) (wb g))
  (hW:∀u n j g,u.length=i.length->W u n j g->wb g {nx:=λn _=>o=.sh/\j .non n,rt:=j} n (u++UF (N.length - i.length) .no)):
  A3 P w K G e (Wb P w) (k+1) f fd i (dB K o W i.length):=by
 obtain⟨oc,od,kV,O,pm,an,c,ct,T,rfl,V,y⟩:=F.ex;refine Y0 V y S (λX H Q E h=>h.1) λA b s H X Q E Y h=>?_;obtain⟨hl,r,U,V',M,n,u,j,g,I,hw,q,l⟩:=h;obtain⟨t,Z,t2⟩:=L c A _ s H E g r U M l Y;refine⟨t,Z,?_⟩;have el:=Paired.length I.2.2.2.2.2;have R:=Lm (N:=N) I (by omega);refine t2 _ M H n _ _ {nx:=λn _=>o=.sh/\j .non n,rt:=j} _ ⟨rfl,rfl,rfl,rfl⟩ R ⟨λM1 H1 B zR zL D p=>?_,λv H1 d B e1 f1 r1 p=>q v H1 d B e1 f1 r1 p,λ_ _ _ _ _ _ z=>z.elim,λ_ _ _ _ _ _ z=>z.elim⟩ ?_
 ·obtain⟨hk,p⟩:=p
  subst hk;exact q .non H1 .non B D.ext (D.feed.pres (Pres.less D.sub) λ_ _ _ z=>z) rfl p
 grind
end Dp
namespace So
open PySem.W
section
variable {O:KeyOrd}{key:Nat->O.α}{N:Nat}{cmp:Nat->Nat->(Bool->Shared->Prop)->Shared->Prop}{s:Shared}{p p0:Array Nat}
def KN(O:KeyOrd)(key:Nat->O.α)(p:Array Nat)(i:Nat):O.α:=key (p.getD i 0)
def Srt(O:KeyOrd)(key:Nat->O.α)(p:Array Nat)(k:Nat):Prop:=∀i j,i<=j->j<k->O.kle (KN O key p i) (KN O key p j)
def cx(O:KeyOrd)(key:Nat->O.α)(p:Array Nat)(k:Nat):Prop:=∀i j,i<=j->j<k->O.kle (KN O key p j) (KN O key p i)
def ZJ(O:KeyOrd)(key:Nat->O.α)(N:Nat)(cmp:Nat->Nat->(Bool->On->Prop)->On->Prop)(s:On):Prop:=∀(i j:Nat) (C:Bool->On->Prop),i<N->j<N->C (O.blt (key i) (key j)) s->cmp i j C s
def Bd(N:Nat)(p:Array Nat):Prop:=0<N/\∀x∈p,x<N
theorem Xr(p:Array Nat)(i:Nat):p.getD i 0=(p[i]?).getD 0:=by
 simp
theorem Bd.get(h:Bd N p)(i:Nat):p.getD i 0<N:=by
 rw[Xr];cases e:p[i]? with
 |none=>exact h.1
 |some x=>exact h.2 x (Array.mem_of_getElem? e)
theorem Bd.perm{a:Array Nat}(h:Bd N p)(b:a.Perm p):Bd N a:=⟨h.1,λx c=>h.2 x (b.mem_iff.mp c)⟩
theorem Fl{p q:Array Nat}{i j:Nat}(h:p[i]?=q[j]?):KN O key p i=KN O key q j:=by
 unfold KN
 simp_all
theorem MM{a d:Nat}(f:a<p.size)(g:d<=a)(k:Nat):
  KN O key (bubble p a d) k=if k=a - d then KN O key p a else if a - d<k/\k<=a then KN O key p (k - 1)else KN O key p k:=by
 have e:=getElem?_bubble f d g k
 by_cases b:k=a - d
 ·rw[if_pos b]at e ⊢; exact Fl e
 ·rw[if_neg b]at e ⊢
  by_cases c:a - d<k/\k<=a
  ·rw[if_pos c]at e ⊢; exact Fl e
  ·rw[if_neg c]at e ⊢; exact Fl e
theorem Ie{i j:Nat}(b:j<=p.size)(k:Nat):KN O key (kas_rev p i j) k=if i<=k/\k<j then KN O key p (i+j - 1 - k)else KN O key p k:=by
 have e:=getElem?_mirror_all (i:=i) b k
 by_cases a:i<=k/\k<j
 ·rw[if_pos a]at e ⊢; exact Fl e
 ·rw[if_neg a]at e ⊢; exact Fl e
theorem Bl{i j:Nat}(a:j<=p.size)(b:∀k,i<=k->k<j->KN O key p k=KN O key p (j - 1))(k:Nat):KN O key (kas_rev p i j) k=KN O key p k:=by
 rw[Ie a]
 grind
theorem CA(p:Array Nat)(i j:Nat):(kas_rev p i j).Perm p:=mirror_perm _ _ _ _
theorem yes{c:Type}{a b:KasT c}{Q:c->On->Prop}(h:a.kasWp cmp Q s):(if r_=r_ then a else b).kasWp cmp Q s:=by grind
theorem no{c:Type}{b a:KasT c}{Q:c->On->Prop}(h:a.kasWp cmp Q s):(if s_=r_ then b else a).kasWp cmp Q s:=by grind
theorem Qf(q:ZJ O key N cmp s)(d:Bd N p){nrem:Nat}{G:Nat->On->Prop}:∀(f n:Nat),1<=n->n+f=nrem->Srt O key p n->
  (∀m,n<=m->m<=nrem->Srt O key p m->(m=nrem\/O.klt (KN O key p m) (KN O key p (m - 1)))->G m s)->(kas_asc p f n).kasWp cmp G s
 |0,n,_,e,b,h=>h n (Re _) (by omega) b (.inl (by omega))
 | f+1,n,w,e,b,h=>by
  show cmp (p.getD n 0) (p.getD (n - 1) 0) (λc r=>(if c=r_ then KasT.ret n else kas_asc p f (n+1)).kasWp cmp G r) s;refine q _ _ _ (d.get n) (d.get _) ?_;cases a:O.blt (key (p.getD n 0)) (key (p.getD (n - 1) 0))with
  |true=>exact yes (h n (Re _) (by omega) b (.inr a))
  | false=>
   refine no (Qf q d f (n+1) (by omega) (by omega) (λi j g x=>?_) λm y t u v=>h m (by omega) t u v)
   by_cases k:j<n
   ·exact b i j g k
   ·have l:j=n:=by omega
    subst l
    by_cases o:i=j
    ·subst o; exact ic _
    ·exact lJ (b i (j - 1) (by omega) (by omega)) a
theorem Jg(D:ZJ O key N cmp s){l:Nat}{G:Array Nat×Nat×Nat->On->Prop}:∀(f:Nat) (p:Array Nat) (n q:Nat),p.Perm p0->Bd N p->l<=p.size->1<=n->n+f=l->cx O key p n->q+1<=n->
  (∀i,n - (q+1)<=i->i<n->KN O key p i=KN O key p (n - 1))->
  (∀g m v,g.Perm p0->Bd N g->g.size=p.size->n<=m->m<=l->cx O key g m->v+1<=m->(∀i,m - (v+1)<=i->i<m->KN O key g i=KN O key g (m - 1))->G (g,m,v) s)->(kas_desc f p n q).kasWp cmp G s
 |0,p,n,q,C,u,Q,Y,e,x,R,E,h=>h p n q C u rfl (Re _) (by omega) x R E
 | f+1,p,n,q,C,u,Q,Y,e,x,R,E,h=>by
  show cmp (p.getD n 0) (p.getD (n - 1) 0) (λc S=>(if c=r_ then(if q > 0 then kas_desc f (kas_rev p (n - (q+1)) n) (n+1) 0 else kas_desc f p (n+1) 0)
   else .ask (p.getD (n - 1) 0) (p.getD n 0) λd=>if d=r_ then .ret (p,n,q)else kas_desc f p (n+1) (q+1)).kasWp cmp G S) s
  refine D _ _ _ (u.get n) (u.get _) ?_;cases o:O.blt (key (p.getD n 0)) (key (p.getD (n - 1) 0))with
  | true=>
   have Z:O.klt (KN O key p n) (KN O key p (n - 1)):=o
   have r:∀T:Array Nat,(∀k,KN O key T k=KN O key p k)->cx O key T (n+1):=by
    intro T W i j y hj;rw[W,W]
    by_cases z:j<n
    ·exact x i j y z
    ·have A:j=n:=by omega
     subst A
     by_cases B:i=j
     ·subst B; exact ic _
     ·exact lJ (kn Z) (x i (j - 1) (by omega) (by omega))
   refine yes ?_;have U:n<=p.size:=by omega
   by_cases F:q > 0
   ·rw[if_pos F]
    refine Jg D f _ (n+1) 0 ((CA _ _ _).trans C) (u.perm (CA _ _ _)) (by rw[kas_rev_size]; exact Q) (by omega) (by omega) (r _ (Bl U E)) (by omega) (λi a b=>by congr 1; omega) λg m v H I J X K L M P=>h g m v H I (J.trans (kas_rev_size _ _)) (by omega) K L M P
   ·rw[if_neg F]
    exact Jg D f _ (n+1) 0 C u Q (by omega) (by omega) (r _ λ_=>rfl) (by omega) (λi a b=>by congr 1; omega) λg m v H I J X K L M P=>h g m v H I J (by omega) K L M P
  | false=>
   refine no ?_;show cmp (p.getD (n - 1) 0) (p.getD n 0) (λd S=>(if d=r_ then KasT.ret (p,n,q)else kas_desc f p (n+1) (q+1)).kasWp cmp G S) s;refine D _ _ _ (u.get _) (u.get n) ?_;cases t:O.blt (key (p.getD (n - 1) 0)) (key (p.getD n 0))with
   |true=>exact yes (h p n q C u rfl (Re _) (by omega) x R E)
   | false=>
    have w:KN O key p n=KN O key p (n - 1):=oG (O:=O) t o;refine no (Jg D f p (n+1) (q+1) C u Q (by omega) (by omega) (λi j y hj=>?_) (by omega) (λi a b=>?_) λg m v H I J X K L M P=>h g m v H I J (by omega) K L M P)
    ·by_cases z:j<n
     ·exact x i j y z
     ·have A:j=n:=by omega
      subst A
      by_cases B:i=j
      ·subst B; exact ic _
      ·rw[w]; exact x i (j - 1) (by omega) (by omega)
    ·rw[show n+1 - 1=n by omega]
     by_cases V:i=n
     ·subst V; rfl
     ·rw[w]; exact E i (by omega) (by omega)
theorem Nv(e:ZJ O key N cmp s){n a:Nat}{G:Nat×Array Nat->On->Prop}(f:p.Perm p0)(d:Bd N p)(r:a<=p.size)(g:1<=n)(t:n<=a)(k:cx O key p n)
  (h:∀m b,b.Perm p0->Bd N b->b.size=p.size->1<=m->m<=a->Srt O key b m->G (m,b) s):(kas_tail3 n a p).kasWp cmp G s:=by
 unfold kas_tail3;rw[KasT.kasWp_bind];have c:n<=p.size:=by omega
 refine Qf e (d.perm (CA _ _ _)) _ n g (by omega) (λi j l u=>?_) λm v o q _=>h m _ ((CA _ _ _).trans f) (d.perm (CA _ _ _)) (kas_rev_size _ _) (by omega) o q;rw[Ie c,Ie c,if_pos (by omega),if_pos (by omega)];exact k _ _ (by omega) (by omega)
theorem Ip(k:ZJ O key N cmp s){n c:Nat}{G:Nat×Array Nat->On->Prop}(E:p.Perm p0)(F:Bd N p)(H:c<=p.size)(K:n+1<=c)(I:cx O key p (n+1))
  (h:∀m d,d.Perm p0->Bd N d->d.size=p.size->1<=m->m<=c->Srt O key d m->G (m,d) s):(kas_descPart n c p).kasWp cmp G s:=by
 unfold kas_descPart;rw[KasT.kasWp_bind];refine Jg (p0:=p0) k (c - (n+1)) p (n+1) 0 E F H (by omega) (by omega) I (by omega) (λi a b=>by grind) λd m l y z A L B C M D=>?_;have f:m<=d.size:=by omega
 show(if l > 0 then kas_tail3 m c (kas_rev d (m - (l+1)) m)else kas_tail3 m c d).kasWp cmp G s
 by_cases g:l > 0
 ·rw[if_pos g]
  refine Nv k ((CA _ _ _).trans y) (z.perm (CA _ _ _)) (by rw[kas_rev_size]; omega) (by omega) B (λi j o J=>?_) λq e r t u v w x=>h q e r t (u.trans ((kas_rev_size _ _).trans A)) v w x;rw[Bl f D,Bl f D];exact C i j o J
 ·rw[if_neg g]
  exact Nv k y z (by omega) (by omega) B C λq e r t u v w x=>h q e r t (u.trans A) v w x
theorem WN(y:ZJ O key N cmp s){nrem:Nat}{G:Nat×Array Nat->On->Prop}(z:p.Perm p0)(e:Bd N p)(H:nrem<=p.size)(W:1<=nrem)
  (h:∀m o,o.Perm p0->Bd N o->o.size=p.size->1<=m->m<=nrem->Srt O key o m->G (m,o) s):(kas_count nrem p).kasWp cmp G s:=by
 unfold kas_count;rw[KasT.kasWp_bind];refine Qf (nrem:=nrem) y e (nrem - 1) 1 (Re _) (by omega) (λi j q I=>by have:i=j:=(by omega); subst this; exact ic _) λn r t b A=>?_
 by_cases f:n=nrem
 ·rw[if_pos (by simpa using f)]
  exact h n p z e rfl r t b
 ·rw [if_neg (by simpa using f)]
  have u:O.klt (KN O key p n) (KN O key p (n - 1)):=A.resolve_left f
  by_cases v:n > 1
  ·rw[if_pos v]
   show cmp (p.getD 0 0) (p.getD (n - 1) 0) (λc J=>(if c=r_ then KasT.ret (n,p)else kas_descPart n nrem (kas_rev p 0 n)).kasWp cmp G J) s;refine y _ _ _ (e.get _) (e.get _) ?_;cases g:O.blt (key (p.getD 0 0)) (key (p.getD (n - 1) 0))with
   |true=>exact yes (h n p z e rfl r t b)
   | false=>
    have d:O.kle (KN O key p (n - 1)) (KN O key p 0):=g;have w:n<=p.size:=by omega
    have a:∀k,0<=k->k<n->KN O key p k=KN O key p (n - 1):=by
     intro k _ K;have L:=b 0 k (by omega) K;have M:=b k (n - 1) (by omega) (by omega);exact oG M (lJ d L)
    refine no (Ip y ((CA _ _ _).trans z) (e.perm (CA _ _ _)) (by rw[kas_rev_size]; exact H) (by omega) (λi j q I=>?_) λP B Q R S T U V=>h P B Q R (S.trans (kas_rev_size _ _)) T U V);rw[Bl w a,Bl w a]
    by_cases C:j<n
    ·rw[a i (by omega) (by omega),a j (by omega) C]; exact ic _
    ·have D:j=n:=by omega
     subst D
     by_cases l:i=j
     ·subst l; exact ic _
     ·rw[a i (by omega) (by omega)]; exact kn u
  ·rw[if_neg v]
   have x:n=1:=by omega
   subst x;refine Ip y z e H (by omega) (λi j q I=>?_) h
   by_cases l:i=j
   ·subst l; exact ic _
   ·have E:i=0:=by omega
    have F:j=1:=by omega
    subst E; subst F
    exact kn u
theorem KJ(m:ZJ O key N cmp s)(g:Bd N p){k:Nat}(j:Srt O key p k){G:Nat->On->Prop}
  (h:∀l,l<=k->(∀i,i<l->O.kle (KN O key p i) (KN O key p k))->(∀i,l<=i->i<k->O.klt (KN O key p k) (KN O key p i))->G l s):∀(f l r:Nat),l<=r->r<=k->r - l<=f->
  (∀i,i<l->O.kle (KN O key p i) (KN O key p k))->(∀i,r<=i->i<k->O.klt (KN O key p k) (KN O key p i))->(kas_place p k f l r).kasWp cmp G s
 |0,l,r,n,d,t,b,c=>by
  have:l=r:=by omega
  subst this;exact h l d b c
 | f+1,l,r,n,d,t,b,c=>by
  unfold kas_place
  by_cases e:l≥r
  ·rw[if_pos e]
   have:l=r:=by omega
   subst this;exact h l d b c
  ·rw[if_neg e]
   refine m _ _ _ (g.get _) (g.get _) ?_;cases a:O.blt (key (p.getD k 0)) (key (p.getD ((l+r) / 2) 0))with
   |true=>
    have o:O.klt (KN O key p k) (KN O key p ((l+r) / 2)):=a;exact yes (KJ m g j h f l ((l+r) / 2) (by omega) (by omega) (by omega) b λi q u=>KeyOrd.klt_of_klt_of_kle o (j _ _ q u))
   |false=>
    have o:O.kle (KN O key p ((l+r) / 2)) (KN O key p k):=a;exact no (KJ m g j h f ((l+r) / 2+1) r (by omega) (by omega) (by omega) (λi q=>lJ (j i ((l+r) / 2) (by omega) (by omega)) o) c)
theorem Ej(y:ZJ O key N cmp s){n:Nat}{G:Array Nat->On->Prop}(h:∀r,r.Perm p0->Srt O key r n->G r s):∀(f:Nat) (p:Array Nat) (k:Nat),p.Perm p0->Bd N p->n<=p.size->k+f=n->Srt O key p k->(kas_bin f p k).kasWp cmp G s
 |0,p,k,t,u,z,e,d=>h p t (by rw[←e]; exact d)
 | f+1,p,k,t,u,z,e,d=>by
  rw[show kas_bin (f+1) p k=(kas_place p k k 0 k).bind λl=>kas_bin f (bubble p k (k - l)) (k+1)from rfl,KasT.kasWp_bind];refine KJ y u d (λl A v w=>?_) k 0 k (fo _) (Re _) (by omega) (λi B=>by omega) λi a b=>by omega
  have g:k<p.size:=by omega
  refine Ej y h f _ (k+1) ((bubble_perm _ _ _).trans t) (u.perm (bubble_perm _ _ _)) (by rw[bubble_size]; exact z) (by omega) λi j x C=>?_;rw[MM g (by omega),MM g (by omega),show k - (k - l)=l by omega]
  by_cases m:i=l
  ·rw[if_pos m]
   by_cases c:j=l
   ·rw[if_pos c]; exact ic _
   ·rw[if_neg c,if_pos (by omega)]
    exact kn (w (j - 1) (by omega) (by omega))
  ·rw [if_neg m]
   by_cases o:l<i/\i<=k
   ·rw[if_pos o,if_neg (by omega),if_pos (by omega)]
    exact d (i - 1) (j - 1) (by omega) (by omega)
   ·rw[if_neg o]
    by_cases c:j=l
    ·rw[if_pos c]; exact v i (by omega)
    ·rw[if_neg c]
     by_cases q:l<j/\j<=k
     ·rw[if_pos q]
      exact d i (j - 1) (by omega) (by omega)
     ·rw[if_neg q]
      exact d i j x (by omega)
theorem sort_ok{n:Nat}(b:1<=n)(c:ZJ O key n cmp s){G:Array Nat->On->Prop}(h:∀p,p.Perm (gJ (gF n))->Srt O key p n->G p s):(kas_sort n).kasWp cmp G s:=by
 unfold kas_sort;rw[KasT.kasWp_bind];have f:Bd n (gJ (gF n)):=⟨b,λx k=>by grind⟩;have g:(gJ (gF n)).size=n:=by simp
 refine WN c (nG _) f (by omega) b λm d e i l o q j=>?_
 by_cases a:m<n
 ·rw[if_pos a,show max m 1=m by omega]
  exact Ej c h _ d m e i (by omega) (by omega) j
 ·rw[if_neg a]
  exact h d e (by grind)
end
end So
namespace L2
open PySem.W
def Z4:Key->Key->Bool
 |.inl i,.inl j=>decide (i<j)
 |.inr x,.inr y=>decide (x.cps.toList<y.cps.toList)
 |.inl _,.inr _=>r_
 |.inr _,.inl _=>s_
def Bn:t_ Key->t_ Key->Bool
 |[],[]=>s_
 |[],_::_=>r_
 |_::_,[]=>s_
 |x::a,y::b=>if x=y then Bn a b else Z4 x y
theorem QI:∀x:Key,Z4 x x=s_
 |.inl i=>decide_eq_false (Int.lt_irrefl i)
 |.inr x=>decide_eq_false (ii _)
theorem Ss:∀x y z:Key,Z4 x y=r_->Z4 y z=r_->Z4 x z=r_
 |.inl i,.inl j,.inl k,a,b=>decide_eq_true (Int.lt_trans (of_decide_eq_true a) (of_decide_eq_true b))
 |.inr i,.inr j,.inr k,a,b=>decide_eq_true (oA (of_decide_eq_true a) (of_decide_eq_true b))
 |.inl i,.inl j,.inr k,_,_=>rfl
 |.inl i,.inr j,.inr k,_,_=>rfl
 |.inl i,.inr j,.inl k,_,h=>by cases h
 |.inr i,.inl j,_,h,_=>by cases h
 |.inr i,.inr j,.inl k,_,h=>by cases h
theorem Lu:∀x y:Key,Z4 x y=s_->Z4 y x=s_->x=y
 |.inl i,.inl j,c,d=>congrArg _ (by have a:=of_decide_eq_false c; have b:=of_decide_eq_false d; omega)
 |.inr x,.inr y,c,d=>by
  have e:=List.le_antisymm (of_decide_eq_false d) (of_decide_eq_false c);obtain⟨u⟩:=x
  simp_all
 |.inl i,.inr j,h,_=>by cases h
 |.inr i,.inl j,_,h=>by cases h
theorem Ce:∀x:t_ Key,Bn x x=s_
 |[]=>rfl
 |x::a=>by unfold Bn; rw[if_pos rfl]; exact Ce a
theorem DD:∀x y z:t_ Key,Bn x y=r_->Bn y z=r_->Bn x z=r_
 |[],[],_,h,_=>by cases h
 |[],_::_,[],_,h=>by cases h
 |[],_::_,_::_,_,_=>rfl
 |_::_,[],_,h,_=>by cases h
 |_::_,_::_,[],_,h=>by cases h
 | x::f,y::g,z::i,a,b=>by
  unfold Bn at a b ⊢
  by_cases d:x=y
  ·subst d
   rw[if_pos rfl]at a
   by_cases c:x=z
   ·subst c
    rw[if_pos rfl]at b ⊢;exact DD f g i a b
   grind
  ·rw[if_neg d]at a
   by_cases c:y=z
   ·grind
   ·rw[if_neg c]at b
    have e:=Ss x y z a b
    by_cases j:x=z
    ·subst j
     rw[QI]at e;cases e
    grind
theorem DF:∀x y:t_ Key,Bn x y=s_->Bn y x=s_->x=y
 |[],[],_,_=>rfl
 |[],_::_,h,_=>by cases h
 |_::_,[],_,h=>by cases h
 | x::c,y::d,a,b=>by
  unfold Bn at a b
  by_cases e:x=y
  ·subst e
   rw[if_pos rfl]at a b;rw[DF c d a b]
  ·rw[if_neg e]at a
   rw[if_neg (λz=>e z.symm)]at b;exact absurd (Lu x y a b) e
def SX:KeyOrd:=⟨t_ Key,Bn,Ce,DD,λa b c h=>by
 cases e:Bn a b with
 |true=>exact .inl rfl
 |false=>
  cases d:Bn b a with
  |true=>exact .inr (DD b a c d h)
  |false=>rw[←DF a b e d]; exact .inr h,DF⟩
theorem Mv:∀x y:t_ Key,B0 x y=r_->IK x y=Bn x y
 |[],[],_=>rfl
 |[],_::_,_=>rfl
 |_::_,[],_=>rfl
 | x::b,y::c,h=>by
  have a:(Ll x y&&B0 b c)=r_:=h;rw[gj]at a;unfold IK Bn
  by_cases e:x=y
  ·rw[if_pos e,if_pos e]; exact Mv b c a.2
  ·rw[if_neg e,if_neg e]
   cases x with
   |inl i=>cases y with
    |inl j=>rfl
    |inr z=>cases a.1
   |inr i=>cases y with
    |inl j=>cases a.1
    |inr z=>rfl
section
variable {prog:Program}{w:World}{A:Around}{E:Value->Shared->Prop}{s:Shared}
theorem VQ{b:Bool}{Q:Bool->On->Prop}{h j:Nat}:∀(a c:t_ Key) (k l:t_ Ev) (i:Nat),Vals (a.map kOf) k->Vals (c.map kOf) l->B0 a c=r_->a.length+j=c.length+h->Q (IK a c) s->
  KatLex prog w A b (decide (h<j)) Q (k.zip l) i s
 |[],[],k,l,i,o,p,_,g,q=>by
  cases o;cases p;refine kat_nil ?_;rw[show decide (h<j)=s_ from decide_eq_false (by simp only[iL]at g; omega)];exact q
 |[],m::c,k,l,i,o,p,_,g,q=>by
  cases o;rw[List.zip_nil_left];refine kat_nil ?_;rw[show decide (h<j)=r_ from decide_eq_true (by simp only[iL,eq]at g; omega)];exact q
 |n::a,[],k,l,i,o,p,_,g,q=>by
  cases p;rw[List.zip_nil_right];refine kat_nil ?_;rw[show decide (h<j)=s_ from decide_eq_false (by simp only[iL,eq]at g; omega)];exact q
 | n::a,m::c,k,l,i,o,p,F,g,q=>by
  have d:(Ll n m&&B0 a c)=r_:=F;rw[gj]at d;have f:Q (if n=m then IK a c else dE n m) s:=q;cases o with
  | @cons _ u _ r t G=>
   cases p with
   | @cons _ v _ B C H=>
    rw[mL];have D:n=m->KatLex prog w A b (decide (h<j)) Q (r.zip B) (i+1) s:=λe=>VQ a c r B (i+1) G H d.2 (by simp only[eq]at g; omega) (by rw[if_pos e]at f; exact f);cases n with
    | inl x=>
     cases m with
     |inr y=>cases d.1
     | inl y=>
      obtain⟨I,rfl⟩:=t;obtain⟨J,rfl⟩:=C;refine kat_cons (wpAny_eqBool_int ?_)
      by_cases e:x=y
      ·rw[show(x==y)=r_ by simpa using e]
       exact kat_yes (D (by rw[e]))
      ·rw[show(x==y)=s_ by simpa using e]
       refine kat_no ?_;rw[if_neg (λz=>e (Sum.inl.inj z))]at f;cases K:(b&&i==0)with
       |true=>exact oneLt_int f
       |false=>exact kat_one _ _ (nO (show PySem.W.BoolBack Q (.bool (decide (x<y))) s from f))
    | inr x=>
     cases m with
     |inl y=>cases d.1
     | inr y=>
      obtain⟨I,rfl⟩:=t;obtain⟨J,rfl⟩:=C;refine kat_cons (wpAny_eqBool_str ?_)
      by_cases e:x=y
      ·rw[show decide (x=y)=r_ by simpa using e]
       exact kat_yes (D (by rw[e]))
      ·rw[show decide (x=y)=s_ by simpa using e]
       refine kat_no ?_;rw[if_neg (λz=>e (iR z))]at f;cases K:(b&&i==0)with
       |true=>exact oneLt_str f
       |false=>exact kat_one _ _ (PySem.P.lt_str (show PySem.W.BoolBack Q (.bool (decide (x.cps.toList<y.cps.toList))) s from f))
structure Rt (h:fu) (ks:List Ev) (keys:List (List Key)):Prop where
 at_:∀(i:Nat) (ns:List Key),keys[i]?=P3 ns->∃a o its n,ks[i]?=P3 (.ref a)/\h.get? a=P3 o/\o.cls=.type "tuple"/\o.data=.seq its n/\Vals (ns.map kOf) its.toList
 len:ks.length=keys.length
 same:∀x∈keys,∀y∈keys,B0 x y=r_
 ne:∀x∈keys,x≠[]
def c9:Key->String
 |.inl _=>"int"
 |.inr _=>"str"
theorem firsts{h:fu}:∀(g:t_ Ev) (b:t_ (t_ Key)) (T:String),g.length=b.length->(∀(i:Nat) (u:t_ Key),b[i]?=P3 u->∃a o c n,g[i]?=P3 (.ref a)/\h.get? a=P3 o/\o.cls=.type "tuple"/\o.data=.seq c n/\Vals (u.map kOf) c.toList)->
  (∀x∈b,∃k r,x=k::r/\c9 k=T)->∃j:t_ Ev,KatTups h g j/\j.length=b.length/\∀v∈j,typeOf v=pure (.type T)
 |[],[],T,_,_,_=>⟨[],trivial,rfl,λv l=>by cases l⟩
 |[],_::_,T,m,_,_=>by cases m
 |_::_,[],T,m,_,_=>by cases m
 | k::g,x::b,T,m,z,B=>by
  obtain⟨j,F,G,H⟩:=firsts g b T (by simpa using m) (λi u e=>by
   obtain⟨a,o,c,n,p,r⟩:=z (i+1) u (by simpa using e);exact⟨a,o,c,n,by simpa using p,r⟩) λy I=>B y (Rs _ I)
  obtain⟨a,o,c,n,p,J,K,L,q⟩:=z 0 x rfl;have p:k=.ref a:=by simpa using p
  subst p;obtain⟨k,r,rfl,C⟩:=B x Sc;rw[f9]at q;cases d:c.toList with
  |nil=>rw[d]at q; cases q
  | cons f M=>
   rw[d]at q;cases q with
   | cons D N=>
    refine⟨f::j,KatTups.cons J K L (by rw[←lQ,d]; rfl) F,by rw[eq,eq,G],λv l=>?_⟩
    rcases fi.mp l with rfl|l
    ·cases k with
     |inl i=>obtain⟨t,rfl⟩:=D; subst C; rfl
     |inr i=>obtain⟨t,rfl⟩:=D; subst C; rfl
    ·exact H v l
theorem Li{c:t_ Ev}{keys:t_ (t_ Key)}(K:Rt s.heap c keys)(h2:2<=c.length){G:Array Nat->On->Prop}(h:∀p,p.Perm (gJ (gF c.length))->So.Srt SX (λi=>keys.getD i []) p c.length->G p s):
  wpAny (model prog w) A (keyKind' c.toArray) (λN P=>(kas_sort c.length).kasWp (kas_ask prog w A N c) G P) (λ_ _=>False) s:=by
 obtain⟨f,I,Q⟩:∃f I,keys=f::I:=by
  cases e:keys with
  |nil=>have:=K.len; rw[e]at this; simp only[iL]at this; omega
  |cons x r=>exact⟨x,r,rfl⟩
 have J:f∈keys:=by rw[Q]; exact Sc
 obtain⟨m,R,S⟩:∃k r,f=k::r:=by
  cases e:f with
  |nil=>exact absurd e (K.ne f J)
  |cons k r=>exact⟨k,r,rfl⟩
 have y:∀x∈keys,∃k r,x=k::r/\c9 k=c9 m:=λx L=>by
  cases e:x with
  |nil=>exact absurd e (K.ne x L)
  | cons k r=>
   refine⟨k,r,rfl,?_⟩;have b:=K.same x L f J;rw[e,S]at b;have b:(Ll k m&&B0 r R)=r_:=b;rw[gj]at b;cases k with
   |inl i=>cases m with
    |inl j=>rfl
    |inr j=>cases b.1
   |inr i=>cases m with
    |inl j=>cases b.1
    |inr j=>rfl
 obtain⟨fs,z,B,T⟩:=firsts c keys (c9 m) K.len K.at_ y;refine kat_kind z (by rw[B,←K.len]; omega) (λv U=>by rw[T v U]; exact Looks.now) (by simp) ?_;refine So.sort_ok (O:=SX) (key:=λi=>keys.getD i []) (by omega) (λi j C V W X=>?_) h;have g:i<keys.length:=by rw[←K.len]; exact V
 have l:j<keys.length:=by rw[←K.len]; exact W
 obtain⟨a,o,q,n,Y,Z,e3,e4,M⟩:=K.at_ i keys[i] (FM g);obtain⟨a',o',d,n',D,F,a0,H,t⟩:=K.at_ j keys[j] (FM l);unfold kas_ask;rw[show c.getD i gH=.ref a by rw[fq,Y]; rfl,show c.getD j gH=.ref a' by rw[fq,D]; rfl];have b:=K.same _ (iA g) _ (iA l);refine kat_lt Z e4 F H (VQ keys[i] keys[j] _ _ 0 M t b ?_ ?_)
 ·have l1:=M.length
  have l2:=t.length;have l3:(keys[i].map kOf).length=keys[i].length:=Go ..;have l4:(keys[j].map kOf).length=keys[j].length:=Go ..;have l5:q.toList.length=q.size:=iH;have l6:d.toList.length=d.size:=iH;omega
 ·rw[Mv _ _ b]
  have z:keys.getD i []=keys[i]:=by rw[fq,FM g]; rfl
  have B:keys.getD j []=keys[j]:=by rw[fq,FM l]; rfl
  have u:C (Bn (keys.getD i []) (keys.getD j [])) s:=X;rw[z,B]at u;exact u
theorem EN{v:Ev}{kw:t_ (Str×Ev)}{Q:Ev->On->Prop}(d:argsOk "sorted" ⟨[v],kw⟩)(e:∀x,argsOk "list.sort" ⟨[.ref x],kw⟩)
  (j:wpAny (model prog w) A.in1 (collect v) (λf a=>f.length<=sizeLine/\wpAny (model prog w) A.in1.in1 (iS.«list.sort» ⟨[.ref a.heap.objs.size],kw⟩) (λb g=>b=.done (.ret .none)/\Q (.ref a.heap.objs.size) g) E {a with heap:=a.heap.push (seqObj "list" f.toArray 0)}) E s):
  wpAny (model prog w) A (call (.builtin "sorted") [v] kw) Q E s:=call_function_entry_kw kind_sorted plain_sorted entry_sorted d (Ch (Op (Ch (gU j (λf a h=>Ch (mW (Ch (gQ (wpAny_call_entry_kw PyProof.Rows.slot_list_sort ⟨_,TW _ rfl,rfl⟩ PyProof.Rows.entry_list_sort (gU h.2 (λb g i=>⟨_,i.1,Op ⟨_,rfl,i.2⟩⟩) λ_ _ x=>x) (e _)))) h.1)) λ_ _ x=>x))))
def DQ(h:fu)(D:Db)(a:t_ Ev):fu:=((h.update D (hV λ_=>(#[]:Array Ev))).push (seqObj "tuple" a.toArray 0)).push (seqObj "list" #[] 0)
theorem Hy{h:fu}{D:Db}{a:t_ Ev}{b:Db}{o:Obj}(c:b≠D)(e:h.get? b=P3 o):(DQ h D a).get? b=P3 o:=
 No _ (No _ ((fv _ _ (gP c)).trans e))
theorem Jy{h:fu}{D:Db}{c:t_ Ev}{n:Nat}(d:h.get? D=P3 (seqObj "list" c.toArray n)):∃a,(DQ h D c).get? D=P3 (seqObj "list" #[] a)/\(h.update D (hV λ_=>(#[]:Array Ev))).get? D=P3 (seqObj "list" #[] a):=by
 obtain⟨a,b⟩:∃a,(h.update D _).get? D=P3 (seqObj _ _ a):=⟨_,ju d _⟩;exact⟨a,No _ (No _ b),b⟩
theorem Ob{D:Db}{a:t_ Ev}{n:Nat}{P:PySem.Fin->On->Prop}{G:Array Nat->Prop}(r:s.heap.get? D=P3 (seqObj "list" a.toArray n))(t:a.length<64)
  (u:2<=a.length->wpAny (model prog w) A (keyKind' a.toArray) (λJ k=>(kas_sort a.length).kasWp (kas_ask prog w A J a) (λp v=>v={s with heap:=DQ s.heap D a}/\G p) k) (λ_ _=>False) {s with heap:=DQ s.heap D a})
  (L:a.length<2->G (gJ (gF a.length))) (l:∀(p:Array Nat) (y:fu) (c:Nat),p.size=a.length->G p->(∀b o,b≠D->s.heap.get? b=P3 o->y.get? b=P3 o)->y.get? D=P3 (seqObj "list" (gJ (p.toList.map λi=>a.getD i gH)) c)->P (.done (.ret .none)) {s with heap:=y}):
  wpAny (model prog w) A (iS.«list.sort» ⟨[.ref D],[]⟩) P E s:=by
 obtain⟨V,d,z⟩:=Jy r
 have m:∀(p:Array Nat),p.size=a.length->G p->P (.done (.ret .none)) {s with heap:=(DQ s.heap D a).update D (hV λ_=>gJ (p.toList.map λi=>a.getD i gH))}:=λp q B=>by
  obtain⟨C,F⟩:∃C,((DQ s.heap D a).update D (hV λ_=>gJ (p.toList.map λi=>a.getD i gH))).get? D=P3 (seqObj "list" (gJ (p.toList.map λi=>a.getD i gH)) C):=⟨_,ju d λ_=>gJ (p.toList.map λi=>a.getD i gH)⟩;exact l p _ C q B (λb o K e=>(fv _ _ (gP K)).trans (Hy K e)) F
 rw[list_sort_plain];refine Ch (lc r rfl ?_);refine Ch (jV r rfl ?_ (by rw[fk,gc]; omega) (fo _));refine Ch (mH z rfl ?_);refine Ch (mF ?_ (by show a.length<=_; rw[gc]; omega));refine Ch (mW ?_ (fo _));refine gQ ?_;show wpAny (model prog w) A _ P E {s with heap:=DQ s.heap D a}
 dsimp only
 by_cases H:a.length<2
 ·have f:a.toArray.size<2:=by rw[fk]; exact H
  rw[if_pos f,if_pos f];refine Ch (Op ?_);rw[StateT.run_pure];refine Ch (Op ?_)
  dsimp only
  refine Ch (mH d rfl ?_);have h:(gJ (gF a.length)).size=a.length:=by simp
  have g:(arrOf (SortSt.mk' general' (a.toArray.zip a.toArray) #[] 7 q_)).map (·.2)=gJ ((gJ (gF a.length)).toList.map λi=>a.getD i gH):=by
   refine kat_snds rfl ?_;have e:=kas_range (a.toArray.zip a.toArray);rw[show(a.toArray.zip a.toArray).size=a.length by simp]at e;exact e.symm
  rw[g];refine Ch (jV d rfl ?_ (fo _) (by rw[fk,Go,iH,h,gc]; omega));simp only[bne_self_eq_false,gm,if_false];exact Op (m _ h (L H))
 ·have f:¬a.toArray.size<2:=by rw[fk]; exact H
  rw[if_neg f,if_neg f];refine Ch (gU (u (by omega)) (λJ W u=>?_) λ_ _ x=>x.elim)
  refine Ch (gU (kat_run (Q:=λj k=>∃p:Array Nat,p.size=a.length/\arrOf j=p.map (kas_item (a.toArray.zip a.toArray))/\failedOf j=q_/\k={s with heap:=DQ s.heap D a}/\G p)
   rfl (by omega) t (λN j k O R S T=>⟨N,O,R,S,T⟩) u) ?_ λ_ _ e=>e)
  rintro⟨⟨⟩,j⟩ k ⟨p,q,I,U,rfl,B⟩
  dsimp only
  have g:=kat_snds rfl I;have h:(gJ (p.toList.map λi=>a.getD i gH)).size=a.length:=by rw[fk,Go,iH,q]
  rw[g];refine Ch (mH d rfl ?_);refine Ch (jV d rfl ?_ (fo _) (gO (lX h) (by rw[gc]; omega)));rw[U];simp only[bne_self_eq_false,gm,if_false];exact Op (m p q B)
theorem Su{D:Db}{f:Ev}{a:t_ Ev}{n:Nat}{P:PySem.Fin->On->Prop}(U:s.heap.get? D=P3 (seqObj "list" a.toArray n))(Y:a.length<64)(J:t_ Ev->On->Prop)(h:Db)(M:h=s.heap.objs.size+1)
  (h0:∀r,(DQ s.heap D a).get? D=P3 (seqObj "list" #[] r)->J [] {s with heap:=DQ s.heap D a})
  (z:∀(d:t_ Ev) (g:On) (e:Nat) (v:Ev),J d g->g.heap.get? h=P3 (seqObj "list" d.toArray e)->a[d.length]?=P3 v->wpAny (model prog w) A (call f [v]) (λk l=>l.heap.get? h=P3 (seqObj "list" d.toArray e)/\J (d++[k]) {l with heap:=l.heap.update h (hV (·.push k))}) (λ_ _=>False) g)
  (N:∀(r:Nat),(DQ s.heap D a).get? D=P3 (seqObj "list" #[] r)->∀(d:t_ Ev) (g:On),J d g->d.length=a.length->g.heap.get? D=P3 (seqObj "list" #[] r)/\∃G:Array Nat->Prop,
   (2<=a.length->wpAny (model prog w) A (keyKind' d.toArray) (λκ O=>(kas_sort a.length).kasWp (kas_ask prog w A κ d) (λp l=>l=g/\G p) O) (λ_ _=>False) g)/\(a.length<2->G (gJ (gF a.length))) /\
   ∀(p:Array Nat) (V:fu) (c:Nat),p.size=a.length->G p->(∀b o,b≠D->b≠h->g.heap.get? b=P3 o->V.get? b=P3 o)->V.get? D=P3 (seqObj "list" (gJ (p.toList.map λi=>a.getD i gH)) c)->(∃o,V.get? h=P3 o)->P (.done (.ret .none)) {g with heap:=V}):
  wpAny (model prog w) A (ksk_tree D f s_) P E s:=by
 obtain⟨r,R,Z⟩:=Jy U;have u:((s.heap.update D (hV λ_=>(#[]:Array Ev))).push (seqObj "tuple" a.toArray 0)).objs.size=h:=by rw[size_push',Heap.size_update,M]
 have hD:D<s.heap.objs.size:=Tk U;have S:D≠h:=by rw[M]; exact f_ (ik hD)
 have a0:(DQ s.heap D a).get? h=P3 (seqObj "list" #[] 0):=by rw[←u]; exact TW _ rfl
 unfold ksk_tree;refine Ch (lc U rfl ?_);refine Ch (jV U rfl ?_ (by rw[fk,gc]; omega) (fo _));refine Ch (mH Z rfl ?_);refine Ch (mF ?_ (by show a.length<=_; rw[gc]; omega));refine Ch (mW ?_ (fo _));refine gQ ?_;show wpAny (model prog w) A (ksk_rest D f s_ a.toArray r (.ref ((s.heap.update D (hV λ_=>(#[]:Array Ev))).push (seqObj "tuple" a.toArray 0)).objs.size)) P E {s with heap:=DQ s.heap D a};rw[u];unfold ksk_rest;refine Ch (kY ?_)
 first
  |rw[mN]
  |(rw[←Array.forIn_toList]; simp only[List.toList_toArray])
  |rw[←Array.forIn_toList]
 refine Ch (ksk_fold (I:=λi g=>∃d e,kz d=i/\J d g/\g.heap.get? h=P3 (seqObj "list" d.toArray e)) a 0 _ ⟨[],0,rfl,h0 r R,a0⟩ (λj x g hx hI=>?_) λg hI=>?_)
 ·obtain⟨d,e,t,hJ,C⟩:=hI
  have hj:j<a.length:=(ZB.mp hx).1;have t:d.length=j:=by omega
  refine Ch (jF (gU (z d g e x hJ C (by rw[t]; exact hx)) (λk l F=>?_) λ_ _ hF=>hF.elim));have ea:(gJ d).push k=gJ (d++[k]):=by simp
  obtain⟨H,K⟩:∃H,(l.heap.update h (hV (·.push k))).get? h=P3 (seqObj "list" (gJ (d++[k])) H):=⟨_,by rw[←ea]; exact ju F.1 (·.push k)⟩
  try dsimp only
  refine Ch (jV F.1 rfl ?_ (by rw[fk,gc]; omega) (gO (lX (Array.size_push ..)) (by rw[fk,gc]; omega)));exact Op ⟨rfl,d++[k],H,by rw[fw,gC]; omega,F.2,K⟩
 ·obtain⟨d,e,t,hJ,C⟩:=hI
  have t:d.length=a.length:=by omega
  obtain⟨a5,G,g2,g1,g3⟩:=N r R d g hJ t
  try dsimp only
  refine Ch (lc C rfl ?_)
  have y:∀(W:SortSt) (p:Array Nat),p.size=a.length->G p->(arrOf W).map (·.2)=gJ (p.toList.map λi=>a.getD i gH)->failedOf W=q_->wpAny (model prog w) A (ksk_tail D s_ r (.ref h) W) P E g:=λW p X hg T hf=>by
   have a6:(gJ (p.toList.map λi=>a.getD i gH)).size=a.length:=by rw[fk,Go,iH,X]
   obtain⟨ck,a7⟩:∃ck,(g.heap.update h (hV λ_=>(#[]:Array Ev))).get? h=P3 (seqObj "list" #[] ck):=⟨_,ju C λ_=>#[]⟩;have L:(g.heap.update h (hV λ_=>(#[]:Array Ev))).get? D=P3 (seqObj "list" #[] r):=(fv _ _ (gP S)).trans a5;obtain⟨H,K⟩:∃H,((g.heap.update h (hV λ_=>(#[]:Array Ev))).update D (hV λ_=>gJ (p.toList.map λi=>a.getD i gH))).get? D=P3 (seqObj "list" (gJ (p.toList.map λi=>a.getD i gH)) H):=⟨_,ju L λ_=>gJ (p.toList.map λi=>a.getD i gH)⟩;unfold ksk_tail
   try dsimp only
   rw[T];refine Ch (jV C rfl ?_ (by rw[fk,gc]; omega) (fo _));refine Ch (jx ?_);refine Ch (mH L rfl ?_);refine Ch (jV L rfl ?_ (fo _) (gO (lX a6) (by rw[gc]; omega)));rw[hf];simp only[bne_self_eq_false,gm,if_false];refine Op (g3 p _ H X hg (λb o a8 a9 e=>(fv _ _ (gP a8)).trans ((fv _ _ (gP a9)).trans e)) K ⟨_,(fv _ _ S).trans a7⟩)
  unfold ksk_end
  try dsimp only
  simp only[gm,if_false]
  by_cases h2:a.length<2
  ·have m:a.toArray.size<2:=by rw[fk]; exact h2
   rw[if_pos m,if_pos m];refine Ch (Op ?_);rw[StateT.run_pure];refine Ch (Op ?_)
   try dsimp only
   refine y _ (gJ (gF a.length)) (by simp) (g1 h2) (kat_snds t ?_) rfl;have er:=kas_range (d.toArray.zip a.toArray);rw[show(d.toArray.zip a.toArray).size=a.length by simp[t]]at er;exact er.symm
  ·have m:¬a.toArray.size<2:=by rw[fk]; exact h2
   rw[if_neg m,if_neg m];refine Ch (gU (g2 (by omega)) (λκ s0 C=>?_) λ_ _ x=>x.elim)
   refine Ch (gU (kat_run (Q:=λq O=>∃p:Array Nat,p.size=a.length/\arrOf q=p.map (kas_item (d.toArray.zip a.toArray))/\failedOf q=q_/\O=g/\G p)
    t (by omega) Y (λp' q O a1 a2 a3 a4=>⟨p',a1,a2,a3,a4⟩) C) ?_ λ_ _ e=>e)
   rintro⟨⟨⟩,q⟩ O ⟨p,X,b0,hf,rfl,hg⟩
   try dsimp only
   exact y q p X hg (kat_snds t b0) hf
end
section
variable {X:Cx}{zH:t_ (Addr×Obj)}{Z:L2.St}{H:Hp}{s:Shared}{h':Heap}
structure Th (X:Cx) (zH:List (Db×Obj)) (D:Db):Prop where
 new:X.s₀.heap.objs.size<=D
 loc:D≠X.env.locals
 cell:∀x c,X.env.cells.lookup x=P3 c->c≠D
 pin:∀p∈X.pn++zH,p.1≠D
 fs:D∉X.fs
theorem Inv.mine(I:Inv X zH Z H s){D:Db}(h:s.heap.objs.size<=D):Th X zH D:=by
 refine⟨gO I.sz h,λz=>?_,λx c e z=>?_,λp a z=>?_,I.nofs h⟩
 ·have:=I.lt
  rw[←z]at this;exact absurd this (kX.mpr h)
 ·obtain⟨v,o,b,_⟩:=I.cell x c e
  have:=Tk b
  rw[z]at this;exact absurd this (kX.mpr h)
 ·obtain⟨e,_⟩:=I.pin p a
  have:=Tk e
  rw[z]at this;exact absurd this (kX.mpr h)
structure KeysAt (K:Frag) (H:Hp) (vs:List V) (keys:List (List Key)):Prop where
 len:vs.length=keys.length
 at_:∀(i:Nat) (ns:List Key),keys[i]?=P3 ns->∃a,vs[i]?=P3 (.ref a)/\SqT K H a (ns.map kOf)
 same:∀x∈keys,∀y∈keys,B0 x y=r_
 ne:∀x∈keys,x≠[]
def JC(a:t_ (t_ Key))(b:t_ Nat):Prop:=b.Perm (gF a.length)/\∀i j,i<=j->j<a.length->Bn (a.getD (b.getD j 0) []) (a.getD (b.getD i 0) [])=s_
theorem KeysAt.tups{d:t_ V}{f:t_ Ev}{c:t_ (t_ Key)}(I:Inv X zH Z H s)(r:Vals d f)(k:KeysAt X.K H d c){h':fu}(g:∀b o,s.heap.get? b=P3 o->h'.get? b=P3 o):Rt h' f c:=by
 refine⟨λi h e=>?_,r.length.symm.trans k.len,k.same,k.ne⟩;obtain⟨a,j,l⟩:=k.at_ i h e;obtain⟨u,m,p⟩:=r.get j;cases p;obtain⟨q,x,⟨o,t,v,n,w⟩,_⟩:=I.tuple l;exact⟨a,o,_,n,m,g a o t,v,w,by grind⟩
theorem Hu:∀{a:t_ V}{b:t_ Ev},Vals a b->∀i:Nat,RelV (a.getD i .non) (b.getD i gH)
 |_,_,.nil,i=>by simp[RelV]
 |_,_,.cons r t,0=>by simpa using r
 |_,_,.cons r t,i+1=>by simpa using Hu t i
theorem Jt{f:Nat->V}{g:Nat->Ev}(h:∀i,RelV (f i) (g i)):∀a:t_ Nat,Vals (a.map f) (a.map g)
 |[]=>.nil
 |i::a=>.cons (h i) (Jt h a)
theorem getD_list(p:Array Nat)(i:Nat):p.getD i 0=p.toList.getD i 0:=by simp
theorem VH{a:t_ (t_ Key)}{n:Nat}{p:Array Nat}(c:a.length=n)(d:p.Perm (gJ (gF n)))(e:So.Srt SX (λi=>a.getD i []) p n):JC a p.toList:=by
 subst c;refine⟨Array.perm_iff_toList_perm.mp d,λi j b f=>?_⟩;have h:=e i j b f;unfold So.KN at h;rw[getD_list,getD_list]at h;exact h
theorem Lk{z:gS}{A:Ev->On->Prop}{d:t_ V}{f:t_ Ev}{keys:t_ (t_ Key)}{Q:VK}(I:Inv X zH Z H s)(r:Vals d f)(B:d.length<64)(k:KeysAt X.K H d keys)
  (q:∀(v:t_ Nat) (l:Db),JC keys v->H l=q_->Q (.ref l) (A2 H l (.lst (v.map λi=>d.getD i .non)))):
  wpAny (model X.prog X.w) z (iS.«list.sort» ⟨[.ref s.heap.objs.size],[]⟩) (λm C=>m=.done (.ret .none)/\EP X zH Z Q (.ref s.heap.objs.size) C) A {s with heap:=s.heap.push (seqObj "list" f.toArray 0)}:=by
 have x:=r.length;have t:keys.length=f.length:=k.len.symm.trans x;refine Ob (G:=λp=>p.Perm _/\So.Srt SX (λi=>keys.getD i []) p f.length) (n:=0) (TW _ rfl) (by omega) (λD=>?_) (λL=>⟨nG _,λi j E M=>?_⟩) (λp h' c N y g F=>⟨rfl,?_⟩)
 ·refine Li (keys:=keys) (k.tups I r λb o e=>?_) D (λp a b=>⟨rfl,a,b⟩)
  exact Hy (f_ (Tk e)) (No _ e)
 ·have:i=j:=by omega
  subst this;exact ic _
 ·have J:H s.heap.objs.size=q_:=I.fresh
  have u:(p.toList.map λi=>d.getD i .non).length=f.length:=by grind
  refine⟨.ref s.heap.objs.size,A2 H s.heap.objs.size (.lst _),I.laid (t':=s.toks) (λb o e=>g b o (f_ (Tk e)) (No _ e)) (Re _) ⟨by rw[u,←x,gc]; omega,_,c,Jt (Hu r) p.toList,F⟩,rfl,q _ _ (VH t y.1 y.2) J⟩
theorem O5{c:gD}{w:gK}{A:gS}{E:Ev->On->Prop}{s:On}{l:Db}{b:t_ Ev}{Q:t_ Ev->On->Prop}(e:IsTup s.heap l b.toArray)
  (h:Q b {s with heap:=(s.heap.push (seqObj "list" #[] 0)).update s.heap.objs.size (hV (·++b.toArray))}) (g:b.length<=sizeLine):
  wpAny (model c w) A (collect (.ref l)) Q E s:=by
 obtain⟨o,i,j,n,k⟩:=id e;unfold collect;refine Ch (wpAny_runValue (gy entry_proto_collect' ?_));show wpAny _ _ (do again (.builtin "list.__iadd__" ⟨[←newList [],.ref l],[]⟩)) _ _ s;refine Ch (mW (Op ⟨mJ _ (by decide +kernel),gy entry_list_iadd' ?_⟩));show wpAny _ _ (jN (.ref s.heap.objs.size) (.ref l) (.ref s.heap.objs.size)) _ _ {s with heap:=s.heap.push (seqObj "list" #[] 0)};unfold jN;have d:(s.heap.push (seqObj "list" #[] 0)).get? l=P3 o:=No _ i;refine Ch (i9 (T:="tuple") ⟨o,d,j⟩ ?_);have m:(kU "tuple"==kU "tuple")=r_:=by rfl
 rw[if_pos (by rw[m]; simp)];refine Ch (lc d k ?_);refine Ch (lc (xs:=#[]) (n:=0) (TW _ rfl) rfl ?_);rw[if_neg (by simp)];refine Ch (jV (xs:=#[]) (n:=0) (TW _ rfl) rfl ?_ (fo _) (by show(#[]++b.toArray).size<=sizeLine+1; simp only[Array.size_append,fk,iL]; omega));refine Op ?_
 show wpAny (model c w) A (do
   let o ←load s.heap.objs.size
   match o.data with
   |.seq xs _=>pure xs.toList
   |_=>unsupported "internal:collect") Q E {s with heap:=(s.heap.push (seqObj "list" #[] 0)).update s.heap.objs.size (hV (·++b.toArray))}
 refine Ch (wpAny_load (ju (TW _ rfl) _) ?_);show wpAny _ _ (pure ((#[]:Array Ev)++b.toArray).toList) Q E _;rw[show((#[]:Array Ev)++b.toArray).toList=b by simp];exact Op h
theorem O8{h:fu}{g:Array Ev->Array Ev}{b:Db}{o:Obj}(e:h.get? b=P3 o):((h.push (seqObj "list" #[] 0)).update h.objs.size (hV g)).get? b=P3 o:=
 (fv _ _ (gP (f_ (Tk e)))).trans (No _ e)
theorem O7{g:Bool}{k:gS}{l:Ev->On->Prop}{p:Db}{c:t_ V}{Q:t_ Ev->On->Prop}(I:Inv X zH Z H s)(h:SqK g X.K H p c)(q:∀i j,Vals c i->c.length<=sizeLine->Inv X zH Z H j->Q i j):
  wpAny (model X.prog X.w) k (collect (.ref p)) Q l s:=by
 cases g with
 |true=>
  obtain⟨d,r,f,a⟩:=I.list h;exact collect_list f.isList (q _ _ r a (I.kept λb o e=>O8 e)) (by rw[←r.length]; exact a)
 |false=>
  obtain⟨d,r,f,a⟩:=I.tuple h;exact O5 f (q _ _ r a (I.kept λb o e=>O8 e)) (by rw[←r.length]; exact a)
def Up(K:Frag):t_ V->Hp->VK->Prop:=λd H Q=>∃(e:Bool) (p:Db) (b:t_ V) (a:t_ (t_ Key)),d=[.ref p]/\SqK e K H p b/\b.length<64/\KeysAt K H b a /\
 ∀(c:t_ Nat) (l:Db),JC a c->H l=q_->Q (.ref l) (A2 H l (.lst (c.map λi=>b.getD i .non)))
theorem Qb:By X (.builtin "sorted") (Up X.K):=by
 intro zH s Z H k d Q I r h;obtain⟨l,p,m,b,rfl,e,a,f,q⟩:=h;obtain⟨u,rfl,g⟩:=vals1 r;cases g;exact EN (args_sorted1 _) (λx=>args_list_sort _) (O7 I e λd n c i j=>⟨by rw[←c.length]; exact i,Lk j c a f q⟩)
end
section
variable {X:Cx}{tg elt iter:Expr}{ifs:t_ Expr}{sc:Scope}{pos spos pos':Pos}{N':t_ Str}{js:t_ (u_ Nat)}{wi:TI}{i:Nat}{x:Str}
theorem Q1(hc:X.calm=r_)(N':t_ Str)(js:t_ (u_ Nat))(hi:PI X tg iter wi)
  (hB:Iu sc X.env.scope X.N N' js=r_) (hN:X.N.Nodup) (a1:X.N[i]?=P3 x) (hx:Loc X.env.scope x)
  (a2:swapsWith (.ListComp elt [⟨tg,iter,ifs,0⟩] sc pos) (P3 (.Name x pos')) spos.line X.env=pure r_)
  (hs:∀x,foldedSetIterable iter X.env x=pure x:=by intro _; rfl)
  (hf:X.fn x=r_\/X.env.scope.names.lookup x=P3 .local:=by first|exact .inl rfl|exact .inr rfl|assumption):
  PS X (.Assign [.Name x pos'] (.ListComp elt [⟨tg,iter,ifs,0⟩] sc pos) spos) (Nx (UU X sc N' js tg elt ifs wi) (Il i)):=by
 intro P s Z H D I h;have O:CompOk X sc N' js:=CompOk.of hB;obtain⟨R,t,a3,S⟩:=K0 (scope:=sc) (env:=X.env) λx hx=>I.ok.has x (O.free x hx);rw[exec_Assign_Name_used _ _ _ _ a2];refine Ch (lB (Ch ?_));show wpAny _ _ (do let _ ←comprehension (.ListComp elt [⟨tg,iter,ifs,0⟩] sc pos) sc X.env _ (newList []) s_ (eval iter X.env) (P3 (assign (.Name x pos') X.env))) _ _ s
 refine Ch (gU (wpAny_comprehension_free (Q:=λ_ p=>SP X P D .next p) (use:=P3 (assign (.Name x pos') X.env)) rfl hs t O.kind O.names (thn (hi P s Z H _ I h) λv s1 h1=>thn h1 λa6 c h2=>?_))
  (λ_ p hq=>Op (Op hq)) λ_ _ e=>e)
 obtain⟨it,fp,tn,J,G,e,L,T,u,f2,hq⟩:=h2;subst e
 have B:X.K.lookup c.heap.objs.size=q_:=by
  cases q:X.K.lookup c.heap.objs.size with
  |none=>rfl
  |some o=>exact absurd (Tk (L.kIn _ _ q)) (gY _)
 obtain⟨g,tt,te,W,hg,ht,he,⟨m0,w0⟩,hW⟩:=hq c.heap.objs.size (L.hok.fresh (Re _)) B R (c.heap.objs.size+1) c G fp;refine iI (wpAny_newFunctionEnv O.cell (by intro y hy; simp at hy) (λj f d=>?_) O.kind)
 dsimp only at f d ⊢
 generalize C:c.heap.push {cls:=.type "list",dict:=q_,data:=.seq ([]:t_ Ev).toArray}=Hh at f d ⊢;have k:Hh.objs.size=c.heap.objs.size+1:=by rw[←C,iF]
 have U:∀b∈fp,b<c.heap.objs.size:=λb l=>by
  obtain⟨o,e,_⟩:=T.obj _ _ u b l;exact Tk e
 have V:∀b o,c.heap.get? b=P3 o->j.get? b=P3 o:=λb o e=>d.extBut b o (by rw[k]; exact f_ (ik (Tk e))) (No _ (C▸No _ e));have hD:∃n,j.get? c.heap.objs.size=P3 {cls:=.type "list",data:=.seq #[] n}:=⟨_,d.extBut _ _ (by rw[k]; exact f_ (mx _)) (No _ (C▸TW _ rfl))⟩
 have I3:∀M,Inv (A6 X sc N' R (c.heap.objs.size+1) c G fp) [] (CO js Z) (A2 G c.heap.objs.size (.lst [])) {c with heap:=j,toks:=M}:=λM=>
  Ou L hc O a3 S f2 (λb l=>let ⟨o,e,_⟩:=T.obj _ _ u b l; ⟨o,e⟩) (by rw[←k]; exact f) V hD
 have Y:tn 0 j:=T.keep _ _ _ u λb l o e=>V b o e
 have a4:∀b∈fp,A2 G c.heap.objs.size (.lst []) b=q_:=λb l=>by
  rw[AM (f_ (U b l))];exact(f2 b l).1
 have r:∀M,codeAny (model X.prog X.w) X.A (.compLoop (.ListComp elt [⟨tg,iter,ifs,0⟩] sc pos) 0 (.ref it) (.ref c.heap.objs.size) (compEnvC sc R (c.heap.objs.size+1) X.env))
   (compPost (model X.prog X.w) X.A X.xe (P3 (assign (.Name x pos') X.env)) (λ_ p=>SP X P D .next p) (.ref c.heap.objs.size) (c.heap.objs.size+1)) {c with heap:=j,toks:=M}:=λM=>by
  refine L9 (W:=W) (m0:=m0) (Q:=λv H1=>Il i v Z H1 λzU G=>D.nx zU G) L f2 U (iO _) T hg ht he hW (λzZ H' p J' q'=>?_) (I3 M) Y a4 w0;obtain⟨m,hn,_⟩:=J'.loc;have a0:H' (c.heap.objs.size+1)=q_:=J'.free;have I4:Inv X P Z H' p:=Kq (h':=p.heap) L f2 (iO _) J' λb _=>rfl;obtain⟨g1,g2,g3,g4,g5,g6⟩:=L.fpOk (b:=c.heap.objs.size+1) (iO _) a0;show wpAny (model X.prog X.w) X.A (assign (.Name x pos') X.env (.ref c.heap.objs.size)) (λ_ E=>∃m,E.heap.Ns (c.heap.objs.size+1) m/\∀h',i6 (c.heap.objs.size+1) E.heap h'->SP X P D .next {E with heap:=h'}) X.xe p;refine wpAny_assign_Name (Lj (v:=.ref c.heap.objs.size) I4 hN a1 hx rfl (λs5 I5 ⟨a,F,ha⟩=>?_) hf)
  have na:c.heap.objs.size+1≠a:=by
   rcases ha with rfl|ha
   ·exact g2
   ·exact λz=>g5 _ _ ha z.symm
  refine⟨m,hn.sameBut F na,λh' a5=>?_⟩;exact⟨_,H',I5.turned (t':=s5.toks) (it:=c.heap.objs.size+1) (λb o l e=>a5.extBut b o l e) a0 g2 g4 g5 g6,q'⟩
 rw[show(newEnv sc Hh.objs.size X.env.globals R X.env.qual q_ .none (P3 X.env) builtinsNs).locals=c.heap.objs.size+1 from k];show codeAny (model X.prog X.w) X.A (.compStart (.ListComp elt [⟨tg,iter,ifs,0⟩] sc pos) 0 (.ref it) (.ref c.heap.objs.size) (compEnvC sc R (c.heap.objs.size+1) X.env)) _ _;exact codeAny_compStart_list (r _) (T.self _ 0 _ _ _ Y (r _))
end
end L2
namespace Dp
open L2
section
variable {X:Cx}{zS:Kd}{tg elt iter:Expr}{ifs:t_ Expr}{sc:Scope}{pos:Pos}{src:Dh}{b:BW}{tt:Hm}{te:DW}
theorem WO(hc:X.calm=r_)(N':t_ Str)(js:t_ (u_ Nat))(hi:bG X tg iter src)(hg:∀L C s H O,DG (A6 X sc N' L C s H O) tg b)(ht:∀L C s H O,bF (A6 X sc N' L C s H O) ifs tt)(he:∀L C s H O,DE (A6 X sc N' L C s H O) elt zS te)
  (hB:Iu sc X.env.scope X.N N' js=r_) (hk:zS≠.tp:=by intro z; cases z)
  (hs:∀x,foldedSetIterable iter X.env x=pure x:=by intro _; rfl):∃wi,PI X tg iter wi/\∀(C:Fm) (M:Db->Prop) (H:Hp) (n:Nat) (ρ:t_ Slot) (Z:L2.St) (P:D->Nat->Prop) (Q:VK),Rel X.K C M H n ρ Z->Ba js src b tt te n ρ P->
   (∀v r d S,Ext C.U H r->FeedC X.K C.F M r S->VR X.K C.V M H r .fr v d->P d S->Q v r)->UU X sc N' js tg elt ifs wi Z H Q:=by
 obtain⟨wi,a1,a2⟩:=hi;refine⟨wi,a1,λC M H n ρ Z P Q R w q=>?_⟩;refine a2 C M H n ρ Z _ _ R w λJ H1 u n1 B f1 y w1=>?_;obtain⟨b3,w1⟩:=w1;have R1:=R.step B f1;intro l hl b5 L Ca s0 H0 O;obtain⟨g,g1,g2⟩:=hg L Ca s0 H0 O;obtain⟨tc,c1,c2⟩:=ht L Ca s0 H0 O;obtain⟨tx,x1,x2⟩:=he L Ca s0 H0 O
 have a4:¬C.U l:=λz=>by
  obtain⟨o,z⟩:=R1.udom l z;rw[hl]at z; cases z
 generalize T:(λb=>M b\/b=l)=M';have a6:M' l:=by rw[←T]; exact .inr rfl
 have M'of:∀b,M b->M' b:=λb z=>by rw[←T]; exact .inl z
 have a3:∀b,M' b->M b\/b=l:=λb z=>by rw[←T]at z; exact z
 have b0:∀b,C.V b\/b=l->M' b:=λb z=>z.elim (λz=>M'of b (R1.vM b z)) λz=>by rw[z]; exact a6
 have b4:js.length=N'.length:=FS (CompOk.of hB).cap
 refine⟨g,tc,tx,λi m zZ r=>m=u.length - i/\i<=u.length/\∃S zW k G,Rel X.K ⟨M',C.F,C.U,λb=>C.V b\/b=l,H1,[],[]⟩ M' r S zW zZ/\r l=P3 (.lst G)/\Ats X.K M' r k G/\k.length<=i/\Pres M H1 M' r /\
   GD b tt te (λk n2=>P (.lst k) n2) (u.drop i) k S zW,g1,c1,x1,⟨u.length,by simp,fo _,n1,HA js ρ,[],[],?_⟩,?_⟩
 ·have I:Grow H1 (A2 H1 l (.lst [])):=Av hl
  have W:Pres M H1 M' (A2 H1 l (.lst [])):=⟨λb o e _=>I.all b o e,λb z=>(a3 b z).elim .inl λz=>.inr (by rw[z]; exact hl),λb G e=>I.all b _ e⟩;refine⟨⟨?_,λa z=>z,λa z=>?_,I.ext,R1.fU,λa z=>.inl (R1.uV a z),b0,f1.pres W λf o _ e=>I.all f.1 o e,?_,λp hp=>absurd hp (by simp),λi d a q z=>RE R1.sl q z,λi s a q o _=>absurd o (by rw[Ec q]; decide),λi j s t a q o _ _ _ _=>absurd o (by rw[Ec q]; decide),λp hp=>absurd hp (by simp)⟩,AR,rfl,fo _,W,w1⟩
  ·unfold HA CO
   rw[Go,Go]
  ·rcases a3 a z with z|z
   ·obtain⟨o,z⟩:=R1.dom a z
    exact⟨o,I.all a o z⟩
   ·subst z
    exact⟨_,AR⟩
  ·refine Od R1.sl W λd v h=>h.same W (λa o _ e=>I.all a o e) λa e n1 z=>z.elim n1 λz=>?_
   subst e;obtain⟨o,w⟩:=h.lies;rw[z,hl]at w;cases w
 ·rintro i m zZ r ⟨rfl,hi,S,zW,k,G,R',a7,Y,a8,W,w'⟩
  by_cases a0:i<u.length
  ·have ed:u.drop i=u[i]::u.drop (i+1):=i5 a0
   rw[ed]at w';obtain⟨go,yl⟩:=(y i M' r W R'.ext R'.dom).1 u[i] (FM a0);refine .inr ⟨go,λx H2 hy=>?_⟩;obtain⟨I,hx⟩:=yl x H2 hy;have b1:=R'.step I.ext (R'.feed.grow I);refine g2 _ M' H2 S zW zZ u[i] x _ _ b1 hx w' λzP zV R3 w3=>?_;refine c2 _ M' H2 S zP zV _ _ R3 w3 λc H4 n4 e4 f4 w4=>?_;have R4:=R3.step e4 f4;have p4:Pres M' r M' H4:=I.pres.trans (R3.pres e4);have l4:H4 l=P3 (.lst G):=e4.keep (I.all _ _ a7) a4;cases c with
   |false=>exact⟨u.length - (i+1),by omega,rfl,a0,n4,zP,k,G,R4,l4,Y.pres p4,by omega,W.trans p4,w4⟩
   | true=>
    refine x2 _ M' H4 n4 zP zV _ _ R4 w4 λyv H5 d5 n5 e5 f5 r5 w5=>?_;have E:=R4.step e5 f5;have p5:Pres M' H4 M' H5:=R4.pres e5;have l5:H5 l=P3 (.lst G):=e5.keep l4 a4;have b2:=r5.shOf R4.dom hk;have a5:=(Y.pres p4).pres p5;have pu:Pres M' H5 M' (A2 H5 l (.lst (G++[yv]))):=Cw a6 l5;have b6:G.length=k.length:=Y.length;refine⟨G,l5,by rw[gc]; omega,u.length - (i+1),by omega,rfl,a0,n5,zP,k++[d5],G++[yv],?_,AR,(a5.append (Ats.one b2)).pres pu,by rw[fw,gC]; omega,(W.trans p4).trans (p5.trans pu),w5⟩;refine⟨E.len,E.sub,λa z=>?_,λb o e=>?_,E.fU,E.uV,E.vM,?_,λj s hs=>?_,λp hp=>absurd hp (by simp),E.br0,E.new,E.two,λp hp=>absurd hp (by simp)⟩
    ·by_cases ha:a=l
     ·subst ha; exact⟨_,AR⟩
     ·rw[AM ha]; exact E.dom a z
    ·obtain⟨o',q1,q2⟩:=E.ext b o e
     by_cases hb:b=l
     ·subst hb
      have e':H1 b=P3 o:=e;rw[hl]at e'; cases e'
     ·exact⟨o',by rw[AM hb]; exact q1,q2⟩
    ·refine f5.pres pu λf o hf e=>?_
     rw[AM (λz=>a4 (by rw[←z]; exact R1.fU f hf))];exact e
    ·have A:=E.sl j s hs
     cases s with
     |no=>trivial
     |sh d=>obtain⟨v,B,h2⟩:=A; exact⟨v,B,h2.pres pu⟩
     |ex a nm ks u=>obtain⟨B,h2⟩:=A; exact⟨B,h2.pres pu⟩
     | br d=>
      obtain⟨v,B,h2⟩:=A;refine⟨v,B,h2.same pu (λa o z e=>?_) λ_ _ z=>z⟩;subst z;obtain⟨o3,w⟩:=E.br0 j d a hs B
      have a8:a≠l:=λz=>by
       have w':H1 a=P3 o3:=w;rw[z,hl]at w'; cases w'
      rw[AM a8]; exact e
     |ow d=>
      obtain⟨a,B,h2,_⟩:=A;exact absurd h2 (E.new j _ a hs rfl B).1
     |lt a d=>
      obtain⟨B,h2,_⟩:=A;exact absurd h2 (E.new j _ a hs rfl B).1
     |fd=>exact A
     |wd ks u=>exact A
  ·have e:i=u.length:=by omega
   subst e;rw[my]at w';refine .inl ⟨(y _ M' r W R'.ext R'.dom).2 (Re _),?_⟩;have eb:Ext C.U H1 r:=R'.ext;have a9:Pres M' r M r:=Pres.less M'of;refine q _ r (.lst k) S (B.trans eb) (R'.feed.pres a9 λ_ _ _ z=>z) (VR.back B ?_) w';exact⟨l,rfl,hl,G,a7,by rw[T]; exact Y⟩
theorem YA{q:Kd}{i:Nat}{x:Str}{a c:Pos}(r:X.N.Nodup)(j:X.N[i]?=P3 x)(t:Loc X.env.scope x)(l:X.calm=r_)(e:t_ Str)(h:t_ (u_ Nat))(u:bG X tg iter src)(y:∀f C s H g,DG (A6 X sc e f C s H g) tg b)(A:∀f C s H g,bF (A6 X sc e f C s H g) ifs tt)(B:∀f C s H g,DE (A6 X sc e f C s H g) elt zS te)
  (m:Iu sc X.env.scope X.N e h=r_) (k:swapsWith (.ListComp elt [⟨tg,iter,ifs,0⟩] sc pos) (P3 (.Name x a)) c.line X.env=pure r_:=by rfl) (D:zS≠.tp:=by intro z; cases z)
  (o:∀x,foldedSetIterable iter X.env x=pure x:=by intro _; rfl)
  (F:X.fn x=r_\/X.env.scope.names.lookup x=P3 .local:=by first|exact .inl rfl|exact .inr rfl|assumption):DS X q (.Assign [.Name x a] (.ListComp elt [⟨tg,iter,ifs,0⟩] sc pos) c) (A5 i (Ba h src b tt te)):=by
 obtain⟨T,G,I⟩:=WO l e h u y A B m D o;exact⟨_,Q1 l e h G m r j t k o F,λC M H n J Z U E R L w=>I C M H n J Z _ _ R w λv K d O P Q S p=>L.nx M K O _ _ ((R.step P Q).set (S.shOf R.dom (by grind))) p⟩
end
end Dp
namespace L2
def bw:R2:=λy x H Q=>∃a o,x=.ref a/\DGet H a y o/\Q (.bl o.isSome) H
def Ut:R2:=λy x H Q=>∃a o,x=.ref a/\DGet H a y o/\Q (.bl (!o.isSome)) H
def Yt:R2:=λx y H Q=>∃a v,x=.ref a/\DGet H a y (P3 v)/\Q v H
theorem Zy{X:Cx}{k:Nat}(b:Room k X.A):OpR X (compareOp .In) bw:=by
 intro f s Z H y x h u Q I c d ⟨a,i,ex,g,q⟩;subst ex;obtain rfl:u=fj a:=d;exact eI (GG b) I g c λj e=>⟨.bl _,H,e,rfl,q⟩
theorem D5{X:Cx}{k:Nat}(b:Room k X.A):OpR X (compareOp .NotIn) Ut:=by
 intro f s Z H y x h u Q I c d ⟨a,i,ex,g,q⟩;subst ex;obtain rfl:u=fj a:=d;exact YQ (GG b) I g c λj e=>⟨.bl _,H,e,rfl,q⟩
end L2
namespace Dp
open L2
def BM:t_ Key->t_ D->Key->u_ D
 |a::b,d::c,k=>if a=k then P3 d else BM b c k
 |_,_,_=>q_
section
variable {K:Frag}{X:Cx}
theorem Gx{M:Db->Prop}{H:Hp}{k:Key}:∀{ks:t_ Key}{b:t_ D}{a:t_ V},Ats K M H b a->
  match BM ks b k with
  |some z=>∃v,B8 (ks.zip a) k=P3 v/\At K M H z v
  |none=>B8 (ks.zip a) k=q_
 |[],b,a,h=>by exact rfl
 |c::ks,[],a,h=>by cases h; exact rfl
 | c::ks,d::b,a,h=>by
  obtain⟨v,r,rfl,f,g⟩:=h;have i:=Gx (k:=k) (ks:=ks) g;unfold BM
  by_cases e:c=k
  ·rw[if_pos e]
   refine⟨v,?_,f⟩;show B8 ((c,v)::ks.zip r) k=P3 v;rw[D1 e]
  ·have:B8 ((c,v)::ks.zip r) k=B8 _ k:=D3 e
   simp_all
def keyOf:D->u_ Key
 |.int i=>P3 (.inl i)
 |.str x=>P3 (.inr x)
 |_=>q_
theorem DK{U M:Db->Prop}{H:Hp}{d:D}{v:V}{k:Key}(e:keyOf d=P3 k)(h:AtT K U M H d v):v=kV k:=by
 cases d with
 |int i=>cases e; exact h
 |str x=>cases e; exact h.str.1
 |_=>cases e
def WB:D->u_ (t_ Key×t_ D)
 |.dic a b=>P3 (a,b)
 |.fdi a b=>P3 (a,b)
 |_=>q_
theorem QV{U M:Db->Prop}{H:Hp}{d:D}{x:V}{g:t_ Key}{i:t_ D}(e:WB d=P3 (g,i))(h:AtT K U M H d x):∃a b,x=.ref a/\Rd H a (.dK (g.zip b))/\Ats K M H i b:=by
 cases d with
 |dic j k=>cases e; obtain⟨a,b,rfl,_,c,_,f⟩:=h; exact⟨a,b,rfl,.inl c,f⟩
 |fdi j k=>cases e; obtain⟨a,b,rfl,⟨o,_,c⟩,_,f⟩:=h; exact⟨a,b,rfl,.inr ⟨o,c⟩,f⟩
 |_=>cases e
theorem NF{H:Hp}{a:Db}{b:t_ (Key×V)}{k:Key}(e:Rd H a (.dK b)):DGet H a (kV k) (B8 b k):=.inl ⟨_,k,e,rfl,rfl⟩
def NA(a:Bool)(e d:D)(P:D->Prop):Prop:=∃b c k,WB d=P3 (b,c)/\keyOf e=P3 k/\P (.bl (if a then !(BM b c k).isSome else(BM b c k).isSome))
def B4(d e:D)(P:D->Prop):Prop:=∃a b k z,WB d=P3 (a,b)/\keyOf e=P3 k/\BM a b k=P3 z/\P z
theorem ce:F9 K .sh bw (NA s_):=λU M H e d y x P Q b o f g w q=>by
 obtain⟨ks,i,k,j,l,w⟩:=w;obtain⟨a,p,rfl,m,n⟩:=QV j g;refine⟨a,_,rfl,by rw[DK l f]; exact NF m,q _ H (.bl _) .refl rfl ?_⟩;have h:=Gx (k:=k) (ks:=ks) n;cases c:BM ks i k with
 |none=>simp_all
 |some z=>rw[c]at h w; obtain⟨v,r,_⟩:=h; simp_all
theorem HS:F9 K .sh Ut (NA r_):=λU M H e d y x P Q b o f g w q=>by
 obtain⟨ks,i,k,j,l,w⟩:=w;obtain⟨a,p,rfl,m,n⟩:=QV j g;refine⟨a,_,rfl,by rw[DK l f]; exact NF m,q _ H (.bl _) .refl rfl ?_⟩;have h:=Gx (k:=k) (ks:=ks) n;cases c:BM ks i k with
 |none=>simp_all
 |some z=>rw[c]at h w; obtain⟨v,r,_⟩:=h; simp_all
theorem ao:F9 K .sh Yt B4:=λU M H d e x y P Q b p c f w q=>by
 obtain⟨ks,r,k,z,g,i,j,w⟩:=w;obtain⟨a,s,rfl,l,m⟩:=QV g c;have h:=Gx (k:=k) (ks:=ks) m;rw[j]at h;obtain⟨v,n,o⟩:=h;exact⟨a,v,rfl,by rw[DK i f,←n]; exact NF l,q v H z .refl o w⟩
variable {a b:Expr}{zT zQ:Kd}{wa wb:DW}{pos:Pos}
theorem Bx{k:Nat}(g:Room k X.A)(h:DE X a zT wa)(i:DE X b zQ wb)(j:Tg b:=by intro _ _; rfl):DE X (.Subscript a b pos) .sh (Aa B4 wa wb):=by
 obtain⟨m,c,d⟩:=h;obtain⟨o,e,f⟩:=i;exact⟨_,Fp (GG g) c e j,λC M H n l Z P Q R w q=>Ej ao d f C M H n l Z P Q R w q⟩
end
def UG(i:Nat)(w:DW):AZ:=λe n c=>∃a:Int,c[i]?=P3 (.sh (.int a))/\w n c λd f=>∃b:Int,d=.int b/\e.nx f (c.set i (.sh (.int (a+b))))
theorem YD{X:Cx}{h j:Kd}{e:gB}{g:DW}{pos:Pos}{i:Nat}{x:Str}{c:Pos}(k:X.N.Nodup)(l:X.N[i]?=P3 x)(m:Loc X.env.scope x)(o:DE X e j g)
  (q:X.fn x=r_\/X.env.scope.names.lookup x=P3 .local:=by first|exact .inl rfl|exact .inr rfl|assumption):DS X h (.AugAssign (.Name x c) .Add e pos) (UG i g):=by
 obtain⟨t,r,s⟩:=o;refine⟨_,Zn k l m r aG q,λC M H n u Z G E R L w=>?_⟩;obtain⟨a,y,w⟩:=w;obtain⟨v,f,z⟩:=R.sl i _ y;cases(z);refine⟨_,getD_some f,s C M H n u Z _ _ R w λv A d B f D F p=>?_⟩;obtain⟨b,rfl,p⟩:=p;exact⟨a,b,rfl,QL F,L.nx M A B _ _ ((R.step f D).set (d:=.int _) rfl) p⟩
end Dp
namespace L2
open PySem.W
section
variable {X:Cx}{zH:t_ (Addr×Obj)}{Z:L2.St}{H:Hp}{s:Shared}{h':Heap}
theorem Inv.adopt2{D e:Db}{o:HO}(I:Inv X zH Z H s)(m:Th X zH D)(h:H D=q_)(i:Th X zH e)(j:H e=q_)(l:D≠e)(k:∀b u,b≠D->b≠e->s.heap.get? b=P3 u->h'.get? b=P3 u)(new:ObjOk X.prog X.w (A2 H D o) h' D o):Inv X zH Z (A2 H D o) {s with heap:=h'}:=by
 have a:∀b,b∉[D,e]->b≠D/\b≠e:=λb d=>⟨λz=>d (by rw[z]; exact Sc),λz=>d (by rw[z]; exact Rs _ (TM.mpr rfl))⟩
 refine I.step (g':=s.gens) (d':=s.drawn) (t':=s.toks) (ch:=[D,e]) (λb g=>?_) (λb u _ _ d q _=>k b u (a b d).1 (a b d).2 q) (λb u _ _ d q _=>⟨u.slots,k b u (a b d).1 (a b d).2 q⟩) (λb u d q n=>?_)
  (λb u d q=>⟨u,k b u (a b d).1 (a b d).2 q⟩) (λb p q=>?_) (λb u v q=>?_) (λb B q=>⟨#[],?_⟩) (λC t=>?_) (λb u q=>?_) I.bare
 ·rcases fi.mp g with rfl|g
  ·exact⟨.inr m.new,m.loc,m.cell,m.pin⟩
  ·rw[TM.mp g]
   exact⟨.inr i.new,i.loc,i.cell,i.pin⟩
 ·rw[AM (a b d).1]; exact n
 ·rw[AM (Ao q h)]; exact q
 ·rw[AM (Ao q h)]; exact q
 ·rw[AM (Ao q h),q]; simp
 ·obtain⟨u,x,y,A,r⟩:=t
  exact⟨u,x,y,k _ u (gP m.loc) (gP i.loc) A,r⟩
 ·by_cases g:b=D
  ·subst g; rw[AR]at q; cases q; exact new
  ·rw[AM g]at q
   refine(I.hok b u q).stay (λc v d f=>k c v ?_ ?_ f) (λc f=>by rw[AM (Ao f h)]; exact f) λc p f=>by rw[AM (Ao f h)]; exact f
   ·grind
   grind
def ZW(K:Frag)(sp:Sp)(f:TE):TE:=λZ H Q=>f Z H λx H1=>∃(g:Bool) (l:Db) (d:t_ V) (a:t_ (t_ Key)) (J:t_ V->Hp->Prop),x=.ref l/\SqK g K H1 l d/\d.length<64/\J [] H1 /\
 (∀b c v,J b c->d[b.length]?=P3 v->sp [v] c (λk h=>J (b++[k]) h) E0) /\
 ∀b c,J b c->b.length=d.length->KeysAt K c b a/\∀(e:t_ Nat) (l:Db),JC a e->c l=q_->Q (.ref l) (A2 c l (.lst (e.map λi=>d.getD i .non)))
theorem VB{k:Nat}{f:Db}{fd:gZ}{pn fn:Str}{sp:Sp}{te:TE}{e:gB}{p fp kp pos:Pos}(F:A3 X.prog X.w X.K X.mg X.base B1 k f fd [pn] sp)(hr:Room (k+2) X.A)(hg:Gl X "sorted")(hm:X.mg "sorted"=q_)
  (a9:Gl X fn) (b0:X.mg fn=P3 (.ref f)) (hb:Binds X.K fd [pn] []) (he:PE X e te) (hs:starEach [e] X.env=[(s_,eval e X.env)]:=by rfl) (b1:(fn==("__debug__":Str))=s_:=by decide):
  PE X (.Call (.Name "sorted" p) [e] [⟨P3 "key",.Name fn fp,kp⟩] pos) (ZW X.K sp te):=by
 intro zH s Z H Q I h;refine iK (DJ I hg hm nR ?_)
 refine callWith_kw (thn (Aq he A9 hs pos zH s Z H (λC H1=>∃x,C=[x]/\∃(κ:Bool) (l:Db) (C:t_ V) (keys:t_ (t_ Key)) (J:t_ V->Hp->Prop),x=.ref l/\SqK κ X.K H1 l C/\C.length<64/\J [] H1 /\
   (∀B T v,J B T->C[B.length]?=P3 v->sp [v] T (λk H3=>J (B++[k]) H3) E0) /\
   ∀B T,J B T->B.length=C.length->KeysAt X.K T B keys/\∀(ix:t_ Nat) (l:Db),JC keys ix->T l=q_->Q (.ref l) (A2 T l (.lst (ix.map λi=>C.getD i .non)))) I ?first) λt s1 ⟨xs,H1,I1,r1,q1⟩=>kws_cons (Ee I1 a9 b0 (kws_nil ?_) b1)) (by rw[hs]; rfl) (by rw[hs]; rfl)
 case first=>
  show te Z H _;refine cast (congrArg (te Z H) ?_) h
  funext x H1
  refine propext ⟨λz=>⟨x,rfl,z⟩,fun⟨y,e,z⟩=>?_⟩;cases e;exact z
 obtain⟨x,rfl,κ,l,C,keys,J,rfl,hq,b2,j0,U,a0⟩:=q1;obtain⟨u,rfl,ru⟩:=vals1 r1;cases ru;show wpAny (model X.prog X.w) X.A (call (.builtin "sorted") [.ref l] [(ig "key",.ref f)]) _ _ s1;refine EN (ksk_s1 _ _) (λx=>ksk_l1 _ _) (O7 I1 hq λt R r2 hz I2=>⟨by rw[←r2.length]; exact hz,?_⟩);rw[ksk_t1];have hl:=r2.length;generalize W:R.heap.objs.size=D;have a1:(R.heap.push (seqObj "list" t.toArray 0)).objs.size=D+1:=by rw[size_push',W]
 have a2:(R.heap.push (seqObj "list" t.toArray 0)).get? D=P3 (seqObj "list" t.toArray 0):=by rw[←W]; exact TW _ rfl
 have mD:Th X zH D:=I2.mine (by rw[W]; exact Re _);have mK:Th X zH (D+2):=I2.mine (by rw[W]; exact lK _ _);have nD:H1 D=q_:=I2.hok.fresh (by rw[W]; exact Re _);have nK:H1 (D+2)=q_:=I2.hok.fresh (by rw[W]; exact lK _ _);have a3:D≠D+2:=f_ (ik (mx D));have S:∀b,Th X zH b->b∉L5 X.stack:=λb m z=>(fi.mp (I2.stkSub b z)).elim m.loc m.fs
 refine Su (s:={R with heap:=R.heap.push (seqObj "list" t.toArray 0)}) (n:=0) a2 (by rw[←hl]; exact b2)
  (λB N=>∃O E,Vals O B/\J O E/\Inv X zH Z E N/\E D=q_/\E (D+2)=q_/\N.heap.get? D=(DQ (R.heap.push (seqObj "list" t.toArray 0)) D t).get? D) (D+2) (by show D+2=(R.heap.push _).objs.size+1; rw[a1]) (λe1 a4=>?_) (λB N e v Y hk hv=>?_) λe1 a4 B N Y L=>?_
 ·refine⟨[],H1,.nil,j0,?_,nD,nK,rfl⟩
  exact I2.kept (t':=R.toks) λb o q=>Hy (by rw[←W]; exact f_ (Tk q)) (No _ q)
 ·obtain⟨O,E,rk,Y,I',n1,n2,P⟩:=Y
  have hi:B.length<t.length:=(ZB.mp hv).1;have a5:C[O.length]?=P3 (C[O.length]'(by rw[rk.length]; omega)):=FM _;obtain⟨u',e2,ru⟩:=r2.get a5;rw[rk.length,hv]at e2;cases e2;have b3:=U O E _ Y a5;have E1:Env0 X.prog X.w X.K X.mg X.base X.A.in1.in1 X.stack N E:=I'.env0.in1.in1;refine jq (lU (F.run X.A.in1.in1 X.stack N E ⟨[v],[]⟩ [v] _ _ E0 (hr.in1).in1 E1 (by simpa using hb N [v] I'.kIn rfl) (.cons ru .nil) b3) λr g M=>?_);cases r with
  |error e=>exact iP M
  | ok fl=>
   cases fl with
   |next=>exact iP M
   |brk=>exact iP M
   |cont=>exact iP M
   | ret u=>
    obtain⟨w',H3,os,a6,un,b4,b5,q3⟩:=id M
    obtain⟨oD,eD⟩:∃o,N.heap.get? D=P3 o:=by
     obtain⟨c,hc,_⟩:=Jy a2;exact⟨_,P.trans hc⟩
    have kD:g.heap.get? D=P3 oD:=un.keep D oD eD n1 (S D mD) (by simp);have kK:g.heap.get? (D+2)=P3 (seqObj "list" B.toArray e):=un.keep _ _ hk n2 (S _ mK) (by simp);have f1:H3 D=q_:=un.free D oD eD n1 (by simp);have f2:H3 (D+2)=q_:=un.free _ _ hk n2 (by simp);have I3:Inv X zH Z H3 g:=I'.call' os un b4 a6 (λb z=>absurd z (by simp));refine⟨kK,O++[w'],H3,rk.append (.cons b5 .nil),q3,?_,f1,f2,?_⟩
    ·exact I3.turned (t':=g.toks) (λb o hb q=>(fv _ _ (gP hb)).trans q) f2 mK.loc (.inr mK.new) mK.cell mK.pin
    ·show(g.heap.update (D+2) _).get? D=_
     rw[fv _ _ (gP a3),kD,←eD,P]
 ·obtain⟨O,E,rk,Y,I',n1,n2,P⟩:=Y
  obtain⟨a7,q⟩:=a0 O E Y (by rw[rk.length,L,hl]);have b6:keys.length=t.length:=by rw[←a7.len,rk.length,L]
  refine⟨P.trans a4,λp=>p.Perm (gJ (gF t.length))/\So.Srt SX (λi=>keys.getD i []) p t.length,λh2=>?_,λh1=>⟨nG _,λi j b9 hj=>?_⟩,λp h' c hp hg a8 b7 _=>⟨rfl,?_⟩⟩
  ·have ts:=Li (prog:=X.prog) (w:=X.w) (A:=X.A.in1.in1) (keys:=keys) (a7.tups I' rk λb o e=>e) (by omega) (G:=λp g=>g=N/\p.Perm (gJ (gF t.length))/\So.Srt SX (λi=>keys.getD i []) p t.length) (λp a b=>⟨rfl,by rw[←L]; exact a,by rw[←L]; exact b⟩)
   rw[L]at ts;exact ts
  ·have:i=j:=by omega
   subst this;exact ic _
  ·have b8:(p.toList.map λi=>C.getD i .non).length=t.length:=by rw[Go,iH,hp]
   refine⟨.ref D,A2 E D (.lst (p.toList.map λi=>C.getD i .non)),I'.adopt2 mD n1 mK n2 a3 a8 ⟨by rw[b8,←hl,gc]; omega,_,c,Jt (Hu r2) p.toList,b7⟩,rfl,q _ _ (VH b6 hg.1 hg.2) n1⟩
theorem KU{e f:Type}{F:e->f->Prop}:∀{c:t_ e}{d:t_ f}{j:Nat}{a:e}{b:f},Paired F c d->c[j]?=P3 a->d[j]?=P3 b->F a b
 |_,_,_,_,_,.nil,h,_=>by simp at h
 |_,_,0,_,_,.cons r t,g,i=>by
  grind
 |_,_,j+1,_,_,.cons r t,g,i=>KU (j:=j) t (by simp_all) (by simp_all)
theorem Lf:∀b:t_ Db,Vals (b.map V.ref) (b.map fj)
 |[]=>.nil
 |a::b=>.cons rfl (Lf b)
end
end L2
namespace Dp
open L2
section
variable {K:Frag}
def Vt(a:t_ D)(P:D->Prop):Prop:=match a with
 |[.int i,.int j]=>P (.int (if j > i then j else i))
 |_=>False
def RO(a:t_ D)(P:D->Prop):Prop:=match a with
 |[.int i,.int j]=>P (.int (if j<i then j else i))
 |_=>False
def X0(a:t_ D)(P:D->Prop):Prop:=match a with
 |[.int i]=>P (.int (if i<0 then -i else i))
 |_=>False
theorem am:CJ K .sh (λa H Q=>∃i j,a=[.int i,.int j]/\Q (.int (if j > i then j else i)) H) Vt:=by
 intro U M H h k P Q b l c w q;unfold Vt at w
 split at w
 ·rename_i i j
  cases c with
  | cons d e=>cases e with
   |cons f g=>
    cases g;cases d.int;cases f.int;exact⟨i,j,rfl,q _ H (.int _) .refl rfl w⟩
 grind
theorem WV:CJ K .sh (λa H Q=>∃i j,a=[.int i,.int j]/\Q (.int (if j<i then j else i)) H) RO:=by
 intro U M H h k P Q b l c w q;unfold RO at w
 split at w
 ·rename_i i j
  cases c with
  | cons d e=>cases e with
   |cons f g=>
    cases g;cases d.int;cases f.int;exact⟨i,j,rfl,q _ H (.int _) .refl rfl w⟩
 grind
theorem ZD:CJ K .sh (λa H Q=>∃i,a=[.int i]/\Q (.int (if i<0 then -i else i)) H) X0:=by
 intro U M H f g P Q b h c w q;unfold X0 at w
 split at w
 ·rename_i i
  cases c with
  |cons d e=>
   cases e;cases d.int;exact⟨i,rfl,q _ H (.int _) .refl rfl w⟩
 grind
end
end Dp
namespace L2
def Gd(H:Hp)(L:t_ Db)(f:Db->Obj):Hp:=λb=>if b∈L then(H b).map (HO.frz (f b))else H b
theorem D9{H:Hp}{L:t_ Db}{f:Db->Obj}{b:Db}(h:b∉L):Gd H L f b=H b:=by unfold Gd; rw[if_neg h]
theorem RL{H:Hp}{L:t_ Db}{f:Db->Obj}{b:Db}{o:HO}(h:b∈L)(e:H b=P3 o):Gd H L f b=P3 (.frz (f b) o):=by unfold Gd; grind
section
variable {X:Cx}{zH:t_ (Addr×Obj)}{Z:L2.St}{H:Hp}{s:Shared}
theorem Inv.frz{L:t_ Db}(I:Inv X zH Z H s)(k:∀b∈L,∃d,H b=P3 (.dK d)):∃f,Inv X zH Z (Gd H L f) s:=by
 have a:∀(f:Db->Obj) b o,H b=P3 o->(∀d,o≠.dK d)->Gd H L f b=P3 o:=λf b o e n=>by
  rw[D9 (λx=>by grind)];exact e
 refine⟨λb=>(s.heap.get? b).getD {cls:=.none,data:=.fields #[]},?_⟩;refine I.step (g':=s.gens) (d':=s.drawn) (t':=s.toks) (h':=s.heap) (ch:=[]) (λ_ z=>nomatch z) (λ_ _ _ _ _ e _=>e) (λb o _ _ _ e _=>⟨o.slots,e⟩) (λb o _ e n=>?_) (λb o _ e=>⟨o,e⟩) (λb l e=>a _ b _ e λ_ z=>by cases z) (λb o u e=>a _ b _ e λ_ z=>by cases z) (λb A e=>⟨#[],by grind⟩) (λ_ h=>h) (λb u e=>?_) I.bare
 ·unfold Gd
  simp_all
 ·by_cases g:b∈L
  ·obtain⟨d,i⟩:=k b g
   rw[RL g i]at e;cases e;obtain⟨z,y,m,r,p,t,v,j,c⟩:=(show ObjOk X.prog X.w H s.heap b (.dK d)from I.hok b _ i);exact⟨by rw[j]; rfl,z,y,m,r,p,t,v,j,c⟩
  ·rw[D9 g]at e
   exact(I.hok b u e).stay (λ_ _ _ q=>q) (λc q=>a _ c _ q λ_ z=>by cases z) λc l q=>a _ c _ q λ_ z=>by cases z
def dY(t:TE):TE:=λZ H Q=>t Z H λv H1=>∃L:t_ Db,(∀b∈L,∃a,H1 b=P3 (.dK a))/\∀f:Db->Obj,Q v (Gd H1 L f)
theorem Zr{e:gB}{t:TE}(h:PE X e t):PE X e (dY t):=by
 intro zH s Z H Q I a;refine thn (h _ s Z H _ I a) λu g ⟨v,H1,b,r,L,c,q⟩=>?_;obtain⟨f,d⟩:=b.frz c;exact⟨v,_,d,r,q f⟩
end
end L2
namespace Dp
open L2
def CP:D->u_ (t_ Key)
 |.tup a=>Ly a
 |_=>q_
def JD(c:D->u_ (t_ Key))(f:t_ D):Prop:=f.Pairwise λa b=>∀d e,c a=P3 d->c b=P3 e->Bn e d=s_
def Keyed(a:D->u_ (t_ Key))(b:t_ D):Prop:=(∀x∈b,∃k,a x=P3 k/\k≠[])/\∀x∈b,∀y∈b,∀c d,a x=P3 c->a y=P3 d->B0 c d=r_
theorem range_getD(a:t_ D):(gF a.length).map (λi=>a.getD i .non)=a:=by
 apply List.ext_getElem
 ·simp
 simp_all
theorem RB{kf:D->u_ (t_ Key)}{c:t_ D}{a:t_ (t_ Key)}{b:t_ Nat}(m:a.length=c.length)(r:∀(i:Nat) (x:D),c[i]?=P3 x->∃k,a[i]?=P3 k/\kf x=P3 k)(h:JC a b):
  (b.map λi=>c.getD i .non).Perm c/\JD kf (b.map λi=>c.getD i .non):=by
 obtain⟨d,s⟩:=h;constructor
 ·have:=d.map λi=>c.getD i D.non
  rw[m,range_getD]at this;exact this
 ·unfold JD
  rw[ja];intro i j n f l t u o p;rw[List.getElem_map]at o p;rw[Go]at n f;have v:b.length=a.length:=by rw[d.length_eq,ip]
  have g:∀i (h:i<b.length) k,kf (c.getD b[i] .non)=P3 k->a.getD (b.getD i 0) []=k:=λi h k e=>by
   have w:b[i]<a.length:=iU.mp (d.mem_iff.mp (iA h));have q:b[i]<c.length:=by rw[←m]; exact w
   obtain⟨C,y,z⟩:=r b[i] c[b[i]] (FM q);have A:c.getD b[i] .non=c[b[i]]:=by rw[fq,FM q]; rfl
   rw[A,z]at e;have B:b.getD i 0=b[i]:=by rw[fq,FM h]; rfl
   rw[B,fq,y];exact ft e
  have:=s i j (j7 l) (by rw[←v]; exact f)
  rw[g i n t o,g j f u p]at this;exact this
theorem Ft{b:D->u_ (t_ Key)}:∀{xs:t_ D},(∀x∈xs,∃k,b x=P3 k/\k≠[])->∃a:t_ (t_ Key),a.length=xs.length/\(∀(i:Nat) (x:D),xs[i]?=P3 x->∃k,a[i]?=P3 k/\b x=P3 k/\k≠[])
 |[],_=>⟨[],rfl,λi x e=>by simp at e⟩
 | x::xs,h=>by
  obtain⟨k,d,f⟩:=h x Sc;obtain⟨a,l,g⟩:=Ft (xs:=xs) λy c=>h y (Rs _ c);refine⟨k::a,by simp_all,λi y e=>?_⟩;cases i with
  |zero=>
   simp_all
  |succ i=>
   simp_all
section
variable {K:Frag}{M:Addr->Prop}{H:Hp}
theorem Ats.getD:∀{b:t_ D}{a:t_ V},Ats K M H b a->∀i:Nat,At K M H (b.getD i .non) (a.getD i .non)
 |[],a,h,i=>by cases(h); simp[At]
 |d::b,a,h,0=>by
  obtain⟨v,r,e,f,c⟩:=h
  grind
 |d::b,a,h,i+1=>by
  obtain⟨v,r,e,f,c⟩:=h;subst e
  simpa using Ats.getD c i
theorem Ats.pick{b:t_ D}{c:t_ V}(h:Ats K M H b c):∀a:t_ Nat,Ats K M H (a.map λi=>b.getD i .non) (a.map λi=>c.getD i .non)
 |[]=>rfl
 |i::a=>⟨_,_,rfl,h.getD i,Ats.pick h a⟩
theorem IM{o:D->u_ (t_ Key)}{f:t_ D}{t:t_ V}{c:t_ (t_ Key)}(p:∀d k v,d∈f->o d=P3 k->At K M H d v->∃a,v=.ref a/\SqT K H a (k.map kOf))(u:Ats K M H f t)(z:Keyed o f)(w:c.length=f.length)(A:∀(i:Nat) (x:D),f[i]?=P3 x->∃k,c[i]?=P3 k/\o x=P3 k/\k≠[]):KeysAt K H t c:=by
 have b:∀(i:Nat) (h:t_ Key),c[i]?=P3 h->∃x,f[i]?=P3 x/\o x=P3 h/\h≠[]:=λi h e=>by
  have l:i<f.length:=by rw[←w]; exact(ZB.mp e).1
  obtain⟨k,g,m,n⟩:=A i f[i] (FM l);rw[e]at g;cases g;exact⟨f[i],FM l,m,n⟩
 refine⟨u.length.trans w.symm,λi h e=>?_,λx q y B=>?_,λx q=>?_⟩
 ·obtain⟨d,g,m,_⟩:=b i h e
  obtain⟨v,n,C⟩:=u.get g;obtain⟨a,rfl,E⟩:=p d h v (iD g) m C;exact⟨a,n,E⟩
 ·obtain⟨i,l⟩:=iy.mp q
  obtain⟨j,F⟩:=iy.mp B;obtain⟨d,g,m,_⟩:=b i x l;obtain⟨G,r,s,_⟩:=b j y F;exact z.2 d (iD g) G (iD r) x y m s
 ·obtain⟨i,l⟩:=iy.mp q
  obtain⟨d,g,m,n⟩:=b i x l;exact n
theorem IP{d:D}{k:t_ Key}{v:V}(e:CP d=P3 k)(h:At K M H d v):∃a,v=.ref a/\SqT K H a (k.map kOf):=by
 cases d with
 |tup g=>
  obtain⟨a,i,b,c,f⟩:=h
  have:=HD (e) f
  subst this;exact⟨a,b,c.sq⟩
 |_=>cases e
def Vp(c:t_ D)(P:D->Prop):Prop:=∃d b,c=[d]/\G0 d=P3 b/\b.length<64/\Keyed CP b/\∀a:t_ D,a.Perm b->JD CP a->P (.lst a)
theorem YW:CJ K .fr (Up K) Vp:=by
 intro U M H E F P Q o p r w q;obtain⟨d,G,rfl,e,c,g,w⟩:=w;obtain⟨v,rfl,s⟩:=D4 r;obtain⟨t,a,u,rfl,f,y⟩:=MW s e (λ_ z=>z) p;obtain⟨h,j,m⟩:=Ft g.1;refine⟨t,a,u,_,rfl,y M H (Pres.refl _ _) (Ext.refl _ _),by rw[f.length]; exact c,IM (λd k v _=>IP) f g j m,λA l B n=>?_⟩;obtain⟨C,D⟩:=RB (kf:=CP) j (λi x e=>by obtain⟨k,a,b,_⟩:=m i x e; simp_all) B;exact q _ _ _ (Av n) (Cg n (f.pick A)) (w _ C D)
end
section
variable {X:Cx}{a e:Expr}{zT:Kd}{wa:DW}{pos p fp kp:Pos}
def T5(W:W2)(wa:DW):DW:=λn h P=>wa n h λd e=>∃(c:t_ D) (f:D->D),G0 d=P3 c/\c.length<64/\(∀x∈c,∀g:D->Nat->Prop,g (f x) e->W [.sh x] e g)/\Keyed (λx=>CP (f x)) c /\
 ∀b:t_ D,b.Perm c->JD (λx=>CP (f x)) b->P (.lst b) e
theorem O3{k:Nat}{fn pn:Str}{W:W2}(G:Got X.prog X.w X.K X.mg X.base fn k [pn] .sh W)(hr:Room (k+2) X.A)(hg:Gl X "sorted")(hm:X.mg "sorted"=q_)(a0:Gl X fn)(he:DE X e zT wa)
  (L:starEach [e] X.env=[(s_,eval e X.env)]:=by rfl) (a1:(fn==("__debug__":Str))=s_:=by decide):DE X (.Call (.Name "sorted" p) [e] [⟨P3 "key",.Name fn fp,kp⟩] pos) .fr (T5 W wa):=by
 obtain⟨f,fd,F,a2,b1,hb,hW⟩:=G;obtain⟨t,h1,h2⟩:=he;refine⟨_,VB F hr hg hm a0 a2 hb h1 L a1,λC M H n ρ Z P Q R w q=>?_⟩;refine h2 C M H n ρ Z _ _ R w λv H1 d n1 e1 f1 r1 p=>?_;obtain⟨j,E,hd,a3,hw,hK,w⟩:=p;have N:=R.step e1 f1;obtain⟨κ,l,us,rfl,L,sq⟩:=MW (U:=C.U) (r1.tpOf R.dom R.vM) hd R.uV N.vM;obtain⟨O,hl,hk⟩:=Ft hK.1;have s:=L.length;refine⟨κ,l,us,O,λc B=>Ext C.U H1 B/\FeedC X.K C.F M B n1/\c.length<=j.length/\∀(i:Nat) (k:V),c[i]?=P3 k->∃x,j[i]?=P3 x/\At X.K M B (E x) k,rfl,sq M H1 (Pres.refl _ _) (Ext.refl _ _),by rw[s]; exact a3,⟨Ext.refl _ _,f1,fo _,λi k z=>absurd (show(q_:u_ V)=P3 k from z) (λh=>nomatch h)⟩,λc B v hJ hv=>?_,λc B hJ a4=>?_⟩
 ·obtain⟨ex,u,a5,I⟩:=hJ
  have m:=N.step ex u;have hi:c.length<j.length:=by rw[←s]; exact(ZB.mp hv).1
  have S:j[c.length]?=P3 j[c.length]:=FM hi;obtain⟨v',e2,hA⟩:=(L.pres (N.pres ex)).get S;rw[hv]at e2;cases e2;refine⟨rfl,C.F,C.U,C.V,M,n1,[.sh j[c.length]],λd n=>d=E j[c.length]/\n=n1,⟨m.dom,m.fU,m.uV,m.vM,u,.cons ⟨⟨v,rfl,hA⟩,rfl⟩ .nil⟩,hw _ (iA hi) _ ⟨rfl,rfl⟩,λr H3 d n' T f3 vr hd=>?_⟩;obtain⟨rfl,rfl⟩:=hd;refine⟨ex.trans T,f3,by rw[fw,gC]; omega,λi k o=>?_⟩
  by_cases a6:i<c.length
  ·rw[jX a6]at o
   obtain⟨x,h3,h4⟩:=I i k o;exact⟨x,h3,h4.pres (m.pres T)⟩
  ·rw[iT (by omega)]at o
   have a7:i=c.length:=by
    have:=(ZB.mp o).1
    rw[gC]at this;omega
   subst a7;rw[kQ]at o;cases(show P3 r=P3 k from o);exact⟨_,S,vr⟩
 ·obtain⟨ex,u,a5,I⟩:=hJ
  have m:=N.step ex u;have a8:c.length=j.length:=by rw[a4,s]
  have a9:Ats X.K M B (j.map E) c:=by
   have go:∀(j:t_ D) (c:t_ V),c.length=j.length->(∀(i:Nat) (k:V),c[i]?=P3 k->∃x,j[i]?=P3 x/\At X.K M B (E x) k)->Ats X.K M B (j.map E) c:=by
    intro j
    induction j with
    |nil=>intro c h _; exact jn.mp h
    | cons x j ih=>
     intro c h hh;cases c with
     |nil=>cases h
     | cons k c=>
      obtain⟨Y,e3,h3⟩:=hh 0 k rfl;cases(show P3 x=P3 Y from e3)
      exact⟨k,c,rfl,h3,ih c (by simpa using h) λi k' e4=>by
       obtain⟨y,e5,h5⟩:=hh (i+1) k' (by simpa using e4);exact⟨y,by simpa using e5,h5⟩⟩
   exact go j c a8 I
  have b0:Keyed CP (j.map E):=by
   refine⟨λy hy=>?_,λy hy z hz ka kb ea eb=>?_⟩
   ·obtain⟨x,hx,rfl⟩:=Uf.mp hy
    exact hK.1 x hx
   ·obtain⟨x,hx,rfl⟩:=Uf.mp hy
    obtain⟨Y,J,rfl⟩:=Uf.mp hz;exact hK.2 x hx Y J ka kb ea eb
  refine⟨IM (λd k v _=>IP) a9 b0 (by rw[hl,Go]) λi x e=>?_,λix l ho hn=>?_⟩
  ·rw[T0]at e
   obtain⟨Y,J,rfl⟩:=f7.mp e;exact hk i Y J
  ·obtain⟨o1,o2⟩:=RB (kf:=λx=>CP (E x)) hl (λi x e=>by obtain⟨k,a,b,_⟩:=hk i x e; exact⟨k,a,b⟩) ho
   have g:Grow B (A2 B l (.lst (ix.map λi=>us.getD i .non))):=Av hn;refine q _ _ (.lst (ix.map λi=>j.getD i .non)) n1 ((e1.trans ex).trans g.ext) (u.grow g) (VR.back (e1.trans ex) ?_) (w _ o1 o2);exact Cg hn ((L.pres (N.pres ex)).pick ix)
def Y5:Key->D
 |.inl i=>.int i
 |.inr x=>.str x
def Fw:Key->Prop
 |.inl _=>True
 |.inr x=>x.length<=sizeLine
theorem WM{K:Frag}{M:Db->Prop}{H:Hp}{k:Key}(h:Fw k):At K M H (Y5 k) (kOf k):=by
 cases k with
 |inl i=>exact rfl
 |inr x=>exact⟨rfl,h⟩
end
end Dp
namespace L2
section
open PySem.MeetsSeq
open PySem.AutoSeq1 (wpAny_loadPart')
theorem Ue(l:Db)(items:Array Ev)(n:Nat)(x:Ev)(e:Ev->Bool)(j:Nat)(hj:j<items.size)(hit:e items[j]=r_)(hs1:items.size<=sizeLine)(prog:gD)(w:gK)(A:gS)(R:Result->On->Prop)(hp:fu)(g:Array GenState)(d:Drawn)(tk:Nat)(os:_)
  (hl:hp.get? l=P3 {cls:=.type "list",dict:=q_,data:=.seq items n,slots:=#[]}) (he:∀y,y∈items->PySem.SeqAt.EqAt A.in1 ⟨hp,g,d,tk,os⟩ y x (e y)) (h:R (.ok (.ret .none)) ⟨hp.update l (hV λxs=>xs.eraseIdxIfInBounds j),g,d,tk,os⟩):
  ∀k i:Nat,j - i=k->i<=j->(∀m (hm:m<items.size),i<=m->m<j->e items[m]=s_)->
   wpAny (model prog w) A.in1 (iS.«list.remove.loop» ⟨[.ref l,x,rawInt i],[]⟩) (λfin s'=>match fin with|.done f=>R (.ok f) s'|.again c'=>c'.quiet=r_/\codeAny (model prog w) A c' R s') (λe s'=>R (.error e) s') ⟨hp,g,d,tk,os⟩:=by
 intro k
 induction k with
 |zero=>
  intro i hk hij hno;have hij':i=j:=by omega
  subst hij'
  wp_walk using jR hl
  have hi:items[((i:Nat):Int).toNat]?=P3 items[i]:=by simp[hj]
  rw[hi];refine Ch (he _ (md hj) prog w _ _ ?_);rw[hit];have hz':(items.eraseIdxIfInBounds i).size<=sizeLine+1:=gO (size_erased items _) (Nat.le_succ_of_le hs1)
  wp_walk using (lf hl rfl (hz:=hs1) (_hz':=hz')),jR hl
  simpa using h
 | succ k ih=>
  intro i hk hij hno;have hlt:i<items.size:=by omega
  wp_walk using jR hl
  have hi:items[((i:Nat):Int).toNat]?=P3 items[i]:=by simp[hlt]
  have hc:((i:Int)+1)=((i+1:Nat):Int):=by push_cast; rfl
  rw[hi];refine Ch (he _ (md hlt) prog w _ _ ?_);rw[hno i hlt (Re _) (by omega)]
  wp_walk
  rw[hc]
  exact⟨iJ plain_remove_loop _,gy entry_remove_loop (by
   rw[g_ plain_remove_loop _];exact ih (i+1) (by omega) (by omega) (λm hm h1 h2=>hno m hm (by omega) h2))⟩
theorem Ug{prog:gD}{w:gK}{A:gS}{E:Ev->On->Prop}{s:On}{Q:Ev->On->Prop}(l:Db)(items:Array Ev)(n:Nat)(x:Ev)(e:Ev->Bool)(j:Nat)(hj:j<items.size)(hit:e items[j]=r_)(hno:∀m (hm:m<items.size),m<j->e items[m]=s_)
  (hs1:items.size<=sizeLine) (hl:s.heap.get? l=P3 {cls:=.type "list",dict:=q_,data:=.seq items n,slots:=#[]}) (he:∀y,y∈items->PySem.SeqAt.EqAt A.in1 s y x (e y))
  (h:Q .none {s with heap:=s.heap.update l (hV λxs=>xs.eraseIdxIfInBounds j)}):wpAny (model prog w) A (call (.builtin "list.remove") [.ref l,x]) Q E s:=by
 have key:wpAny (model prog w) A.in1 (iS.«list.remove» ⟨[.ref l,x],[]⟩) (λfin s'=>match fin with|.done f=>wants Q E (.ok f) s'|.again c'=>c'.quiet=r_/\codeAny (model prog w) A c' (wants Q E) s') (λe s'=>wants Q E (.error e) s') s:=by
  obtain⟨hp,g,d,tk,os⟩:=s
  wp_walk using jR hl
  exact⟨iJ plain_remove_loop _,gy entry_remove_loop (Ue l _ n x e j hj hit hs1 _ w A _ hp g d tk os hl he h _ 0 rfl (fo _) (λm hm _ h2=>hno m hm h2))⟩
 exact jq (kA PySem.F.slot_list_remove.plain PySem.F.entry_list_remove (PySem.F.slot_list_remove.check _ _ _ _ _ _ _ _ ⟨_,hl,rfl⟩ (PySem.F.args_list_remove_2 _ _) key))
end
section
variable {X:Cx}
def Qw:V->t_ V->Hp->VK->Prop:=λx f H Q=>∃(l:Db) (b:t_ V) (y:V) (a:t_ jt) (d:jt) (j:Nat),x=.ref l/\f=[y]/\H l=P3 (.lst b)/\RVs H a b/\RV H d y/\jD a=r_/\d.canLay0=r_/\d.depth<=100 /\
 (∃c,a[j]?=P3 c/\jY c d=r_)/\(∀m e,m<j->a[m]?=P3 e->jY e d=s_)/\Q .non (A2 H l (.lst (b.eraseIdx j)))
theorem Sl{k:Nat}(L:Room k X.A):cz X "list.remove" Qw:=by
 intro Y s Z H x vs v us Q I M N h;obtain⟨l,O,y,c,d,j,rfl,rfl,D,o,P,E,R,dd,⟨S,F,p⟩,t,q⟩:=h;cases M;obtain⟨u,rfl,T⟩:=N.one;obtain⟨z,a,n,r,hl,e⟩:=I.lstM D;obtain⟨U,G⟩:=RVs.reads I o r;obtain⟨bs,V⟩:=RV.reads I P T;have J:=PySem.SeqAt.readsAll_map c a U E G;have b:c.length=a.length:=by rw[←J,Go]
 have hu:=L.un;have K:min (iZ c) d.depth<=d.depth:=lF _ _
 have f:∀m w,c[m]?=P3 w->∀(h:m<a.toArray.size),PySem.SeqAt.readOf s.heap a.toArray[m]=w:=λm w e h=>by
  rw[←J,T0]at e;have W:m<a.length:=by simpa using h
  rw[FM W]at e;have e:=ft e
  simpa using e
 have B:j<a.length:=by rw[←b]; exact(ZB.mp F).1
 refine Ug l a.toArray n u (λy=>jY (PySem.SeqAt.readOf s.heap y) d) j (by rw[fk]; exact B) (by rw[f j S F]; exact p) (λm g C=>?_) (by rw[fk]; omega) e (PySem.SeqAt.items_eqAt (vs:=a.toArray) (by rw[List.toList_toArray]; exact G) V E R (by omega)) ?_
 ·have i:m<c.length:=by rw[b]; simpa using g
  rw[f m c[m] (FM i) g];exact t m c[m] C (FM i)
 ·refine⟨.non,_,I.lset (t':=s.toks) (its':=a.eraseIdx j) D e ?_ (r.eraseIdx j) ?_,rfl,q⟩
  ·show a.toArray.eraseIdxIfInBounds j=(a.eraseIdx j).toArray
   rw[List.eraseIdxIfInBounds_toArray]
  ·have:=Lw O j
   omega
end
end L2
namespace Dp
open L2
def cO(d:D)(b:t_ D)(P:D->D->Prop):Prop:=∃(a:t_ D) (y:D) (j:Nat),d=.lst a/\b=[y]/\CG (.lst a)/\CG y/\(∃x,a[j]?=P3 x/\Fz x y=r_)/\(∀m x,m<j->a[m]?=P3 x->Fz x y=s_)/\P (.lst (a.eraseIdx j)) .non
theorem cY{K:Frag}:Yb K Qw cO:=by
 intro M H a d G I P Q m t n w q;obtain⟨b,y,j,rfl,rfl,⟨o,s,_⟩,⟨v,z,A⟩,⟨x,B,c⟩,f,w⟩:=w;obtain⟨h,i,k⟩:=t;obtain⟨u,r,rfl,C,D⟩:=n;cases(show r=[]from D)
 have g:∀(m:Nat) (p:jt),(Bi b)[m]?=P3 p->∃x,b[m]?=P3 x/\p=toPy x:=λm p e=>by
  rw[B3,T0]at e;obtain⟨x,l,rfl⟩:=f7.mp e
  grind
 refine⟨a,h,u,Bi b,toPy y,j,rfl,rfl,i,k.rv o,C.rv v,s,z,A,⟨toPy x,by rw[B3,T0,B]; rfl,c⟩,λm p E e=>?_,q _ (.lst (b.eraseIdx j)) .non _ ⟨h.eraseIdx j,AR,?_⟩ rfl w⟩
 ·obtain⟨F,l,rfl⟩:=g m p e
  exact f m F E l
 ·exact(k.eraseIdx j).pres (Cw m i)
def MP(c:Hm)(i:AZ):AZ:=λd n a=>∃W:Nat->Nat->t_ Slot->Prop,(∃m,W m n a)/\∀m n a,W m n a->
 c n a λb e=>if b=r_ then ∃N:Nat->t_ Slot->Prop,(∀f g,N f g->∃h,h<m/\W h f g)/\i {d with nx:=N,ct:=N,bk:=d.nx} e a else d.nx e a
section
variable {X:Cx}{κ:Kd}{c:Expr}{body:t_ Stmt}{wc:Hm}{wb:AZ}{pos:Pos}
theorem Oz(I:PassesOwn (model X.prog X.w) X.A X.env X.xe)(J:DT X c wc)(O:Pb X κ body wb):DS X κ (.While c body [] pos) (MP wc wb):=by
 obtain⟨tc,P,Q⟩:=J;obtain⟨tb,S,T⟩:=O;refine⟨_,U6 I P S,λC M H n U Z y E R L w=>?_⟩;obtain⟨W,⟨V,Y⟩,g⟩:=w;refine⟨λm h t=>∃i j a,Rel X.K C i t j a h/\W m j a,⟨V,M,n,U,R,Y⟩,?_⟩;rintro m h t ⟨i,j,a,z,w'⟩;refine Q C i t j a h _ _ z (g m j a w') λb B D e f p=>?_;have R2:=z.step e f;cases b with
 | true=>
  rw[if_pos rfl]at p ⊢;obtain⟨N,hN,p⟩:=p;refine⟨λF G=>∃u k l,Rel X.K C u G k l F/\N k l,λF G ⟨u,k,l,R3,w3⟩=>?_,?_⟩
  ·obtain⟨m',hm,d⟩:=hN k l w3
   exact⟨m',hm,u,k,l,R3,d⟩
  ·exact T C i B D a h {y with nx:=N,ct:=N,bk:=y.nx} _ R2 ⟨λo v q r x s d=>⟨o,q,r,s,d⟩,L.rt,λo v q r x s d=>L.nx o v q r x s d,λo v q r x s d=>⟨o,q,r,s,d⟩⟩ p
 |false=>
  rw[if_neg (by decide)]at p ⊢;exact L.nx i B D a h R2 p
theorem Ld{f:E2}{n:Nat}{a:t_ Slot}(I:Nat->Nat->t_ Slot->Prop)(i:Nat)(j:I i n a)
  (k:∀m n a (N:Nat->t_ Slot->Prop),I m n a->(∀c e g,c<m->I c e g->N e g)->wc n a λb d=>if b=r_ then wb {f with nx:=N,ct:=N,bk:=f.nx} d a else f.nx d a)
  (mono:∀n a (P Q:Bool->Nat->Prop),(∀b d,P b d->Q b d)->wc n a P->wc n a Q):MP wc wb f n a:=by
 refine⟨I,⟨i,j⟩,λm n a h=>?_⟩;refine mono n a _ _ (λb d p=>?_) (k m n a (λe g=>∃c,c<m/\I c e _) h λc e g l o=>⟨c,l,o⟩);cases b with
 |true=>exact⟨_,λ_ _ z=>z,p⟩
 |false=>exact p
end
end Dp
namespace L2
open PySem.W
section
variable {prog:Program}{w:World}{A:Around}{E:Value->Shared->Prop}{R:Result->Shared->Prop}{I:Addr}{fp wr:t_ Addr}{n:Nat}{P:Nat->Value->Prop}{St:Nat->Heap->Prop}
def ZI(prog:gD)(w:gK)(A:gS)(c:CmpOp)(P:Nat->Ev->Prop)(d:fu->Prop)(e:Nat->Nat->Bool):Prop:=
 ∀i j a b (s:On) (Q:Ev->On->Prop) (E:Ev->On->Prop),d s.heap->P i a->P j b->Q (.bool (e i j)) s->wpAny (model prog w) A (richCompare c a b) Q E s
theorem Sn(W:Walks prog w A.in1 I fp wr n P St)(D:Nat->Nat->Bool)(G:fu->Prop)(H:ZI prog w A.in1 .Lt P G D)(S:Db)(J:S∉fp)(g:∀h u:fu,G h->(∀b o,b∉wr->b≠S->h.get? b=P3 o->u.get? b=P3 o)->G u):
  ∀(k j:Nat) (s:On) (r:Ev) (c:Nat),n - (j+1)=k->j+1<=n->St (j+1) s.heap->G s.heap->P (argBest D j) r->
  s.heap.get? S=P3 {cls:=.type "list",dict:=q_,data:=.seq #[r,r] c,slots:=#[]}->
  (∀v u O,P (argBest D (n - 1)) v->(∀b o,b∉wr->b≠S->s.heap.get? b=P3 o->u.get? b=P3 o)->R (.ok (.ret v)) {s with heap:=u,toks:=O})->
  codeAny (model prog w) A (.builtin "min.loop" ⟨[.ref I,.none,.ref S],[]⟩) R s:=by
 have K:S∉wr:=λh=>J (W.sub _ h);have i:(toString "min"++toString ".loop":String)="min.loop":=by decide
 intro k
 induction k with
 |zero=>
  intro j s r c Z hj y L t M Q;have N:j+1=n:=by omega
  refine gy PySem.F.entry_min_loop ?_;rw[g_ PySem.F.plain_min_loop _];show wpAny _ A.in1 (seqItems? (.ref S) >>=_) _ _ s;refine Ch (hX M rfl ?_);show wpAny _ A.in1 (tryCatch (pyNext (.ref I)) _ >>=_) _ _ s;refine Ch (j_ (W.done s _ _ (N▸y) λu O a=>?_));have l:=a S _ K M;show wpAny _ A.in1 (updateSeq S (λ_=>#[]) >>=_) _ _ _;refine Ch ?_;refine lf l rfl (Ch (jx (Op ?_)));refine Q r _ O (by rw[←N]; exact t) λb o d f e=>(fv _ _ (gP f)).trans (a b o d e)
 | succ k V=>
  intro j s r c Z hj y L t M Q;have z:j+1<n:=by omega
  refine gy PySem.F.entry_min_loop ?_;rw[g_ PySem.F.plain_min_loop _];show wpAny _ A.in1 (seqItems? (.ref S) >>=_) _ _ s;refine Ch (hX M rfl ?_);show wpAny _ A.in1 (tryCatch (pyNext (.ref I)) _ >>=_) _ _ s;refine Ch (j_ (W.item (j+1) s _ _ z y λv u O X x a=>?_));have l:=a S _ K M;have m:G u:=g _ _ L λb o h1 _ e=>a b o h1 e;show wpAny _ A.in1 (tryCatch (holding [v,v] (richCompare .Lt v r >>=_)) _ >>=_) _ _ _;refine Ch (j_ (gQ (Ch (H (j+1) (argBest D j) v r _ _ _ m X t ?_))));refine Ch (gQ (jC ?_));refine Ch (jx (Op ?_));cases Y:D (j+1) (argBest D j)with
  | true=>
   simp only[if_true];refine Ch ?_;refine lf l rfl (Ch (jx ?_));rw[i]
   refine Op ⟨iJ PySem.F.plain_min_loop _,V (j+1) _ v _ (by omega) z (W.frame _ _ _ x λb T o e=>?_) (g _ _ m λb o _ h2 e=>(fv _ _ (gP h2)).trans e) (by simp only[argBest,Y,if_true]; exact X) (iQ _ l rfl)
    λU B p C q=>?_⟩
   ·exact(fv _ _ (λh:S=b=>J (by rw[h]; exact T))).trans e
   ·exact Q U B p C λb o d f e=>q b o d f ((fv _ _ (gP f)).trans (a b o d e))
  |false=>
   simp only[gm,if_false];refine Ch (jx ?_);rw[i];refine Op ⟨iJ PySem.F.plain_min_loop _,V (j+1) _ r c (by omega) z x m (by simp only[argBest,Y,gm,if_false]; exact t) l λU B p C q=>?_⟩;exact Q U B p C λb o d f e=>q b o d f (a b o d e)
theorem QG(W:Walks prog w A.in1 I fp wr n P St)(x:Nat->Nat->Bool)(j:fu->Prop)(k:ZI prog w A.in1 .Lt P j x)(S:Db)(d:S∉fp)(a:∀h f:fu,j h->(∀b o,b∉wr->b≠S->h.get? b=P3 o->f.get? b=P3 o)->j f)(G:0<n){s:On}{c:Nat}(y:St 0 s.heap)(z:j s.heap)
  (H:s.heap.get? S=P3 {cls:=.type "list",dict:=q_,data:=.seq #[] c,slots:=#[]})
  (K:∀v f J,P (argBest x (n - 1)) v->(∀b o,b∉wr->b≠S->s.heap.get? b=P3 o->f.get? b=P3 o)->R (.ok (.ret v)) {s with heap:=f,toks:=J}):
  codeAny (model prog w) A (.builtin "min.loop" ⟨[.ref I,.none,.ref S],[]⟩) R s:=by
 have B:S∉wr:=λh=>d (W.sub _ h);have g:(toString "min"++toString ".loop":String)="min.loop":=by decide
 refine gy PySem.F.entry_min_loop ?_;refine Ch (hX H rfl ?_);refine Ch (j_ (W.item 0 s _ _ G y λv f J L l i=>?_));have m:=i S _ B H;have p:j f:=a _ _ z λb o M _ e=>i b o M e;show wpAny _ A.in1 (updateSeq S (λ_=>#[v,v]) >>=_) _ _ _;refine Ch ?_;refine lf m rfl ?_;rw[g];refine Op ⟨iJ PySem.F.plain_min_loop _,Sn W x j k S d a _ 0 _ v _ rfl G (W.frame _ _ _ l λb N o e=>?_) (a _ _ p λb o _ O e=>(fv _ _ (gP O)).trans e) L (iQ _ m rfl) λQ C q D r=>?_⟩
 ·exact(fv _ _ (λh:S=b=>d (by grind))).trans e
 ·exact K Q C q D λb o t u e=>r b o t u ((fv _ _ (gP u)).trans (i b o t e))
theorem min_list{s:On}{l:Db}{a:Array Ev}{Q:Ev->On->Prop}(u:Nat->Nat->Bool)(G:A.handled=q_)(x:s.heap.IsList l a)(H:0<a.size)
  (m:∀i j r t (p:On) (Q:Ev->On->Prop) (E:Ev->On->Prop),(∀b o,s.heap.get? b=P3 o->p.heap.get? b=P3 o)->a[i]?=P3 r->a[j]?=P3 t->Q (.bool (u i j)) p->wpAny (model prog w) A.in1 (richCompare .Lt r t) Q E p)
  (h:∀v k y,a[argBest u (a.size - 1)]?=P3 v->(∀b o,s.heap.get? b=P3 o->k.get? b=P3 o)->Q v {s with heap:=k,toks:=y}):wpAny (model prog w) A (call (.builtin "min") [.ref l]) Q E s:=by
 have d:(toString "min"++toString ".loop":String)="min.loop":=by decide
 have f:l<s.heap.objs.size:=by obtain⟨_,e,_⟩:=x; exact Tk e
 refine call_function_tree PySem.F.kind_min PySem.F.plain_min PySem.F.entry_min (PySem.F.args_min1 _) ?_;show wpAny _ A.in1 (mO "min" ["key","default"] 0 ⟨[],[]⟩ >>=_) _ _ s;refine Ch (k7 (show mO "min" ["key","default"] 0 ⟨[],[]⟩=pure [q_,q_]from rfl) ?_);refine Ch (Op ?_);refine Ch (im x ?_);refine Ch (iI ?_);rw[d];have W:=Walks.list (prog:=prog) (w:=w) (A:=A.in1) G s.heap.objs.size l (f_ f) a;have g:(s.heap.push {cls:=.type "list_iterator",data:=.fields #[.ref l,.int 0 0]}).objs.size=s.heap.objs.size+1:=iF _ _;refine Op ⟨iJ PySem.F.plain_min_loop _,QG W u (λk=>∀b o,s.heap.get? b=P3 o->k.get? b=P3 o) (λi j r t p Q E z C D q=>m i j r t p Q E z C D q) (s.heap.push {cls:=.type "list_iterator",data:=.fields #[.ref l,.int 0 0]}).objs.size (λc=>?_) (λC D z B b o e=>B b o (λc=>?_) ?_ (z b o e)) H ⟨⟨_,No _ (TW _ rfl),rfl,rfl⟩,(x.push _).push _⟩ (λb o e=>No _ (No _ e)) (TW _ rfl) λv k y J B=>?_⟩
 ·rw[g]at c
  rcases fi.mp c with e|c
  ·exact absurd e (Nat.succ_ne_self _)
  ·rw[←TM.mp c]at f
   exact absurd f (kX.mpr (iO _))
 ·rw[TM.mp c]at e
  exact absurd (Tk e) (gY _)
 ·rw[g]
  exact f_ (ik (Tk e))
 ·refine h v k y J λb o e=>B b o (λc=>?_) ?_ (No _ (No _ e))
  ·rw[TM.mp c]at e
   exact absurd (Tk e) (gY _)
  ·rw[g]
   exact f_ (ik (Tk e))
end
theorem K7(a:t_ (t_ Key)):∀m:Nat,argBest (λi j=>Bn (a.getD i []) (a.getD j [])) m<=m/\∀i,i<=m->Bn (a.getD i []) (a.getD (argBest (λi j=>Bn (a.getD i []) (a.getD j [])) m) [])=s_
 |0=>⟨Re _,λi b=>by
  have:i=0:=by omega
  subst this;exact Ce _⟩
 | m+1=>by
  obtain⟨f,d⟩:=K7 a m;unfold argBest
  by_cases c:Bn (a.getD (m+1) []) (a.getD (argBest (λi j=>Bn (a.getD i []) (a.getD j [])) m) [])=r_
  ·rw[if_pos c]
   refine⟨Re _,λi b=>?_⟩
   by_cases e:i=m+1
   ·subst e; exact Ce _
   ·cases z:Bn (a.getD i []) (a.getD (m+1) [])with
    |false=>rfl
    |true=>
     have:=DD _ _ _ z c
     rw[d i (by omega)]at this;cases this
  grind
section
variable {X:Cx}
def Yr(K:Frag):t_ V->Hp->VK->Prop:=λc H Q=>∃(p:Db) (b:t_ V) (a:t_ (t_ Key)),c=[.ref p]/\SqL K H p b/\0<b.length/\KeysAt K H b a /\
 ∀j v,b[j]?=P3 v->(∀i,i<b.length->Bn (a.getD i []) (a.getD j [])=s_)->Q v H
theorem TU{k:Nat}(U:Room k X.A):By X (.builtin "min") (Yr X.K):=by
 intro zH s Z H V us Q I r h;obtain⟨p,vs,c,rfl,hq,hn,B,q⟩:=h;obtain⟨u,rfl,rx⟩:=vals1 r;cases rx;obtain⟨f,E,pl,hz⟩:=I.list hq;have W:=E.length;have Y:=B.tups I E λb o e=>e;have hu:=U.un;refine min_list (λi j=>Bn (c.getD i []) (c.getD j [])) U.hd pl.isList (by rw[fk]; omega) (λi j vi vj s' Q' E' d G J L=>?_) λv h' M N d=>?_
 ·have C:i<c.length:=by rw[←B.len,W]; have:=(kC.mp G).1; simpa using this
  have l:j<c.length:=by rw[←B.len,W]; have:=(kC.mp J).1; simpa using this
  obtain⟨a,⟨a2,dd,a0,sl⟩,V,n,m,D,e3,e4,e5⟩:=Y.at_ i c[i] (FM C);obtain⟨a',⟨a1,O,P,R⟩,S,n',g,t,w,y,T⟩:=Y.at_ j c[j] (FM l);simp only at e3 e4 w y;subst e3 e4 w y;have m:f.toArray[i]?=P3 (.ref a):=by rw[←m]; simp
  have g:f.toArray[j]?=P3 (.ref a'):=by rw[←g]; simp
  rw[m]at G;rw[g]at J;cases G;cases J;have z:=B.same _ (iA C) _ (iA l);have g1:c.getD i []=c[i]:=by rw[fq,FM C]; rfl
  have g2:c.getD j []=c[j]:=by rw[fq,FM l]; rfl
  simp only[g1,g2]at L;rw[←Mv _ _ z]at L
  exact richCompare_meets_room (op:=.Lt) ⟨_,d _ _ D,rfl⟩ ⟨_,d _ _ t,rfl⟩ PySem.F.slot_tuple_lt PySem.F.entry_tuple_lt (PySem.F.args_tuple_lt_2 _ _) (GB a a' V S n n' dd O sl R c[i] c[j] e5 T z)
   ⟨d _ _ D,d _ _ t,show jW (IK c[i] c[j])≠Value.notImplemented/\Q' (.bool (IK c[i] c[j])) s' from⟨(λx=>nomatch x),L⟩⟩ (by show X.A.units+1<cLine; omega)
 ·obtain⟨b1,b2⟩:=K7 c (f.toArray.size - 1)
  rw[fk]at N b1 b2;have l:argBest (λi j=>Bn (c.getD i []) (c.getD j [])) (f.length - 1)<vs.length:=by omega
  obtain⟨u,m,ru⟩:=E.get (FM l);have D:f.toArray[argBest (λi j=>Bn (c.getD i []) (c.getD j [])) (f.length - 1)]?=P3 u:=by rw[←m]; simp
  rw[D]at N;cases N;exact⟨_,H,I.kept (t':=M) d,ru,q _ _ (FM l) λi C=>b2 i (by omega)⟩
end
end L2
namespace Dp
open L2
def Y2(d:t_ D)(P:D->Prop):Prop:=∃a,d=[.lst a]/\0<a.length/\Keyed CP a/\∀x∈a,(∀y∈a,∀b c,CP x=P3 b->CP y=P3 c->Bn c b=s_)->P x
theorem ak{K:Frag}:CJ K .sh (Yr K) Y2:=by
 intro U M H D E P Q p F r w q;obtain⟨e,rfl,G,l,w⟩:=w;obtain⟨v,rfl,s⟩:=D4 r;obtain⟨a,t,rfl,_,u,f⟩:=s;obtain⟨b,x,g⟩:=Ft l.1;have c:=f.length;refine⟨a,t,b,rfl,.inl u,by omega,IM (λd k v _=>IP) f l x g,λj v m z=>?_⟩;have h:j<e.length:=by rw[←c]; exact(ZB.mp m).1
 obtain⟨I,n,A⟩:=f.get (FM h);rw[m]at n;cases n;refine q v H e[j] .refl A (w _ (iA h) λy B J L ex N=>?_);obtain⟨i,o⟩:=iy.mp B;have C:i<e.length:=(ZB.mp o).1;obtain⟨O,R,S,_⟩:=g i y o;obtain⟨T,V,W,_⟩:=g j e[j] (FM h)
 grind
end Dp
namespace Nt
open L2 Dp
theorem Lr{c i:Type}{f:c->i}:∀{l:t_ c},l.Nodup->(∀a∈l,∀b∈l,f a=f b->a=b)->(l.map f).Nodup
 |[],_,_=>gW
 |a::l,h,d=>by
  rw[gE]at h;rw[f9,gE];refine⟨λj=>?_,Lr h.2 λx k y m=>d x (Rs _ k) y (Rs _ m)⟩;obtain⟨b,g,e⟩:=Uf.mp j;exact h.1 (d a Sc b (Rs _ g) e.symm▸g)
theorem PP(a:t_ Str):Qg (a.map .str)=P3 a:=by
 induction a with
 |nil=>rfl
 |cons y r b=>
  rw[f9];unfold Qg
  grind
theorem Fs{b:BW}{g:AZ}{l:E2}{all:t_ D}(I:t_ D->Nat->t_ Slot->Prop)(i:∀n c,I all n c->l.nx n c)
  (f:∀(a:t_ D) (d:D) (j:t_ D) (n:Nat) (c:t_ Slot) (nx:Nat->t_ Slot->Prop),all=a++d::j->I a n c->(∀m o,I (a++[d]) m o->nx m o)->b d c λp=>g {l with nx:=nx,ct:=nx,bk:=l.nx} n p):
  ∀(k a:t_ D) (n:Nat) (c:t_ Slot),all=a++k->I a n c->CI b g l k n c
 |[],a,n,c,e,h=>by
  rw[gk]at e;subst e;exact i n c h
 |d::k,a,n,c,e,h=>f _ d k n c _ e h λm o q=>Fs I i f k _ m _ (by grind) q
theorem Qu{c:Int}{n:Nat}{a b:t_ D}{d:D}(h:CZ c n=a++d::b):d=.int (c+(a.length:Int))/\a.length<n:=by
 have f:=congrArg kz h;rw[CY]at f;have e:(CZ c n)[a.length]?=P3 d:=by grind
 unfold CZ at e
 simp_all
structure Au where
 a:Str
 b:Str
 len:Int
structure Net where
 ps:List Str
 ts:List Au
def Ak(t:Au):D:=.tup [.str t.a,.str t.b,.int t.len]
def Bw(N:Net):D:=.tup [.tup (N.ps.map .str),.tup (N.ts.map Ak)]
def Bo(s t:Au):Prop:=cs s.a<cs t.a\/(s.a=t.a/\cs s.b<cs t.b)
structure Net.Ok (N:Net):Prop where
 names:∀x∈N.ps,Vb x
 rise:rising N.ps
 tin:∀t∈N.ts,t.a∈N.ps/\t.b∈N.ps/\cs t.a<cs t.b/\1<=t.len/\t.len<=1000000
 trise:N.ts.Pairwise Bo
structure Ix where
 i:Nat
 j:Nat
 len:Int
def D6(c:t_ Au)(p:Str):t_ (Str×Int):=c.flatMap λt=>(if t.a=p then [(t.b,t.len)]else [])++(if t.b=p then [(t.a,t.len)]else [])
def Wd(a:t_ Au)(p:Str):D:=.fdi ((D6 a p).map λx=>.inr x.1) ((D6 a p).map λx=>.int x.2)
def E5(N:Net):D:=.dic (N.ps.map .inr) (N.ps.map (Wd N.ts))
def NV:W2:=λa n P=>∃N:Net,a=[.sh (Bw N)]/\N.Ok/\N.ps.length<=1000/\N.ts.length<=1000/\P (E5 N) n
def kv(x:Str×Int):Key×V:=(.inr x.1,.int x.2)
structure Stp (H:Hp) (d:Db) (as:List (Str×Db)) (tb:Str->List (Key×V)) (H':Hp):Prop where
 old:∀b o,H b=P3 o->H' b=P3 o
 new:H d=q_
 top:H' d=P3 (.dK (as.map λx=>(.inr x.1,.ref x.2)))
 inn:∀x∈as,H x.2=q_/\x.2≠d/\H' x.2=P3 (.dK (tb x.1))
 ads:(as.map (·.2)).Nodup
 nms:(as.map (·.1)).Nodup
theorem JV{b:t_ (Str×Db)}(c:(b.map (·.1)).Nodup){p:Str}{a:Db}(h:(p,a)∈b):B8 (b.map λx=>((.inr x.1:Key),V.ref x.2)) (.inr p)=P3 (.ref a):=by
 induction b with
 |nil=>cases h
 | cons x r d=>
  rw[f9,gE]at c
  rcases fi.mp h with e|h
  ·rw[←e]
   exact D1 rfl
  ·exact(D3 λe=>c.1 (by rw[iR e]; exact Uf.mpr ⟨_,h,rfl⟩)).trans (d c.2 h)
theorem P4{a:t_ (Str×Db)}{p:Str}{v:V}(h:p∉a.map (·.1)):putK (a.map λx=>((.inr x.1:Key),V.ref x.2)) (.inr p) v=(a.map λx=>((.inr x.1:Key),V.ref x.2))++[(.inr p,v)]:=by
 unfold putK
 simp_all
theorem Q0{a:t_ (Str×Int)}{p:Str}{l:Int}(h:p∉a.map (·.1)):putK (a.map kv) (.inr p) (.int l)=(a++[(p,l)]).map kv:=by
 unfold putK;rw[if_neg,gR]
 ·rfl
 ·rw[jk]
  rintro⟨y,b,e⟩;obtain⟨x,c,rfl⟩:=Uf.mp b;exact h (Uf.mpr ⟨x,c,iR (of_decide_eq_true e)⟩)
theorem Stp.more{H m:Hp}{d q:Db}{l:t_ (Str×Db)}{n:Str->t_ (Key×V)}{p:Str}(s:Stp H d l n m)(i:m q=q_)(v:p∉l.map (·.1))(A:n p=[]):
  Stp H d (l++[(p,q)]) n (A2 (A2 m q (.dK [])) d (.dK (putK (l.map λx=>((.inr x.1:Key),V.ref x.2)) (.inr p) (.ref q)))):=by
 have w:q≠d:=λe=>by rw[e,s.top]at i; cases i
 have k:H q=q_:=by
  cases c:H q with
  |none=>rfl
  |some o=>rw[s.old q o c]at i; cases i
 refine⟨λb o e=>?_,s.new,?_,λx f=>?_,?_,?_⟩
 ·have B:b≠d:=λz=>by rw[z,s.new]at e; cases e
  have r:b≠q:=λz=>by rw[z,k]at e; cases e
  rw[AM B,AM r];exact s.old b o e
 ·rw[AR,P4 v,gR]; rfl
 ·rcases gA.mp f with f|f
  ·obtain⟨y,t,j⟩:=s.inn x f
   have r:x.2≠q:=λz=>by rw[z,i]at j; cases j
   exact⟨y,t,by rw[AM t,AM r]; exact j⟩
  ·rw[TM.mp f]
   exact⟨k,w,by rw[AM w,AR,A]⟩
 ·rw[gR,iC]
  refine⟨s.ads,gE.mpr ⟨(λh=>by cases h),gW⟩,λa u b g e=>?_⟩;obtain⟨x,f,rfl⟩:=Uf.mp u;have g:b=q:=TM.mp g;obtain⟨y,t,j⟩:=s.inn x f;rw[e,g,i]at j;cases j
 ·rw[gR,iC]
  refine⟨s.nms,gE.mpr ⟨(λh=>by cases h),gW⟩,λa u b g e=>?_⟩;have g:b=p:=TM.mp g;exact v (by rw[←g,←e]; exact u)
theorem Si{c:t_ (Str×Db)}(d:(c.map (·.1)).Nodup){p:Str}{a b:Db}(e:(p,a)∈c)(f:(p,b)∈c):a=b:=by
 have:=(JV d e).symm.trans (JV d f)
 grind
theorem Sh{b:t_ (Str×Db)}(c:(b.map (·.2)).Nodup){p q:Str}{a:Db}(e:(p,a)∈b)(f:(q,a)∈b):p=q:=by
 induction b with
 |nil=>cases e
 | cons x r i=>
  rw[f9,gE]at c
  rcases fi.mp e with j|g
  ·rcases fi.mp f with h|d
   ·grind
   ·exact absurd (Uf.mpr ⟨_,d,by rw[←j]⟩) c.1
  ·rcases fi.mp f with h|d
   ·exact absurd (Uf.mpr ⟨_,g,by rw[←h]⟩) c.1
   ·exact i c.2 g d
theorem Stp.put{H g:Hp}{d a:Db}{c:t_ (Str×Db)}{h tb2:Str->t_ (Key×V)}{p:Str}{kvs:t_ (Key×V)}(s:Stp H d c h g)(f:(p,a)∈c)(i:tb2 p=kvs)(j:∀q,q≠p->tb2 q=h q):
  Stp H d c tb2 (A2 g a (.dK kvs)):=by
 obtain⟨u,k,v⟩:=s.inn _ f;refine⟨λb o e=>?_,s.new,?_,λx l=>?_,s.ads,s.nms⟩
 ·have m:b≠a:=λz=>by grind
  rw[AM m];exact s.old b o e
 ·rw[AM (gP k)]
  exact s.top
 ·obtain⟨n,r,t⟩:=s.inn x l
  refine⟨n,r,?_⟩
  by_cases e:x.2=a
  ·have:=Sh s.ads (show(x.1,a)∈c by grind) f
   rw[e,AR,this,i]
  ·have:x.1≠p:=λz=>e (Si s.nms (show(p,x.2)∈c by grind) f)
   rw[AM e,j _ this];exact t
theorem OW(c:t_ Au)(t:Au)(p:Str):D6 (c++[t]) p=D6 c p++((if t.a=p then [(t.b,t.len)]else [])++(if t.b=p then [(t.a,t.len)]else [])):=by
 unfold D6
 simp_all
theorem Mt{d:t_ Au}{p q:Str}(h:q∈(D6 d p).map (·.1)):∃t∈d,(t.a=p/\t.b=q)\/(t.b=p/\t.a=q):=by
 obtain⟨x,c,rfl⟩:=Uf.mp h;obtain⟨t,e,c⟩:=iu.mp c;refine⟨t,e,?_⟩
 rcases gA.mp c with c|c
 ·simp_all
 simp_all
theorem RD(c:t_ Au)(p:Str):(D6 c p).length<=2*c.length:=by
 induction c with
 |nil=>exact fo _
 |cons t r d=>
  unfold D6 at d ⊢;rw[List.flatMap_cons,fw,fw];have e:(if t.a=p then [(t.b,t.len)]else []).length<=1:=by grind
  grind
theorem Vx{d:t_ Au}{t:Au}(i:(d++[t]).Pairwise Bo)(f:∀s∈d++[t],cs s.a<cs s.b):t.b∉(D6 d t.a).map (·.1)/\t.a∉(D6 d t.b).map (·.1):=by
 rw[jb]at i
 have g:∀s∈d,¬((s.a=t.a/\s.b=t.b)\/(s.b=t.a/\s.a=t.b)):=λs c e=>by
  have j:=i.2.2 s c t (TM.mpr rfl);have m:=f s (gu _ c);have n:=f t (fz _ (TM.mpr rfl))
  rcases e with⟨k,l⟩|⟨k,l⟩
  ·unfold Bo at j
   grind
  grind
 refine⟨λh=>?_,λh=>?_⟩
 ·obtain⟨s,c,e⟩:=Mt h
  exact g s c e
 ·obtain⟨s,c,e⟩:=Mt h
  exact g s c (e.elim (λz=>.inr ⟨z.2,z.1⟩) λz=>.inl ⟨z.2,z.1⟩)
theorem EZ{c:t_ Str}(h:rising c):c.Nodup:=h.imp λ{a b} d e=>by grind
theorem QF{a:t_ Str}(h:a.Nodup){i:Nat}(c:i<a.length):a[i]∉a.take i:=by
 have e:a=a.take i++a[i]::a.drop (i+1):=by
  simp_all
 intro b;rw[e,iC]at h;exact h.2.2 _ b _ Sc rfl
theorem Stp.at_{K:Frag}{M:Db->Prop}{H q:Hp}{d:Db}{c:t_ (Str×Db)}{N:Net}(t:∀a,M a->∃o,H a=P3 o)(s:Stp H d c (λp=>(D6 N.ts p).map kv) q)(u:c.map (·.1)=N.ps)(f:Db->Obj):At K M (Gd q (c.map (·.2)) f) (E5 N) (.ref d):=by
 have v:∀b,H b=q_->¬M b:=λb e m=>by obtain⟨o,h⟩:=t b m; rw[h]at e; cases e
 have i:∀c:t_ (Str×Db),(c.map λx=>((.inr x.1:Key),V.ref x.2))=((c.map (·.1)).map (.inr:Str->Key)).zip (c.map λx=>V.ref x.2):=λc=>by
  grind
 refine⟨d,c.map λx=>.ref x.2,rfl,⟨v d s.new,by rw[D9 (λw=>by obtain⟨x,j,e⟩:=Uf.mp w; exact(s.inn x j).2.1 e),s.top,i,u]⟩,by rw[Go,Go],?_⟩;rw[←u]
 have z:∀k:t_ (Str×Db),(∀x∈k,x∈c)->Ats K M (Gd q (c.map (·.2)) f) ((k.map (·.1)).map (Wd N.ts)) (k.map λx=>V.ref x.2):=λk=>by
  induction k with
  |nil=>intro _; rfl
  | cons x r l=>
   intro j;refine⟨.ref x.2,r.map λx=>V.ref x.2,rfl,?_,l λy A=>j y (Rs _ A)⟩;obtain⟨B,D,C⟩:=s.inn x (j x Sc)
   have n:∀g:t_ (Str×Int),g.map kv=(g.map λx=>(.inr x.1:Key)).zip (g.map λx=>V.int x.2):=λg=>by
    induction g with
    |nil=>rfl
    |cons x r l=>rw[f9,l]; rfl
   refine⟨x.2,(D6 N.ts x.1).map λx=>V.int x.2,rfl,⟨f x.2,v _ B,by rw[RL (Uf.mpr ⟨x,j x Sc,rfl⟩) C,n]⟩,by rw[Go,Go],?_⟩;generalize D6 N.ts x.1=g
   induction g with
   |nil=>rfl
   |cons x r l=>exact⟨.int x.2,_,rfl,rfl,l⟩
 exact z c λ_ h=>h
end Nt
namespace L2
def eR(d:Db)(o:Obj)(a:t_ (Key×V)):It:=
 ⟨λi H=>H d=P3 (.frz o (.dK a))/\i<a.length,λi H x b=>∃T p,x=.ref T/\H T=q_/\a[i]?=P3 p/\b=A2 H T (.tup [kV p.1,p.2]),λi H=>H d=P3 (.frz o (.dK a))/\a.length<=i⟩
theorem Z_{P:gD}{w:gK}{k:Key}{u:Ev}(h:(Ar P w).is k u=r_):RelV (kV k) u:=by
 rcases BH h with⟨i,t,rfl,rfl⟩|⟨x,t,rfl,rfl⟩
 ·exact⟨t,rfl⟩
 ·exact⟨t,rfl⟩
theorem NE{X:Cx}{k:t_ (Db×Obj)}{Z:L2.St}{H:Hp}{s:On}{d:Db}{o:Obj}{a:t_ (Key×V)}{c:Array lM}{e:Nat}(I:Inv X k Z H s)(h:H d=P3 (.frz o (.dK a)))(f:o.data=.dict c e):
  ∃b,KV a b/\s.heap.DictAt (Ar X.prog X.w) d b e:=by
 obtain⟨g,_,_,b,l,r,m,n,i,p,j,q⟩:=(I.hok d _ h);rw[g]at i;cases i;rw[f]at j;cases j;exact⟨b,l,o,c,g,p,f,q⟩
theorem Ph{P:gD}{w:gK}{K:Frag}{L:t_ gB}{j:Nat}{pos:Pos}(d l:Db)(o:Obj)(f:t_ (Key×V))(es:Array lM)(ep:Nat)(m:o.data=.dict es ep):
  Turn P w K (.Tuple L j pos) (eR d o f) [l] l (λi h=>∃ok n,IsItemIter h l d i f.length ep ok n) where
 mem:=by simp
 obj:=λi h ⟨ok,n,b⟩ c a=>by
  rw[TM.mp a];exact⟨_,b,λv q=>by cases q⟩
 keep:=λi h h' ⟨ok,n,b⟩ k=>⟨ok,n,k l (by simp) _ b⟩
 item:=by
  intro X M N O a i zH s Z H E I C b R;subst M N O;obtain⟨S,hi⟩:=R;obtain⟨ok,n,b⟩:=b;obtain⟨F,G,D⟩:=NE I S m
  have J:=G.length;have T:i<F.length:=by omega
  rw[J]at b;obtain⟨k,v,U⟩:∃k v,F[i]=(k,v):=⟨_,_,rfl⟩;have hx:F[i]?=P3 (k,v):=by rw[FM T,U]
  have hp:f[i]?=P3 f[i]:=FM hi;obtain⟨Y,rv⟩:=KU G hp hx;have Y:f[i].1=k:=Y;refine wpAny_pyNext_items_item b D hx λp h' r t u a0 x=>⟨_,rfl,?_⟩;refine wpAny_letOwnedTupleGo_items t λh2 y g=>?_;have hT:H s.heap.objs.size=q_:=I.hok.fresh (Re _);have B:s.heap.objs.size≠l:=i7 (Tk b)
  have kk:∀c o,c∉[l]->s.heap.get? c=P3 o->h2.get? c=P3 o:=λc o a e=>by
   have a:c≠l:=λz=>a (by rw[z]; exact TM.mpr rfl);exact(g.2 c a).trans (x c o a e)
  have I2:Inv X zH Z (A2 H s.heap.objs.size (.tup [kV f[i].1,f[i].2])) {s with heap:=h2}:=by
   refine I.turnLaid (t':=s.toks) (ch:=[l]) (λc a=>C c a) kk (Re _) ?_;exact⟨by show 2<=sizeLine; decide,[p,v],.cons (Z_ (by rw[Y]; exact r)) (.cons rv .nil),⟨_,(g.2 _ B).trans u,rfl,_,rfl,rfl,rfl⟩⟩
  refine⟨.ref s.heap.objs.size,_,I2,rfl,⟨_,_,rfl,hT,hp,rfl⟩,⟨p,v,by rw[J]; exact y⟩,λc a=>?_⟩;rw[TM.mp a,AM (gP B)];exact(C l (by simp)).1
 done:=by
  intro X M N O a i zH s Z H E I C b R;subst M N O;obtain⟨S,hi⟩:=R;obtain⟨ok,n,b⟩:=b;obtain⟨F,G,D⟩:=NE I S m
  have J:=G.length;rw[J]at b;refine wpAny_pyNext_items_end (I.ok.hd a) b D (iz (by omega)) λh' ext=>⟨rfl,?_⟩;exact I.turnedL (t':=s.toks) (ch:=[l]) (λc a=>C c a) λc o a e=>ext c o (λz=>a (by rw[z]; exact TM.mpr rfl)) e
 self:=λA i s Q E ⟨ok,n,b⟩ h=>PySem.W.kcp_self b h
def aH(to:TE):TI:=λZ H R=>to Z H λx H1=>∃d o a,x=.ref d/\H1 d=P3 (.frz o (.dK a))/\∀r,H1 r=q_->R (eR d o a) (A2 H1 r (.ext λh=>h.IsItemsView r d))
theorem U9{X:Cx}{e:gB}{y:t_ gB}{j:Nat}{p g i:Pos}{to:TE}(N:PE X e to)(m:attributeBase e "items" X.env (eval e X.env)=eval e X.env:=by rfl)(n:(g.endLine==i.line)=r_:=by rfl):
  PI X (.Tuple y j p) (.Call (.Attribute e "items" g) [] [] i) (aH to):=by
 intro E s Z H R I h;refine wpAny_Call_method0_late m n (thn (N E s Z H _ I h) λv a ⟨x,H1,r,O,d,o,f,ex,t,q⟩=>?_);subst ex;cases O;obtain⟨G,J,P⟩:=aF r (.inl ⟨f,.inr ⟨o,t⟩⟩);obtain⟨_,_,K,Q,D⟩:=Kw r.hok (.inr ⟨o,t⟩);refine⟨"dict","dict.items",PySem.F.plainAttrs_dict,PySem.F.slot_dict_items,PySem.F.type_dict_items,G,J,k6 rfl (PySem.evalArgs_none ?_)⟩;refine call_meetsIn PySem.F.slot_dict_items D.typeIs PySem.F.entry_dict_items (PySem.F.args_dict_items_1 _) (meets_dict_items (Ar X.prog X.w) d P) ⟨⟨K,D⟩,?_⟩;have L:H1 a.heap.objs.size=q_:=r.fresh;have M:(a.heap.push {cls:=.type "dict_items",data:=.fields #[.ref d]}).IsItemsView a.heap.objs.size d:=⟨_,TW _ rfl,rfl,rfl⟩
 have u:Inv X E Z (A2 H1 a.heap.objs.size (.ext λh=>h.IsItemsView a.heap.objs.size d)) {a with heap:=a.heap.push {cls:=.type "dict_items",data:=.fields #[.ref d]}}:=
  r.laid (t':=a.toks) (λb o e=>No _ e) (Re _) ⟨M,⟨_,TW _ rfl⟩,λG J ⟨o,e,c⟩ k=>⟨o,k o e,c⟩⟩
 have z:(A2 H1 a.heap.objs.size (.ext λh=>h.IsItemsView a.heap.objs.size d)) d=P3 (.frz o (.dK f)):=by rw[AM (Ao t L)]; exact t
 obtain⟨A,B,l⟩:∃A B,o.data=.dict A B:=by
  obtain⟨e0,_,_,K,Q,o',S,T,e1,e2,e3,e4⟩:=(show ObjOk X.prog X.w H1 a.heap d (.frz o (.dK f))from r.hok d _ t)
  grind
 obtain⟨U,C,V⟩:=NE u z l
 have W:=C.length;refine wpAny_pyIter_items (s:={a with heap:=a.heap.push {cls:=.type "dict_items",data:=.fields #[.ref d]}}) M V ?_;refine⟨_,[(a.heap.push {cls:=.type "dict_items",data:=.fields #[.ref d]}).objs.size],_,eR d o f,_,rfl,u.kept (t':=a.toks) (λb o e=>No _ e),Ph d _ o f A B l,⟨.none,.none,by rw[W]; exact TW _ rfl⟩,λc Y=>?_,q _ L⟩;rw[TM.mp Y];exact u.fpOk (Re _) u.fresh
end L2
namespace Dp
open L2
def wItems(c:DW):Dh:=λn e P=>c n e λd f=>∃a b,d=.fdi a b/\(∀k∈a,Fw k)/\P (Ho (a.map Y5) b) f
theorem aA(k:Key):kV k=kOf k:=by cases k <;>rfl
section
variable {X:Cx}{a:Expr}{zT:Kd}{wa:DW}{els:t_ Expr}{j:Nat}{tpos apos cpos:Pos}
theorem WD(U:DE X a zT wa)(c:attributeBase a "items" X.env (eval a X.env)=eval a X.env:=by rfl)(f:(apos.endLine==cpos.line)=r_:=by rfl):DI X (.Tuple els j tpos) (.Call (.Attribute a "items" apos) [] [] cpos) (wItems wa):=by
 obtain⟨t,V,W⟩:=U;refine⟨_,U9 V c f,λC M H n Y Z P Rr R w q=>?_⟩;refine W C M H n Y Z _ _ R w λv H1 d n1 G I r1 p=>?_;obtain⟨b,l,rfl,m,p⟩:=p;have R1:=R.step G I;obtain⟨B,k,rfl,⟨o,nM,J⟩,L,N⟩:∃a k,v=.ref a/\NdF M H1 a b k/\b.length=l.length/\Ats X.K M H1 l k:=r1.tpOf R.dom R.vM;have hl:=N.length;refine⟨B,o,_,rfl,J,λr hr=>?_⟩;have g:Grow H1 (A2 H1 r (.ext λh=>h.IsItemsView r B)):=Av hr;refine q _ _ _ n1 (G.trans g.ext) (I.grow g) (λi O D pr E=>?_) p;have s:Pres M H1 O D:=g.pres.trans pr;have u:D B=P3 (.frz o (.dK (b.zip k))):=(s.nd nM J).2;have zl:(b.zip k).length=b.length:=by rw[ir]; omega
 have zd:(Ho (b.map Y5) l).length=b.length:=by unfold Ho; rw[kG,Go]; omega
 refine⟨λe A=>?_,λa0=>⟨u,by omega⟩⟩;have F:i<b.length:=by rw[←zd]; exact(ZB.mp A).1
 have z:i<l.length:=by omega
 refine⟨⟨u,by omega⟩,λx H2 y=>?_⟩;obtain⟨T,pp,rfl,Q,S,rfl⟩:=y;obtain⟨v',e1,h1⟩:=(N.pres s).get (FM z)
 have e2:(b.zip k)[i]?=P3 (b[i],v'):=by
  rw[jd];exact⟨FM F,e1⟩
 rw[e2]at S;cases S
 have e3:e=.tup [Y5 b[i],l[i]]:=by
  unfold Ho at A;rw[lP,T0,FM F,FM z]at A;exact(ft A).symm
 subst e3;refine⟨Av Q,D_ E Q ⟨_,_,rfl,?_,_,_,rfl,h1,rfl⟩⟩;show At X.K O D (Y5 b[i]) (kV b[i]);rw[aA];exact WM (m _ (iA F))
end
section
variable {K:Frag}{C:Fm}{M:Addr->Prop}{H:Hp}{n:Nat}{ρ:t_ Slot}{Z:L2.St}
theorem Rel.hold(R:Rel K C M H n ρ Z){p:Db}{o:HO}(h:H p=q_):Rel K C (λb=>M b\/b=p) (A2 H p o) n ρ Z:=by
 have g:Grow H (A2 H p o):=Av h;have j:Pres M H _ (A2 H p o):=Ge h;refine⟨R.len,λa z=>.inl (R.sub a z),λa z=>?_,R.ext.trans g.ext,R.fU,R.uV,λa z=>.inl (R.vM a z),(R.feed.grow g).more p (λf k e q=>?_) (λf r t v k e=>?_),λi s q=>(R.sl i s q).pres j (λ_ z=>.inl z) g.ext R.uV,λq l=>(R.pin q l).trans j,R.br0,R.new,R.two,λq l=>?_⟩
 ·rcases z with z|z
  ·obtain⟨u,m⟩:=R.dom a z
   exact⟨u,g.all a u m⟩
  ·rw[z]; exact⟨o,AR⟩
 ·rcases R.feed f k with⟨_,_,_,_,_,_,d,_⟩|⟨_,_,_,c,_⟩
  ·have:=d.2
   rw[q,h]at this; cases this
  ·rw[e]at c; cases c
 ·rcases R.feed f k with⟨c,_⟩|⟨_,_,_,c,_,_,_,d,_⟩
  ·rw[e]at c; cases c
  ·rw[e]at c; cases c; exact d.pres j
 ·obtain⟨m,w,d,x⟩:=R.kept q l
  exact⟨g.all _ _ m,.inl w,d,x⟩
end
def Kr(a:t_ Key)(k:Key):Bool:=a.any λb=>decide (b=k)
theorem hasK_iff{a:t_ Key}{k:Key}:Kr a k=r_↔k∈a:=by
 unfold Kr
 simp_all
def C_(a:t_ Key)(k:Key):t_ Key:=if Kr a k=r_ then a else a++[k]
def C9{a:Type}(b:t_ Key)(c:t_ a)(k:Key)(d:a):t_ a:=if Kr b k=r_ then gn (λe f=>if e=k then d else f) b c else c++[d]
theorem YU{c:t_ Key}{d:t_ V}(j:c.length=d.length)(k:Key):((c.zip d).any λf=>decide (f.1=k))=Kr c k:=by
 rw[i8,jk,hasK_iff];constructor
 ·rintro⟨⟨a,b⟩,g,e⟩
  have e:=of_decide_eq_true e;rw[←e];exact(jP g).1
 ·intro h
  obtain⟨i,l,e⟩:=jB.mp h;exact⟨(c[i],d[i]'(by omega)),jB.mpr ⟨i,by grind,by grind⟩,by grind⟩
theorem Uz{c:t_ Key}{d:t_ V}(f:c.length=d.length)(k:Key)(v:V):putK (c.zip d) k v=(C_ c k).zip (C9 c d k v):=by
 unfold putK C_ C9;rw[YU f]
 by_cases h:Kr c k=r_
 ·have l:∀(c:t_ _) (d:t_ V),((c.zip d).map λe=>if e.1=k then(e.1,v)else e)=c.zip (gn (λg i=>if g=k then v else i) c d):=by
   intro c
   induction c with
   |nil=>intro d; rfl
   | cons a c j=>
    intro d;cases d with
    |nil=>rfl
    |cons b d=>
     show(if a=k then(a,v)else(a,b))::_=(a,if a=k then v else b)::_;exact me.mpr ⟨by split <;>rfl,j d⟩
  simp_all
 ·rw[if_neg h,if_neg h,if_neg h,nH f]
  rfl
theorem Ats.put{K:Frag}{M:Db->Prop}{H:Hp}{k:Key}{d:D}{v:V}(j:At K M H d v):∀{c:t_ Key}{f:t_ D}{b:t_ V},Ats K M H f b->Ats K M H (gn (λg i=>if g=k then d else i) c f) (gn (λg i=>if g=k then v else i) c b)
 |[],f,b,h=>rfl
 |a::c,[],b,h=>by cases(h); rfl
 |a::c,e::f,b,h=>by
  obtain⟨u,r,rfl,m,l⟩:=h;refine⟨_,_,rfl,?_,Ats.put j l⟩
  grind
theorem Ats.putX{K:Frag}{M:Db->Prop}{H:Hp}{k:Key}{d:D}{v:V}{a:t_ Key}{b:t_ D}{c:t_ V}(e:At K M H d v)(h:Ats K M H b c):Ats K M H (C9 a b k d) (C9 a c k v):=by
 unfold C9
 split
 ·exact Ats.put e h
 ·exact h.append (Ats.one e)
theorem Qz{b:Type}{a:t_ Key}{c:t_ b}{k:Key}{d:b}(e:a.length=c.length):(C_ a k).length=(C9 a c k d).length:=by
 unfold C_ C9
 grind
theorem Lh:∀{b:t_ Key}{ds:t_ D}{k:Key},k∉b->BM b ds k=q_
 |[],ds,k,_=>by rfl
 |a::b,[],k,_=>rfl
 |a::b,d::ds,k,h=>by
  unfold BM;rw[if_neg (λe=>h (by grind))];exact Lh λz=>h (Rs _ z)
theorem Hv:∀{ks:t_ Key}{ds:t_ D}{k:Key},ks.length=ds.length->k∈ks->∃z,BM ks ds k=P3 z
 |[],ds,k,_,h=>by cases h
 |a::ks,[],k,h,_=>by cases h
 | a::ks,d::ds,k,b,h=>by
  unfold BM
  by_cases e:a=k
  ·simp_all
  ·rw[if_neg e]
   exact Hv (by simp_all) ((fi.mp h).resolve_left λz=>e z.symm)
theorem UK{b:t_ Key}{c:t_ D}{k:Key}{d:D}(g:b.length=c.length)(j:Key):BM (C_ b k) (C9 b c k d) j=if j=k then P3 d else BM b c j:=by
 unfold C_ C9
 by_cases i:Kr b k=r_
 ·have h:=hasK_iff.mp i
  rw[if_pos i,if_pos i]
  have n:∀(b:t_ Key) (c:t_ D),b.length=c.length->(j=k->k∈b)->BM b (gn (λp q=>if p=k then d else q) b c) j=if j=k then P3 d else BM b c j:=by
   intro b
   induction b with
   |nil=>
    intro c _ l
    by_cases e:j=k
    ·exact absurd (l e) gI
    ·rw[if_neg e]; cases c <;>rfl
   | cons a b o=>
    intro c g l;cases c with
    |nil=>cases g
    | cons e c=>
     show(if a=j then P3 (if a=k then d else e)else BM b _ j)=if j=k then P3 d else if a=j then P3 e else BM b c j
     by_cases f:a=j
     ·rw[if_pos f,if_pos f]
      by_cases m:j=k
      ·rw[if_pos m,if_pos (f.trans m)]
      ·rw[if_neg m,if_neg (λz=>m (f.symm.trans z))]
     ·rw[if_neg f,if_neg f]
      refine o c (by simpa using g) λz=>(fi.mp (l z)).resolve_left λw=>f (w.symm.trans z.symm)
  exact n b c g λ_=>h
 ·have h:k∉b:=λz=>i (hasK_iff.mpr z)
  rw[if_neg i,if_neg i]
  have n:∀(b:t_ Key) (c:t_ D),b.length=c.length->k∉b->BM (b++[k]) (c++[d]) j=if j=k then P3 d else BM b c j:=by
   intro b
   induction b with
   | nil=>
    intro c g _;cases c with
    |nil=>
     show(if k=j then P3 d else q_)=if j=k then P3 d else q_
     by_cases e:j=k
     ·rw[if_pos e,if_pos e.symm]
     ·rw[if_neg e,if_neg (λz=>e z.symm)]
    |cons e c=>cases g
   | cons a b o=>
    intro c g l;cases c with
    |nil=>cases g
    |cons e c=>
     show(if a=j then P3 e else BM (b++[k]) (c++[d]) j)=if j=k then P3 d else if a=j then P3 e else BM b c j
     rw[o c (by simpa using g) λz=>l (Rs _ z)]
     by_cases f:a=j
     ·rw[if_pos f,if_pos f,if_neg (λz=>l (by rw[←z,←f]; exact Sc))]
     ·rw[if_neg f,if_neg f]
  exact n b c g h
section
variable {X:Cx}{a b e:Expr}{κ zT zQ:Kd}{wa wb:DW}{pos pos':Pos}
def UC(f g:DW):DW:=λn e P=>f n e λk h=>g h e λd i=>∃c,keyOf k=P3 c/\P (.dic [c] [d]) i
theorem WK(J:DE X a zT wa)(L:DE X b zQ wb)(N:zQ≠.tp:=by intro z; cases z):DE X (.Dict [P3 a] [b] pos) .fr (UC wa wb):=by
 obtain⟨t,O,S⟩:=J;obtain⟨u,T,V⟩:=L;refine⟨_,Q8 (FH O T Q4) rfl rfl (jl _ _) (by show 1<=15; decide),λC M H n E Z P Q R w q=>λp i=>?_⟩;have j:=R.hold (o:=.dK []) i
 have r:¬C.U p:=λz=>by
  obtain⟨o,w⟩:=R.dom p (R.vM p (R.uV p z));rw[i]at w; cases w
 refine S C _ _ n E Z _ _ j w λx H2 k W s Y r1 p1=>?_;have R2:=j.step s Y;refine V C _ _ W E Z _ _ R2 p1 λy v d n2 A F r2 B=>?_;obtain⟨e,h,B⟩:=B;have R3:=R2.step A F;have D:At X.K (λb=>M b\/b=p) v d y:=r2.shOf R2.dom N;have g:v p=P3 (.dK []):=A.keep (s.keep AR r) r;have hx:x=kV e:=DK h (r1.tpOf j.dom j.vM);refine⟨g,[(e,y)],by rw[hx]; rfl,by show 1<=15; decide,?_⟩;show Q (.ref p) (A2 v p (.dK [(e,y)]));refine q _ _ (.dic [e] [d]) n2 (λb o c=>?_) ?_ ⟨p,rfl,i,[y],AR,rfl,?_⟩ B
 ·have l:b≠p:=Ao c i
  obtain⟨o1,z1,k1,G⟩:=s b o (by rw[AM l]; exact c);obtain⟨o2,z2,k2,t2⟩:=A b o1 z1;exact⟨o2,by rw[AM l]; exact z2,λI=>(k2 I).trans (k1 I),λm z=>(t2 m ((G m z).trans z)).trans (G m z)⟩
 ·refine F.pres ⟨λb o c l=>by rw[AM (λz=>l (.inr z))]; exact c,λb z=>.inl (.inl z),λb m c=>by rw[AM (λz=>by rw[z,g]at c; cases c)]; exact c⟩ λf o hf c=>?_
  rw[AM (λz=>r (by rw[←z]; exact R.fU f hf))];exact c
 ·exact⟨y,[],rfl,D.pres (Cw (.inr rfl) g),rfl⟩
def Nh(i:Nat)(h j:DW):AZ:=λl n e=>∃f g,e[i]?=P3 (.ow (.dic f g))/\j n e λd m=>h m e λk o=>∃c,keyOf k=P3 c/\f.length<sizeLine/\l.nx o (e.set i (.ow (.dic (C_ f c) (C9 f g c d))))
theorem RT{i k:Nat}{x:gB}(O:Room k X.A)(P:PE X x (BN i))(Q:DE X a zT wa)(S:DE X b zQ wb)(T:zQ≠.tp:=by intro z; cases z)
  (U:swapsWith b (P3 (.Subscript x a pos')) pos.line X.env=pure s_:=by rfl):DS X κ (.Assign [.Subscript x a pos'] b pos) (Nh i wa wb):=by
 obtain⟨t,V,W⟩:=Q;obtain⟨u,Y,g2⟩:=S;refine⟨_,Fo (GG O) P V Y U,λC M H n D Z D2 E R L w=>?_⟩;obtain⟨l,ds,o,w⟩:=w;refine g2 C M H n D Z _ _ R w λv H1 d n1 e1 f1 r1 p=>?_;have f:=R.step e1 f1;obtain⟨F,q,m,nv,tt⟩:=f.sl i _ o;refine⟨.ref F,getD_some q,?_⟩;refine W C M H1 n1 D Z _ _ f p λy H2 kk n2 G f2 r2 p=>?_;obtain⟨c,g,a0,p⟩:=p;have R2:=f.step G f2;obtain⟨a1,h,m',a2,r⟩:=R2.sl i _ o;rw[q]at h;cases h;obtain⟨I,J,N,j⟩:=r;have s:At X.K M H2 d v:=(r1.shOf R.dom T).pres (f.pres G);have B:l.length=I.length:=by rw[N,j.length]
 refine⟨F,_,rfl,by rw[DK g (r2.tpOf f.dom f.vM)]; exact DPut.k J (by rw[ir]; omega),L.nx M _ n2 _ Z (R2.mut (e:=.dic (C_ l c) (C9 l ds c d)) o q ⟨C9 l I c v,by rw[AR,Uz B],Qz N,(j.putX s).pres (Cw m' J)⟩) p⟩
def bL:D->u_ Bool
 |.lst c=>P3 (!c.isEmpty)
 |.tup c=>P3 (!c.isEmpty)
 |.bl b=>P3 b
 |.non=>P3 s_
 |_=>q_
def Wl(wa:DW):Hm:=λn e P=>wa n e λd f=>∃c,bL d=P3 c/\P c f
theorem MF{K:Frag}{M:Db->Prop}{H:Hp}{c:t_ D}{d:t_ V}(h:Ats K M H c d):d.isEmpty=c.isEmpty:=by
 have:=h.length
 cases d <;>cases c <;>first|rfl|cases this
theorem ZT{U M:Db->Prop}{H:Hp}{K:Frag}{d:D}{x:V}{c:Bool}(h:AtT K U M H d x)(e:bL d=P3 c):aq K x H c:=by
 cases d with
 |lst j=>cases e; obtain⟨a,f,rfl,_,g,i⟩:=h; exact .inl ⟨f,.inl g,by rw[MF i]⟩
 |tup j=>cases e; obtain⟨a,f,rfl,g,i⟩:=h; exact .inr (.inl ⟨f,.inl (.inl g),by rw[MF i]⟩)
 |bl b=>cases e; rw[h.bl]; exact rfl
 |non=>cases e; rw[h]; exact rfl
 |_=>cases e
theorem V4(h:DE X e κ wa)(g:∀f,isTrue e X.env f=(do let v ←f; standAt e.pos; holding [v] (truthy v)):=by intro _; rfl):DT X e (Wl wa):=by
 obtain⟨t,i,j⟩:=h;refine⟨_,U3 i g,λC M H n k Z P Q R w q=>?_⟩;refine j C M H n k Z _ _ R w λv l d m o r s p=>?_;obtain⟨c,u,p⟩:=p;exact⟨c,ZT (s.tpOf R.dom R.vM) u,q c l m o r p⟩
def JQ(c:Bool)(d e:D)(P:D->Prop):Prop:=e=.non/\P (.bl (if c then !Va d else Va d))
theorem PU{K:Frag}:F9 K .sh (λx y H Q=>y=.non/\Q (.bl (decide (x=.non))) H) (JQ s_):=λU M H d e x y P Q c h f g w q=>by
 obtain⟨rfl,w⟩:=w;exact⟨g,q _ H _ .refl (by rw[Ot f]; rfl) w⟩
theorem WU{K:Frag}:F9 K .sh (λx y H Q=>y=.non/\Q (.bl (!decide (x=.non))) H) (JQ r_):=λU M H d e x y P Q c h f g w q=>by
 obtain⟨rfl,w⟩:=w;exact⟨g,q _ H _ .refl (by rw[Ot f]; rfl) w⟩
end
end Dp
namespace L2
open AutoSeq1 (wpAny_loadPart')
theorem Sg:typeLookup (.type "list_reverseiterator") "__len__"=pure q_:=by kernel_rfl
theorem Vj:typeLookup (.type "list_reverseiterator") "__length_hint__"=pure (P3 (.builtin "list_reverseiterator.__length_hint__")):=by kernel_rfl
theorem boot_reversed:bootBuiltins "reversed"=P3 (.type "reversed"):=by decide +kernel
section
variable {prog:Program}{w:World}{A:Around}{E:Value->Shared->Prop}{s:Shared}{I:Addr}{fp wr:t_ Addr}{G:Array GenState->Array GenState->Prop}{n:Nat}{P:Nat->Value->Prop}{St:Nat->Shared->Prop}
theorem O6{Q:t_ Ev->On->Prop}
  (W:WalksS prog w A.in1 I fp wr G n P St) (m:∀i s,St i s->s.TypeIs (.ref I) "list_reverseiterator") (p:St 0 s) (q:∀b∈fp,b<s.heap.objs.size) (v:I∈fp)
  (x:∀d f,Moved wr G s d->ItemsOf P f n->Q f.toList d) (hn:n<=sizeLine):wpAny (model prog w) A (collect (.ref I)) Q E s:=by
 have g:s.heap.objs.size∉fp:=λr=>gY _ (q _ r);have t:s.heap.objs.size≠I:=λe=>g (e▸v);unfold collect;refine Ch (wpAny_runValue (gy F.entry_proto_collect ?_));rw[g_ F.plain_proto_collect _];show wpAny _ A.in1 (newList [] >>=λl=>again (.builtin "list.__iadd__" ⟨[l,.ref I],[]⟩)) _ _ s;refine Ch (iI ?_);refine Op ⟨iJ F.plain_list_iadd _,gy F.entry_list_iadd ?_⟩;rw[g_ F.plain_list_iadd _];have a:=W.frame 0 s (s.heap.push {cls:=.type "list",data:=.seq ([]:t_ Ev).toArray}) s.toks p (Re _) λb _ o e=>No _ e;have c:(s.heap.push {cls:=.type "list",data:=.seq ([]:t_ Ev).toArray}).get? s.heap.objs.size=P3 {cls:=.type "list",data:=.seq ([]:t_ Ev).toArray}:=TW _ rfl;have y:m7 (.ref s.heap.objs.size) (.ref I)=s_:=by simp[m7,t]
 show wpAny _ A.in1 (jN (.ref s.heap.objs.size) (.ref I) (.ref s.heap.objs.size)) _ _ _;unfold jN;refine Ch (i9 (m 0 _ a) ?_);rw[if_neg (by rw[y]; decide)];refine Ch (W.self 0 _ _ _ a ?_);refine Ch (gQ ?_);unfold Builtin.List.listLengthHint;refine Ch (nC (m 0 _ a) Sg ?_);show wpAny _ A.in1 (specialOf (fj I) (ig "__length_hint__") >>=_) _ _ _;refine Ch (nC (m 0 _ a) Vj ?_)
 (generalize h:("list_reverseiterator.__length_hint__":String)=id0; wp_delta; rw[show splitId id0=P3 ("list_reverseiterator","__length_hint__")from by subst h; decide +kernel]; subst h)
 refine Ch (lH (b:=r_) (m 0 _ a) (by rw[isSubtype_type]; kernel_rfl) ?_);refine Op ?_;rw[if_neg (by decide)];refine Op ⟨iJ F.plain_extend_loop _,codeAny_extend_loopS W hn _ g _ n 0 _ _ _ rfl (fo _) a c (ItemsOf.nil P) λd j z r u k=>?_⟩;show wpAny _ A (load s.heap.objs.size >>=_) _ _ d;refine Ch (wpAny_load u ?_);exact Op (x d j (Moved.drop_new (o:={cls:=.type "list",data:=.seq ([]:t_ Ev).toArray}) (tk:=s.toks) r (Re _)) k)
theorem Kz{Q₁:Ev->On->Prop}(W:WalksS prog w A.in1.in1 I fp wr G n P St)(hT:∀i s,St i s->s.TypeIs (.ref I) "list_reverseiterator")(hst:St 0 s)(hfp:∀b∈fp,b<s.heap.objs.size)(hI:I∈fp)
  (h:∀s' acc,Moved wr G s s'->ItemsOf P acc n->Q₁ (.ref s'.heap.objs.size) {s' with heap:=s'.heap.push {cls:=.type "tuple",data:=.seq acc}}) (hsz:n<=sizeLine):
  codeAny (model prog w) A (.call (.builtin "tuple.__new__") ⟨[.type "tuple",.ref I],[]⟩) (wants Q₁ E) s:=by
 refine nF ?_;show wpAny _ A.in1 (do checkBuiltinCall "tuple.__new__" ⟨[.type "tuple",.ref I],[]⟩; again (.builtin "tuple.__new__" ⟨[.type "tuple",.ref I],[]⟩)) _ _ s;refine Ch (k7 (F.newCall_tuple_1 _) (Op ⟨iJ F.plain_tuple_new _,gy F.entry_tuple_new ?_⟩));rw[g_ F.plain_tuple_new _];have hsub:=sub_tuple_self;have hinit:=init_tuple_lookup;have hmh:=madeHere_tuple;have hTI:=hT 0 s hst
 wp_walk using i9 hTI,O6 (hn:=hsz) W hT hst hfp hI
 intro s' acc hm hacc;show wpAny _ _ (kM acc.toList.toArray >>=λv=>ret v) _ _ _;unfold kM;refine Ch (iI ?_ (by show acc.toList.toArray.size<=sizeLine; simp only[Array.toArray_toList]; rw[hacc.1]; exact hsz));refine Op ?_;have e:acc.toList.toArray=acc:=by simp
 rw[e];exact h s' acc hm hacc
theorem K3{Q:Ev->On->Prop}(W:WalksS prog w A.in1.in1.in1 I fp wr G n P St)(k:∀i s,St i s->s.TypeIs (.ref I) "list_reverseiterator")(h:St 0 s)(j:∀b∈fp,b<s.heap.objs.size)(l:I∈fp)
  (m:∀e d,Moved wr G s e->ItemsOf P d n->Q (.ref e.heap.objs.size) {e with heap:=e.heap.push {cls:=.type "tuple",data:=.seq d}}) (hsz:n<=sizeLine):
  wpAny (model prog w) A (call (.type "tuple") [.ref I]) Q E s:=callType_codes (Q₁:=λf c=>c.TypeIs f _/\Q _ _) nW (F.typeCall_tuple_1 _) F.entry_object_init
  (Kz (hsz:=hsz) W k h j l λe d o g=>⟨⟨_,TW _ rfl,rfl⟩,m e _ o g⟩) λf c a=>⟨a.1,F.args_object_init_2 _ _,object_init_meets nW.init.lookup nW.made (by decide) _ w _ _ _ ⟨a.1,rfl,a.2⟩⟩
end
section
variable {X:Cx}{e:Expr}{te:TE}{p1 p2 q1 q2:Pos}
def Wz(K:Frag)(te:TE):TE:=λZ H Q=>te Z H λx H1=>∃l a,x=.ref l/\SqL K H1 l a/\∀r,H1 r=q_->Q (.ref r) (A2 H1 r (.tup a.reverse))
theorem SV(z:X.calm=r_)(he:PE X e te)(B:Gl X "tuple")(C:X.mg "tuple"=q_)(D:Gl X "reversed")(E:X.mg "reversed"=q_)(P:starEach [kR (.Name "reversed" p2) [e] [] q2] X.env=[(s_,eval (kR (.Name "reversed" p2) [e] [] q2) X.env)]:=by rfl)
  (R:starEach [e] X.env=[(s_,eval e X.env)]:=by rfl):PE X (.Call (.Name "tuple" p1) [.Call (.Name "reversed" p2) [e] [] q2] [] q1) (Wz X.K te):=by
 intro v s Z H Q I h;refine iK (DJ I B C jv ?_);refine hU ?_ P rfl;rw[P];refine kL ?_;refine iK (DJ I D E boot_reversed ?_);refine hU ?_ R rfl;rw[R];refine kL (thn (he v s Z H _ I h) λu d ⟨x,H1,k,r1,l,F,ex,hq,q⟩=>ke ?_);subst ex;cases r1;obtain⟨a,S,pl,T⟩:=k.list hq;have m:=S.length;have G:d.heap.IsList l a.toArray:=pl.isList;have n:l<d.heap.objs.size:=by obtain⟨_,e,_⟩:=id G; exact Tk e
 refine call_reversed_list G (ke ?_);have J:H1 d.heap.objs.size=q_:=k.fresh;have I2:Inv X v Z H1 {d with heap:=d.heap.push (revObj l ((a.toArray.size:Int) - 1))}:=k.kept (t':=d.toks) λb o e=>No _ e;have L:GA X v H1 d.heap.objs.size:=k.fpOk (Re _) J;refine K3 (s:={d with heap:=d.heap.push (revObj l ((a.toArray.size:Int) - 1))}) (Walks.listRev (A:=X.A.in1.in1.in1) (k.ok.hd z) d.heap.objs.size l (f_ n) a.toArray).toS (λi U hs=>hs.2.1.typeIs) ⟨fo _,⟨_,TW _ rfl,rfl,by show Data.fields _=_; simp[revObj]⟩,G.push _⟩ (λb p=>?_) Sc (λU g y r=>?_) (by rw[fk,←m]; exact T)
 ·rcases fi.mp p with rfl|p
  ·exact Tk (TW _ rfl)
  ·obtain rfl:=TM.mp p
   exact f8 n (by show d.heap.objs.size<=(d.heap.push _).objs.size; rw[size_push']; exact iO _)
 ·obtain⟨h',g',d',j,M⟩:=U
  have e1:g'=d.gens:=y.gens;have e2:d'=d.drawn:=y.drawn;have e3:M=d.os:=y.os;subst e1 e2 e3;have N:=I2.turnedL (h':=h') (t':=j) (ch:=[d.heap.objs.size]) (λc z=>by rw[TM.mp z]; exact L) λb o p e=>y.heap b o p e;have V:Inv X v Z H1 {d with heap:=h',toks:=j}:=N
  have hv:g.toList=a.reverse:=by
   refine ko λi=>?_;obtain⟨W,a2⟩:=r;have e0:g.toList[i]?=g[i]?:=by simp
   rw[e0]
   by_cases Y:i<a.length
   ·have t:i<g.size:=by rw[W,fk]; exact Y
    have a3:=a2 i g[i] (iY t);rw[List.getElem?_reverse Y,iY t,←a3,fk];simp
   ·rw[iz (by rw[l_]; omega)]
    exact k9 (by rw[W,fk]; omega)
  have O:g=a.reverse.toArray:=by rw[←hv]
  have rr:Vals F.reverse a.reverse:=S.reverse;refine⟨.ref h'.objs.size,A2 H1 h'.objs.size (.tup F.reverse),V.laid (t':=j) (λb o e=>No _ e) (Re _) (show ObjOk X.prog X.w _ _ _ (.tup F.reverse)from⟨by rw[l_]; exact T,a.reverse,rr,by rw[O]; exact IsTupN.new _ _⟩),rfl,q _ (V.hok.fresh (Re _))⟩
end
end L2
namespace Dp
open L2
def Ql(b:DW):DW:=λn c P=>b n c λd e=>∃a,d=.lst a/\P (.tup a.reverse) e
section
variable {X:Cx}{a:Expr}{zT:Kd}{wa:DW}{p1 p2 q1 q2:Pos}
theorem TD(l:X.calm=r_)(m:DE X a zT wa)(b:Gl X "tuple")(c:X.mg "tuple"=q_)(e:Gl X "reversed")(f:X.mg "reversed"=q_)(o:starEach [kR (.Name "reversed" p2) [a] [] q2] X.env=[(s_,eval (kR (.Name "reversed" p2) [a] [] q2) X.env)]:=by rfl)
  (s:starEach [a] X.env=[(s_,eval a X.env)]:=by rfl):DE X (.Call (.Name "tuple" p1) [.Call (.Name "reversed" p2) [a] [] q2] [] q1) .sh (Ql wa):=by
 obtain⟨t,u,x⟩:=m;refine⟨_,SV l u b c e f o s,λC M H n y Z P Q R w q=>?_⟩;refine x C M H n y Z _ _ R w λv H1 d z h i A p=>?_;obtain⟨G,rfl,p⟩:=p;have B:=R.step h i;obtain⟨D,j,rfl,I,E,F⟩:=A.tpOf R.dom R.vM;refine⟨D,j,rfl,.inl E,λr k=>?_⟩;have g:Grow H1 (A2 H1 r (.tup j.reverse)):=Av k;exact q _ _ (.tup _) z (h.trans g.ext) (i.grow g) (D_ B.dom k (F.reverse)) p
end
def MQ:AZ:=λ_ _ _=>False
section
variable {X:Cx}{κ:Kd}{st:Stmt}
theorem V_:DS X κ st MQ:=⟨_,λ_ _ _ _ _ _ h=>h.elim,λ_ _ _ _ _ _ _ _ _ _ w=>w⟩
end
end Dp
namespace L2
end L2
namespace Dp
open L2
theorem QQ{b:Fm->Prop}{X:Cx}{c:Kd}{a:t_ gG}:PZ b X c a MQ:=⟨_,SN,λ_ _ _ _ _ _ _ _ _ _ _ w=>w⟩
end Dp
namespace L2
open AutoSeq1 (wpAny_loadPart')
structure eT (κ:Bool) (e it a:Db) (k:Nat) (h:fu):Prop where
 e:∃old,IsEnum h e it (k:Int) old
 i:ItAt κ h it a k
end L2
namespace Dp
open L2
end Dp
namespace L2
open PySem.W
theorem QS:mroOf (.type "dict")=pure [.type "dict",.type "object"]:=by rw[mroOf_type]; kernel_rfl
theorem aS:typeLookup (.type "dict") "__new__"=pure (P3 (.builtin "dict.__new__")):=by rw[typeLookup_type,builtinLookup_eq_fast]; kernel_rfl
theorem dp_called:TypeCalled "dict" "dict.__new__" "dict.__init__":=
 ⟨by decide +kernel,by decide +kernel,⟨_,_,QS⟩,madeBy_type QS aS (by decide +kernel),by decide +kernel,by rw[isSubtype_type]; kernel_rfl,PySem.F.slot_dict_init⟩
theorem RU(a:Ev):checkTypeCall "dict" ⟨[a],[]⟩=pure ():=by kernel_rfl
theorem YE(a:Ev):checkBuiltinCall "dict.__new__" ⟨[.type "dict",a],[]⟩=pure ():=by kernel_rfl
theorem ND:entryFor table "dict.__new__"=P3 iS.«dict.__new__»:=entryFor_of_tree (by kernel_rfl)
theorem HG:plainId "dict.__new__"=r_:=by decide +kernel
theorem CU:entryFor table "dict.update.loop"=P3 iS.«dict.update.loop»:=entryFor_of_tree (by kernel_rfl)
theorem BI:plainId "dict.update.loop"=r_:=by decide +kernel
theorem YG:typeLookup (.type "list") "keys"=pure q_:=am_miss_of_fast (by decide +kernel)
section
variable {prog:Program}{w:World}{A:Around}{E:Value->Shared->Prop}{s:Shared}
theorem Io(a:Ev){Q₁:Ev->On->Prop}(h:Q₁ (.ref s.heap.objs.size) {s with heap:=s.heap.push {cls:=.type "dict",data:=.dict #[]}}):
  codeAny (model prog w) A (.call (.builtin "dict.__new__") ⟨[.type "dict",a],[]⟩) (wants Q₁ E) s:=by
 refine nF ?_;show wpAny _ A.in1 (do checkBuiltinCall "dict.__new__" ⟨[.type "dict",a],[]⟩; again (.builtin "dict.__new__" ⟨[.type "dict",a],[]⟩)) _ _ s;refine Ch (k7 (YE a) (Op ⟨iJ HG _,gy ND ?_⟩));rw[g_ HG _];unfold iS.«dict.__new__»;have hsub:=dp_called.sub;have hmro:=QS;obtain⟨hp,g,d,tk,os⟩:=s
 wp_walk
 exact h
theorem YF{a:Db}{xs:Array Ev}{k:Nat}{Q:u_ Ev->On->Prop}{sl:Array (u_ Ev)}(hx:s.heap.get? a=P3 {cls:=.type "list",dict:=q_,data:=.seq xs k,slots:=sl})(hA:A.handled=q_)
  (h:∀h' tk,(∀b o,s.heap.get? b=P3 o->h'.get? b=P3 o)->Q q_ {s with heap:=h',toks:=tk}):wpAny (model prog w) A (getAttr? (.ref a) "keys") Q E s:=by
 obtain⟨hp,g,d,tk,os⟩:=s;have hT:∀tk',(⟨hp,g,d,tk',os⟩:On).TypeIs (.ref a) "list":=λ_=>⟨_,hx,rfl⟩;have f1:=sub_AttributeError;have f3:=PySem.F.slot_list_getattribute.lookup;have f4:=PySem.F.slot_list_getattribute.bind (.ref a);have f5:=am_list_getattr_none;unfold getAttr? getAttrBy? getAttrBy
 repeat (any_goals (first|assumption|exact hT _|((with_reducible show wpAny _ _ (call (jG "list.__getattribute__") _ _) _ _ _); refine lW PySem.F.slot_list_getattribute (hT _) am_entry_list_getattribute (PySem.F.args_list_getattribute_2 _ _) (meets_getattribute_miss_list a xs k sl "keys" _ YG (by decide +kernel) (by decide +kernel)) ⟨hx,hA,λh' tk' e hx'=>?_⟩)|wp_step))
 obtain⟨t',u',he⟩:=hx'.there;show wpAny _ _ (getattributeRaised _ _ _ _ _ _ _) _ _ _;unfold getattributeRaised
 repeat (any_goals (first|assumption|wp_step))
 exact h _ _ hx'.keeps
end
section
variable {K:Type}[DecidableEq K]
theorem stored_new{a:t_ (K×Ev)}{k:K}{v:Ev}(h:k∉a.map (·.1)):stored a k v=a++[(k,v)]:=by
 unfold stored;rw[if_neg];intro z;obtain⟨p,b,e⟩:=jk.mp z;exact h (Uf.mpr ⟨p,b,of_decide_eq_true e⟩)
end
end L2
namespace Dp
open L2
end Dp
namespace L2
end L2
namespace Dp
open L2
section
variable {a:Expr}
mutual
theorem At.frz{K:Frag}{M:Db->Prop}{H:Hp}{a:Db}{f:Db->Obj}{kvs:t_ (Key×V)}(ha:H a=P3 (.dK kvs)):∀{d:D}{v:V},Er d=r_->At K M H d v->At K M (Gd H [a] f) d v
 |.non,v,_,h=>h
 |.bl b,v,_,h=>h
 |.int i,v,_,h=>h
 |.str x,v,_,h=>h
 |.tup ds,v,hn,h=>by
  obtain⟨b,vs,e,n2,hs⟩:=h;refine⟨b,vs,e,?_,Ats.frz ha hn hs⟩;unfold NdT at n2 ⊢;rw[D9 λz=>by rw[TM.mp z,ha]at n2; cases n2];exact n2
 |.lst ds,v,hn,h=>by
  obtain⟨b,vs,e,⟨n1,n2⟩,hs⟩:=h;refine⟨b,vs,e,⟨n1,?_⟩,Ats.frz ha hn hs⟩;rw[D9 λz=>by rw[TM.mp z,ha]at n2; cases n2];exact n2
 |.dic _ _,v,hn,h=>by cases hn
 |.fdi _ _,v,hn,h=>by cases hn
 |.dit _ _,v,hn,h=>by cases hn
theorem Ats.frz{K:Frag}{M:Db->Prop}{H:Hp}{a:Db}{f:Db->Obj}{kvs:t_ (Key×V)}(ha:H a=P3 (.dK kvs)):∀{ds:t_ D}{vs:t_ V},Co ds=r_->Ats K M H ds vs->Ats K M (Gd H [a] f) ds vs
 |[],vs,_,h=>h
 |d::ds,vs,hn,h=>by
  obtain⟨v,r,e,h1,h2⟩:=h;have hn:(Er d&&Co ds)=r_:=hn;rw[gj]at hn;exact⟨v,r,e,At.frz ha hn.1 h1,Ats.frz ha hn.2 h2⟩
end
end
def CV:t_ (t_ Key)->t_ D->t_ Key->u_ D
 |a::b,d::c,k=>if a=k then P3 d else CV b c k
 |_,_,_=>q_
def Ol:t_ D->u_ (t_ Key)
 |[]=>P3 []
 |d::a=>match keyOf d,Ol a with
  |some k,P3 b=>P3 (k::b)
  |_,_=>q_
def keysOf:D->u_ (t_ Key)
 |.tup a=>Ol a
 |_=>q_
section
variable {K:Frag}{X:Cx}
theorem Ju{M:Db->Prop}{H:Hp}{k:t_ Key}:∀{ks:t_ (t_ Key)}{b:t_ D}{a:t_ V},Ats K M H b a->
  match CV ks b k with
  |some z=>∃v,B8 (ks.zip a) k=P3 v/\At K M H z v
  |none=>B8 (ks.zip a) k=q_
 |[],b,a,h=>by exact rfl
 |c::ks,[],a,h=>by cases h; exact rfl
 | c::ks,d::b,a,h=>by
  obtain⟨v,r,rfl,f,g⟩:=h;have i:=Ju (k:=k) (ks:=ks) g;unfold CV
  by_cases e:c=k
  ·rw[if_pos e]
   refine⟨v,?_,f⟩;show B8 ((c,v)::ks.zip r) k=P3 v;rw[D1 e]
  ·have:B8 ((c,v)::ks.zip r) k=B8 _ k:=D3 e
   simp_all
theorem VX{M:Db->Prop}{H:Hp}{d:D}{v:V}{k:Key}(e:keyOf d=P3 k)(h:At K M H d v):v=kV k:=by
 cases d with
 |int i=>cases e; exact h
 |str x=>cases e; exact h.1
 |_=>cases e
theorem Oj{M:Db->Prop}{H:Hp}:∀{a:t_ D}{b:t_ V}{c:t_ Key},Ol a=P3 c->Ats K M H a b->b=c.map kV
 |[],b,c,e,h=>by cases e; exact h
 | d::a,b,c,e,h=>by
  obtain⟨v,r,rfl,i,j⟩:=h;unfold Ol at e;cases f:keyOf d with
  |none=>simp_all
  | some k=>
   cases g:Ol a with
   |none=>simp_all
   |some l=>
    rw[f,g]at e;cases e;rw[Oj g j,VX f i];rfl
theorem Fv{U M:Db->Prop}{H:Hp}{d:D}{v:V}{k:t_ Key}(e:keysOf d=P3 k)(h:AtT K U M H d v):∃b,v=.ref b/\H b=P3 (.tup (k.map kV)):=by
 cases d with
 |tup g=>
  obtain⟨a,i,rfl,c,f⟩:=h.tup;refine⟨a,rfl,?_⟩;rw[←Oj e f];exact c
 |_=>cases e
theorem QU{U M:Db->Prop}{H:Hp}{x:V}{c:t_ (t_ Key)}{d:t_ D}(h:AtT K U M H (.dit c d) x):∃a b,x=.ref a/\Rd H a (.dT (c.zip b))/\Ats K M H d b:=by
 obtain⟨a,b,rfl,_,e,_,f⟩:=h;exact⟨a,b,rfl,.inl e,f⟩
theorem RW{H:Hp}{a b:Db}{c:t_ (t_ Key×V)}{k:t_ Key}(e:Rd H a (.dT c))(eb:H b=P3 (.tup (k.map kV))):DGet H a (.ref b) (B8 c k):=.inr ⟨_,k,b,e,rfl,eb,rfl⟩
def aL(a:Bool)(e d:D)(P:D->Prop):Prop:=∃b c k,d=.dit b c/\keysOf e=P3 k/\P (.bl (if a then !(CV b c k).isSome else(CV b c k).isSome))
def Ow(d e:D)(P:D->Prop):Prop:=∃a b k z,d=.dit a b/\keysOf e=P3 k/\CV a b k=P3 z/\P z
theorem WS:F9 K .sh Ut (aL r_):=λU M H e d y x P Q f p g i w q=>by
 obtain⟨ks,j,k,rfl,l,w⟩:=w;obtain⟨a,r,rfl,m,n⟩:=QU i;obtain⟨b,rfl,o⟩:=Fv l g;refine⟨a,_,rfl,RW m o,q _ H (.bl _) .refl rfl ?_⟩;have h:=Ju (k:=k) (ks:=ks) n;cases c:CV ks j k with
 |none=>simp_all
 |some z=>rw[c]at h w; obtain⟨v,s,_⟩:=h; simp_all
theorem ai:F9 K .sh Yt Ow:=λU M H d e x y P Q c r f g w q=>by
 obtain⟨ks,s,k,z,rfl,i,j,w⟩:=w;obtain⟨a,t,rfl,l,m⟩:=QU f;obtain⟨b,rfl,n⟩:=Fv i g;have h:=Ju (k:=k) (ks:=ks) m;rw[j]at h;obtain⟨v,o,p⟩:=h;exact⟨a,v,rfl,by rw[←o]; exact RW l n,q v H z .refl p w⟩
variable {a b:Expr}{zT zQ:Kd}{wa wb:DW}{pos:Pos}
theorem RY{k:Nat}(g:Room k X.A)(h:DE X a zT wa)(i:DE X b zQ wb)(j:Tg b:=by intro _ _; rfl):DE X (.Subscript a b pos) .sh (Aa Ow wa wb):=by
 obtain⟨m,c,d⟩:=h;obtain⟨o,e,f⟩:=i;exact⟨_,Fp (GG g) c e j,λC M H n l Z P Q R w q=>Ej ai d f C M H n l Z P Q R w q⟩
end
def L4(a:t_ (t_ Key))(k:t_ Key):Bool:=a.any λb=>decide (b=k)
theorem hasK_iffU{a:t_ (t_ Key)}{k:t_ Key}:L4 a k=r_↔k∈a:=by
 unfold L4
 simp_all
def CC(a:t_ (t_ Key))(k:t_ Key):t_ (t_ Key):=if L4 a k=r_ then a else a++[k]
def CB{a:Type}(b:t_ (t_ Key))(c:t_ a)(k:t_ Key)(d:a):t_ a:=if L4 b k=r_ then gn (λe f=>if e=k then d else f) b c else c++[d]
theorem WR{c:t_ (t_ Key)}{d:t_ V}(j:c.length=d.length)(k:t_ Key):((c.zip d).any λf=>decide (f.1=k))=L4 c k:=by
 rw[i8,jk,hasK_iffU];constructor
 ·rintro⟨⟨a,b⟩,g,e⟩
  have e:=of_decide_eq_true e;rw[←e];exact(jP g).1
 ·intro h
  obtain⟨i,l,e⟩:=jB.mp h;exact⟨(c[i],d[i]'(by omega)),jB.mpr ⟨i,by grind,by grind⟩,by grind⟩
theorem SM{c:t_ (t_ Key)}{d:t_ V}(f:c.length=d.length)(k:t_ Key)(v:V):putK (c.zip d) k v=(CC c k).zip (CB c d k v):=by
 unfold putK CC CB;rw[WR f]
 by_cases h:L4 c k=r_
 ·have l:∀(c:t_ _) (d:t_ V),((c.zip d).map λe=>if e.1=k then(e.1,v)else e)=c.zip (gn (λg i=>if g=k then v else i) c d):=by
   intro c
   induction c with
   |nil=>intro d; rfl
   | cons a c j=>
    intro d;cases d with
    |nil=>rfl
    |cons b d=>
     show(if a=k then(a,v)else(a,b))::_=(a,if a=k then v else b)::_;exact me.mpr ⟨by split <;>rfl,j d⟩
  simp_all
 ·rw[if_neg h,if_neg h,if_neg h,nH f]
  rfl
theorem Ats.putU{K:Frag}{M:Db->Prop}{H:Hp}{k:t_ Key}{d:D}{v:V}(j:At K M H d v):∀{c:t_ (t_ Key)}{f:t_ D}{b:t_ V},Ats K M H f b->Ats K M H (gn (λg i=>if g=k then d else i) c f) (gn (λg i=>if g=k then v else i) c b)
 |[],f,b,h=>rfl
 |a::c,[],b,h=>by cases(h); rfl
 |a::c,e::f,b,h=>by
  obtain⟨u,r,rfl,m,l⟩:=h;refine⟨_,_,rfl,?_,Ats.putU j l⟩
  grind
theorem Ats.putXU{K:Frag}{M:Db->Prop}{H:Hp}{k:t_ Key}{d:D}{v:V}{a:t_ (t_ Key)}{b:t_ D}{c:t_ V}(e:At K M H d v)(h:Ats K M H b c):Ats K M H (CB a b k d) (CB a c k v):=by
 unfold CB
 split
 ·exact Ats.putU e h
 ·exact h.append (Ats.one e)
theorem OH{b:Type}{a:t_ (t_ Key)}{c:t_ b}{k:t_ Key}{d:b}(e:a.length=c.length):(CC a k).length=(CB a c k d).length:=by
 unfold CC CB
 grind
theorem GL:∀{b:t_ (t_ Key)}{c:t_ D}{k:t_ Key},b.length=c.length->k∈b->∃z,CV b c k=P3 z
 |[],c,k,_,h=>by cases h
 |a::b,[],k,h,_=>by cases h
 | a::b,d::c,k,f,h=>by
  unfold CV
  by_cases e:a=k
  ·simp_all
  ·rw[if_neg e]
   exact GL (by simp_all) ((fi.mp h).resolve_left λz=>e z.symm)
section
variable {X:Cx}{a b e:Expr}{κ zT zQ:Kd}{wa wb:DW}{pos pos':Pos}
def UB:DW:=λn _ P=>P (.dit [] []) n
theorem WJ:DE X (.Dict [] [] pos) .fr UB:=by
 refine⟨_,VC,λC M H n d Z P Q R w q=>λp c=>?_⟩;have g:Grow H (A2 H p (.dT [])):=Av c;exact q _ _ (.dit [] []) n g.ext (R.feed.grow g) ⟨p,rfl,c,[],AR,rfl,rfl⟩ w
def Yd(i:Nat)(h j:DW):AZ:=λl n e=>∃f g,e[i]?=P3 (.ow (.dit f g))/\j n e λd m=>h m e λk o=>∃c,keysOf k=P3 c/\f.length<sizeLine/\l.nx o (e.set i (.ow (.dit (CC f c) (CB f g c d))))
theorem X_{i k:Nat}{x:gB}(O:Room k X.A)(P:PE X x (BN i))(Q:DE X a zT wa)(S:DE X b zQ wb)(T:zQ≠.tp:=by intro z; cases z)
  (U:swapsWith b (P3 (.Subscript x a pos')) pos.line X.env=pure s_:=by rfl):DS X κ (.Assign [.Subscript x a pos'] b pos) (Yd i wa wb):=by
 obtain⟨t,V,W⟩:=Q;obtain⟨u,Y,g2⟩:=S;refine⟨_,Fo (GG O) P V Y U,λC M H n D Z D2 E R L w=>?_⟩;obtain⟨l,ds,o,w⟩:=w;refine g2 C M H n D Z _ _ R w λv H1 d n1 e1 f1 r1 p=>?_;have f:=R.step e1 f1;obtain⟨F,q,m,nv,tt⟩:=f.sl i _ o;refine⟨.ref F,getD_some q,?_⟩;refine W C M H1 n1 D Z _ _ f p λy H2 kk n2 G f2 r2 p=>?_;obtain⟨c,g,a0,p⟩:=p;have R2:=f.step G f2;obtain⟨a1,h,m',a2,r⟩:=R2.sl i _ o;rw[q]at h;cases h;obtain⟨I,J,N,j⟩:=r;have s:At X.K M H2 d v:=(r1.shOf R.dom T).pres (f.pres G);have B:l.length=I.length:=by rw[N,j.length]
 obtain⟨b,rfl,eb⟩:=Fv g (r2.tpOf f.dom f.vM);refine⟨F,_,rfl,DPut.t J eb (by rw[ir]; omega),L.nx M _ n2 _ Z (R2.mut (e:=.dit (CC l c) (CB l ds c d)) o q ⟨CB l I c v,by rw[AR,SM B],OH N,(j.putXU s).pres (Cw m' J)⟩) p⟩
end
end Dp
namespace L2
open PySem.W
abbrev Dz(h:fu)(z TI TO:Db)(a:Ev)(b:Bool):Prop:=h.get? z=P3 {cls:=.type "zip",dict:=q_,data:=.fields #[a,.bool b,.bool s_,.ref TI,.ref TO],slots:=#[]}
theorem JS:typeLookup (.type "zip") "__getattr__"=pure q_:=by rw[typeLookup_type,builtinLookup_eq_fast]; kernel_rfl
theorem Ez:entryFor table "zip.__getattribute__"=P3 iS.«object.__getattribute__»:=
 entryFor_alias (id':="object.__getattribute__") (by kernel_rfl) (by decide +kernel) (by decide +kernel) (by kernel_rfl)
theorem X4:typeLookup (.type "zip") "keys"=pure q_:=am_miss_of_fast (by decide +kernel)
theorem V2(a:Db)(xs:Array Ev)(name:Str)(u:Tok)(hmiss:typeLookup (.type "zip") name=pure q_)(hname:(["__module__","__name__","__qualname__","__doc__","__annotations__"]:t_ Str).contains name=s_)(hsz:name.length+100<=sizeLine:=by size_fits):
  Meets (iS.«object.__getattribute__» ⟨[.ref a,.str name u],[]⟩) (λA R s=>s.heap.get? a=P3 {cls:=.type "zip",dict:=q_,data:=.fields xs,slots:=#[]}/\raisesAttr (.ref a) name A R s):=
 Meets.of_wp λprog w A R s hs=>by
  obtain⟨hp,g,d,tk,os⟩:=s;obtain⟨hx,hs⟩:=hs;have hT:(⟨hp,g,d,tk,os⟩:On).TypeIs (.ref a) "zip":=⟨_,hx,rfl⟩;unfold iS.«object.__getattribute__»
  repeat (any_goals (first|assumption|wp_step))
  simp only[hname,gm,if_false]
  repeat (any_goals (first|assumption|wp_step))
  exact wpAny_raiseAttrError hs.1 hs.2 (attrMsg_fits (by decide +kernel) hsz)
section
variable {prog:Program}{w:World}{A:Around}{E:Value->Shared->Prop}{s:Shared}
theorem X3{a:Db}{xs:Array Ev}{Q:u_ Ev->On->Prop}(hx:s.heap.get? a=P3 {cls:=.type "zip",dict:=q_,data:=.fields xs,slots:=#[]})(hA:A.handled=q_)
  (h:∀h' tk,(∀b o,s.heap.get? b=P3 o->h'.get? b=P3 o)->Q q_ {s with heap:=h',toks:=tk}):wpAny (model prog w) A (getAttr? (.ref a) "keys") Q E s:=by
 obtain⟨hp,g,d,tk,os⟩:=s;have hT:∀tk',(⟨hp,g,d,tk',os⟩:On).TypeIs (.ref a) "zip":=λ_=>⟨_,hx,rfl⟩;have f1:=sub_AttributeError;have f3:=PySem.F.slot_zip_getattribute.lookup;have f4:=PySem.F.slot_zip_getattribute.bind (.ref a);have f5:=JS;unfold getAttr? getAttrBy? getAttrBy
 repeat (any_goals (first|assumption|exact hT _|((with_reducible show wpAny _ _ (call (jG "zip.__getattribute__") _ _) _ _ _); refine lW PySem.F.slot_zip_getattribute (hT _) Ez (PySem.F.args_zip_getattribute_2 _ _) (V2 a xs "keys" _ X4 (by decide +kernel) (by decide +kernel)) ⟨hx,hA,λh' tk' e hx'=>?_⟩)|wp_step))
 obtain⟨t',u',he⟩:=hx'.there;show wpAny _ _ (getattributeRaised _ _ _ _ _ _ _) _ _ _;unfold getattributeRaised
 repeat (any_goals (first|assumption|wp_step))
 exact h _ _ hx'.keeps
theorem V3{a:Db}{o:Obj}{Q:u_ Obj->On->Prop}(b:s.heap.get? a=P3 o)(h:Q (P3 o) s):wpAny (model prog w) A (loadIfAlive a) Q E s:=by
 have c:Q (s.heap.get? a) s:=by rw[b]; exact h
 exact λ_ _ _=>c
theorem RR{z TI TO a:Db}{b:Bool}{o:Obj}{Q:Bool->On->Prop}(f:Dz s.heap z TI TO (rawInt (a:Nat)) b)(i:s.heap.get? a=P3 o)
  (h:∀g,Dz g z TI TO (rawInt (a:Nat)) r_->i6 z s.heap g->Q s_ {s with heap:=g}):wpAny (model prog w) A (gX (.ref z)) Q E s:=by
 unfold gX;refine Ch (gf f rfl (x:=rawInt a) rfl ?_);show wpAny _ _ (loadIfAlive ((a:Int).toNat) >>=_) _ _ _;rw[gz];refine Ch (V3 i ?_);simp only[Option.isNone_some,gm,if_false];refine Ch (gf f rfl (x:=.bool b) rfl ?_);cases b with
 |true=>
  rw[if_neg (show ¬((jW r_ !=jW r_)=r_)from f6)];exact Op (h _ f (Heap.SameBut.refl _ _))
 |false=>
  rw[if_pos (show(jW s_ !=jW r_)=r_ from rfl)];refine Ch (iw f (by simp) λe c d=>?_);exact Op (h e c d)
theorem X5{r t:Bool}{z TI TO i j n p a:Db}{b:Bool}{o:Obj}{k:Nat}{K L:Array Ev}{x y:Ev}{Q:Ev->On->Prop}(D:Tp z TI TO i j n p)
  (u:Dz s.heap z TI TO (rawInt (a:Nat)) b) (M:s.heap.get? a=P3 o) (B:hZ s.heap TI (.ref i) (.ref j)) (N:ItAt r s.heap i n k) (O:ItAt t s.heap j p k) (C:SqAt r s.heap n K) (F:SqAt t s.heap p L) (P:K[k]?=P3 x) (R:L[k]?=P3 y)
  (S:∀l,Dz l z TI TO (rawInt (a:Nat)) r_->ItAt r l i n (k+1)->ItAt t l j p (k+1)->hZ l s.heap.objs.size x y->(∀c o,c≠z->c≠i->c≠j->s.heap.get? c=P3 o->l.get? c=P3 o)->Q (.ref s.heap.objs.size) {s with heap:=l}):
  wpAny (model prog w) A (iS.«zip.__next__» ⟨[.ref z],[]⟩) (λh T=>∃v,h=.done (.ret v)/\Q v T) E s:=by
 show wpAny (model prog w) A (field (.ref z) 2 >>=_) _ _ _; refine Ch (gf u rfl (x:=.bool s_) rfl ?_)
 show wpAny (model prog w) A (field (.ref z) 3 >>=_) _ _ _; refine Ch (gf u rfl (x:=.ref TI) rfl ?_); refine Ch (hX B rfl ?_)
 show wpAny (model prog w) A (gX (.ref z) >>=_) _ _ _;refine Ch (RR u M λM G d=>?_);simp only[gm,if_false];refine Ch ?_;simp only[mN,jQ,mE];refine Ch (Ch (gQ ?_)); show wpAny (model prog w) _ (gs (.ref i) >>=_) _ _ _
 refine Ch (EA (N.eb d.extBut D.i1z) (C.eb d.extBut D.l1z) P λY H f=>Op ?_);refine Op ?_;refine Ch (Ch (gQ ?_)); show wpAny (model prog w) _ (gs (.ref j) >>=_) _ _ _
 refine Ch (EA ((O.eb d.extBut D.i2z).eb f.extBut D.i12.symm) ((F.eb d.extBut D.l2z).eb f.extBut D.l2i1) R λq I g=>Op ?_);refine Op (Op ?_);refine Ch (mF ?_ (by show 2<=sizeLine; decide));have m:q.objs.size=s.heap.objs.size:=by rw[g.1,f.1,d.1]
 have J:Dz q z TI TO (rawInt (a:Nat)) r_:=g.extBut _ _ D.i2z.symm (f.extBut _ _ D.i1z.symm G)
 have U:hZ (q.push {cls:=.type "tuple",data:=.seq #[x,y]}) s.heap.objs.size x y:=by
  show Heap.get? _ _=_;rw[←m];exact TW _ rfl
 have h:=S _ (No _ J) ((H.eb g.extBut D.i12).mv λo e=>No _ e) (I.mv λo e=>No _ e) U λc o V W X e=>No _ (g.extBut _ _ X (f.extBut _ _ W (d.extBut _ _ V e)));refine Op ⟨_,rfl,?_⟩;show Q (.ref q.objs.size) _;rw[m];exact h
theorem aO{n zX:Bool}{z TI TO f p g t a:Db}{b:Bool}{o:Obj}{k:Nat}{q ys:Array Ev}{Q:Fin->On->Prop}(u:A.handled=q_)(D:Tp z TI TO f p g t)
  (h:Dz s.heap z TI TO (rawInt (a:Nat)) b) (r:s.heap.get? a=P3 o) (i:hZ s.heap TI (.ref f) (.ref p)) (v:ItAt n s.heap f g k) (j:SqAt n s.heap g q) (y:q[k]?=q_)
  (B:∀l e,(∀c o,c≠z->c≠f->s.heap.get? c=P3 o->l.get? c=P3 o)->(∃o,l.get? e=P3 o/\o.cls=.type "StopIteration")->E (.ref e) {s with heap:=l}):
  wpAny (model prog w) A (iS.«zip.__next__» ⟨[.ref z],[]⟩) Q E s:=by
 show wpAny (model prog w) A (field (.ref z) 2 >>=_) _ _ _; refine Ch (gf h rfl (x:=.bool s_) rfl ?_)
 show wpAny (model prog w) A (field (.ref z) 3 >>=_) _ _ _; refine Ch (gf h rfl (x:=.ref TI) rfl ?_); refine Ch (hX i rfl ?_)
 show wpAny (model prog w) A (gX (.ref z) >>=_) _ _ _;refine Ch (RR h r λr C d=>?_);simp only[gm,if_false];refine Ch ?_;simp only[mN,jQ,mE];refine Ch (Ch (gQ ?_)); show wpAny (model prog w) _ (gs (.ref f) >>=_) _ _ _
 refine Ch (Kv u (v.eb d.extBut D.i1z) (j.eb d.extBut D.l1z) y λF e m G=>?_);exact B F e (λc o H I x=>m _ _ I (d.extBut _ _ H x)) G
theorem NC{i j:Bool}{z TI TO e f g h a:Db}{b:Bool}{o:Obj}{k:Nat}{p q:Array Ev}{x y:Ev}{Q:u_ Ev->On->Prop}(D:Tp z TI TO e f g h)
  (r:Dz s.heap z TI TO (rawInt (a:Nat)) b) (u:s.heap.get? a=P3 o) (l:hZ s.heap TI (.ref e) (.ref f)) (v:ItAt i s.heap e g k) (B:ItAt j s.heap f h k) (m:SqAt i s.heap g p) (n:SqAt j s.heap h q) (C:p[k]?=P3 x) (F:q[k]?=P3 y)
  (G:∀d,Dz d z TI TO (rawInt (a:Nat)) r_->ItAt i d e g (k+1)->ItAt j d f h (k+1)->hZ d s.heap.objs.size x y->(∀c o,c≠z->c≠e->c≠f->s.heap.get? c=P3 o->d.get? c=P3 o)->Q (P3 (.ref s.heap.objs.size)) {s with heap:=d}):
  wpAny (model prog w) A (pyNext (.ref z)) Q E s:=by
 have t:s.TypeIs (.ref z) "zip":=⟨_,r,rfl⟩;unfold pyNext
 exact Ch (jF (gw (name:=ig "__next__") t jA (iN jA t lG
  (X5 D r u l v B m n C F λd H I J K L=>Op (G d H I J K L)) (km _))))
theorem Oy{l:Bool}{z TI TO f m g r a:Db}{b:Bool}{o:Obj}{k:Nat}{n:Array Ev}{Q:u_ Ev->On->Prop}(t:A.handled=q_)(D:Tp z TI TO f m g r)
  (p:Dz s.heap z TI TO (rawInt (a:Nat)) b) (u:s.heap.get? a=P3 o) (h:hZ s.heap TI (.ref f) (.ref m)) (v:ItAt l s.heap f g k) (i:SqAt l s.heap g n) (x:n[k]?=q_)
  (y:∀j,(∀c o,c≠z->c≠f->s.heap.get? c=P3 o->j.get? c=P3 o)->Q q_ {s with heap:=j}):wpAny (model prog w) A (pyNext (.ref z)) Q E s:=by
 have q:s.TypeIs (.ref z) "zip":=⟨_,p,rfl⟩;unfold pyNext;refine Ch (jF (gw (name:=ig "__next__") q jA (iN jA q lG (aO (zX:=r_) (ys:=#[]) t D p u h v i x λj e B C=>?_) (km _))));obtain⟨o,F,G⟩:=C;exact Ch (lH (T:="StopIteration") (b:=r_) ⟨o,F,G⟩ isSubtype_stop (Op (y _ B)))
end
structure PrW (prog:gD) (w:gK) (A:gS) (I d:Db) (n:Nat) (base:fu) (key:Nat->Db) (val:Nat->Ev) (ch:Db->Prop) (St:Nat->fu->Prop):Prop where
 new:∀b,ch b->base.get? b=q_
 item:∀(i:Nat) (s:On) (Q:Option Ev->On->Prop) (E:Ev->On->Prop),i<n->St i s.heap->(∀b o,base.get? b=P3 o->s.heap.get? b=P3 o)->(∃o,s.heap.get? d=P3 o)->
  (∀h' tk a o c,h'.get? a=P3 o->o.cls=.type "tuple"->o.data=.seq #[.ref (key i),val i] c->St (i+1) h'->(∀b o,¬ch b->s.heap.get? b=P3 o->h'.get? b=P3 o)->Q (P3 (.ref a)) {s with heap:=h',toks:=tk})->wpAny (model prog w) A (pyNext (.ref I)) Q E s
 done:∀(s:On) (Q:Option Ev->On->Prop) (E:Ev->On->Prop),St n s.heap->(∀b o,base.get? b=P3 o->s.heap.get? b=P3 o)->(∀h' tk,(∀b o,¬ch b->s.heap.get? b=P3 o->h'.get? b=P3 o)->Q q_ {s with heap:=h',toks:=tk})->wpAny (model prog w) A (pyNext (.ref I)) Q E s
 frame:∀i h h',St i h->i6 d h h'->St i h'
 dch:¬ch d
section
variable {prog:Program}{w:World}{A:Around}{R:Result->Shared->Prop}{I d:Addr}{n:Nat}{base:Heap}{key:Nat->Addr}{val:Nat->Value}{ch:Addr->Prop}{St:Nat->Heap->Prop}
theorem Hx{h e:fu}{f:t_ Key}{a:Db}(x:(tupleKind (Ar prog w)).is h f a)(k:∀b o,h.get? b=P3 o->e.get? b=P3 o):(tupleKind (Ar prog w)).is e f a:=by
 obtain⟨o,c,n,g,r⟩:=x;exact⟨o,c,n,k _ _ g,r⟩
theorem Kx{h a:fu}{d:Db}{b:t_ (t_ Key×Db×Ev)}(x:h.DictOfH (tupleKind (Ar prog w)) d b)(k:∀o,h.get? d=P3 o->a.get? d=P3 o)(c:∀y∈b,(tupleKind (Ar prog w)).is a y.1 y.2.1):a.DictOfH (tupleKind (Ar prog w)) d b:=by
 obtain⟨o,e,f,g,i,j,l,_,m⟩:=x;exact⟨o,e,f,k _ g,i,j,l,c,m⟩
theorem Vz(W:PrW prog w A.in1 I d n base key val ch St)(X:A.units+1<cLine)(xs:t_ (t_ Key×Db×Ev))(Q:xs.length=n)(nd:(xs.map (·.1)).Nodup)(hsz:n<=sizeLine)(G:base.get? d=q_)
  (H:∀(i:Nat) y,xs[i]?=P3 y->y.2.1=key i/\y.2.2=val i) (g:∀y∈xs,(tupleKind (Ar prog w)).is base y.1 y.2.1):
  ∀(k i:Nat) (s:On),n - i=k->i<=n->St i s.heap->(∀b o,base.get? b=P3 o->s.heap.get? b=P3 o)->s.heap.DictOfH (tupleKind (Ar prog w)) d (xs.take i)->
   (∀l F,l.DictOfH (tupleKind (Ar prog w)) d xs->(∀b o,base.get? b=P3 o->l.get? b=P3 o)->R (.ok (.ret .none)) {s with heap:=l,toks:=F})->
   codeAny (model prog w) A (.builtin "dict.update.loop" ⟨[.ref d,.ref I,rawInt (i:Int),.none],[]⟩) R s:=by
 have v:∀{h l:fu},(∀b o,base.get? b=P3 o->h.get? b=P3 o)->(∀b o,¬ch b->h.get? b=P3 o->l.get? b=P3 o)->∀b o,base.get? b=P3 o->l.get? b=P3 o:=λY Z b o e=>Z b o (λz=>by rw[W.new b z]at e; cases e) (Y b o e);intro k
 induction k with
 |zero=>
  intro i s hk hi r f x J;have K:i=n:=by omega
  subst K;refine gy CU ?_;rw[g_ BI _];show wpAny _ A.in1 (pyNext (.ref I) >>=_) _ _ s;refine Ch (W.done s _ _ r f λl F j=>?_);show wpAny _ A.in1 (m8 d [] >>=λ_=>ret gH) _ _ _;have u:=v f j;rw[k_ (by omega)]at x;exact Ch (Op (Op (J l F (Kx x (λo e=>j d o W.dch e) λy B=>Hx (g y B) u) u)))
 | succ k ih=>
  intro i s hk hi r f x J;have C:i<n:=by omega
  refine gy CU ?_;rw[g_ BI _];show wpAny _ A.in1 (pyNext (.ref I) >>=_) _ _ s;refine Ch (W.item i s _ _ C r f (by obtain⟨o,_,_,h,_⟩:=x; exact⟨o,h⟩) λl F a o c S hc hd D j=>?_);have E:xs[i]?=P3 (xs[i]'(by omega)):=FM (by omega);have m:xs[i]'(by omega)∈xs:=iA _;generalize xs[i]'(by omega)=p at E m;obtain⟨U,k2⟩:=H i p E;have u:=v f j;have L:=Kx x (λo e=>j d o W.dch e) λy B=>Hx (g y (lg B)) u;show wpAny _ A.in1 (holding [fj a] _ >>=_) _ _ _;refine Ch (gQ ?_);show wpAny _ A.in1 (tryCatch (jy (.ref a)) _ >>=_) _ _ _;refine Ch (j_ ?_);unfold jy;refine Ch (i9 (T:="tuple") ⟨o,S,hc⟩ ?_);show wpAny _ A.in1 (seqItems? (.ref a) >>=_) _ _ _;refine Ch (hX S hd (Op ?_));show wpAny _ A.in1 (holding [fj (key i),val i] (dictSet d (.ref (key i)) (val i))) _ _ _;refine gQ (wpAny_dictSet_heap (knd:=tupleKind (Ar prog w)) (k:=p.1) (xs:=xs.take i) (hsz:=by rw[jK]; omega) (jr X) (by rw[←U]; exact Hx (g p m) u) L λa0 q V=>?_)
  have M:p.1∉(xs.take i).map (·.1):=λz=>by
   have e:xs.map (·.1)=(xs.take i).map (·.1)++p.1::(xs.drop (i+1)).map (·.1):=by
    have:=nX i xs
    rw[i5 (by omega:i<xs.length)]at this;rw[FM (by omega:i<xs.length)]at E;cases E
    conv=>lhs; rw[←this]
    rw[gR,f9]
   rw[e,iC]at nd;exact nd.2.2 p.1 z p.1 Sc rfl
  have e2:xs.take (i+1)=xs.take i++[p]:=by rw[List.take_add_one,E]; rfl
  have e3:storedH (xs.take i) p.1 (key i) (val i)=xs.take (i+1):=by
   rw[storedH_new,e2]
   ·have:p=(p.1,key i,val i):=by rw[←U,←k2]
    rw[←this]
   ·unfold atKey
    rw[mP.mpr λy B z=>M (by rw[←of_decide_eq_true z]; exact Uf.mpr ⟨y,B,rfl⟩)]; rfl
  rw[e3]at q;refine Op ⟨iJ BI _,?_⟩;have N:((i:Int)+1)=((i+1:Nat):Int):=by omega
  rw[N];refine ih (i+1) _ (by omega) C (W.frame _ _ _ D V) (λb o e=>?_) q λh3 O P t=>J h3 O P t;exact(V.2 b λz=>by rw[z,G]at e; cases e).trans (u b o e)
theorem PrW.of{u wr:t_ Db}{P:Nat->Ev->Prop}(W:Walks prog w A I u wr n P St)(x:d∉u)(y:∀b∈wr,base.get? b=q_)(m:∀i v,P i v->∃a o c,v=.ref a/\base.get? a=P3 o/\o.cls=.type "tuple"/\o.data=.seq #[.ref (key i),val i] c):PrW prog w A I d n base key val (λb=>b∈wr) St where
 new:=y
 item:=λi s Q E B g f _ h=>W.item i s Q E B g λv k p C q l=>by
  obtain⟨a,o,c,rfl,r,D,j⟩:=m i v C;exact h k p a o c (l a o (λz=>by rw[y a z]at r; cases r) (f a o r)) D j q λb o t e=>l b o t e
 done:=λs Q E g f h=>W.done s Q E g λk p l=>h k p λb o t e=>l b o t e
 frame:=λi h k g F=>W.frame _ _ _ g λb G o e=>(F.2 b λz=>x (by rw[←z]; exact G)).trans e
 dch:=λz=>x (W.sub _ z)
def ZS(f g:Bool)(z TI TO c e j k d:Db)(i:Nat)(h:fu):Prop:=hZ h TI (.ref c) (.ref e)/\ItAt f h c j i/\ItAt g h e k i/\((jZ h z TI TO .none/\∃a b,hZ h TO a b)\/∃(a:Nat) (b:Bool) (o:Obj),Dz h z TI TO (rawInt (a:Nat)) b/\h.get? a=P3 o/\a≠z/\a≠TO/\a≠c/\a≠e/\a≠d)
end
section
variable {prog:Program}{w:World}{A:Around}{E:Value->Shared->Prop}{s:Shared}
theorem TC{h:fu}{d:Db}(a:h.get? d=P3 {cls:=.type "dict",data:=.dict #[]}):h.DictOfH (tupleKind (Ar prog w)) d ([]:t_ (t_ Key×Db×Ev)):=⟨_,_,0,a,⟨rfl,rfl,rfl⟩,rfl,rfl,(λx b=>by cases b),gW⟩
theorem YH{l:Db}{g:Array Ev}{c:Nat}{U:Array (u_ Ev)}{n:Nat}{key:Nat->Db}{val:Nat->Ev}{Q:Ev->On->Prop}(V:A.handled=q_)(hu:A.units+8<cLine)(W:s.heap.get? l=P3 {cls:=.type "list",dict:=q_,data:=.seq g c,slots:=U})(X:g.size=n)
  (J:∀(i:Nat) (v:Ev),g[i]?=P3 v->∃a o c,v=.ref a/\s.heap.get? a=P3 o/\o.cls=.type "tuple"/\o.data=.seq #[.ref (key i),val i] c)
  (u:t_ (t_ Key×Db×Ev)) (x:u.length=n) (nd:(u.map (·.1)).Nodup) (K:n<=sizeLine) (L:∀(i:Nat) y,u[i]?=P3 y->y.2.1=key i/\y.2.2=val i) (B:∀y∈u,(tupleKind (Ar prog w)).is s.heap y.1 y.2.1)
  (h:∀C M,C.DictOfH (tupleKind (Ar prog w)) s.heap.objs.size u->(∀b o,s.heap.get? b=P3 o->C.get? b=P3 o)->Q (.ref s.heap.objs.size) {s with heap:=C,toks:=M}):
  wpAny (model prog w) A (call (.type "dict") [.ref l]) Q E s:=by
 refine callType_codes (Q₁:=λD p=>D=.ref s.heap.objs.size/\p={s with heap:=s.heap.push {cls:=.type "dict",data:=.dict #[]}}) dp_called (RU _) PySem.F.entry_dict_init (Io _ ⟨rfl,rfl⟩) ?_;rintro D p ⟨rfl,rfl⟩;have j:(s.heap.push {cls:=.type "dict",data:=.dict #[]}).get? s.heap.objs.size=P3 {cls:=.type "dict",data:=.dict #[]}:=TW _ rfl;have r:(s.heap.push {cls:=.type "dict",data:=.dict #[]}).get? l=P3 {cls:=.type "list",dict:=q_,data:=.seq g c,slots:=U}:=No _ W;have t:l<s.heap.objs.size:=Tk W
 have d:∀b,s.heap.objs.size<=b->s.heap.get? b=q_:=λb N=>by
  cases e:s.heap.get? b with
  |none=>rfl
  |some o=>exact absurd (f8 (Tk e) N) (gY _)
 refine⟨⟨_,j,rfl⟩,PySem.F.args_dict_init_2 _ _,?_⟩;unfold iS.«dict.__init__»;refine Ch ?_;unfold m9;refine Ch (lR ⟨_,j,rfl⟩ ?_);show wpAny _ _ (pure (s.heap.objs.size,[fj l])) _ _ _;refine Op ?_;show wpAny _ _ (jo "dict.__init__" s.heap.objs.size (.ref l) [] .none) _ _ _;unfold jo;refine Ch (i9 (T:="list") ⟨_,r,rfl⟩ ?_);rw[if_pos (by decide)];have G:A.in1.in1.handled=q_:=by simp[V]
 have Y:A.in1.handled=q_:=by simp[V]
 refine Ch (YF r G λf O k=>?_);show wpAny _ _ (rule _ >>=_) _ _ _;refine Ch (kY ?_);have Z:∀b o,s.heap.get? b=P3 o->f.get? b=P3 o:=λb o e=>k b o (No _ e);have H:f.IsList l g:=⟨_,k l _ r,rfl,c,rfl⟩;refine Ch (im (s:={s with heap:=f,toks:=O}) H ?_);have m:s.heap.objs.size<f.objs.size:=Tk (k _ _ j);have I:l≠f.objs.size:=λz=>gY _ (mw m (by rw[←z]; exact t))
 have P:s.heap.objs.size∉[f.objs.size,l]:=λR=>by
  rcases fi.mp R with z|R
  ·rw[←z]at m; exact gY _ m
  ·rw[←TM.mp R]at t; exact gY _ t
 refine Op ⟨iJ BI _,?_⟩;subst X;refine Vz (A:=A.in1) (PrW.of (base:=s.heap) (key:=key) (val:=val) (Walks.list (A:=A.in1.in1) G f.objs.size l I g) P (λb N=>d b (by rw[TM.mp N]; exact j7 m)) J) (by simp; omega) u x nd K (d _ (Re _)) L B _ 0 _ (Nat.sub_zero _) (fo _) ⟨⟨_,TW _ rfl,rfl,rfl⟩,H.push _⟩ (λb o e=>No _ (Z b o e)) (by rw[List.take_zero]; exact TC (No _ (k _ _ j))) λC M hD S=>?_;exact⟨rfl,h C M hD S⟩
theorem NZ{H:Hp}:∀{b:t_ (t_ Key)}{c:t_ Db}{e:t_ V}{f:t_ Ev},c.length=b.length->Vals e f->(∀(i:Nat) x k,c[i]?=P3 x->b[i]?=P3 k->H x=P3 (.tup (k.map kV)))->
  Paired (fun(p:t_ Key×V) (q:t_ Key×Db×Ev)=>p.1=q.1/\H q.2.1=P3 (.tup (p.1.map kV))/\RelV p.2 q.2.2) (b.zip e) (b.zip (c.zip f))
 |[],_,_,_,_,_,_=>.nil
 |k::b,[],_,_,d,_,_=>by cases d
 |k::b,a::c,[],[],d,r,g=>.nil
 |k::b,a::c,w::e,u::f,d,r,g=>by
  cases r with
  |cons h j=>exact .cons ⟨rfl,g 0 a k rfl rfl,h⟩ (NZ (li d) j λi x k l m=>g (i+1) x k l m)
end
section
variable {X:Cx}
theorem X7{f:t_ (Db×Obj)}{Z:L2.St}{H:Hp}{s:On}{c:fu}{j:Nat}{a:t_ (t_ Key)}{d:t_ Db}{e:t_ V}{g:t_ Ev}{l:Db}(I:Inv X f Z H s)(h:s.heap.objs.size<=l)(m:(l==sysModules)=s_)(n:∀b o,s.heap.get? b=P3 o->c.get? b=P3 o)(p:d.length=a.length)(F:e.length=a.length)(G:a.length<=sizeLine)(r:Vals e g)(q:∀(i:Nat) x k,d[i]?=P3 x->a[i]?=P3 k->H x=P3 (.tup (k.map kV)))
  (t:c.DictOfH (tupleKind (Ar X.prog X.w)) l (a.zip (d.zip g))):Inv X f Z (A2 H l (.dT (a.zip e))) {s with heap:=c,toks:=j}:=by
 obtain⟨o,u,v,y,z,A,B,_,C⟩:=t;refine I.laid n h ⟨by grind,m,_,NZ p r λi x k D E=>?_,o,u,v,y,z,A,B,C⟩
 have:=q i x k D E
 rw[AM (Ao this (I.hok.fresh h))];exact this
theorem Tt{d e f:Type}{a:t_ d}{b:t_ e}{c:t_ f}(g:b.length=a.length)(h:c.length=a.length):(a.zip (b.zip c)).map (·.1)=a:=by
 rw[m_]
 grind
theorem Wh{a:t_ (t_ Key)}{b:t_ Db}{c:t_ Ev}{i:Nat}{y:t_ Key×Db×Ev}(e:(a.zip (b.zip c))[i]?=P3 y):a[i]?=P3 y.1/\b[i]?=P3 y.2.1/\c[i]?=P3 y.2.2:=by
 rw[jd,jd]at e;omega
def Uu(K:Frag):t_ V->Hp->VK->Prop:=λf H Q=>∃(p:Db) (c d:t_ Db) (e:t_ V) (b:t_ (t_ Key)),f=[.ref p]/\SqL K H p (c.map V.ref)/\c.length=b.length/\d.length=b.length/\e.length=b.length/\(∀(i:Nat) q a v,c[i]?=P3 q->d[i]?=P3 a->e[i]?=P3 v->H q=P3 (.tup [.ref a,v]))/\(∀(i:Nat) x k,d[i]?=P3 x->b[i]?=P3 k->H x=P3 (.tup (k.map kV)))/\b.Nodup/\∀l,H l=q_->Q (.ref l) (A2 H l (.dT (b.zip e)))
theorem KS{P:gD}{w:gK}{H:Hp}{h:fu}(ok:HOk P w H h):∀{qs as:t_ Db}{ws:t_ V},qs.length=as.length->ws.length=as.length->(∀(i:Nat) q a v,qs[i]?=P3 q->as[i]?=P3 a->ws[i]?=P3 v->H q=P3 (.tup [.ref a,v]))->
  ∃f:t_ Ev,Vals ws f/\∀(i:Nat) q,qs[i]?=P3 q->∃o c,h.get? q=P3 o/\o.cls=.type "tuple"/\o.data=.seq #[.ref (as.getD i 0),f.getD i .none] c
 |[],[],[],_,_,_=>⟨[],.nil,λi q e=>by simp at e⟩
 | q::qs,a::as,v::ws,b,d,g=>by
  obtain⟨f,r,m⟩:=KS ok (qs:=qs) (as:=as) (ws:=ws) (li b) (li d) λi q a v j k l=>g (i+1) q a v j k l;obtain⟨_,s,t,o,j,k,n,l,_⟩:=(show ObjOk P w H h q (.tup [.ref a,v])from ok q _ (g 0 q a v rfl rfl rfl));cases t with
  | @cons _ u _ C x y=>
   cases y with
   |@cons _ z _ D A B=>
    cases B;cases(show u=fj a from x);refine⟨z::f,.cons A r,λi p e=>?_⟩;cases i with
    |zero=>grind
    |succ i=>exact m i p e
 |[],[],_::_,_,d,_=>by cases d
 |[],_::_,_,b,_,_=>by cases b
 |_::_,[],_,b,_,_=>by cases b
 |_::_,_::_,[],_,d,_=>by cases d
theorem Qd(M:X.calm=r_){N:Nat}(O:Room N X.A):By X (.type "dict") (Uu X.K):=by
 intro zH s Z H xs k Q I r h;obtain⟨p,d,z,ws,a,rfl,P,R,f,B,S,C,T,q⟩:=h;obtain⟨u,rfl,U⟩:=vals1 r;cases U;obtain⟨l,D,⟨⟨V,dt,E,sl⟩,n,m,g,t,F⟩,W⟩:=I.list P;simp only at g t F;subst g t F;have b:=D.length;rw[Go]at b W;obtain⟨k,G,Y⟩:=KS I.hok (R.trans f.symm) (B.trans f.symm) S;have lu:=G.length;have a0:=O.un;refine YH (n:=a.length) (key:=λi=>z.getD i 0) (val:=λi=>k.getD i .none) (I.ok.hd M) (by omega) m (by rw[fk]; omega) (λi v e=>?_) (a.zip (z.zip k)) (by rw[ir,ir]; omega) (by rw[Tt f (by omega)]; exact T) (by omega) (λi y e=>?_) (λy hy=>?_) λh2 tk hD w=>?_
 ·have J:l[i]?=P3 v:=by simpa using e
  have j:i<d.length:=by rw[b]; exact(ZB.mp J).1
  obtain⟨u,L,g2⟩:=D.get (i:=i) (x:=.ref d[i]) (by rw[T0,FM j]; rfl);rw[J]at L;cases L;obtain⟨o,c,a1,a2,a3⟩:=Y i d[i] (FM j);exact⟨d[i],o,c,g2,a1,a2,a3⟩
 ·grind
 ·obtain⟨i,j⟩:=iy.mp hy
  obtain⟨m,g,t⟩:=Wh j;exact IN I.hok (C i _ _ g m)
 ·exact⟨.ref s.heap.objs.size,_,X7 I (Re _) (beq_eq_false_iff_ne.mpr (gP (f_ I.big))) w f B (by omega) G C hD,rfl,q _ (I.hok.fresh (Re _))⟩
end
end L2
namespace Dp
open L2
section
variable {K:Frag}
theorem Sz{M:Db->Prop}{H:Hp}{d:D}{v:V}{k:t_ Key}(e:keysOf d=P3 k)(h:At K M H d v):∃b,v=.ref b/\H b=P3 (.tup (k.map kV)):=Fv (U:=λ_=>False) e (h.tp λ_ z=>z.elim)
theorem YI{M:Db->Prop}{H:Hp}{l:Db}{d:t_ (t_ Key)}{e:t_ D}{c:t_ V}(g:H l=q_)(h:d.length=e.length)(i:Ats K M H e c):∃a,V.ref l=.ref a/\H a=q_/\Tops K (λb=>M b\/b=a) (A2 H l (.dT (d.zip c))) a (.dit d e):=⟨l,rfl,g,c,AR,h,i.pres ⟨λb o f j=>by rw[AM (λz=>by grind)]; exact f,λb z=>z.elim .inl λz=>.inr (by grind),λb c f=>by rw[AM (λz=>by grind)]; exact f⟩⟩
def SQ:t_ D->u_ (t_ (t_ Key)×t_ D)
 |[]=>P3 ([],[])
 |.tup [k,v]::r=>match keysOf k,SQ r with
  |some a,P3 p=>P3 (a::p.1,v::p.2)
  |_,_=>q_
 |_=>q_
def Vv(d:t_ D)(P:D->Prop):Prop:=∃b a c,d=[.lst b]/\SQ b=P3 (a,c)/\a.Nodup/\P (.dit a c)
theorem Q2{M:Db->Prop}{H:Hp}:∀{j:t_ D}{l:t_ V}{ks:t_ (t_ Key)}{vs:t_ D},SQ j=P3 (ks,vs)->Ats K M H j l->∃(f g:t_ Db) (c:t_ V),l=f.map V.ref/\ks.length=vs.length/\f.length=ks.length/\g.length=ks.length/\c.length=ks.length/\Ats K M H vs c /\
  (∀(i:Nat) q a v,f[i]?=P3 q->g[i]?=P3 a->c[i]?=P3 v->H q=P3 (.tup [.ref a,v]))/\∀(i:Nat) x k,g[i]?=P3 x->ks[i]?=P3 k->H x=P3 (.tup (k.map kV))
 |[],l,ks,vs,e,h=>by
  cases(show P3 (([],[]):t_ (t_ Key)×t_ D)=P3 (ks,vs)from e);exact⟨[],[],[],h,rfl,rfl,rfl,rfl,rfl,(λi a q v e=>by simp at e),λi a q e=>by simp at e⟩
 | d::j,l,ks,vs,e,h=>by
  obtain⟨u,r,rfl,w,y⟩:=h;unfold SQ at e
  split at e
  ·cases ‹d::j=[]›
  ·rename_i k v Y m
   cases m
   split at e
   ·rename_i z p A B
    cases e;obtain⟨f,g,c,C,E,F,G,I,J,L,Z⟩:=Q2 (ks:=p.1) (vs:=p.2) B y;obtain⟨q,N,rfl,O,P⟩:=w;obtain⟨x1,r1,rfl,Q,s,R,rfl,S,T⟩:=P;cases(show R=[]from T);obtain⟨b,rfl,hb⟩:=Sz A Q;refine⟨q::f,b::g,s::c,by rw[C]; rfl,by rw[eq,eq,E],by rw[eq,eq,F],by rw[eq,eq,G],by rw[eq,eq,I],⟨s,c,rfl,S,J⟩,λi U W X n o t=>?_,λi x' k' n o=>?_⟩
    ·cases i with
     |zero=>cases n; cases o; cases t; exact O
     |succ i=>exact L i U W X n o t
    grind
   ·cases e
  ·cases e
theorem YY:CJ K .fr (Uu K) Vv:=by
 intro U M H y z P Q c A d w q;obtain⟨B,f,C,rfl,e,g,w⟩:=w;obtain⟨v,rfl,h⟩:=D4 d;obtain⟨a,D,rfl,_,i,j⟩:=h;obtain⟨k,m,n,rfl,o,p,r,s,t,u,x⟩:=Q2 e j;exact⟨a,k,m,n,f,rfl,.inl i,p,r,s,u,x,g,λl b=>q _ _ _ (Av b) (YI b o t) w⟩
end
end Dp
namespace L2
end L2
namespace Dp
open L2
end Dp
namespace L2
end L2
namespace Dp
open L2
end Dp
namespace L2
end L2
namespace Dp
open L2
end Dp
namespace L2
end L2
namespace Dp
open L2
end Dp
namespace L2
section
variable {X:Cx}{c e:Expr}
theorem RG{K:Frag}{C U:Db}{a:Str}(c:XC K a C U):∀{b:t_ Db}{d:t_ Str},Paired (fun(D:Db) (n:Str)=>n ≠ "ThinError"/\∃f,XC K n D f) b d->PySem.W.kitAny K (.ref C) (b.map fj)=P3 (decide (a∈d))
 |[],_,.nil=>by simp[PySem.W.kitAny]
 | D::b,_,@Paired.cons _ _ _ _ n _ d ⟨g,f,h⟩ r=>by
  rw[f9];unfold PySem.W.kitAny;rw[c.kit h g]
  by_cases e:a=n
  ·simp[e]
  ·simp only[e,decide_false]
   rw[RG c r];simp[e]
theorem Ni:∀{a:t_ Db}{b:t_ Ev},Vals (a.map V.ref) b->b=a.map fj
 |[],_,r=>by rw[lm]at r; cases r; rfl
 |D::a,_,r=>by
  rw[f9]at r;cases r with
  |cons h t=>rw[f9,Ni t]; cases h; rfl
theorem TY:By X (.builtin "isinstance") (λm H Q=>∃a C U g u i t j k,m=[.ref a,.ref t]/\H a=P3 u/\XT C g a u/\(∀d,g=P3 d->∃p,H d=P3 (.ext (XF d p)))/\XC X.K i C U/\H t=P3 (.tup (j.map V.ref))/\Paired (fun(D:Db) (n:Str)=>n ≠ "ThinError"/\∃A,XC X.K n D A) j k/\Q (.bl (decide (i∈k))) H):=by
 intro zH s Z H m us Q I r h;obtain⟨a,C,U,g,u,i,t,j,k,rfl,B,E,F,v,G,L,q⟩:=h;obtain⟨M,N,rfl,O,P⟩:=vals2 r;cases(show M=fj a from O);cases(show N=fj t from P)
 have J:=E.inst I B λd e=>by
  obtain⟨p,l⟩:=F d e;obtain⟨⟨mA,⟨o,_,_,R,_⟩,_⟩,_⟩:=(show ObjOk X.prog X.w H s.heap d _ from I.hok d _ l);exact⟨o,R⟩
 obtain⟨_,S,T,o,l,x,n,b,c,f⟩:=(show ObjOk X.prog X.w H s.heap t _ from I.hok t _ G);obtain⟨Y,dd,y,sl⟩:=o;simp only at x b c f;subst x b c f;have e:=Ni T;subst e;exact PySem.W.kia_tup v.kitX I.kIn J l (RG v L) (by intro z; cases z) λtk=>⟨.bl _,H,I.tok _,rfl,q⟩
end
end L2
namespace Dp
open L2
section
variable {X:Cx}{es:t_ Expr}{pos p p1 tpos:Pos}{i:Nat}{x:Str}
def CN(X:Cx)(es:t_ gB)(b:t_ Str):Prop:=∃a:t_ Db,PA X es (λ_ H Q=>Q (a.map V.ref) H)/\Paired (fun(D:Db) (n:Str)=>n ≠ "ThinError"/\∃c,XC X.K n D c) a b
theorem aZ:CN X [] []:=⟨[],A9,.nil⟩
theorem F4{a:Str}{e:t_ Str}{D U:Db}(f:a ≠ "ThinError")(xd:XC X.K a D U)(b:Gl X a)(c:X.mg a=P3 (.ref D))(g:CN X es e)(h:starEach (.Name a p::es) X.env=(s_,eval (.Name a p) X.env)::starEach es X.env:=by rfl)(d:(a==("__debug__":Str))=s_:=by decide):
  CN X (.Name a p::es) (a::e):=by
 obtain⟨j,k,l⟩:=g;exact⟨D::j,Aq (Mi (v:=.ref D) b c rfl d) k h,.cons ⟨f,U,xd⟩ l⟩
def T3(i:Nat)(a:t_ Str):DW:=λn b P=>match b[i]? with
 |some (.ex _ c _ _)=>P (.bl (decide (c∈a))) n
 |_=>False
theorem YL{c:t_ Str}{j}(h:CN X es c)(hl:es.length<=100)(D:Gl X "isinstance")(E:X.mg "isinstance"=q_)(F:X.N[i]?=P3 x:=by rfl)(G:Te X.env.scope x:=by first|exact XV rfl|exact gx (XV rfl)|exact gx (gx rfl))(k:(x==("__debug__":Str))=s_:=by decide)
  (l:(x==("__classdict__":Str))=s_:=by decide) (hn:c.length<=100:=by decide) (v:starEach [.Name x p1,.Tuple es j tpos] X.env=(s_,eval (.Name x p1) X.env)::starEach [.Tuple es j tpos] X.env:=by rfl) (m:starEach [.Tuple es j tpos] X.env=[(s_,eval (.Tuple es j tpos) X.env)]:=by rfl) (r:(backTo pos (starEach [.Tuple es j tpos] X.env)).any (·.1)=s_:=by rfl):
  DE X (.Call (.Name "isinstance" p) [.Name x p1,.Tuple es j tpos] [] pos) .sh (T3 i c):=by
 obtain⟨e,I,y⟩:=h;refine⟨_,Cb TY D E (by decide +kernel) (Aq (Ea F G k l) (Aq (VA I) A9 m) v) (by decide) (by decide) v r,λC M H n ρ Z P Q R w q=>?_⟩;unfold T3 at w
 split at w
 ·rename_i a J ks ds k
  obtain⟨K,L,O,S,u,vs,T,⟨na,U⟩,W,Y,a0,hs⟩:=R.sl i _ k;have hz:(e.map V.ref).length<=sizeLine:=by rw[Go,Paired.length y,gc]; omega
  refine⟨.ref a,getD_some K,hz,λt A=>?_⟩;have g:Grow H (A2 H t (.tup (e.map V.ref))):=Av A;have B:∀b o,H b=P3 o->A2 H t (.tup (e.map V.ref)) b=P3 o:=λb o q=>by rw[AM (λz=>by subst z; rw[A]at q; cases q)]; exact q
  refine⟨a,L,O,S,u,J,t,e,c,rfl,B _ _ U,W,λd f=>?_,T,AR,y,q _ _ (.bl _) n g.ext (R.feed.grow g) rfl w⟩
  rcases Y with⟨z,_⟩|⟨dd,z,_,s⟩
  ·rw[z]at f; cases f
  ·rw[z]at f; cases f; exact⟨_,B _ _ s⟩
 ·exact w.elim
end
section
variable {X:Cx}
theorem TJ{k:Nat}{c:t_ Str}{a:Kd}{W:W2}{x:Str}{p pos:Pos}(G:Got X.prog X.w X.K X.mg X.base x k c a W)
  (e:Room k X.A) (g:Gl X x) (b:(x==("__debug__":Str))=s_:=by decide):DE X (.Call (.Name x p) [] [] pos) a (Ad W Ae):=by
 obtain⟨f,fd,G,h,i,j,l⟩:=G;refine⟨_,VD G e g h i j .nil Q_ b,λC M H n y Z P Q R w q=>?_⟩;show Ck X.K a W c.length ([]++[]) H Q E0;rw[gk];refine⟨l _ _ _ w,C.F,C.U,C.V,M,n,[],P,⟨R.dom,R.fU,R.uV,R.vM,R.feed,.nil⟩,w,λv m d o r s t u=>?_⟩;exact q v m d o r s t u
end
abbrev Fu(K:Frag)(x:Str)(a:gG)(f:Db)(fd:gZ):Prop:=Fun K x x a f fd
theorem E3{P:gD}{w:gK}{K:Frag}{j:Str->u_ Ev}{a:fu}{x:Str}{c:gG}{f:Db}{fd:gZ}{N d:t_ Str}{k:Nat}{g:Kd}{W:W2}{l:AZ}(F:Fu K x c f fd)(S:Ac N d (AN c))
  (m:∀{e:Ev}{A:gS}{b:t_ Env}{s:On}{H:Hp}{E:XK},Room k (A.deeper (envOfC x (AN c) s.heap.objs.size f e))->Pb (IV B1 P w K j a N x (AN c) f e A b s H E).nox g (Bh c) l)
  (o:∀{ss n Pd},W ss n Pd->l {nx:=λn _=>g=.sh/\Pd .non n,rt:=Pd} n (ss++UF (N.length - d.length) .no)) (i:d.length<=N.length:=by decide):
  A3 P w K j a B1 (k+1) f fd d (Ck K g W d.length):=eA F S i (λ_ _ _ _ _ _ h=>m h) (λ_ _ _ _ h=>o h)
section
variable {X:Cx}
theorem cg{m:Nat}(g:Room m X.A){e:gB}{a:t_ gB}{k:Nat}{h:t_ Str}{f:Kd}{W:W2}{x:Str}{p pos:Pos}{b:Wf}(G:Got X.prog X.w X.K X.mg X.base x k h f W)(i:bB X (e::a) b)(j:k<=m:=by decide)(l:Gl X x:=by rfl)
  (c:(x==("__debug__":Str))=s_:=by decide) (n:starEach (e::a) X.env=(s_,eval e X.env)::starEach a X.env:=by rfl) (d:(backTo pos (starEach a X.env)).any (·.1)=s_:=by rfl):DE X (.Call (.Name x p) (e::a) [] pos) f (Ad W b):=BF G (g.mono j) l i c n d
variable {tg iter elt:Expr}{ifs:t_ Expr}{sc:Scope}{pos:Pos}{b:BW}{tt:Hm}{te:DW}{zS:Kd}{src:Dh}
theorem NY(a:t_ Str)(c:t_ (u_ Nat))(d:bG X tg iter src)(e:∀{cl C s H fp},DG (A6 X sc a cl C s H fp) tg b)(f:∀{cl C s H fp},bF (A6 X sc a cl C s H fp) ifs tt)(g:∀{cl C s H fp},DE (A6 X sc a cl C s H fp) elt zS te)
  (h:Iu sc X.env.scope X.N a c=r_) (i:X.calm=r_:=by rfl) (j:zS≠.tp:=by intro z; cases z) (k:∀x,foldedSetIterable iter X.env x=pure x:=by intro _; rfl):DE X (.ListComp elt [⟨tg,iter,ifs,0⟩] sc pos) .fr (Ba c src b tt te):=YN i a c d (λ_ _ _ _ _=>e) (λ_ _ _ _ _=>f) (λ_ _ _ _ _=>g) h j k
end
theorem RM{P:gD}{w:gK}{K:Frag}{q:Str->u_ Ev}{a:fu}{x:Str}{o:gG}{f:Db}{fd:gZ}{N e:t_ Str}{W:Nat->W2}{u:W2->AZ}(c:Nat)(F:Fu K x o f fd)(S:Ac N e (AN o))(m:q x=P3 (.ref f))(b:Binds K fd e [])
  (r:∀{k:Nat}{p:W2}{i:Ev}{A:gS}{d:t_ Env}{s:On}{H:Hp}{E:XK},c+1<=k->Got P w K q a x k e .sh p->Room k (A.deeper (envOfC x (AN o) s.heap.objs.size f i))->Pb (IV B1 P w K q a N x (AN o) f i A d s H E).nox .sh (Bh o) (u p))
  (t:∀{p j g n Pd},(∀g n P,j≠0->W (j - 1) g n P->p g n P)->W j g n Pd->u p {nx:=λn _=>Kd.sh=.sh/\Pd .non n,rt:=Pd} n (g++UF (N.length - e.length) .no)) (v:∀j g n P,W j g n P->g.length=e.length) (l:e.length<=N.length:=by decide):
  ∀j,A3 P w K q a B1 (c+2+j) f fd e (Ck K .sh (W j) e.length)
 |0=>eA (k:=c+1) F S l (λ_ _ _ _ _ _ h=>r (Re _) (QM (W:=λ_ _ _=>False) F m b (λ_ _ _ h=>h.elim) (F.ok (k:=c) S (λy H Q E h=>h.1) (λi A d s H y Q E C h=>by obtain⟨_,_,_,_,_,_,_,_,_,B,_⟩:=h; exact B.elim))) h) (λ_ _ _ _ h=>t (λ_ _ _ z _=>absurd rfl z) h)
 |j+1=>eA (k:=c+2+j) F S l (λ_ _ _ _ _ _ h=>r (by omega) (QM F m b (v j) (RM c F S m b r t v l j)) h) (λ_ _ _ _ h=>t (j:=j+1) (λ_ _ _ _ h=>h) h)
section
variable {X:Cx}{κ:Kd}
def Pf(j i:Nat):AZ:=λc n b=>match b[i]? with
 |some (.ex a d e f)=>c.nx n (b.set j (.ex a d e f))
 |_=>False
theorem V9{i j:Nat}{x y:Str}{b p pos:Pos}(e:X.N.Nodup)(f:X.N[j]?=P3 x)(g:Loc X.env.scope x)(h:X.N[i]?=P3 y:=by rfl)(k:Te X.env.scope y:=by first|exact XV rfl|exact gx (XV rfl)|exact gx (gx rfl))(c:(y==("__debug__":Str))=s_:=by decide)
  (d:(y==("__classdict__":Str))=s_:=by decide) (l:swapsWith (.Name y p) (P3 (.Name x b)) pos.line X.env=pure s_:=by rfl)
  (m:X.fn x=r_\/X.env.scope.names.lookup x=P3 .local:=by first|exact .inl rfl|exact .inr rfl|assumption):DS X κ (.Assign [.Name x b] (.Name y p) pos) (Pf j i):=by
 refine⟨_,DA e f g (Ea h k c d) l m,λC M H n v Z A E R L w=>?_⟩;unfold Pf at w
 split at w
 ·rename_i a o q r c
  obtain⟨t,u⟩:=R.sl i _ c;exact⟨_,getD_some t,L.nx M H n _ _ (R.setS (s:=.ex a o q r) rfl (λ_ z=>by cases z) ⟨rfl,u⟩) w⟩
 ·exact w.elim
end
def Rw(K:Frag)(b:Str->u_ Ev)(a:Str):Prop:=∃C U,XC K a C U/\b a=P3 (.ref C)/\PySem.W.findIn K (.ref C) "__init__"=P3 (P3 (.builtin "ValueError.__init__"))
theorem QP{X:Cx}{i:Kd}{e:gB}{c:t_ gB}{pos a p:Pos}{b:Str}{k:Nat}{d:Dh}(G:Rw X.K X.mg b)(j:Room (k+1) X.A)(m:Gl X b)(o:ZH X (e::c) d)(f:(b==("__debug__":Str))=s_:=by decide)(q:starEach (e::c) X.env=(s_,eval e X.env)::starEach c X.env:=by rfl)(g:(backTo a (starEach c X.env)).any (·.1)=s_:=by rfl):dN X i (.Raise (P3 (.Call (.Name b p) (e::c) [] a)) q_ pos) (T8 b [] d):=by
 obtain⟨C,U,h,s,u⟩:=G;obtain⟨t,v,x⟩:=o;refine⟨_,P5 h u j.hd m s v f q g,λy M H n B Z N E R O r L l w=>?_⟩;refine x y M H n B Z _ _ r w λP H1 Q D F I J p=>?_
 rcases p with⟨_,S,p⟩|⟨z,_⟩
 ·exact⟨by rw[J.length,PySem.sizeLine_eq]; omega,l b C U [] [] [] q_ H1 D F I h (.inl ⟨rfl,rfl,rfl⟩) rfl rfl p⟩
 ·cases z
end Dp
namespace K60
open L2 Dp Nt
def top(i:Nat):gG:=PySem.Challenge.pw_thinnet_k60_least_by_all_choices.main.body.getD i (.Pass ⟨0,0,0,0⟩)
abbrev H_:gG:=top 10
abbrev GQ:gG:=top 11
abbrev GP:gG:=top 12
abbrev Pq:gG:=top 13
abbrev Hz:gG:=top 14
abbrev GS:gG:=top 15
abbrev E6:gG:=top 17
abbrev ER:gG:=top 18
abbrev ES:gG:=top 19
abbrev J8:gG:=top 20
abbrev Dk:gG:=top 22
abbrev E7:gG:=top 24
abbrev C5:gG:=top 25
abbrev GR:gG:=top 26
abbrev EQ:gG:=top 27
abbrev E8:gG:=top 30
abbrev IA:gG:=top 31
abbrev IB:gG:=top 32
abbrev Cu:gG:=top 33
abbrev FC:gG:=top 35
abbrev DR:gG:=top 36
abbrev EX:gG:=top 37
abbrev Dl:gG:=top 38
abbrev Dn:gG:=top 39
abbrev E9:gG:=top 40
abbrev GU:gG:=top 41
abbrev ET:gG:=top 42
abbrev GV:gG:=top 43
abbrev EY:gG:=top 44
abbrev E_:gG:=top 45
abbrev EW:gG:=top 46
abbrev C8:gG:=top 47
abbrev C7:gG:=top 48
abbrev FA:gG:=top 49
abbrev B_:gG:=top 50
abbrev Dq:gG:=top 51
abbrev Dr:gG:=top 52
abbrev EU:gG:=top 53
abbrev CM:gG:=top 54
abbrev Do:gG:=top 55
abbrev CL:gG:=top 56
abbrev EV:gG:=top 57
abbrev C6:gG:=top 58
abbrev J9:gG:=top 59
structure Txt (K:Frag) (mg:Str->Option Ev):Prop where
 Gai:mg "ValueError"=q_
 Gao:mg "abs"=q_
 Gar:mg "all"=q_
 Gam:mg "bool"=q_
 Gan:mg "dict"=q_
 Gas:mg "int"=q_
 Gaa:mg "isinstance"=q_
 Gab:mg "len"=q_
 Gaj:mg "list"=q_
 Gap:mg "max"=q_
 Gah:mg "min"=q_
 Gae:mg "range"=q_
 Gag:mg "repr"=q_
 Gak:mg "reversed"=q_
 Gaf:mg "sorted"=q_
 Gaq:mg "str"=q_
 Gad:mg "tuple"=q_
 Gal:mg "zip"=q_
 Gac:∃t,mg "MOST_TIES_OF_LEAST"=P3 (.int 10 t)
 x_NoPaper:∃C U,XC K "NoPaper" C U/\mg "NoPaper"=P3 (.ref C)
 x_NoLine:∃C U,XC K "NoLine" C U/\mg "NoLine"=P3 (.ref C)
 x_TooMany:∃C U,XC K "TooMany" C U/\mg "TooMany"=P3 (.ref C)
 x_Twice:∃C U,XC K "Twice" C U/\mg "Twice"=P3 (.ref C)
 x_NoPlace:∃C U,XC K "NoPlace" C U/\mg "NoPlace"=P3 (.ref C)
 x_NoTie:∃C U,XC K "NoTie" C U/\mg "NoTie"=P3 (.ref C)
 x_NoRow:∃C U,XC K "NoRow" C U/\mg "NoRow"=P3 (.ref C)
 x_ThinError:∃U,bE K U/\mg "ThinError"=P3 (.ref U)/\nsIn K mainGlobals "ThinError"=P3 (P3 (.ref U))
section
variable {P:Program}{w:World}{K:Frag}{mg:Str->u_ Value}{base:Heap}
theorem oM:Ac ["_law_feed_here","_law_many","_law_digit","_law_at","_law_cell","_law_first"] ["_law_feed_here","_law_many"] (AN DR):=⟨rfl,rfl,rfl,by decide +kernel,rfl,by decide +kernel,by decide +kernel⟩
theorem Xb{f:Db}{fd:gZ}(F:Fun K "_law_next" "_law_next" DR f fd)(ml:mg "len"=q_):A3 P w K mg base B1 1 f fd ["_law_feed_here","_law_many"] (Ck K .sh Ct 2):=by
 refine F.ok oM (λvs H Q E h=>h.1) (λa0 A a1 s H vs Q E hr h=>?_);obtain⟨hl,F0,U,V',M,n,ss,Pd,ra,⟨m,rfl,a8,T,hn,hP⟩,q⟩:=h;obtain⟨a9,fU,uV,vM,a2,W⟩:=ra;cases W with
 |cons r1 W=>
 cases W with
 |cons r2 W=>
 cases W;obtain⟨⟨d,c,tg⟩,e0,hF,ht⟩:=r1.1;cases(show tg=q_ from ht);cases e0;obtain⟨v2,e2,h2⟩:=r2.1;cases e2;cases(show _=V.int m from h2);obtain⟨_,a,r,u,J,L,hc,a3,a4,b0⟩:=(a2 ⟨d,c,q_⟩ hF).resolve_right fun⟨_,_,_,z,_⟩=>by cases z
 have N:∀(X r' z:Int) (y:Hp),(∀b o,H b=P3 o->b≠d->y b=P3 o)->y d=P3 (.lst [.ref c,.int X,.int r'])->0<=X->X<=a+1->0<=z->z<m->Q (.int z) y:=by
  intro X r' z y hk Y h0 h1 a5 a6;refine q (.int z) y (.int z) (n - 1) (λb o e=>?_) (λg hg=>?_) rfl (hP z a5 a6)
  ·by_cases v:b=d
   ·subst v
    exact⟨_,Y,λnu=>absurd (fU ⟨b,c,q_⟩ hF) nu,λvs z=>by rw[z,J]at e; cases e⟩
   ·exact⟨o,hk b o e v,λ_=>rfl,λ_ _=>rfl⟩
  ·have:g=⟨d,c,q_⟩:=ft (hg.symm.trans hF)
   subst this;exact .inl ⟨rfl,X,r',u,Y,L,⟨hc.1,hk c _ hc.2 L⟩,a3,h0,by omega⟩
 have hu:(A.deeper (envOfC "_law_next" (AN DR) s.heap.objs.size f a0)).units<cLine:=hr.units0;have l:∀{y:Hp}{xs:t_ V},y d=P3 (.lst xs)->SqL K y d xs:=λh=>SqL.of h;have R:∀z:Int,0<=z % m/\z % m<m:=λz=>⟨nI _ (by omega),mQ _ (by omega)⟩
 refine⟨_,Az (Ln (Cv Yx (BS ix_list (pv 0) A0 (λ_ _=>rfl)) A0 (An _))
   (Az (DA (i:=2) oM.nd rfl (XV rfl) (Bj DC (BS ix_list (pv 0) A0 (λ_ _=>rfl)) (pv 1)))
   (Az (FG (Bj G6 (BS ix_list (pv 0) A0 (λ_ _=>rfl)) (pv 1)) (GX (pv 0) A0 set_list))
   (BQ (FE (pv 2))))) G4)
  (Az (DA (i:=3) oM.nd rfl (XV rfl) (BS ix_list (pv 0) A0 (λ_ _=>rfl)))
  (Az (FG (Bj op_add (pv 3) A0) (GX (pv 0) A0 set_list))
  (Az (DA (i:=4) oM.nd rfl (XV rfl) (OM (Cv (Sa hu) (BS ix_list (pv 0) A0 (λ_ _=>rfl)) (IF A9) (An _))
   (BS ix_list (BS ix_list (pv 0) A0 (λ_ _=>rfl)) (Bj DC (pv 3) (Cb Ap rfl ml PySem.boot_len (Aq (BS ix_list (pv 0) A0 (λ_ _=>rfl)) A9))) (λ_ _=>rfl)) A0))
  (Az (Ln (PW.pt (P2 (Cv Yy (pv 4) (Bj P_ A0 A0) (An _)) (Mf (Cv op_lt (pv 3) (Cb Ap rfl ml PySem.boot_len (Aq (BS ix_list (pv 0) A0 (λ_ _=>rfl)) A9)) (An _)))))
   (Az (FG (Bj G6 (pv 4) (pv 1)) (GX (pv 0) A0 set_list))
   (BQ (FE (Bj DC (pv 4) (pv 1))))) G4)
  (Az (DA (i:=5) oM.nd rfl (XV rfl) (Bj DC (Bj op_mul (Bj op_add (Bj op_add (Bj op_add (Bj DC (pv 4) A0) (Bj op_mul (Bj op_mul A0 (pv 3)) (pv 3))) (Bj op_mul A0 (pv 3))) A0) A0) A0))
  (BQ (FE (Bj DC (Bj G6 (Bj DC (Bj op_mul (Bj op_add (pv 5) (Bj op_mul A0 (pv 3))) A0) A0) A0) (pv 1))))))))),?_⟩
 refine⟨_,rfl,d,_,2,_,rfl,rfl,l J,rfl,_,_,rfl,rfl,_,rfl,?_⟩;refine Cp (λc1=>?_) (λc1=>?_)
 ·refine⟨_,rfl,d,_,2,_,rfl,rfl,l J,rfl,_,rfl,_,_,rfl,rfl,(by show(0:Int)<m; omega),?_⟩
  refine⟨_,rfl,d,_,2,_,rfl,rfl,l J,rfl,_,rfl,_,_,rfl,rfl,⟨(by show(0:Int)<m; omega),T⟩,_,rfl,d,_,2,2,rfl,rfl,J,rfl,?_⟩;refine⟨_,rfl,?_⟩;exact N a _ _ _ (λb o e v=>by rw[AM v]; exact e) AR a4 (by omega) (R _).1 (R _).2
 ·-- at=feed[1]; feed[1]=at+1
  refine⟨_,rfl,d,_,1,_,rfl,rfl,l J,rfl,?_⟩;refine⟨_,rfl,_,_,rfl,rfl,_,rfl,d,_,1,1,rfl,rfl,J,rfl,?_⟩;generalize Z:A2 H d (.lst ([V.ref c,V.int a,V.int r].set 1 (V.int (a+1))))=H1;have f1:H1 d=P3 (.lst [.ref c,.int (a+1),.int r]):=by rw[←Z]; exact AR
  have k1:∀b o,H b=P3 o->b≠d->H1 b=P3 o:=λb o e v=>by rw[←Z,AM v]; exact e
  have B:H1 c=P3 (.lst (u.map V.int)):=k1 c _ hc.2 L
  have D:∀(z:Int) (S:Hp),(∀b o,H1 b=P3 o->S b=P3 o)->
    (Pj (bQ (bX (US (DP (Ij λi j=>V.bl (decide (j<=i))) (BN 4) (DP (rI Wc λi j=>V.int (i ^ j.toNat)) (tC (V.int 10)) (tC (V.int 18))))) (US (DP (Ij λi j=>V.bl (decide (i<j))) (BN 3) (dA (λxs H Q=>∃x n,xs=[x]/\az K x H n/\Q (V.int n) H) (Nw (DP (SJ K) (BN 0) (tC (V.int 0))) R0))))) (Pj (Nx (DP (rI Ti λi j=>V.int (i / j)) (BN 4) (BN 1)) (aI (BN 0) (tC (V.int 2)) Ur)) (W0 (DP (rI (λ_ j=>0<j) λi j=>V.int (i % j)) (BN 4) (BN 1)))) Yh) (Pj (Nx (DP (rI (λ_ j=>0<j) λi j=>V.int (i % j)) (DP (rI CMul λi j=>V.int (i*j)) (DP (Ij λi j=>V.int (i+j)) (DP (Ij λi j=>V.int (i+j)) (DP (Ij λi j=>V.int (i+j)) (DP (rI (λ_ j=>0<j) λi j=>V.int (i % j)) (BN 4) (tC (V.int 1000003))) (DP (rI CMul λi j=>V.int (i*j)) (DP (rI CMul λi j=>V.int (i*j)) (tC (V.int 41)) (BN 3)) (BN 3))) (DP (rI CMul λi j=>V.int (i*j)) (tC (V.int 17)) (BN 3))) (tC (V.int 3))) (tC (V.int 51749))) (tC (V.int 999917))) (Il 5)) (W0 (DP (rI (λ_ j=>0<j) λi j=>V.int (i % j)) (DP (rI Ti λi j=>V.int (i / j)) (DP (rI (λ_ j=>0<j) λi j=>V.int (i % j)) (DP (rI CMul λi j=>V.int (i*j)) (DP (Ij λi j=>V.int (i+j)) (BN 5) (DP (rI CMul λi j=>V.int (i*j)) (tC (V.int 8111)) (BN 3))) (tC (V.int 39373))) (tC (V.int 2097143))) (tC (V.int 3))) (BN 1)))))
     {nx:=λ_ y=>Q .non y,rt:=Q} [P3 (.ref d),P3 (.int m),q_,P3 (.int a),P3 (.int z),q_] S:=by
   intro z S k2;have f2:=k2 _ _ f1;have c2:=k2 _ _ B
   have t:∀H3:Hp,H3=S->(Pj (Nx (DP (rI (λ_ j=>0<j) λi j=>V.int (i % j)) (DP (rI CMul λi j=>V.int (i*j)) (DP (Ij λi j=>V.int (i+j)) (DP (Ij λi j=>V.int (i+j)) (DP (Ij λi j=>V.int (i+j)) (DP (rI (λ_ j=>0<j) λi j=>V.int (i % j)) (BN 4) (tC (V.int 1000003))) (DP (rI CMul λi j=>V.int (i*j)) (DP (rI CMul λi j=>V.int (i*j)) (tC (V.int 41)) (BN 3)) (BN 3))) (DP (rI CMul λi j=>V.int (i*j)) (tC (V.int 17)) (BN 3))) (tC (V.int 3))) (tC (V.int 51749))) (tC (V.int 999917))) (Il 5)) (W0 (DP (rI (λ_ j=>0<j) λi j=>V.int (i % j)) (DP (rI Ti λi j=>V.int (i / j)) (DP (rI (λ_ j=>0<j) λi j=>V.int (i % j)) (DP (rI CMul λi j=>V.int (i*j)) (DP (Ij λi j=>V.int (i+j)) (BN 5) (DP (rI CMul λi j=>V.int (i*j)) (tC (V.int 8111)) (BN 3))) (tC (V.int 39373))) (tC (V.int 2097143))) (tC (V.int 3))) (BN 1))))
     {nx:=λ_ y=>Q .non y,rt:=Q} [P3 (.ref d),P3 (.int m),q_,P3 (.int a),P3 (.int z),q_] H3:=by
    intro H3 e3;subst e3;have v:CMul (41*a) a:=.inr ⟨by omega,by omega⟩;refine⟨_,rfl,_,_,rfl,rfl,(by show(0:Int)<1000003; decide),_,rfl,_,_,rfl,rfl,.inl ⟨by decide,by decide⟩,_,rfl,_,_,rfl,rfl,v,_,_,rfl,rfl,_,rfl,_,_,rfl,rfl,.inl ⟨by decide,by decide⟩,_,_,rfl,rfl,_,_,rfl,rfl,_,_,rfl,rfl,.inr ⟨by decide,by decide⟩,_,_,rfl,rfl,(by show(0:Int)<999917; decide),?_⟩;refine⟨_,rfl,_,rfl,_,_,rfl,rfl,.inl ⟨by decide,by decide⟩,_,_,rfl,rfl,_,_,rfl,rfl,.inr ⟨by decide,by decide⟩,_,_,rfl,rfl,(by show(0:Int)<2097143; decide),_,_,rfl,rfl,⟨by decide,by decide⟩,_,rfl,_,_,rfl,rfl,(by show(0:Int)<m; omega),?_⟩;exact N (a+1) r _ _ (λb o e v=>k2 b o (k1 b o e v)) f2 (by omega) (by omega) (R _).1 (R _).2
   refine⟨_,rfl,_,_,rfl,rfl,⟨by decide,by decide,by decide⟩,_,_,rfl,rfl,_,rfl,?_⟩;refine Cp (λc3=>?_) (λc3=>?_)
   ·refine⟨_,rfl,_,rfl,d,_,0,_,rfl,rfl,l f2,rfl,_,_,rfl,.inl ⟨_,SqL.of c2,rfl⟩,_,_,rfl,rfl,_,rfl,?_⟩
    refine Cp (λc4=>?_) (λc4=>t S rfl);refine⟨_,rfl,_,rfl,_,_,rfl,rfl,⟨(by show(0:Int)<m; omega),T⟩,_,rfl,d,_,2,2,rfl,rfl,f2,rfl,?_⟩;refine⟨_,rfl,_,rfl,_,_,rfl,rfl,(by show(0:Int)<m; omega),?_⟩;exact N (a+1) _ _ _ (λb o e v=>by rw[AM v]; exact k2 b o (k1 b o e v)) AR (by omega) (by omega) (R _).1 (R _).2
   ·refine Cp (λc4=>absurd c4 (by simp)) (λ_=>t S rfl)
  refine⟨_,rfl,d,_,0,_,rfl,rfl,l f1,rfl,(by show 0<=sizeLine; decide),λp hp=>?_⟩;have O:∀b o,H1 b=P3 o->A2 H1 p (.lst []) b=P3 o:=λb o e=>by rw[AM (Ao e hp)]; exact e
  refine⟨c,p,_,rfl,rfl,SqL.of (O _ _ B),SqL.of AR,_,rfl,?_⟩;cases u with
  |nil=>exact CH (D 0 _ O)
  | cons G C=>
   refine Ef ?_;have a7:(((G::C).map V.int).length:Int)=(C.length:Int)+1:=by simp
   have I:(0:Int)<(((G::C).map V.int).length:Int):=by omega
   obtain⟨z,hz⟩:∃z,atI ((G::C).map V.int) (a % (((G::C).map V.int).length:Int))=P3 (.int z):=by
    have h1:=nI a (show(((G::C).map V.int).length:Int)≠0 by omega);have h2:=mQ a I;generalize a % (((G::C).map V.int).length:Int)=j at h1 h2;obtain⟨k,rfl⟩:∃k:Nat,j=(k:Int):=⟨j.toNat,by omega⟩;have hk:k<(G::C).length:=by rw[Go]at h2; omega
    refine⟨(G::C)[k],AK ?_⟩;rw[T0,FM hk];rfl
   refine⟨_,rfl,d,_,0,_,rfl,rfl,l (O _ _ f1),rfl,_,rfl,_,rfl,d,_,0,_,rfl,rfl,l (O _ _ f1),rfl,_,_,rfl,.inl ⟨_,SqL.of (O _ _ B),rfl⟩,_,_,rfl,rfl,I,c,_,_,_,rfl,rfl,SqL.of (O _ _ B),hz,?_⟩;exact D z _ O
end
end K60
namespace Nt
open L2 Dp
abbrev EE(a:D->Nat->Prop):E2:={nx:=λn _=>Kd.sh=.sh/\a .non n,rt:=a}
theorem BK{b:BW}{k:DW}{P:t_ D->Nat->Prop}(g:D->D)(I:t_ Slot->Prop):∀(e a:t_ D) (n:Nat) (c:t_ Slot),
  (∀d∈e,∀(c:t_ Slot) (n:Nat) (l:D->Nat->t_ Slot->Prop),I c->(∀i,I i->l (g d) n i)->b d c λm=>k n m λy p=>l y p m)->I c->P (a++e.map g) n->GD b C4 k P e a n c
 |[],a,n,c,_,_,h=>by rw[lm,gk]at h; exact h
 |d::e,a,n,c,o,j,h=>o d Sc c n _ j λi f=>
  BK g I e _ n _ (λd q=>o d (Rs _ q)) f (by simp_all)
section
theorem aX{b:Type}(a:t_ b):Dp.cutD a (P3 1) q_=a.drop 1:=by
 unfold Dp.cutD;rw[HT.sIx_none,show 1=((1:Nat):Int)from rfl,HT.sIx_nat]
 by_cases h:1<=a.length
 ·rw[Nat.min_eq_left h]
  exact k_ (by simp_all)
 grind
end
def strsOf(a:t_ D):t_ Str:=(Qg a).getD []
theorem ah{a:Type}(p:a->Bool)(l:t_ a):(l.map p).all id=l.all p:=by simp_all
theorem Nz{x:Str}(h:∀c∈cs x,c<1114112):PyData.strOk x=r_:=by
 unfold PyData.strOk;rw[←Array.all_toList,jj];intro c a;exact decide_eq_true (h c a)
theorem HB{x:Str}(h:Vb x):CG (.str x):=⟨rfl,Nz λc a=>by have:=h.2.2 c a; omega,fo _⟩
theorem Og{a:t_ Str}(h:∀p∈a,Vb p):Co (a.map .str)=r_/\jD (Bi (a.map .str))=r_/\iZ (Bi (a.map .str))=0:=by
 induction a with
 |nil=>exact⟨rfl,rfl,rfl⟩
 | cons p r b=>
  obtain⟨e,c,f⟩:=b λq d=>h q (Rs _ d);refine⟨by assumption,?_,?_⟩
  ·rw[f9,Bi,jD,c,Bool.and_true]
   exact(HB (h p Sc)).2.1
  assumption
theorem IL{ps:t_ Str}(h:∀p∈ps,Vb p):CG (.tup (ps.map .str)):=by
 obtain⟨a,b,c⟩:=Og h;refine⟨a,b,?_⟩;show iZ _+1<=100
 simp_all
theorem Jd(x y:Str):Fz (.str x) (.str y)=(x==y):=rfl
theorem Jx(a:t_ Str):strsOf (a.map .str)=a:=by unfold strsOf; rw[PP]; rfl
mutual
def IR(B:Nat):D->Prop
 |.int i=>i.natAbs<=B
 |.str x=>∀c∈cs x,c<1114112
 |.tup ds=>Kt B ds
 |.lst ds=>Kt B ds
 |.dic _ _=>False
 |.fdi _ _=>False
 |.dit _ _=>False
 |_=>True
def Kt(B:Nat):t_ D->Prop
 |[]=>True
 |d::ds=>IR B d/\Kt B ds
end
mutual
def Tj:D->Nat
 |.int _=>200
 |.str x=>x.length
 |.tup ds=>Pa ds
 |.lst ds=>Pa ds
 |_=>0
def Pa:t_ D->Nat
 |[]=>0
 |d::ds=>Tj d+1+Pa ds
end
mutual
def TB:D->Nat
 |.tup ds=>JT ds+1
 |.lst ds=>JT ds+1
 |_=>0
def JT:t_ D->Nat
 |[]=>0
 |d::ds=>max (TB d) (JT ds)
end
theorem fines_iff{B:Nat}:∀{b:t_ D},Kt B b↔∀d∈b,IR B d
 |[]=>⟨(λ_ d h=>by cases h),λ_=>trivial⟩
 | d::b=>by
  have c:=@fines_iff B b;constructor
  ·rintro⟨f,g⟩ e a
   rcases fi.mp a with rfl|a
   ·exact f
   ·exact c.mp g e a
  ·exact λh=>⟨h d Sc,c.mpr λe a=>h e (Rs _ a)⟩
theorem dps_le{k:Nat}:∀{a:t_ D},JT a<=k↔∀d∈a,TB d<=k
 |[]=>⟨(λ_ d h=>by cases h),λ_=>fo _⟩
 | d::a=>by
  have c:=@dps_le k a;show max (TB d) (JT a)<=k↔_;rw[Nat.max_le,c];constructor
  ·rintro⟨f,g⟩ e b
   rcases fi.mp b with rfl|b
   ·exact f
   ·exact g e b
  ·exact λh=>⟨h d Sc,λe b=>h e (Rs _ b)⟩
theorem Qr:∀(a:t_ D),a.length<=Pa a
 |[]=>fo _
 |d::a=>by
  have:=Qr a
  show a.length+1<=Tj d+1+Pa a;omega
mutual
theorem Jc{B:Nat}(hB:B<10 ^ 45):∀{d:D},IR B d->Er d=r_/\(toPy d).showable=r_/\(toPy d).canLay0=r_/\(toPy d).depth=TB d/\(toPy d).leavesShort 60=r_/\(toPy d).weight<=Tj d
 |.non,_=>⟨rfl,rfl,rfl,rfl,rfl,Re _⟩
 |.bl b,_=>⟨rfl,rfl,rfl,rfl,rfl,Re _⟩
 | .int i,h=>by
  have h':i.natAbs<=B:=h;have hlt:i.natAbs<10 ^ 45:=kO h' hB;have h2:i.natAbs<2 ^ 150:=mw hlt (by decide)
  have hl:i.natAbs.log2<150:=by
   by_cases h0:i.natAbs=0
   ·rw[h0]; decide
   ·exact(Nat.log2_lt h0).mpr h2
  refine⟨rfl,?_,rfl,rfl,?_,?_⟩
  ·show decide (i.natAbs.log2<1920)=r_
   exact decide_eq_true (by omega)
  ·show decide ((PyData.shown (.int i)).length<=60)=r_
   refine decide_eq_true ?_
   have:=int_text_length_le10 (a:=i) (k:=45) (by decide) hlt
   show(ig (toString i)).length<=60;rw[PySem.ofString_length];omega
  ·show(if i==0 then 0 else i.natAbs.log2+1)<=200
   split <;>omega
 |.str x,h=>by
  have h':∀c∈cs x,c<1114112:=h;refine⟨rfl,rfl,Nz h',rfl,?_,Re _⟩;show(x.cps.toList.all λc=>decide (c<16 ^ 8))=r_;rw[jj];intro c hc;exact decide_eq_true (mw (h' c hc) (by decide))
 |.tup ds,h=>by
  obtain⟨h1,h2,h3,h4,h5,h6⟩:=Ks hB (ds:=ds) h;refine⟨h1,h2,h3,?_,h5,h6⟩;show iZ (Bi ds)+1=JT ds+1;rw[h4]
 |.lst ds,h=>by
  obtain⟨h1,h2,h3,h4,h5,h6⟩:=Ks hB (ds:=ds) h;refine⟨h1,h2,h3,?_,h5,h6⟩;show iZ (Bi ds)+1=JT ds+1;rw[h4]
 |.dic ks ds,h=>(show False from h).elim
 |.fdi ks ds,h=>(show False from h).elim
 |.dit ks ds,h=>(show False from h).elim
theorem Ks{B:Nat}(hB:B<10 ^ 45):∀{ds:t_ D},Kt B ds->Co ds=r_/\PyData.showableAll (Bi ds)=r_/\jD (Bi ds)=r_/\iZ (Bi ds)=JT ds/\nY 60 (Bi ds)=r_/\PyData.weightAll (Bi ds)<=Pa ds
 |[],_=>⟨rfl,rfl,rfl,rfl,rfl,Re _⟩
 | d::ds,h=>by
  obtain⟨h1,h2,h3,h4,h5,h6⟩:=Jc hB (d:=d) h.1;obtain⟨g1,g2,g3,g4,g5,g6⟩:=Ks hB (ds:=ds) h.2;refine⟨?_,?_,?_,?_,?_,?_⟩
  ·show(Er d&&Co ds)=r_
   rw[h1,g1]; rfl
  ·show((toPy d).showable&&PyData.showableAll (Bi ds))=r_
   rw[h2,g2]; rfl
  ·show((toPy d).canLay0&&jD (Bi ds))=r_
   rw[h3,g3]; rfl
  ·show max (toPy d).depth (iZ (Bi ds))=max (TB d) (JT ds)
   rw[h4,g4]
  ·show((toPy d).leavesShort 60&&nY 60 (Bi ds))=r_
   rw[h5,g5]; rfl
  ·show(toPy d).weight+1+PyData.weightAll (Bi ds)<=Tj d+1+Pa ds
   omega
end
theorem UX{B:Nat}{d:D}(a:B<10 ^ 45)(h:IR B d)(b:TB d<=100)(i:Tj d<=270000):Gz d:=by
 obtain⟨c,e,j,f,g,k⟩:=Jc a h;refine⟨c,e,by rw[f]; exact b,?_⟩
 have:=PyData.shown_le 60 (by decide) (toPy d) g
 rw[PySem.sizeLine_eq]
 have:62*(toPy d).weight<=62*270000:=Nat.mul_le_mul_left _ (by omega)
 omega
theorem Qt{B:Nat}{d:D}(a:B<10 ^ 45)(h:IR B d)(b:TB d<=100)(c:Tj d<=200000):Gz d:=UX a h b (by omega)
theorem Gc{B:Nat}{d:D}(a:B<10 ^ 45)(h:IR B d)(b:TB d<=100):CG d:=by
 obtain⟨c,g,e,f,i,j⟩:=Jc a h;exact⟨c,e,by rw[f]; exact b⟩
def item(d:D):Prop:=IR 1000001 d/\Tj d<=450/\TB d<=1
theorem MS{k:Nat}:∀{a:t_ D},(∀d∈a,Tj d+1<=k)->Pa a<=k*a.length
 |[],_=>fo _
 |d::a,h=>by
  have c:=MS λe b=>h e (Rs _ b);show Tj d+1+Pa a<=k*(a.length+1)
  grind
theorem FO{B:Nat}{a:t_ D}(h:∀d∈a,IR B d):IR B (.tup a):=fines_iff.mpr h
theorem item_str{x:Str}(b:x.length<=8)(a:∀c∈cs x,c<1114112):item (.str x):=⟨a,by show x.length<=450; omega,fo _⟩
theorem Fx{x:Str}(h:Vb x):item (.str x):=item_str h.2.1 λc a=>by have:=h.2.2 c a; omega
theorem VY{a b:Str}{l:Int}(e:item (.str a))(f:item (.str b))(h:a.length<=8)(i:b.length<=8)(g:l.natAbs<=1000001):item (.tup [.str a,.str b,.int l]):=by
 refine⟨FO λd c=>?_,?_,?_⟩
 ·simp at c
  rcases c with rfl|rfl|rfl
  ·exact e.1
  ·exact f.1
  ·exact g
 ·show a.length+1+(b.length+1+(200+1+0))<=450
  omega
 ·show max 0 (max 0 (max 0 0))+1<=1
  decide
theorem FL{N:Net}(ok:N.Ok):∀d∈N.ts.map Ak,item d:=λd c=>by
 obtain⟨t,e,rfl⟩:=Uf.mp c;obtain⟨f,g,_,h,i⟩:=ok.tin t e;have a:=ok.names _ f;have b:=ok.names _ g;exact VY (Fx a) (Fx b) a.2.1 b.2.1 (by omega)
theorem Mz{N:Net}(ok:N.Ok):∀d∈N.ps.map D.str,item d:=λd a=>by
 obtain⟨x,b,rfl⟩:=Uf.mp a;exact Fx (ok.names x b)
theorem UM{b c:t_ D}(e:∀d∈b,item d)(f:∀d∈c,item d)(g:b.length<=26)(h:c.length<=80):IR 1000001 (.tup [.tup b,.tup c])/\Tj (.tup [.tup b,.tup c])<=48000/\TB (.tup [.tup b,.tup c])<=3:=by
 have i:=MS λd a=>jg (e d a).2.1;have j:=MS λd a=>jg (f d a).2.1;have k:=dps_le.mpr λd a=>(e d a).2.2;have l:=dps_le.mpr λd a=>(f d a).2.2;refine⟨FO λd a=>?_,?_,?_⟩
 ·simp at a
  rcases a with rfl|rfl
  ·exact FO λd a=>(e d a).1
  ·exact FO λd a=>(f d a).1
 ·show Pa b+1+(Pa c+1+0)<=48000
  omega
 ·show max (JT b+1) (max (JT c+1) 0)+1<=3
  omega
theorem B5(x:Str):¬cs x<cs x:=ii _
theorem z1:1<=sizeLine:=by decide
theorem z2:2<=sizeLine:=by decide
theorem z3:3<=sizeLine:=by decide
theorem z0:0<=sizeLine:=fo _
theorem fQ:Wc 10 6:=⟨by decide,by decide,by decide⟩
def bM(s t:Au):Decidable (s=t):=
 if h:s.a=t.a/\s.b=t.b/\s.len=t.len then .isTrue (by obtain⟨a,b,l⟩:=s; obtain⟨g,i,j⟩:=t; obtain⟨c,d,f⟩:=h; simp only at c d f; subst c d f; rfl)else .isFalse λe=>h (by rw[e]; exact⟨rfl,rfl,rfl⟩)
instance:DecidableEq Au:=bM
abbrev EF(a:D->Nat->Prop):E2:={nx:=λn _=>Kd.fr=.sh/\a .non n,rt:=a}
def N8(t:Au):t_ Key:=[.inl t.len,.inr t.a,.inr t.b]
def Gj(a:t_ Au):Prop:=a.Pairwise λs t=>Bn (N8 t) (N8 s)=s_
def Yj:D->D
 |.tup [x,y,z]=>.tup [z,x,y]
 |d=>d
def d6(x:Str×Int):D:=.tup [.str x.1,.int x.2]
abbrev MK:W2:=λa n P=>∃x y z:D,a=[.sh (.tup [x,y,z])]/\P (.tup [z,x,y]) n
def Gp:W2:=λc n P=>∃(d:D) (b:t_ Au),c=[.sh d]/\G0 d=P3 (b.map Ak)/\b.length<64/\∀a:t_ Au,a.Perm b->Gj a->P (.lst (a.map Ak)) n
def Ta:AZ:=(As (BO (AE (Aa BA (AB 0) (wC (D.int 2))) (AE (Aa BA (AB 0) (wC (D.int 0))) (AE (Aa BA (AB 0) (wC (D.int 1))) AV)))))
def K4:AZ:=(As (T5 MK (AB 0)))
theorem Ud{s t:Au}(h:N8 s=N8 t):s=t:=by
 obtain⟨a,b,l⟩:=s;obtain⟨c,d,e⟩:=t;unfold N8 at h
 grind
theorem Mh{g:Type}{R:g->g->Prop}(c:∀a b,R a b->R b a->a=b):∀{d f:t_ g},d.Perm f->d.Pairwise R->f.Pairwise R->d=f
 |[],f,p,_,_=>(List.nil_perm.mp p).symm
 |a::d,[],p,_,_=>absurd (List.perm_nil.mp p) (jl _ _)
 | a::d,b::f,p,i,j=>by
  have e:a=b:=by
   rcases fi.mp (p.mem_iff.mp Sc)with e|h
   ·exact e
   ·rcases fi.mp (p.mem_iff.mpr (Sc))with e|k
    ·exact e.symm
    ·exact c a b ((gq.mp i).1 b k) ((gq.mp j).1 a h)
  subst e;rw[Mh c ((List.perm_cons a).mp p) (gq.mp i).2 (gq.mp j).2]
theorem OF{c d:t_ Au}(p:c.Perm d)(e:Gj c)(f:Gj d):c=d:=Mh (λa b x y=>Ud (DF _ _ y x)) p e f
theorem Yg{b:Type}{f:b->D}{g:D->b}(e:∀x,g (f x)=x){c:t_ D}{d:t_ b}(h:c.Perm (d.map f)):∃a:t_ b,a.Perm d/\c=a.map f:=by
 refine⟨c.map g,?_,?_⟩
 ·have:=h.map g
  rw[gh,show g∘f=id from funext e,lA]at this;exact this
 ·rw[gh]
  have:∀x∈c,(f∘g) x=x:=λx i=>by
   obtain⟨t,_,rfl⟩:=Uf.mp (h.mem_iff.mp i)
   grind
  rw[h_ this,List.map_id']
def cU:D->Au
 |.tup [.str a,.str b,.int l]=>⟨a,b,l⟩
 |_=>⟨"","",0⟩
section
variable {ss:t_ Slot}{n:Nat}{Pd:D->Nat->Prop}
theorem KA(h:MK ss n Pd):Ta (EE Pd) n (ss++UF 0 .no):=by
 obtain⟨x,y,z,rfl,p⟩:=h;exact⟨_,AK rfl,_,AK rfl,_,AK rfl,z3,p⟩
theorem VF{a:t_ Au}(h:JD (λx=>CP (Yj x)) (a.map Ak)):Gj a:=by
 unfold JD at h;rw[kr]at h;exact h.imp λ{s t} z=>z _ _ rfl rfl
theorem Ii(h:Gp ss n Pd):K4 (EF Pd) n (ss++UF 0 .no):=by
 obtain⟨d,e,rfl,f,b,p⟩:=h;unfold K4;refine⟨e.map Ak,Yj,f,by rw[Go]; exact b,λx a Q i=>?_,⟨λx a=>?_,λx a y j k l m o=>?_⟩,λq r s=>?_⟩
 ·obtain⟨t,_,rfl⟩:=Uf.mp a
  exact⟨_,_,_,rfl,i⟩
 ·obtain⟨t,_,rfl⟩:=Uf.mp a
  exact⟨N8 t,rfl,jl _ _⟩
 ·obtain⟨t,_,rfl⟩:=Uf.mp a
  obtain⟨u,_,rfl⟩:=Uf.mp j;cases(show P3 (N8 t)=P3 k from m);cases(show P3 (N8 u)=P3 l from o);rfl
 ·obtain⟨c,v,rfl⟩:=Yg (g:=cU) (λ_=>rfl) r
  exact p c v (VF s)
theorem Mu{N:Net}(ok:N.Ok){x:Str}{p:Str×Int}(h:p∈D6 N.ts x):p.1∈N.ps/\1<=p.2/\p.2<=1000000/\∃t∈N.ts,t.len=p.2/\((t.a=x/\t.b=p.1)\/(t.b=x/\t.a=p.1)):=by
 obtain⟨t,c,h⟩:=iu.mp h;obtain⟨g,i,j,d,f⟩:=ok.tin t c
 rcases gA.mp h with h|h
 ·split at h
  ·rename_i e
   rw[TM.mp h];exact⟨i,d,f,t,c,rfl,.inl ⟨e,rfl⟩⟩
  ·cases h
 ·split at h
  ·rename_i e
   rw[TM.mp h];exact⟨g,d,f,t,c,rfl,.inr ⟨e,rfl⟩⟩
  ·cases h
theorem RQ(s t:Au):Fz (Ak s) (Ak t)=r_↔s=t:=by
 obtain⟨a,b,l⟩:=s;obtain⟨c,d,e⟩:=t;show(a==c&&(b==d&&(l==e&&r_)))=r_↔_
 simp_all
theorem Lx{a:t_ D}(h:∀d∈a,item d):CG (.lst a):=by
 have c:=dps_le.mpr λd b=>(h d b).2.2;exact Gc (by decide) (fines_iff.mpr λd b=>(h d b).1) (by show JT a+1<=100; omega)
theorem L7{a b:Type}(f:a->b):∀(l:t_ a) (i:Nat),(l.map f).eraseIdx i=(l.eraseIdx i).map f
 |[],i=>rfl
 |x::l,0=>rfl
 |x::l,i+1=>by
  show f x::(l.map f).eraseIdx i=f x::(l.eraseIdx i).map f;rw[L7 f l i]
theorem X2{N:Net}(ok:N.Ok){x o:Str}{s t:Au}(j:s∈N.ts)(k:t∈N.ts)(e:Bo s t)(l:(s.a=x/\s.b=o)\/(s.b=x/\s.a=o))(m:(t.a=x/\t.b=o)\/(t.b=x/\t.a=o)):False:=by
 have i:=(ok.tin s j).2.2.1;have lt:=(ok.tin t k).2.2.1;have c:∀a,¬cs a<cs a:=λa=>ii _
 rcases l with⟨d,f⟩|⟨d,f⟩ <;>rcases m with⟨g,h⟩|⟨g,h⟩ <;>rw[d,f]at i <;>rw[g,h]at lt
 ·rcases e with e|⟨_,e⟩
  ·rw[d,g]at e; exact c _ e
  grind
 ·grind
 ·exact c _ (oA i lt)
 ·rcases e with e|⟨_,e⟩
  ·rw[f,h]at e; exact c _ e
  grind
theorem Sj{N:Net}(ok:N.Ok)(x:Str):((D6 N.ts x).map (·.1)).Nodup:=by
 have m:∀c:t_ Au,(∀t∈c,t∈N.ts)->c.Pairwise Bo->((D6 c x).map (·.1)).Nodup:=by
  intro c
  induction c with
  |nil=>intro _ _; exact gW
  | cons t c o=>
   intro d l;have k:=o (λs i=>d s (Rs _ i)) (gq.mp l).2;have lt:=(ok.tin t (d t Sc)).2.2.1
   have f:∀y,((t.a=x/\t.b=y)\/(t.b=x/\t.a=y))->y∉(D6 c x).map (·.1):=λy p q=>by
    obtain⟨s,i,h⟩:=Mt q;exact X2 ok (d t Sc) (d s (Rs _ i)) ((gq.mp l).1 s i) p h
   have e:D6 (t::c) x=((if t.a=x then [(t.b,t.len)]else [])++(if t.b=x then [(t.a,t.len)]else []))++D6 c x:=by
    unfold D6;rw[List.flatMap_cons]
   rw[e]
   by_cases j:t.a=x
   ·have g:¬t.b=x:=λz=>by rw[j,z]at lt; exact ii _ lt
    rw[if_pos j,if_neg g,gk,jS,f9,gE];exact⟨f _ (.inl ⟨j,rfl⟩),k⟩
   ·rw[if_neg j,gL]
    by_cases g:t.b=x
    ·rw[if_pos g,jS,f9,gE]
     exact⟨f _ (.inr ⟨g,rfl⟩),k⟩
    ·rw[if_neg g,gL]
     exact k
 exact m N.ts (λ_ h=>h) ok.trise
end
def JE(t:Au):t_ Key:=[.inr t.a,.inr t.b,.inl t.len]
def PD(a:t_ Au):Prop:=a.Pairwise λs t=>Bn (JE t) (JE s)=s_
theorem La(s:Au):¬Bo s s:=by
 rintro(h|⟨_,h⟩) <;>exact B5 _ h
theorem Wv{s t:Au}(h:Bo s t):Bn (JE s) (JE t)=r_:=by
 show(if gl _=.inr _ then(if gl _=.inr _ then(if lL _=.inl _ then s_ else decide _)else decide (cs _<cs _))else decide (cs _<cs _))=r_
 rcases h with h|⟨h,c⟩
 ·rw[if_neg (λe=>B5 s.a (by simp_all)),decide_eq_true h]
 ·rw[if_pos (by rw[h]),if_neg (λe=>B5 s.b (by grind)),decide_eq_true c]
theorem Bt{a:t_ Au}(h:a.Pairwise Bo):a.Nodup:=h.imp λ{s t} h e=>by rw[e]at h; exact La _ h
theorem sub_len{l m:t_ Au}(a:l.Nodup)(b:m.Nodup)(h:∀t∈l,t∈m):l.length<=m.length:=by
 have:l.Perm (m.filter λt=>decide (t∈l)):=(mX a (b.filter _)).mpr λt=>by
  simp_all
 rw[this.length_eq];exact jT _ _
theorem Zd{N:Net}(ok:N.Ok){a:t_ Au}(h:∀t∈a,t∈N.ts)(b:a.Pairwise Bo):Net.Ok ⟨N.ps,a⟩:=⟨ok.names,ok.rise,λt c=>ok.tin t (h t c),b⟩
end Nt
namespace L2
open PySem.W
end L2
namespace Dp
open L2
end Dp
namespace Nt
open L2 Dp
def look(a:t_ Au)(x y:Str):u_ Int:=((D6 a x).find? λz=>decide (z.1=y)).map (·.2)
def Mw(a:t_ Au):Str->t_ Str->Int->u_ Int
 |_,[],s=>P3 s
 |x,y::r,s=>match look a x y with
  |some l=>Mw a y r (s+l)
  |none=>q_
def Zh:u_ Int->D
 |some i=>.int i
 |none=>.non
def FN:D->Bool
 |.str _=>r_
 |_=>s_
def Z5(N:Net):t_ Str->D
 |x::r=>if x∈N.ps then Zh (Mw N.ts x r 0)else .non
 |[]=>.non
def cD(N:Net):D->D
 |.tup a=>if a.all FN then Z5 N (strsOf a)else .non
 |_=>.non
def cM(d:D):Prop:=IR (10 ^ 30) d/\Tj d<=160000/\TB d<=50
abbrev Ya:W2:=λa n P=>∃(N:Net) (d:D),a=[.sh (Bw N),.sh d]/\N.Ok/\N.ps.length<=26/\N.ts.length<=60/\cM d/\P (cD N d) n
def PK:AZ:=(Af (BC (CF (Br (Ab (GK "tuple" (AB 1)))) (Ab (Aa (Ku s_) (Bz B6 (AE (AB 1) AV)) (wC (D.int 0))))) (As (wC D.non)) Ay)
 (Af (BC (Br (Ab (Bz cR (AE (Ba [q_] (BL (AB 1)) (Al 0) C4 (GK "str" (AB 0))) AV)))) (As (wC D.non)) Ay)
 (Af (A5 2 (Ad NV (AC (AH (AB 0)) Ae)))
 (Af (BC (Ab (Aa (NA r_) (Aa BA (AB 1) (wC (D.int 0))) (AB 2))) (As (wC D.non)) Ay)
 (Af (A5 3 (wC (D.int 0)))
 (Af (Gv (ZM (AE (AB 1) (AE (Ye M8 (AB 1) (Ig (wC (D.int 1))) DN) AV))) (IZ 2 (A_ (Al 4) (A_ (Al 5) EC))) (Af (BC (Ab (Aa (NA r_) (AB 5) (Aa B4 (AB 2) (AB 4)))) (As (wC D.non)) Ay)
 (UG 3 (Aa B4 (Aa B4 (AB 2) (AB 4)) (AB 5)))))
 (As (AB 3))))))))
theorem Ny:∀{b:t_ D},b.all FN=r_->∃a:t_ Str,b=a.map .str
 |[],_=>⟨[],rfl⟩
 |d::r,h=>by
  rw[n_,gj]at h;obtain⟨a,e⟩:=Ny h.2;cases d with
  |str x=>exact⟨x::a,by grind⟩
  |_=>cases h.1
theorem all_strs(a:t_ Str):(a.map D.str).all FN=r_:=by rw[List.all_map]; exact jj.mpr λ_ _=>rfl
theorem JW{g:Str->D}{x:Str}:∀{a:t_ Str},BM (a.map .inr) (a.map g) (.inr x)=if x∈a then P3 (g x)else q_
 |[]=>rfl
 |p::a=>by
  show(if gl p=.inr x then P3 _ else BM _ _ _)=_;rw[JW]
  grind
theorem MR{y:Str}:∀{a:t_ (Str×Int)},BM (a.map λx=>.inr x.1) (a.map λx=>.int x.2) (.inr y)=((a.find? λz=>decide (z.1=y)).map (·.2)).map .int
 |[]=>rfl
 |p::b=>by
  show(if gl _=.inr y then P3 _ else BM _ _ _)=_;rw[MR]
  by_cases e:p.1=y
  ·simp_all
  simp_all
theorem VP{N:Net}(ok:N.Ok){x y:Str}{l:Int}(h:look N.ts x y=P3 l):y∈N.ps/\1<=l/\l<=1000000:=by
 unfold look at h;cases c:(D6 N.ts x).find? λz=>decide (z.1=y)with
 |none=>grind
 |some z=>
  have d:=List.find?_some c;obtain⟨t,b,a⟩:=iu.mp (mn c);obtain⟨e,f,_,g,i⟩:=ok.tin t b
  rcases gA.mp a with a|a
  ·simp_all
  simp_all
section
variable {ss:t_ Slot}{n:Nat}{Pd:D->Nat->Prop}
theorem Oc{N:Net}(ok:N.Ok){d:E2}{e f:Slot}:∀(r:t_ Str) (x:Str) (s:Int) (a b:Slot),x∈N.ps->(match Mw N.ts x r s with|some l=>∀a b,d.nx n [e,f,.sh (E5 N),.sh (.int l),a,b]|none=>d.rt .non n)->
  CI (IZ 2 (A_ (Al 4) (A_ (Al 5) EC))) (Af (BC (Ab (Aa (NA r_) (AB 5) (Aa B4 (AB 2) (AB 4)))) (As (wC D.non)) Ay) (UG 3 (Aa B4 (Aa B4 (AB 2) (AB 4)) (AB 5)))) d (Ho ((x::r).map .str) (r.map .str)) n [e,f,.sh (E5 N),.sh (.int s),a,b]
 |[],x,s,a,b,g,h=>h a b
 | y::r,x,s,a,b,g,h=>by
  have i:BM (N.ps.map .inr) (N.ps.map (Wd N.ts)) (.inr x)=P3 (Wd N.ts x):=by rw[JW,if_pos g]
  refine⟨rfl,rfl,?_⟩;refine⟨_,_,.inr x,_,rfl,rfl,i,_,_,.inr y,rfl,rfl,?_⟩;rw[MR];unfold Mw at h;have j:((D6 N.ts x).find? λz=>decide (z.1=y)).map (·.2)=look N.ts x y:=rfl;rw[j];cases c:look N.ts x y with
  |none=>rw[c]at h; exact Ef h
  |some l=>
   rw[c]at h;have k:BM ((D6 N.ts x).map λz=>.inr z.1) ((D6 N.ts x).map λz=>.int z.2) (.inr y)=P3 (.int l):=by rw[MR,j,c]; rfl
   refine CH ⟨s,rfl,_,_,.inr x,_,rfl,rfl,i,_,_,.inr y,_,rfl,rfl,k,l,rfl,?_⟩;exact Oc ok r y (s+l) _ _ (VP ok c).1 h
theorem Mb(t:Ya ss n Pd):PK (EE Pd) n (ss++UF 4 .no):=by
 obtain⟨N,d,rfl,ok,v,lt,fd,p⟩:=t;cases d with
 | tup b=>
  have w:=Qr b;have x:Pa b<=160000:=fd.2.1;have f:Pd (if b.all FN then Z5 N (strsOf b)else .non) n:=p;refine⟨_,_,rfl,rfl,?_⟩;show if((b.length:Int)==0)=r_ then _ else _
  cases b with
  |nil=>exact Ef f
  | cons g h=>
   rw[show(((g::h).length:Int)==0)=s_ from beq_eq_false_iff_ne.mpr (by rw[eq]; omega)];refine CH ⟨by omega,?_⟩;refine BK (λd=>.bl (FN d)) (λq=>∃s,q=[s]) _ _ _ _ ?_ ⟨_,rfl⟩ ?_
   ·rintro d z q m A ⟨s,rfl⟩ i
    have:=i [.sh d] ⟨_,rfl⟩
    cases d <;>exact this
   rw[gL];refine⟨_,_,rfl,PQ FN (g::h),?_⟩;rw[ah];show if(!(g::h).all FN)=r_ then _ else _
   cases k:(g::h).all FN with
   |false=>rw[k]at f; exact Ef f
   | true=>
    rw[k]at f;obtain⟨u,e⟩:=Ny k;rw[e,Jx]at f;cases u with
    |nil=>cases e
    | cons y r=>
     rw[f9]at e;cases e;refine CH ⟨N,rfl,ok,by omega,by omega,?_⟩;refine⟨.str y,AK (j:=0) rfl,_,_,.inr y,rfl,rfl,?_⟩;show if(!(BM (N.ps.map .inr) (N.ps.map (Wd N.ts)) (.inr y)).isSome)=r_ then _ else _
     rw[JW];have a:Pd (if y∈N.ps then Zh (Mw N.ts y r 0)else .non) n:=f
     by_cases o:y∈N.ps
     ·rw[if_pos o]at a ⊢
      refine CH ⟨_,_,(y::r).map .str,r.map .str,rfl,rfl,by show P3 (Dp.cutD (D.str y::r.map .str) (P3 1) q_)=_; rw[aX]; rfl,?_⟩;refine Oc ok r y 0 _ _ o ?_;cases c:Mw N.ts y r 0 with
      |none=>rw[c]at a; exact a
      |some l=>rw[c]at a; exact λ_ _=>a
     ·rw[if_neg o]at a ⊢
      exact Ef a
 |_=>exact p
theorem D8{b:BW}{p:Hm}{q:DW}{P:t_ D->Nat->Prop}(c:D->Bool)(g:D->D)(I:t_ Slot->Prop):∀(j e:t_ D) (n:Nat) (f:t_ Slot),
  (∀d∈j,∀(f:t_ Slot) (n:Nat) (r:D->Nat->t_ Slot->Prop) (s:Nat->t_ Slot->Prop),I f->(∀i,I i->c d=r_->r (g d) n i)->(∀i,I i->c d=s_->s n i)->b d f λk=>p n k λc t=>if c=r_ then q t k λy u=>r y u k else s t k)->I f->P (e++(j.filter c).map g) n->GD b p q P j e n f
 |[],e,n,f,_,_,h=>by rw[List.filter_nil,lm,gk]at h; exact h
 |d::j,e,n,f,l,m,h=>l d Sc f n _ _ m
  (λi a v=>D8 c g I j _ n _ (λd o=>l d (Rs _ o)) a (by simp_all))
  (λi a v=>D8 c g I j _ n _ (λd o=>l d (Rs _ o)) a (by grind))
end
def Rq:W2:=λc n P=>∃(N:Net) (b:t_ Au),c=[.sh (Bw N),.sh (Bw ⟨N.ps,b⟩)]/\N.Ok/\N.ts.length<64/\(∀t∈b,t∈N.ts)/\∀a:t_ Au,a.Perm (N.ts.filter λt=>decide (t∉b))->Gj a->P (.lst (a.map Ak)) n
def K6:AZ:=(As (Ad Gp (AC (AH (Ba [P3 1,q_] (BL (Aa BA (AB 0) (wC (D.int 1)))) (Al 1) (Ab (Aa (IS r_) (AB 1) (Aa BA (AB 0) (wC (D.int 1))))) (AB 1))) Ae)))
theorem XW{a:t_ Au}(h:JD CP (a.map Ak)):PD a:=by
 unfold JD at h;rw[kr]at h;exact h.imp λ{s t} z=>z _ _ rfl rfl
theorem Cf{N:Net}(ok:N.Ok){a:t_ Au}(h:∀t∈a,t∈N.ts):CG (.tup (a.map Ak))/\CG (.lst (a.map Ak)):=by
 have c:∀d∈a.map Ak,item d:=λd b=>by
  obtain⟨t,e,rfl⟩:=Uf.mp b;exact FL ok _ (Uf.mpr ⟨t,h t e,rfl⟩)
 have f:JT (a.map Ak)<=1:=dps_le.mpr λd b=>(c d b).2.2;exact⟨Gc (B:=1000001) (by decide) (fines_iff.mpr λd b=>(c d b).1) (by show JT (a.map Ak)+1<=100; omega),Lx c⟩
theorem DV{N:Net}(ok:N.Ok){t:Au}(h:t∈N.ts):CG (Ak t):=by
 have a:=FL ok _ (Uf.mpr ⟨t,h,rfl⟩);exact Gc (B:=1000001) (by decide) a.1 (by have:=a.2.2; omega)
theorem De{a:t_ Au}{t:Au}:((a.map Ak).any λy=>Fz y (Ak t))=decide (t∈a):=by
 rw[i8,jk,decide_eq_true_eq];constructor
 ·rintro⟨d,b,e⟩
  obtain⟨s,c,rfl⟩:=Uf.mp b;rw[←(RQ s t).mp e];exact c
 ·intro h
  exact⟨Ak t,Uf.mpr ⟨t,h,rfl⟩,(RQ t t).mpr rfl⟩
section
variable {ss:t_ Slot}{n:Nat}{Pd:D->Nat->Prop}
theorem OB(h:Rq ss n Pd):K6 (EF Pd) n (ss++UF 0 .no):=by
 obtain⟨N,a,rfl,ok,b,f,p⟩:=h;unfold K6;refine⟨_,AK (j:=1) rfl,by show(N.ts.map Ak).length<=10000000; rw[Go]; omega,?_⟩;refine D8 (λd=>!((a.map Ak).any λy=>Fz y d)) id (λg=>∃s,g=[.sh (Bw ⟨N.ps,a⟩),s]) _ _ _ _ ?_ ⟨_,rfl⟩ ?_
 ·rintro d i g m q r ⟨s,rfl⟩ k l
  obtain⟨t,o,rfl⟩:=Uf.mp i;refine⟨_,AK (j:=1) rfl,DV ok o,(Cf ok f).1,_,rfl,?_⟩;exact Cp (λc=>k _ ⟨_,rfl⟩ c) λc=>l _ ⟨_,rfl⟩ (io.mpr c)
 ·rw[gL,lA]
  have e:(N.ts.map Ak).filter (λd=>!((a.map Ak).any λy=>Fz y d))=(N.ts.filter λt=>decide (t∉a)).map Ak:=by
   rw[lr]
   congr 1
   refine ku λt _=>?_;show(!((a.map Ak).any λy=>Fz y (Ak t)))=decide (t∉a);rw[De,decide_not]
  rw[e];exact⟨_,_,rfl,rfl,kO (jT _ _) b,p⟩
end
theorem UP{s t:Au}(h:JE s=JE t):s=t:=by
 obtain⟨a,b,l⟩:=s;obtain⟨c,d,e⟩:=t;unfold JE at h;simp only[List.cons.injEq,Sum.inl.injEq,Sum.inr.injEq,and_true]at h;obtain⟨rfl,rfl,rfl⟩:=h;rfl
theorem GN{c d:t_ Au}(p:c.Perm d)(e:PD c)(f:PD d):c=d:=Mh (λa b x y=>UP (DF _ _ y x)) p e f
theorem Ei{a:t_ Au}(h:a.Pairwise Bo):PD a:=h.imp λ{s t} z=>by
 cases e:Bn (JE t) (JE s)with
 |false=>rfl
 |true=>
  have:=DD _ _ _ (Wv z) e
  rw[Ce]at this;cases this
def Jj:W2:=λa n P=>∃l t b x:Int,a=[.sh (.int l),.sh (.tup [.int t,.int b]),.sh (.int x)]/\1<=b/\b<=1000000/\1<=t/\t<=1000000/\P (.bl (decide (l*b<=x*t))) n
def PL:AZ:=(As (Aa aM (Aa DX (AB 0) (Aa BA (AB 1) (wC (D.int 1)))) (Aa DX (AB 2) (Aa BA (AB 1) (wC (D.int 0))))))
section
variable {ss:t_ Slot}{n:Nat}{Pd:D->Nat->Prop}
theorem cW{i j:Int}(a:0<=j)(b:j<=1000000):CMul i j:=.inr ⟨by omega,by omega⟩
theorem Md(h:Jj ss n Pd):PL (EE Pd) n (ss++UF 0 .no):=by
 obtain⟨l,t,b,x,rfl,d,a,e,c,p⟩:=h;exact⟨_,AK rfl,cW (by omega) a,_,AK rfl,cW (by omega) c,p⟩
end
def Ed(N:Net)(x y:Str)(l:Int):Prop:=(y,l)∈D6 N.ts x
inductive Wk (N:Net) (s:Str):Str->Int->Prop
 |nil:Wk N s s 0
 |snoc {x y:Str}{d l:Int}:Wk N s x d->Ed N x y l->Wk N s y (d+l)
def Least(N:Net)(s x:Str)(d:Int):Prop:=Wk N s x d/\∀a,Wk N s x a->d<=a
theorem Ed.pos{N:Net}(ok:N.Ok){x y:Str}{l:Int}(h:Ed N x y l):1<=l/\l<=1000000:=by
 obtain⟨_,a,b,_⟩:=Mu ok h
 simp_all
theorem Ed.ins{N:Net}(ok:N.Ok){x y:Str}{l:Int}(h:Ed N x y l):y∈N.ps:=(Mu ok h).1
theorem Wk.pos{N:Net}(ok:N.Ok){s x:Str}{d:Int}(h:Wk N s x d):0<=d:=by
 induction h with
 |nil=>omega
 |snoc _ a b=>have:=a.pos ok; omega
theorem Wk.ins{N:Net}(ok:N.Ok){s x:Str}{d:Int}(a:s∈N.ps)(h:Wk N s x d):x∈N.ps:=by
 cases h with
 |nil=>exact a
 |snoc _ b=>exact b.ins ok
theorem Least.unique{N:Net}{s x:Str}{d a:Int}(h:Least N s x d)(b:Least N s x a):d=a:=by
 have:=h.2 a b.1
 have:=b.2 d h.1
 omega
theorem NN{N:Net}{s:Str}{F:Str->u_ Int}(c:∃d,F s=P3 d/\d<=0)(f:∀x d,F x=P3 d->Wk N s x d)(j:∀x d y l,F x=P3 d->Ed N x y l->∃b,F y=P3 b/\b<=d+l):
  (∀x d,F x=P3 d->Least N s x d)/\∀x d,Wk N s x d->F x≠q_:=by
 have a:∀x d,Wk N s x d->∃b,F x=P3 b/\b<=d:=by
  intro x d h
  induction h with
  |nil=>exact c
  |snoc _ k m=>
   grind
 refine⟨λx d e=>⟨f x d e,λb h=>?_⟩,λx d h e=>?_⟩
 ·obtain⟨g,i,n⟩:=a x b h
  simp_all
 ·obtain⟨g,i,_⟩:=a x d h
  grind
theorem Je{N:Net}{t:Au}(c:t∈N.ts):Ed N t.a t.b t.len/\Ed N t.b t.a t.len:=by
 constructor
 ·exact iu.mpr ⟨t,c,gu _ (by simp_all)⟩
 ·exact iu.mpr ⟨t,c,fz _ (by simp_all)⟩
theorem Ed.tie{N:Net}(ok:N.Ok){x y:Str}{l:Int}(h:Ed N x y l):∃t∈N.ts,t.len=l/\((t.a=x/\t.b=y)\/(t.b=x/\t.a=y)):=by
 obtain⟨_,_,_,t,c,e,h⟩:=Mu ok h;exact⟨t,c,e,h⟩
structure Dmap (ks:List Key) (ds:List D) (Bw:α->D) (F:Str->Option α):Prop where
 len:ks.length=ds.length
 at_:∀x:Str,BM ks ds (.inr x)=(F x).map Bw
 dom:∀k∈ks,∃x:Str,k=.inr x
 nd:ks.Nodup
theorem Dmap.mem{c:Type}{b:t_ Key}{ds:t_ D}{Bw:c->D}{F:Str->u_ c}(h:Dmap b ds Bw F)(x:Str):(.inr x∈b)↔F x≠q_:=by
 constructor
 ·intro a e
  obtain⟨z,d⟩:=Hv h.len a;rw[h.at_,e]at d;cases d
 ·intro f
  by_cases a:gl x∈b
  ·exact a
  ·have:=Lh (ds:=ds) a
   rw[h.at_]at this
   simp_all
theorem Dmap.one{b:Type}{Bw:b->D}{s:Str}{a:b}:Dmap [.inr s] [Bw a] Bw (λx=>if x=s then P3 a else q_):=by
 refine⟨rfl,λx=>?_,λk c=>⟨s,TM.mp c⟩,gE.mpr ⟨gI,gW⟩⟩;show(if gl s=.inr x then P3 _ else q_)=(if x=s then P3 a else q_).map _
 by_cases e:x=s
 ·simp_all
 ·rw[if_neg e,if_neg (λz=>e (iR z).symm)]; rfl
def J1{b:Type}(F:Str->u_ b)(x:Str)(a:b):Str->u_ b:=λy=>if y=x then P3 a else F y
theorem CK{b:Type}{F:Str->u_ b}{x:Str}{a:b}:J1 F x a x=P3 a:=if_pos rfl
theorem B9{b:Type}{F:Str->u_ b}{x y:Str}{a:b}(h:y≠x):J1 F x a y=F y:=if_neg h
theorem Dmap.put{d:Type}{f:t_ Key}{g:t_ D}{Bw:d->D}{F:Str->u_ d}(h:Dmap f g Bw F)(x:Str)(a:d):Dmap (C_ f (.inr x)) (C9 f g (.inr x) (Bw a)) Bw (J1 F x a):=by
 refine⟨Qz h.len,λy=>?_,λk c=>?_,?_⟩
 ·rw[UK h.len]
  unfold J1
  by_cases e:y=x
  ·rw[if_pos e,if_pos (by rw[e])]; rfl
  ·rw[if_neg e,if_neg (λz=>e (iR z)),h.at_]
 ·unfold C_ at c
  split at c
  ·exact h.dom k c
  ·rcases gA.mp c with c|c
   ·exact h.dom k c
   simp_all
 ·unfold C_
  split
  ·exact h.nd
  ·rename_i i
   rw[iC];refine⟨h.nd,gE.mpr ⟨gI,gW⟩,λa j b l e=>i (hasK_iff.mpr ?_)⟩
   grind
theorem Dmap.le{d:Type}{a:t_ Key}{g:t_ D}{Bw:d->D}{F:Str->u_ d}(h:Dmap a g Bw F){b:t_ Str}(i:∀x,F x≠q_->x∈b):a.length<=b.length:=by
 have:∀(a:t_ Key) (b:t_ Str),a.Nodup->(∀k∈a,∃x:Str,k=.inr x/\x∈b)->a.length<=b.length:=by
  intro a
  induction a with
  |nil=>simp_all
  | cons k a l=>
   intro b c e;obtain⟨x,rfl,n⟩:=e k Sc;have c:=gE.mp c
   have o:=l (b.erase x) c.2 λj m=>by
    obtain⟨y,rfl,p⟩:=e j (Rs _ m)
    grind
   grind
 refine this a b h.nd λk f=>?_;obtain⟨x,rfl⟩:=h.dom k f;exact⟨x,rfl,i x ((h.mem x).mp f)⟩
abbrev NX:=Str->u_ (Int×u_ Str)
structure Dj (N:Net) (s:Str) (F:NX) (Wt:List Str):Prop where
 start:F s=P3 (0,q_)
 ins:∀x,F x≠q_->x∈N.ps
 wk:∀x d p,F x=P3 (d,p)->Wk N s x d
 prev:∀x d p,F x=P3 (d,p)->(p=q_/\x=s)\/∃y dy q l,p=P3 y/\F y=P3 (dy,q)/\y∉Wt/\Ed N y x l/\d=dy+l
 wfound:∀x∈Wt,F x≠q_
 nd:Wt.Nodup
 done:∀x d p y l,F x=P3 (d,p)->x∉Wt->Ed N x y l->∃dy q,F y=P3 (dy,q)/\dy<=d+l
 near:∀x d p y dy q,F x=P3 (d,p)->x∉Wt->F y=P3 (dy,q)->y∈Wt->d<=dy
theorem Dj.init{N:Net}{s:Str}(c:s∈N.ps):Dj N s (λx=>if x=s then P3 (0,q_)else q_) [s]:=by
 have a:∀x d p,(if x=s then P3 ((0:Int),(q_:u_ Str))else q_)=P3 (d,p)->x=s/\d=0/\p=q_:=λx d p e=>by
  grind
 refine⟨if_pos rfl,λx e=>?_,λx d p e=>?_,λx d p e=>?_,λx b=>?_,gE.mpr ⟨gI,gW⟩,λx d p y l e b=>?_,λx d p y f q e b=>?_⟩
 ·grind
 ·obtain⟨rfl,rfl,rfl⟩:=a x d p e
  exact .nil
 ·obtain⟨rfl,rfl,rfl⟩:=a x d p e
  exact .inl ⟨rfl,rfl⟩
 ·simp_all
 ·exact absurd (TM.mpr (a x d p e).1) b
 ·exact absurd (TM.mpr (a x d p e).1) b
structure Dm (N:Net) (s:Str) (F:NX) (Wt:List Str) (v:Str) (dv:Int) (seen:List (Str×Int)):Prop where
 start:F s=P3 (0,q_)
 ins:∀x,F x≠q_->x∈N.ps
 wk:∀x d p,F x=P3 (d,p)->Wk N s x d
 prev:∀x d p,F x=P3 (d,p)->(p=q_/\x=s)\/∃y dy q l,p=P3 y/\F y=P3 (dy,q)/\y∉Wt/\Ed N y x l/\d=dy+l
 wfound:∀x∈Wt,F x≠q_
 nd:Wt.Nodup
 done:∀x d p y l,F x=P3 (d,p)->x∉Wt->x≠v->Ed N x y l->∃dy q,F y=P3 (dy,q)/\dy<=d+l
 near:∀x d p y dy q,F x=P3 (d,p)->x∉Wt->F y=P3 (dy,q)->y∈Wt->d<=dy
 here:∃p,F v=P3 (dv,p)
 out:v∉Wt
 least:∀x d p,F x=P3 (d,p)->x∉Wt->d<=dv
 gone:∀y l,(y,l)∈seen->∃dy q,F y=P3 (dy,q)/\dy<=dv+l
theorem Dj.take{N:Net}{s:Str}{F:NX}{c:t_ Str}(h:Dj N s F c){v:Str}{dv:Int}{p:u_ Str}(o:v∈c)(e:F v=P3 (dv,p))(i:∀y∈c,∀g q,F y=P3 (g,q)->dv<=g):Dm N s F (c.erase v) v dv []:=by
 have f:∀x,x∈c.erase v->x∈c:=λx b=>List.mem_of_mem_erase b;have m:v∉c.erase v:=λz=>(h.nd.mem_erase_iff.mp z).1 rfl
 have a:∀x,x∉c.erase v->x=v\/x∉c:=λx b=>by
  grind
 refine⟨h.start,h.ins,h.wk,λx d q ex=>?_,λx b=>h.wfound x (f x b),h.nd.erase v,λx d q y l ex b r t=>?_,λx d q y g j ex b n k=>?_,⟨p,e⟩,m,λx d q ex b=>?_,λy l k=>by cases k⟩
 ·rcases h.prev x d q ex with z|⟨y,g,j,l,u,w,A,B,C⟩
  ·exact .inl z
  ·exact .inr ⟨y,g,j,l,u,w,λz=>A (f y z),B,C⟩
 ·rcases a x b with z|z
  ·exact absurd z r
  ·exact h.done x d q y l ex z t
 ·rcases a x b with z|z
  ·subst z
   rw[e]at ex;cases ex;exact i y (f y k) g j n
  ·exact h.near x d q y g j ex z n (f y k)
 ·rcases a x b with z|z
  ·grind
  ·exact h.near x d q v dv p ex z e o
theorem Dm.finish{N:Net}{s:Str}{F:NX}{b:t_ Str}{v:Str}{dv:Int}{a:t_ (Str×Int)}(h:Dm N s F b v dv a)(f:∀y l,Ed N v y l->(y,l)∈a):Dj N s F b:=by
 refine⟨h.start,h.ins,h.wk,h.prev,h.wfound,h.nd,λx d p y l e g c=>?_,h.near⟩
 by_cases z:x=v
 ·subst z
  obtain⟨j,i⟩:=h.here;rw[i]at e;cases e;exact h.gone y l (f y l c)
 ·exact h.done x d p y l e g z c
theorem Dm.find{N:Net}(ok:N.Ok){s:Str}{F:NX}{m:t_ Str}{v:Str}{dv:Int}{j:t_ (Str×Int)}(h:Dm N s F m v dv j){y:Str}{l:Int}(w:Ed N v y l)(K:F y=q_):Dm N s (J1 F y (dv+l,P3 v)) (m++[y]) v dv (j++[(y,l)]):=by
 have L:=(w.pos ok).1;obtain⟨A,B⟩:=h.here;have C:∀x d p,F x=P3 (d,p)->x≠y:=λx d p e z=>by rw[z,K]at e; cases e
 have f:∀x d p,F x=P3 (d,p)->J1 F y (dv+l,P3 v) x=P3 (d,p):=λx d p e=>by rw[B9 (C x d p e)]; exact e
 have Q:y∉m:=λz=>h.wfound y z K
 have c:∀x d p,J1 F y (dv+l,P3 v) x=P3 (d,p)->(x=y/\d=dv+l/\p=P3 v)\/(x≠y/\F x=P3 (d,p)):=λx d p e=>by
  by_cases z:x=y
  ·rw[z,CK]at e; cases e; exact .inl ⟨z,rfl,rfl⟩
  ·rw[B9 z]at e; exact .inr ⟨z,e⟩
 have k:∀x,x∉m++[y]->x∉m/\x≠y:=λx g=>⟨λz=>g (gu _ z),λz=>g (fz _ (by rw[z]; exact TM.mpr rfl))⟩
 have M:v∉m++[y]:=λz=>by
  rcases gA.mp z with z|z
  ·exact h.out z
  ·exact C v dv A B (TM.mp z)
 refine⟨f _ _ _ h.start,λx g=>?_,λx d p e=>?_,λx d p e=>?_,λx g=>?_,?_,λx d p z o e g R D=>?_,λx d p z O q e g E i=>?_,⟨A,f _ _ _ B⟩,M,λx d p e g=>?_,λz o i=>?_⟩
 ·by_cases z:x=y
  ·rw[z]; exact w.ins ok
  ·rw[B9 z]at g; exact h.ins x g
 ·rcases c x d p e with⟨rfl,rfl,_⟩|⟨_,e⟩
  ·exact .snoc (h.wk v dv A B) w
  ·exact h.wk x d p e
 ·rcases c x d p e with⟨rfl,rfl,rfl⟩|⟨_,e⟩
  ·exact .inr ⟨v,dv,A,l,rfl,f _ _ _ B,M,w,rfl⟩
  ·rcases h.prev x d p e with z|⟨u,P,q,o,S,G,r,T,U⟩
   ·exact .inl z
   ·refine .inr ⟨u,P,q,o,S,f _ _ _ G,λz=>?_,T,U⟩
    rcases gA.mp z with z|z
    ·exact r z
    ·exact C u P q G (TM.mp z)
 ·rcases gA.mp g with g|g
  ·have:=h.wfound x g
   cases e:F x with
   |none=>exact absurd e this
   |some a=>rw[f x a.1 a.2 e]; intro z; cases z
  ·rw[TM.mp g,CK]; intro z; cases z
 ·rw[iC]
  exact⟨h.nd,gE.mpr ⟨gI,gW⟩,λa V b W e=>Q (by rw[←TM.mp W,←e]; exact V)⟩
 ·obtain⟨n,t⟩:=k x g
  rcases c x d p e with⟨z,_⟩|⟨_,e⟩
  ·exact absurd z t
  ·obtain⟨H,I,r,J⟩:=h.done x d p z o e n R D
   exact⟨H,I,f _ _ _ r,J⟩
 ·obtain⟨n,t⟩:=k x g
  rcases c x d p e with⟨z,_⟩|⟨_,ex⟩
  ·exact absurd z t
  ·rcases c z O q E with⟨_,G,_⟩|⟨X,E⟩
   ·have:=h.least x d p ex n
    omega
   ·rcases gA.mp i with i|i
    ·exact h.near x d p z O q ex n E i
    ·exact absurd (TM.mp i) X
 ·obtain⟨n,t⟩:=k x g
  rcases c x d p e with⟨z,_⟩|⟨_,e⟩
  ·exact absurd z t
  ·exact h.least x d p e n
 ·rcases gA.mp i with i|i
  ·obtain⟨H,I,r,J⟩:=h.gone z o i
   exact⟨H,I,f _ _ _ r,J⟩
  ·cases TM.mp i
   exact⟨_,_,CK,iV _⟩
theorem Dm.nearer{N:Net}(ok:N.Ok){s:Str}{F:NX}{k:t_ Str}{v:Str}{dv:Int}{f:t_ (Str×Int)}(h:Dm N s F k v dv f){y:Str}{l A:Int}{J:u_ Str}(o:Ed N v y l)(B:F y=P3 (A,J))(Q:dv+l<A):Dm N s (J1 F y (dv+l,P3 v)) k v dv (f++[(y,l)]):=by
 have K:=(o.pos ok).1;obtain⟨r,t⟩:=h.here
 have L:y∈k:=by
  by_cases z:y∈k
  ·exact z
  ·have:=h.least y A J B z
   omega
 have M:v≠y:=λz=>h.out (by rw[z]; exact L);have c:∀x,x∉k->J1 F y (dv+l,P3 v) x=F x:=λx b=>B9 λz=>b (by rw[z]; exact L)
 have a:∀x d p,J1 F y (dv+l,P3 v) x=P3 (d,p)->(x=y/\d=dv+l/\p=P3 v)\/(x≠y/\F x=P3 (d,p)):=λx d p e=>by
  by_cases z:x=y
  ·rw[z,CK]at e; cases e; exact .inl ⟨z,rfl,rfl⟩
  ·rw[B9 z]at e; exact .inr ⟨z,e⟩
 have g:∀x d p,F x=P3 (d,p)->∃O q,J1 F y (dv+l,P3 v) x=P3 (O,q)/\O<=d:=λx d p e=>by
  by_cases z:x=y
  ·subst z
   rw[B]at e;cases e;exact⟨_,_,CK,by omega⟩
  ·exact⟨d,p,by rw[B9 z]; exact e,iV _⟩
 have R:s≠y:=λz=>by
  have:=h.start
  rw[z,B]at this;cases this
  have:=(h.wk v dv r t).pos ok
  omega
 refine⟨by rw[B9 R]; exact h.start,λx b=>?_,λx d p e=>?_,λx d p e=>?_,λx b=>?_,h.nd,λx d p z m e b S C=>?_,λx d p z P q e b D i=>?_,⟨r,by rw[B9 M]; exact t⟩,h.out,λx d p e b=>?_,λz m i=>?_⟩
 ·by_cases z:x=y
  ·rw[z]; exact o.ins ok
  ·rw[B9 z]at b; exact h.ins x b
 ·rcases a x d p e with⟨rfl,rfl,_⟩|⟨_,e⟩
  ·exact .snoc (h.wk v dv r t) o
  ·exact h.wk x d p e
 ·rcases a x d p e with⟨rfl,rfl,rfl⟩|⟨_,e⟩
  ·exact .inr ⟨v,dv,r,l,rfl,by rw[B9 M]; exact t,h.out,o,rfl⟩
  ·rcases h.prev x d p e with z|⟨u,T,q,m,U,V,j,n,W⟩
   ·exact .inl z
   ·exact .inr ⟨u,T,q,m,U,by rw[c u j]; exact V,j,n,W⟩
 ·by_cases z:x=y
  ·rw[z,CK]; intro w; cases w
  ·rw[B9 z]; exact h.wfound x b
 ·rw[c x b]at e
  obtain⟨E,G,j,X⟩:=h.done x d p z m e b S C;obtain⟨H,I,n,Y⟩:=g z E G j;exact⟨H,I,n,by omega⟩
 ·rw[c x b]at e
  rcases a z P q D with⟨rfl,rfl,_⟩|⟨Z,D⟩
  ·have:=h.least x d p e b
   omega
  ·exact h.near x d p z P q e b D i
 ·rw[c x b]at e
  exact h.least x d p e b
 ·rcases gA.mp i with i|i
  ·obtain⟨E,G,j,X⟩:=h.gone z m i
   obtain⟨H,I,n,Y⟩:=g z E G j;exact⟨H,I,n,by omega⟩
  ·cases TM.mp i
   exact⟨_,_,CK,iV _⟩
theorem Dm.skip{N:Net}{s:Str}{F:NX}{c:t_ Str}{v:Str}{dv:Int}{a:t_ (Str×Int)}(h:Dm N s F c v dv a){y:Str}{l d:Int}{e:u_ Str}(i:F y=P3 (d,e))(f:d<=dv+l):Dm N s F c v dv (a++[(y,l)]):=by
 refine⟨h.start,h.ins,h.wk,h.prev,h.wfound,h.nd,h.done,h.near,h.here,h.out,h.least,λz g b=>?_⟩
 rcases gA.mp b with b|b
 ·exact h.gone z g b
 simp_all
structure Told (N:Net) (s:Str) (F:NX):Prop where
 start:F s=P3 (0,q_)
 ins:∀x,F x≠q_->x∈N.ps
 least:∀x d p,F x=P3 (d,p)->Least N s x d
 all:∀x d,Wk N s x d->F x≠q_
 prev:∀x d p,F x=P3 (d,p)->(p=q_/\x=s)\/∃y dy q l,p=P3 y/\F y=P3 (dy,q)/\Ed N y x l/\d=dy+l
theorem Dj.told{N:Net}{s:Str}{F:NX}(h:Dj N s F []):Told N s F:=by
 have c:=NN (N:=N) (s:=s) (F:=λx=>(F x).map (·.1)) ⟨0,by rw[h.start]; rfl,iV _⟩ (λx d e=>by
  obtain⟨⟨g,p⟩,a,b⟩:=f7.mp e;cases b;exact h.wk x _ p a) (λx d y l e i=>by
  obtain⟨⟨g,p⟩,a,b⟩:=f7.mp e;cases b;obtain⟨f,q,j,k⟩:=h.done x _ p y l a gI i;exact⟨f,by rw[j]; rfl,k⟩)
 refine⟨h.start,h.ins,λx d p e=>c.1 x d (by rw[e]; rfl),λx d m e=>c.2 x d m (by rw[e]; rfl),λx d p e=>?_⟩
 rcases h.prev x d p e with z|⟨y,f,q,l,a,b,_,n,o⟩
 ·exact .inl z
 simp_all
abbrev Kn:=Str->u_ Int
structure Bf (N:Net) (s:Str) (c:Nat) (K:Kn):Prop where
 start:∃d,K s=P3 d/\d<=0
 ins:∀x,K x≠q_->x∈N.ps
 wk:∀x d,K x=P3 d->Wk N s x d
 top:∀x d,K x=P3 d->d<=1000000*(c:Int)
structure fD (N:Net) (s:Str) (K:Kn):Prop where
 ins:∀x,K x≠q_->x∈N.ps
 least:∀x d,K x=P3 d->Least N s x d
 all:∀x d,Wk N s x d->K x≠q_
 top:∀x d,K x=P3 d->d<=30000000
def walk(N:Net):t_ Str->Int->Prop
 |[],_=>False
 |[_],d=>d=0
 |x::y::r,d=>∃l e,Ed N x y l/\walk N (y::r) e/\d=l+e
theorem Ry{N:Net}{x y:Str}{r:t_ Str}{d l:Int}(a:Ed N x y l)(h:walk N (y::r) d):walk N (x::y::r) (l+d):=⟨l,d,a,h,rfl⟩
def eS(N:Net)(a b:Str):u_ Int->Prop
 |some d=>Least N a b d
 |none=>∀d,¬Wk N a b d
theorem Told.far{N:Net}{s:Str}{F:NX}(h:Told N s F)(x:Str):eS N s x ((F x).map (·.1)):=by
 cases e:F x with
 |none=>exact λd b=>h.all x d b e
 |some a=>exact h.least x _ _ e
def Way(N:Net)(a b:Str)(o:u_ (t_ Str)):Prop:=match o with
 |some w=>∃d r,w=a::r/\w.getLast?=P3 b/\walk N w d/\Least N a b d/\w.length<=30/\∀x∈w,x∈N.ps
 |none=>∀d,¬Wk N a b d
def cA:u_ Str->D
 |some y=>.str y
 |none=>.non
def IG:u_ (t_ Str)->D
 |some w=>.tup (w.map .str)
 |none=>.non
def JR(p:Int×u_ Str):D:=.tup [.int p.1,cA p.2]
def okN(N:Net):Prop:=N.Ok/\N.ps.length<=25/\N.ts.length<=60
def Rp:W2:=λf n P=>∃(a:t_ Str) (b:t_ Key) (c:t_ D) (F:NX),f=[.br (.lst (a.map .str)),.br (.dic b c)]/\Dmap b c JR F/\(∀x∈a,F x≠q_)/\a≠[]/\a.length<=100 /\
 ∀v∈a,(∀y∈a,∀d g e h,F v=P3 (d,g)->F y=P3 (e,h)->d<=e)->P (.str v) n
def LD:W2:=λc n P=>∃(N:Net) (s:Str),c=[.sh (Bw N),.sh (.str s)]/\okN N/\s∈N.ps/\∀(a:t_ Key) (b:t_ D) (F:NX),Dmap a b JR F->Told N s F->P (.dic a b) n
def YZ:W2:=λc n P=>∃(N:Net) (a b:Str),c=[.sh (Bw N),.sh (.str a),.sh (.str b)]/\okN N/\a∈N.ps/\b∈N.ps/\∀o,Way N a b o->P (IG o) n
def HK:AZ:=(As (Aa BA (Bz Y2 (AE (Ba [P3 1,q_] (BL (B7 0)) (Al 1) C4 (BO (AE (Aa BA (Aa B4 (B7 0) (AB 1)) (wC (D.int 0))) (AE (AB 1) AV)))) AV)) (wC (D.int 1))))
def HN:AZ:=(Af (A5 2 (Ad NV (AC (AH (AB 0)) Ae)))
 (Af (Jr 3 (UC (AB 1) (BO (AE (wC (D.int 0)) (AE (wC D.non) AV)))))
 (Af (Jr 4 (Di (AE (AB 1) AV)))
 (Af (MP (Wl (B7 4)) (Af (A5 5 (Ad Rp (AC (Jq (B7 4)) (AC (Jq (B7 3)) Ae))))
 (Af (Wm 4 "list" cO (AE (AB 5) AV))
 (Gv (wItems (Aa B4 (AB 2) (AB 5))) (IZ 2 (A_ (Al 6) (A_ (Al 7) EC))) (Af (A5 8 (Aa BB (Aa BA (Aa B4 (B7 3) (AB 5)) (wC (D.int 0))) (AB 7)))
 (BC (Ab (Aa (NA r_) (AB 6) (B7 3))) (Af (Wm 4 "list" Xz (AE (AB 6) AV))
 (Nh 3 (AB 6) (BO (AE (AB 8) (AE (AB 5) AV))))) (BC (Ab (Aa Ox (AB 8) (Aa BA (Aa B4 (B7 3) (AB 6)) (wC (D.int 0))))) (Nh 3 (AB 6) (BO (AE (AB 8) (AE (AB 5) AV)))) Ay)))))))
 (T7 3)))))
def PF:AZ:=(Af (A5 3 (Ad LD (AC (AH (AB 0)) (AC (AH (AB 1)) Ae))))
 (Af (BC (Ab (Aa (NA r_) (AB 2) (AB 3))) (As (wC D.non)) Ay)
 (Af (Jr 4 (Di AV))
 (Af (A5 5 (AB 2))
 (Af (MP (Ab (Aa (JQ r_) (AB 5) (wC D.non))) (Af (Wm 4 "list" Xz (AE (AB 5) AV))
 (A5 5 (Aa BA (Aa B4 (AB 3) (AB 5)) (wC (D.int 1))))))
 (As (Ql (B7 4))))))))
theorem eJ{i j:Int}{x y:Str}(h:Bn [.inl j,.inr y] [.inl i,.inr x]=s_):i<=j:=by
 have h:(if lL j=.inl i then(if gl y=.inr x then s_ else decide _)else decide _)=s_:=h
 grind
section
variable {ss:t_ Slot}{n:Nat}{Pd:D->Nat->Prop}
theorem LK(h:Rp ss n Pd):HK (EE Pd) n (ss++UF 0 .no):=by
 obtain⟨g,l,o,F,rfl,M,w,i,N,p⟩:=h;unfold HK;refine⟨by show(g.map D.str).length<=10000000; rw[Go]; omega,?_⟩
 have c:∀x∈g,∃d q,F x=P3 (d,q):=λx b=>by
  cases e:F x with
  |none=>exact absurd e (w x b)
  |some a=>exact⟨a.1,a.2,rfl⟩
 refine BK (λd=>match d with|.str x=>.tup [.int ((F x).getD (0,q_)).1,.str x]|d=>d) (λt=>∃s,t=[.br (.dic l o),s]) _ _ _ _ ?_ ⟨_,rfl⟩ ?_
 ·rintro d A t m O ⟨s,rfl⟩ B
  obtain⟨x,b,rfl⟩:=Uf.mp A;obtain⟨C,q,ex⟩:=c x b;refine⟨l,o,_,JR (C,q),rfl,rfl,by rw[M.at_,ex]; rfl,_,AK (j:=0) rfl,(by decide:2<=sizeLine),?_⟩
  grind
 rw[gL,gh];refine⟨_,rfl,?_,⟨λx b=>?_,λx b y k E G H I=>?_⟩,λx b f=>?_⟩
 ·rw[Go]
  cases g with
  |nil=>exact absurd rfl i
  |cons a r=>exact Nat.succ_pos _
 ·obtain⟨z,_,rfl⟩:=Uf.mp b
  exact⟨_,rfl,jl _ _⟩
 ·obtain⟨z,_,rfl⟩:=Uf.mp b
  obtain⟨u,_,rfl⟩:=Uf.mp k;cases(show P3 [lL _,gl _]=P3 E from H);cases(show P3 [lL _,gl _]=P3 G from I);rfl
 ·obtain⟨v,J,rfl⟩:=Uf.mp b
  refine⟨_,AK (j:=1) rfl,p v J λy k P Q R S K L=>?_⟩
  have:=eJ (f _ (Uf.mpr ⟨y,k,rfl⟩) _ _ rfl rfl)
  rw[K,L]at this;exact this
theorem Bs(x:Str):keyOf (.str x)=P3 (.inr x):=rfl
theorem Sk{N:Net}(ok:N.Ok){a:t_ Str}(h:∀x∈a,x∈N.ps):CG (.lst (a.map .str)):=Lx λd b=>by
  obtain⟨x,c,rfl⟩:=Uf.mp b;exact Fx (ok.names x (h x c))
theorem MO{N:Net}{d:t_ Str}(b:d.Nodup)(h:∀x∈d,x∈N.ps):d.length<=N.ps.length:=by
 have:∀(a c:t_ Str),a.Nodup->(∀x∈a,x∈c)->a.length<=c.length:=by
  intro a
  induction a with
  |nil=>grind
  |cons x a g=>
   intro c b f;have k:=f x Sc;have b:=gE.mp b;have l:=g (c.erase x) b.2 λj i=>(List.mem_erase_of_ne λe=>b.1 (by simp_all)).mpr (f j (Rs _ i))
   grind
 simp_all
theorem OI(a:t_ Key)(k:Key):(C_ a k).length=if Kr a k=r_ then a.length else a.length+1:=by
 unfold C_
 split
 ·rfl
 simp_all
theorem Dmap.has{b:Type}{a:t_ Key}{d:t_ D}{Bw:b->D}{F:Str->u_ b}(h:Dmap a d Bw F){x:Str}:(F x=q_->Kr a (.inr x)=s_)/\(F x≠q_->Kr a (.inr x)=r_):=by
 constructor
 ·intro e
  cases c:Kr a _ with
  |false=>rfl
  |true=>exact absurd e ((h.mem x).mp (hasK_iff.mp c))
 ·intro e
  exact hasK_iff.mpr ((h.mem x).mpr e)
theorem R6{N:Net}{x:Str}(c:x∈N.ps):BM (N.ps.map .inr) (N.ps.map (Wd N.ts)) (.inr x)=P3 (Wd N.ts x):=by
 have d:∀a:t_ _,x∈a->BM (a.map .inr) (a.map (Wd N.ts)) (.inr x)=P3 (Wd N.ts x):=by
  intro a
  induction a with
  |nil=>grind
  | cons q a b=>
   intro h;show(if gl q=.inr x then P3 _ else BM _ _ _)=_
   by_cases e:q=x
   ·grind
   ·rw[if_neg (λz=>e (iR z))]
    exact b ((fi.mp h).resolve_left λz=>e z.symm)
 simp_all
theorem Wg(l:t_ (Str×Int)):Ho ((l.map λx=>(.inr x.1:Key)).map Y5) (l.map λx=>.int x.2)=l.map d6:=by
 induction l with
 |nil=>rfl
 |cons p l a=>
  show D.tup _::Ho _ _=d6 p::l.map _;rw[←a];rfl
theorem LM(h:LD ss n Pd):HN (EF Pd) n (ss++UF 7 .no):=by
 obtain⟨N,s,rfl,⟨ok,lp,lt⟩,hs,p⟩:=h;have a2:=PySem.sizeLine_eq;unfold HN;refine⟨N,rfl,ok,by omega,by omega,?_⟩;refine⟨(by decide:2<=sizeLine),_,Bs s,(by decide:1<=sizeLine),?_⟩;refine Ld (λm O Y=>O=n/\∃(r:t_ Str) (f:t_ Key) (g:t_ D) (F:NX) (s5 G H I:Slot),Y=[.sh (Bw N),.sh (.str s),.sh (E5 N),.ow (.dic f g),.ow (.lst (r.map .str)),s5,G,H,I]/\Dmap f g JR F/\Dj N s F r/\m+f.length=N.ps.length+r.length) (N.ps.length) ⟨rfl,[s],[.inr s],[JR (0,q_)],_,_,_,_,_,rfl,Dmap.one,Dj.init hs,rfl⟩ ?_ ?_
 ·rintro m O Y N' ⟨rfl,r,f,g,F,s5,G,H,I,rfl,M,J,Z⟩ hN
  cases r with
  |nil=>
   exact⟨s_,rfl,_,rfl,p f g F M J.told⟩
  | cons u w=>
   refine⟨r_,rfl,?_⟩;have o:∀x∈u::w,x∈N.ps:=λx K=>J.ins x (J.wfound x K);have wl:=MO J.nd o;refine⟨u::w,f,g,F,rfl,M,J.wfound,jl _ _,by omega,λv L R=>?_⟩
   obtain⟨B,pv,X⟩:∃d q,F v=P3 (d,q):=by
    cases e:F v with
    |none=>exact absurd e (J.wfound v L)
    |some a=>exact⟨a.1,a.2,rfl⟩
   have A:=J.take L X λy hy S q C=>R y hy B pv S q X C;have T:=o v L;have U:(u::w).idxOf v<(u::w).length:=List.idxOf_lt_length_of_mem L;have V:(u::w)[(u::w).idxOf v]?=P3 v:=by rw[FM U,mR]
   have ee:((u::w).map D.str).eraseIdx ((u::w).idxOf v)=((u::w).erase v).map D.str:=by
    rw[List.erase_eq_eraseIdx_of_idxOf (rfl:(u::w).idxOf v=_),L7]
   refine⟨_,rfl,rfl,_,_,(u::w).idxOf v,rfl,rfl,Sk ok o,HB (ok.names v T),⟨.str v,by rw[T0,V]; rfl,by show(v==v)=r_; exact beq_self_eq_true v⟩,λk x hk K=>?_,?_⟩
   ·rw[T0]at K
    obtain⟨t,ht,rfl⟩:=f7.mp K;have a3:k<(u::w).length:=(ZB.mp ht).1;have hh:=List.not_of_lt_findIdx (p:=λy=>y==v) (xs:=u::w) hk;have e2:(u::w)[k]=t:=(ZB.mp ht).2;have h3:((u::w)[k]==v)=s_:=hh;rw[e2]at h3;exact h3
   rw[ee];refine⟨_,_,_,Wd N.ts v,rfl,Bs v,R6 T,_,_,rfl,λk hk=>?_,?_⟩
   ·obtain⟨q,hq,rfl⟩:=Uf.mp hk
    have:=(ok.names _ (Mu ok hq).1).2.1
    show q.1.length<=sizeLine;omega
   rw[Wg];have el:=List.length_erase_of_mem L
   have E:∀(i b:t_ (Str×Int)) (r:t_ Str) (f:t_ Key) (g:t_ D) (F:NX) (G H I:Slot),b++i=D6 N.ts v->Dmap f g JR F->Dm N s F r v B b->m+f.length=N.ps.length+r.length+1->
     CI (IZ 2 (A_ (Al 6) (A_ (Al 7) EC))) (Af (A5 8 (Aa BB (Aa BA (Aa B4 (B7 3) (AB 5)) (wC (D.int 0))) (AB 7)))
 (BC (Ab (Aa (NA r_) (AB 6) (B7 3))) (Af (Wm 4 "list" Xz (AE (AB 6) AV))
 (Nh 3 (AB 6) (BO (AE (AB 8) (AE (AB 5) AV))))) (BC (Ab (Aa Ox (AB 8) (Aa BA (Aa B4 (B7 3) (AB 6)) (wC (D.int 0))))) (Nh 3 (AB 6) (BO (AE (AB 8) (AE (AB 5) AV)))) Ay))) {EF Pd with nx:=N',ct:=N',bk:=T7 3 (EF Pd)} (i.map d6) O [.sh (Bw N),.sh (.str s),.sh (E5 N),.ow (.dic f g),.ow (.lst (r.map .str)),.sh (.str v),G,H,I]:=by
    intro i
    induction i with
    |nil=>
     intro b r f g F G H I e M A Z;rw[gk]at e;exact hN (m - 1) O _ (by have:=M.le A.ins; omega) ⟨rfl,r,f,g,F,_,_,_,_,rfl,M,A.finish λy l hy=>by rw[e]; exact hy,by have:=M.le A.ins; omega⟩
    | cons q i ih=>
     intro b r f g F G H I e M A Z;obtain⟨y,l⟩:=q;have he:Ed N v y l:=by show(y,l)∈D6 N.ts v; rw[←e]; exact fz _ Sc
     have e':(b++[(y,l)])++i=D6 N.ts v:=by rw[gv]; exact e
     obtain⟨pv,X⟩:=A.here;have kl:=M.le A.ins;have a4:=he.ins ok;have o:∀x∈r,x∈N.ps:=λx K=>A.ins x (A.wfound x K);have wl:=MO A.nd o;refine⟨rfl,rfl,?_⟩;refine⟨f,g,_,JR (B,pv),rfl,Bs v,by rw[M.at_,X]; rfl,_,AK (j:=0) rfl,?_⟩;refine⟨f,g,_,rfl,Bs y,?_⟩;show if(!(BM f g (.inr y)).isSome)=r_ then _ else _
     cases C:F y with
     |none=>
      have a0:=(M.has (x:=y)).1 C;rw[M.at_,C];refine Ef ⟨_,rfl,rfl,_,_,rfl,rfl,by rw[Go]; omega,?_⟩;refine⟨f,g,rfl,(by decide:2<=sizeLine),_,Bs y,by omega,?_⟩
      have:=ih (b++[(y,l)]) (r++[y]) (C_ f (.inr y)) (C9 f g (.inr y) (JR (B+l,P3 v))) _ (.sh (.str y)) (.sh (.int l)) (.sh (.int (B+l))) e' (M.put y (B+l,P3 v)) (A.find ok he C) (by rw[OI,if_neg (by rw[a0]; decide),fw,gC]; omega)
      rw[gR]at this;exact this
     | some a=>
      obtain⟨S,qy⟩:=a;have W:=(M.has (x:=y)).2 (by rw[C]; intro z; cases z);rw[M.at_,C];refine CH ⟨f,g,_,JR (S,qy),rfl,Bs y,by rw[M.at_,C]; rfl,_,AK (j:=0) rfl,?_⟩;show if decide (B+l<S)=r_ then _ else _
      by_cases c:B+l<S
      ·rw[decide_eq_true c]
       refine Ef ⟨f,g,rfl,(by decide:2<=sizeLine),_,Bs y,by omega,?_⟩;exact ih (b++[(y,l)]) r (C_ f (.inr y)) (C9 f g (.inr y) (JR (B+l,P3 v))) _ (.sh (.str y)) (.sh (.int l)) (.sh (.int (B+l))) e' (M.put y (B+l,P3 v)) (A.nearer ok he C c) (by rw[OI,if_pos W]; omega)
      ·rw[decide_eq_false c]
       exact CH (ih (b++[(y,l)]) r f g F (.sh (.str y)) (.sh (.int l)) (.sh (.int (B+l))) e' M (A.skip C (by omega)) Z)
   exact E (D6 N.ts v) [] ((u::w).erase v) f g F _ _ _ rfl M A (by have:=List.length_pos_of_mem L; omega)
 ·rintro O Y P Q a1 h
  unfold Wl B7 at h ⊢
  split at h
  all_goals first
   |exact h.elim
   |(obtain⟨c,hc,h⟩:=h; exact⟨c,hc,a1 _ _ h⟩)
end
structure WInv (N:Net) (F:NX) (b:Str) (db:Int) (acc:List Str) (pl:Option Str):Prop where
 st:(acc=[]/\pl=P3 b)\/∃z r dz,acc.reverse=z::r/\F z=P3 (dz,pl)/\walk N acc.reverse (db - dz)/\acc.reverse.getLast?=P3 b
 nd:acc.Nodup
 ins:∀x∈acc,x∈N.ps
 less:∀y dy q,pl=P3 y->F y=P3 (dy,q)->∀x∈acc,∃dx qx,F x=P3 (dx,qx)/\dy<dx
 fnd:∀y,pl=P3 y->F y≠q_
def wm(F:NX):u_ Str->Nat
 |none=>0
 |some y=>((F y).getD (0,q_)).1.toNat+1
theorem WInv.step{N:Net}(ok:N.Ok){a:Str}{F:NX}(T:Told N a F){b:Str}{k:Int}{K:u_ Str}(eb:F b=P3 (k,K)){m:t_ Str}{y:Str}{g:Int}{f:u_ Str}(h:WInv N F b k m (P3 y))(c:F y=P3 (g,f)):WInv N F b k (m++[y]) f/\wm F f<wm F (P3 y):=by
 have L:=(T.least y g f c).1.pos ok
 have A:∀w o q,f=P3 w->F w=P3 (o,q)->o<g:=λw o q e i=>by
  rcases T.prev y g f c with⟨z,_⟩|⟨B,s,C,l,j,n,t,u⟩
  ·rw[e]at z; cases z
  ·rw[e]at j
   cases j;rw[i]at n;cases n
   have:=(t.pos ok).1
   omega
 have D:∀w,f=P3 w->F w≠q_:=λw e=>by
  rcases T.prev y g f c with⟨z,_⟩|⟨B,s,C,l,j,n,_⟩
  ·rw[e]at z; cases z
  ·rw[e]at j
   cases j;rw[n];intro z; cases z
 refine⟨⟨.inr ?_,?_,λx d=>?_,λw o q e i x d=>?_,D⟩,?_⟩
 ·rw [List.reverse_append,List.reverse_singleton,jS]
  rcases h.st with⟨rfl,e⟩|⟨z,r,E,j,n,t,u⟩
  ·cases e
   rw[eb]at c;cases c;exact⟨_,_,_,rfl,eb,(by show k - k=0; omega),rfl⟩
  ·refine⟨y,m.reverse,g,rfl,c,?_,?_⟩
   ·rw[j]at t ⊢
    rcases T.prev z E (P3 y) n with⟨w,_⟩|⟨B,s,C,l,M,G,O,Q⟩
    ·cases w
    ·cases M
     rw[c]at G;cases G
     have:=Ry O t
     rw[show l+(k - E)=k - g by omega]at this;exact this
   ·rw[j]at u ⊢
    exact u
 ·rw[iC]
  refine⟨h.nd,gE.mpr ⟨gI,gW⟩,λx d z P e=>?_⟩;rw[TM.mp P]at e;obtain⟨H,I,ex,v⟩:=h.less y g f rfl c x d;rw[e,c]at ex;cases ex;omega
 ·rcases gA.mp d with d|d
  ·exact h.ins x d
  ·rw[TM.mp d]
   exact T.ins y (by rw[c]; intro z; cases z)
 ·have J:=A w o q e i
  rcases gA.mp d with d|d
  ·obtain⟨H,I,ex,v⟩:=h.less y g f rfl c x d
   exact⟨H,I,ex,by omega⟩
  ·rw[TM.mp d]
   exact⟨g,f,c,J⟩
 ·cases f with
  |none=>exact Nat.succ_pos _
  | some w=>
   cases i:F w with
   |none=>exact absurd i (D w rfl)
   |some p=>
    have J:=A w p.1 p.2 rfl i;have R:=(T.least w p.1 p.2 i).1.pos ok;show((F w).getD (0,q_)).1.toNat+1<((F y).getD (0,q_)).1.toNat+1;rw[i,c];show p.1.toNat+1<g.toNat+1;omega
section
variable {ss:t_ Slot}{n:Nat}{Pd:D->Nat->Prop}
theorem SD(h:YZ ss n Pd):PF (EE Pd) n (ss++UF 3 .no):=by
 obtain⟨N,a,b,rfl,f,G,hb,p⟩:=h;have H:=PySem.sizeLine_eq;have ok:=f.1;unfold PF;refine⟨N,a,rfl,f,G,λs t F M T=>?_⟩;refine⟨s,t,_,rfl,Bs b,?_⟩;show if(!(BM s t (.inr b)).isSome)=r_ then _ else _
 have d:=T.far b;cases g:F b with
 |none=>
  rw[M.at_,g];rw[g]at d;exact Ef (p q_ d)
 | some x=>
  obtain⟨i,I⟩:=x;rw[M.at_,g];refine CH ⟨z0,?_⟩;refine Ld (λm u v=>u=n/\∃(c:t_ Str) (k:u_ Str),v=[.sh (Bw N),.sh (.str a),.sh (.str b),.sh (.dic s t),.ow (.lst (c.map .str)),.sh (cA k)]/\WInv N F b i c k/\m=wm F k) (wm F (P3 b)) ⟨rfl,[],P3 b,rfl,⟨.inl ⟨rfl,rfl⟩,gW,(λx o=>by cases o),(λ_ _ _ _ _ x o=>by cases o),λy e=>by cases e; rw[g]; intro z; cases z⟩,rfl⟩ ?_ ?_
  ·rintro m u v N' ⟨rfl,c,k,rfl,J,rfl⟩ K
   have wl:=MO J.nd J.ins;have L:=f.2.1;cases k with
   | none=>
    refine⟨rfl,_,rfl,?_⟩
    rcases J.st with⟨_,e⟩|⟨z,r,O,R,A,S,U⟩
    ·cases e
    ·have V:z=a:=by
      rcases T.prev z O q_ A with⟨_,w⟩|⟨w',W,q',l,X,_⟩
      ·exact w
      ·cases X
     subst V;rw[T.start]at A;cases A;rw[←List.map_reverse];refine p (P3 c.reverse) ⟨i - 0,r,R,U,S,?_,by rw[l_]; omega,λx o=>J.ins x (List.mem_reverse.mp o)⟩;rw[show i - 0=i by omega];exact T.least b i I g
   | some y=>
    cases B:F y with
    |none=>exact absurd B (J.fnd y rfl)
    |some q=>
     obtain⟨Y,C⟩:=q;obtain⟨Z,D⟩:=J.step ok T g B;refine⟨rfl,?_⟩;refine⟨_,rfl,rfl,_,_,rfl,rfl,by rw[Go]; omega,?_⟩;refine⟨s,t,_,JR (Y,C),rfl,Bs y,by rw[M.at_,B]; rfl,_,AK (j:=1) rfl,?_⟩;refine K (wm F C) _ _ D ⟨rfl,c++[y],C,?_,Z,rfl⟩;rw[gR];rfl
  ·rintro u v P Q E h
   unfold Ab Aa AB wC JQ at h ⊢
   split at h
   ·exact⟨h.1,E _ _ h.2⟩
   ·exact h.elim
end
theorem Xl{w:t_ Str}{b:Str}(h:w.getLast?=P3 b):atI (w.map D.str) (-1)=P3 (.str b):=by
 obtain⟨a,rfl⟩:=kJ.mp h;rw[gR];exact PN _ _
theorem N7(a:Int)(k:Nat):CZ a (k+1)=.int a::CZ (a+1) k:=by
 unfold CZ;rw[nP,f9,gh];refine me.mpr ⟨by grind,h_ λi _=>?_⟩
 grind
theorem UV{N:Net}(a:okN N):IR 1000001 (Bw N)/\Tj (Bw N)<=48000/\TB (Bw N)<=3:=UM (Mz a.1) (FL a.1) (by rw[Go]; have:=a.2.1; omega) (by rw[Go]; have:=a.2.2; omega)
def sub(N:Net)(kept:t_ Au):Net:=⟨N.ps,N.ts.filter λu=>decide (u∈kept)⟩
def Es(N:Net)(t b:Int)(u:Au):Prop:=∃d,Least N u.a u.b d/\d*b<=u.len*t
noncomputable def Kj(N:Net)(t b:Int)(u:Au):Bool:=@decide (Es N t b u) (Classical.propDecidable _)
theorem nearB_iff{N:Net}{t b:Int}{u:Au}:Kj N t b u=r_↔Es N t b u:=by
 unfold Kj
 grind
def LC:W2:=λc n P=>∃(N:Net) (z:D) (b:t_ Au),c=[.sh (Bw N),.br z]/\G0 z=P3 (b.map Ak)/\b.length<64/\∀a:t_ Au,a.Perm b->PD a->P (Bw ⟨N.ps,a⟩) n
def Gq:W2:=λc n P=>∃(N:Net) (u:Au) (t b:Int),c=[.sh (Bw N),.sh (.tup [.int t,.int b]),.sh (Ak u)]/\okN N/\u.a∈N.ps/\u.b∈N.ps/\1<=b/\b<=1000000/\1<=t/\t<=1000000/\∀o:u_ (t_ Str),(∀w,o=P3 w->Way N u.a u.b (P3 w)/\Kj N t b u=r_)->(o=q_->Kj N t b u=s_)->P (IG o) n
def PJ:AZ:=(As (BO (AE (Aa BA (AB 0) (wC (D.int 0))) (AE (Bz B2 (AE (Bz Vp (AE (B7 1) AV)) AV)) AV))))
def HL:AZ:=(Af (A5 3 (Ad YZ (AC (AH (AB 0)) (AC (AH (Aa BA (AB 2) (wC (D.int 0)))) (AC (AH (Aa BA (AB 2) (wC (D.int 1)))) Ae)))))
 (Af (BC (CF (Ab (Aa (JQ s_) (AB 3) (wC D.non))) (Br (Ab (Ad Jj (AC (AH (Ad Ya (AC (AH (AB 0)) (AC (AH (AB 3)) Ae)))) (AC (AH (AB 1)) (AC (AH (Aa BA (AB 2) (wC (D.int 2)))) Ae))))))) (As (wC D.non)) Ay)
 (As (AB 3))))
theorem Wk.mono{N a:Net}(h:∀t∈N.ts,t∈a.ts){s x:Str}{d:Int}(b:Wk N s x d):Wk a s x d:=by
 induction b with
 |nil=>exact .nil
 |snoc _ c e=>
  refine .snoc e ?_;obtain⟨t,f,z⟩:=iu.mp c;exact iu.mpr ⟨t,h t f,z⟩
theorem Ki{f g:Type}:∀{l:t_ (f×g)},(l.map (·.1)).Nodup->∀{p q:f×g},p∈l->q∈l->p.1=q.1->p=q
 |a::l,d,p,q,h,i,e=>by
  rw[f9,gE]at d
  rcases fi.mp h with b|b <;>rcases fi.mp i with c|c
  ·rw[b,c]
  ·grind
  ·exact absurd (Uf.mpr ⟨p,b,by rw[e,c]⟩) d.1
  ·exact Ki d.2 b c e
theorem Xg{N:Net}(ok:N.Ok){x y:Str}{l:Int}(h:Ed N x y l):look N.ts x y=P3 l:=by
 unfold look;cases e:(D6 _ x).find? _ with
 |none=>exact absurd (mP.mp e _ h) (by simp)
 |some q=>
  have a:=of_decide_eq_true (List.find?_some (p:=λz=>decide _) e);rw[Ki (Sj ok x) (mn e) h a];rfl
theorem Nf{N:Net}(ok:N.Ok):∀{r:t_ Str}{x:Str}{s d:Int},walk N (x::r) d->Mw N.ts x r s=P3 (s+d)
 |[],x,s,d,h=>by
  have:=h
  subst this;show P3 s=P3 _
  grind
 |y::r,x,s,d,h=>by
  obtain⟨l,e,a,b,rfl⟩:=h;show(match look _ x y with|some l=>Mw _ y r _|none=>q_)=_;rw[Xg ok a];show Mw _ y r _=_;rw[Nf ok b,oB]
theorem Xh{N:Net}(ok:N.Ok){x:Str}{r:t_ Str}{d:Int}(a:x∈N.ps)(b:walk N (x::r) d):cD N (.tup ((x::r).map .str))=.int d:=by
 show(if((x::r).map _).all _ then Z5 N _ else .non)=_;rw[if_pos (all_strs _),Jx];show(if x∈N.ps then Zh _ else .non)=_;rw[if_pos a,Nf ok b,iM];rfl
theorem Hq{N:Net}{B:Nat}(ok:N.Ok):∀{w:t_ Str},(∀x∈w,x∈N.ps)->Kt B (w.map .str)/\Pa (w.map .str)<=9*w.length/\JT (w.map .str)<=0
 |[],_=>⟨trivial,Re _,Re _⟩
 | x::r,h=>by
  obtain⟨a,b,c⟩:=Hq ok λy e=>h y (Rs _ e);have d:=ok.names x (h x Sc);refine⟨⟨λf g=>by have:=d.2.2 f g; omega,a⟩,?_,?_⟩
  ·show x.length+1+Pa _<=9*(r.length+1)
   have:=d.2.1
   omega
  assumption
theorem Tz{N:Net}(ok:N.Ok){w:t_ Str}(d:w.length<=30)(h:∀x∈w,x∈N.ps):cM (.tup (w.map .str)):=by
 obtain⟨a,b,c⟩:=Hq ok h;exact⟨a,by show Pa _<=160000; omega,by show JT _+1<=50; omega⟩
section
variable {ss:t_ Slot}{n:Nat}{Pd:D->Nat->Prop}
theorem SE(h:LC ss n Pd):PJ (EE Pd) n (ss++UF 0 .no):=by
 obtain⟨N,z,s,rfl,c,d,p⟩:=h;unfold PJ;refine⟨_,AK (j:=0) rfl,z,_,rfl,c,by simp_all,⟨λx a=>?_,λx a y e f i k l=>?_⟩,λm o q=>?_⟩
 ·obtain⟨t,_,rfl⟩:=Uf.mp a
  exact⟨JE t,rfl,jl _ _⟩
 ·obtain⟨t,_,rfl⟩:=Uf.mp a
  obtain⟨u,_,rfl⟩:=Uf.mp e;cases(show P3 (JE t)=P3 f from k);cases(show P3 (JE u)=P3 i from l);rfl
 ·obtain⟨b,r,rfl⟩:=Yg (g:=cU) (λ_=>rfl) o
  exact⟨z2,p b r (XW q)⟩
theorem LL(h:Gq ss n Pd):HL (EE Pd) n (ss++UF 1 .no):=by
 obtain⟨N,u,t,b,rfl,f,v,x,y,A,B,C,p⟩:=h;unfold HL;refine⟨_,AK (j:=0) rfl,_,AK (j:=1) rfl,N,u.a,u.b,rfl,f,v,x,λo l=>⟨rfl,?_⟩⟩;cases o with
 |none=>
  refine p q_ (λw e=>by cases e) λ_=>?_;rw[io];intro z;obtain⟨d,k,_⟩:=nearB_iff.mp z;exact l d k.1
 | some w=>
  have m:=l;obtain⟨d,r,rfl,E,D,k,q,i⟩:=m
  have g:Kj N t b u=decide (d*b<=u.len*t):=by
   rw[i8,nearB_iff,decide_eq_true_eq];exact⟨fun⟨d',hd',s⟩=>by rw[Least.unique k hd']; exact s,λs=>⟨d,k,s⟩⟩
  refine⟨N,.tup ((u.a::r).map .str),rfl,f.1,by have:=f.2.1; omega,f.2.2,Tz f.1 q i,?_⟩;rw[Xh f.1 (i _ Sc) D];refine⟨_,AK (j:=2) rfl,d,t,b,u.len,rfl,y,A,B,C,?_⟩
  by_cases c:d*b<=u.len*t
  ·rw[decide_eq_true c]
   exact p (P3 _) (λw e=>by cases e; exact⟨l,by rw[g]; exact decide_eq_true c⟩) λe=>by cases e
  ·rw[decide_eq_false c]
   exact p q_ (λw e=>by cases e) λ_=>by rw[g]; exact decide_eq_false c
end
end Nt
namespace L2
open PySem.AutoSeq1 (wpAny_loadPart')
theorem Ww{prog:gD}{w:gK}{A:gS}{R:Result->On->Prop}{s:On}(t:Db)(items:Array Ev)(n:Nat)(x:Ev)(e:Ev->Bool)(j:Nat)(hj:j<items.size)(hit:e items[j]=r_)(hno:∀m (hm:m<items.size),m<j->e items[m]=s_)
  (hl:s.heap.get? t=P3 {cls:=.type "tuple",dict:=q_,data:=.seq items n,slots:=#[]}) (he:∀y,y∈items->PySem.SeqAt.EqAt A.in1 s y x (e y))
  (h:R (.ok (.ret (.int (j:Int) s.toks))) {s with toks:=s.toks+1}):
  wpAny (model prog w) A.in1 (iS.«tuple.index» ⟨[.ref t,x],[]⟩) (λfin s'=>match fin with|.done f=>R (.ok f) s'|.again c'=>c'.quiet=r_/\codeAny (model prog w) A c' R s') (λe s'=>R (.error e) s') s:=by
 obtain⟨hp,g,d,tk,os⟩:=s
 wp_walk using jR hl
 have go:∀(Q:u_ _×Unit->On->Prop) (E:Ev->On->Prop),(∀r,Q (P3 r,()) ⟨hp,g,d,tk+1,os⟩\/True)->∀(k i:Nat),i<=j->i+k=items.size->
   (∀r:Fin,r=.done (.ret (.int (j:Int) tk))->Q (P3 r,()) ⟨hp,g,d,tk+1,os⟩)->
   wpAny (model prog w) A.in1 (forIn (List.range' i k 1) ((q_:u_ Fin),()) (fun(i:Nat) __s=>match items[i]? with
      | some y=>do
       let __do_lift ←eqBool y x
       if __do_lift=r_ then do
         let __do_lift ←retInt (i:Int)
         pure (ForInStep.done (P3 __do_lift,()))
        else pure (i_ (q_,()))
      |x=>pure (i_ (q_,())))) Q E ⟨hp,g,d,tk,os⟩:=by
  intro Q E _ k
  induction k with
  |zero=>intro i h1 h2; omega
  | succ k ih=>
   intro i h1 h2 hQ;have hlt:i<items.size:=by omega
   rw[List.range'_succ,jQ];have hi:items[i]?=P3 items[i]:=iY hlt;simp only[hi];refine Ch (Ch (he _ (md hlt) prog w _ _ ?_))
   by_cases c:i=j
   ·subst c
    rw[hit]
    wp_walk
    exact hQ _ rfl
   ·rw[hno i hlt (by omega)]
    wp_walk
    exact ih (i+1) (by omega) (by omega) hQ
 show wpAny (model prog w) A.in1 (forIn [:min items.size items.size] ((q_:u_ Fin),()) _) _ _ _;rw[Std.Legacy.Range.forIn_eq_forIn_range']
 have er:List.range' (Std.Legacy.Range.start [:min items.size items.size]) (nZ [:min items.size items.size]) (Std.Legacy.Range.step [:min items.size items.size])=List.range' 0 items.size 1:=by
  simp[nZ]
 rw[er];refine go _ _ (λ_=>.inr trivial) items.size 0 (fo _) (Nat.zero_add _) λr er=>?_;subst er;exact Op h
section
variable {X:Cx}
def XG:V->t_ V->Hp->VK->Prop:=λx g H Q=>∃(a:Db) (c:t_ V) (y:V) (b:t_ jt) (d:jt) (j:Nat),x=.ref a/\g=[y]/\H a=P3 (.tup c)/\RVs H b c/\RV H d y/\jD b=r_/\d.canLay0=r_/\d.depth<=100 /\
 (∃e,b[j]?=P3 e/\jY e d=r_)/\(∀m f,m<j->b[m]?=P3 f->jY f d=s_)/\Q (.int (j:Int)) H
theorem Kk{k:Nat}(O:Room k X.A):cz X "tuple.index" XG:=by
 intro P s Z H x vs v us Q I S T h;obtain⟨l,U,y,b,d,j,rfl,rfl,V,f,W,C,Y,dd,⟨dj,hj,a0⟩,g,q⟩:=h;cases S;obtain⟨u,rfl,ru⟩:=T.one;obtain⟨z,a,r,⟨⟨a1,dt,D,sl⟩,e,E,n,G,J,K⟩⟩:=(show ObjOk X.prog X.w H s.heap l (.tup U)from I.hok l _ V);simp only at E G J K;subst E G J K;obtain⟨as,ra⟩:=RVs.reads I f r;obtain⟨bs,rb⟩:=RV.reads I W ru;have L:=PySem.SeqAt.readsAll_map b a as C ra;have M:b.length=a.length:=by rw[←L,Go]
 have hu:=O.un;have N:min (iZ b) d.depth<=d.depth:=lF _ _
 have i:∀m o,b[m]?=P3 o->∀(h:m<a.toArray.size),PySem.SeqAt.readOf s.heap a.toArray[m]=o:=λm o e h=>by
  rw[←L,T0]at e;have h':m<a.length:=by simpa using h
  simp_all
 have a2:j<a.length:=by grind
 have p:=Ww (prog:=X.prog) (w:=X.w) (A:=X.A) (R:=wants (EP X P Z Q) X.xe) l a.toArray n u _ j (by omega) (by simp_all) (λm t B=>by
  have c:m<b.length:=by simp_all
  rw[i m b[m] (FM c) t];exact g m b[m] B (FM c)) e (PySem.SeqAt.items_eqAt (vs:=a.toArray) (by omega) rb C Y (by omega)) ⟨.int j,H,I.tok _,⟨_,rfl⟩,q⟩
 exact jq (kA PySem.F.slot_tuple_index.plain PySem.F.entry_tuple_index (PySem.F.slot_tuple_index.check _ _ _ _ _ _ _ _ ⟨_,e,rfl⟩ (PySem.F.args_tuple_index_2 _ _) p))
def bN(r:V->t_ V->Hp->VK->Prop)(to:TE)(t:TA):TE:=λZ H Q=>to Z H λx H1=>(∃a b,x=.ref a/\H1 a=P3 (.tup b))/\t Z H1 λb c=>r x b c Q
theorem KP{o e:gB}{f:t_ gB}{to:TE}{t:TA}{name:Str}{d c:Pos}{l:String}{r:V->t_ V->Hp->VK->Prop}(j:Slot "tuple" name l)(p:typeOf (.builtin l)=pure (.type "method_descriptor"))(A:cz X l r)(B:PE X o to)(C:PA X (e::f) t)
  (g:attributeBase o name X.env (eval o X.env)=eval o X.env:=by rfl)
  (k:((backTo c (starEach (e::f) X.env)).all (λx=>!x.1)&&(backToKw c (keywordEach [] X.env)).all (λx=>x.1.isSome)
   && decide ((e::f).length+([]:t_ j8).length+(if([]:t_ j8).isEmpty then 0 else 1)<30))=r_:=by rfl)
  (i:(d.endLine==c.line)=r_:=by rfl) (D:starEach (e::f) X.env=(s_,eval e X.env)::starEach f X.env:=by rfl) (m:(backTo c (starEach f X.env)).any (·.1)=s_:=by rfl):
  PE X (.Call (.Attribute o name d) (e::f) [] c) (bN r to t):=by
 intro q s Z H Q I h;refine wpAny_Call_method_late g k i rfl (thn (B q s Z H _ I h) λv E ⟨x,H1,u,w,⟨a,Y,ex,G⟩,J⟩=>?_);subst ex;have K:v=fj a:=w;subst K;obtain⟨z,L,_,o,M,N,n,e3,e4,e5⟩:=(u.hok a _ G);refine⟨"tuple",l,PySem.F.plainAttrs_tuple,j,p,⟨o,M,N⟩,λb eb=>by simp_all,?_⟩;have y:=C c q E Z H1 _ u J;rw[D]at y ⊢;refine k6 (by grind) (n6 ?_);exact thn y λO P ⟨R,S,T,U,W⟩=>A q P Z S (.ref a) R (.ref a) O Q T w U W
end
end L2
namespace Dp
open L2
section
variable {X:Cx}{zT:Kd}{a e:Expr}{es:t_ Expr}{wa:DW}{ws:Dh}
def cN(d:D)(c:t_ D)(P:D->Prop):Prop:=∃(b:t_ D) (y:D) (j:Nat),d=.tup b/\c=[y]/\CG (.tup b)/\CG y/\(∃x,b[j]?=P3 x/\Fz x y=r_)/\(∀m x,m<j->b[m]?=P3 x->Fz x y=s_)/\P (.int (j:Int))
def ZO(c:DW)(ws:Dh):DW:=λn b P=>c n b λd e=>(∃f,d=.tup f)/\ws e b λg h=>cN d g λz=>P z h
theorem cX{K:Frag}:fZ K .sh "tuple" XG cN:=by
 intro U M H d F x G P Q k I l n w q;obtain⟨h,y,j,rfl,rfl,⟨o,r,_⟩,⟨s,t,u⟩,⟨J,b,c⟩,f,w⟩:=w;obtain⟨v,rfl,z⟩:=D4 n;obtain⟨a,A,rfl,B,C⟩:=l.tup
 have g:∀(m:Nat) (p:jt),(Bi h)[m]?=P3 p->∃x,h[m]?=P3 x/\p=toPy x:=λm p e=>by
  rw[B3,T0]at e;obtain⟨x,i,rfl⟩:=f7.mp e
  grind
 refine⟨a,A,v,_,_,j,rfl,rfl,B,C.rv o,z.rv s,r,t,u,⟨_,by rw[B3,T0,b]; rfl,c⟩,λm p D e=>?_,q _ H (.int j) .refl rfl w⟩;obtain⟨E,i,rfl⟩:=g m p e;exact f m E D i
theorem WF{k:Nat}{f b:Pos}(E:Room k X.A)(G:DE X a zT wa)(I:Yc X (e::es) ws)
  (h:attributeBase a "index" X.env (eval a X.env)=eval a X.env:=by rfl)
  (j:((backTo b (starEach (e::es) X.env)).all (λx=>!x.1)&&(backToKw b (keywordEach [] X.env)).all (λx=>x.1.isSome)
   && decide ((e::es).length+([]:t_ j8).length+(if([]:t_ j8).isEmpty then 0 else 1)<30))=r_:=by rfl)
  (i:(f.endLine==b.line)=r_:=by rfl) (s:starEach (e::es) X.env=(s_,eval e X.env)::starEach es X.env:=by rfl) (c:(backTo b (starEach es X.env)).any (·.1)=s_:=by rfl):
  DE X (.Call (.Attribute a "index" f) (e::es) [] b) .sh (ZO wa ws):=by
 obtain⟨t,J,K⟩:=G;obtain⟨u,L,N⟩:=I;refine⟨_,KP PySem.F.slot_tuple_index PySem.F.type_tuple_index (Kk E) J L h j i s c,λC M H n y Z P Q R w q=>?_⟩;refine K C M H n y Z _ _ R w λx H1 d O o S T p=>?_;have r:=R.step o S;have B:=T.tpOf R.dom R.vM;obtain⟨⟨U,rfl⟩,p⟩:=p;refine⟨by obtain⟨a,W,rfl,Y,s⟩:=B.tup; exact⟨a,W,rfl,Y⟩,?_⟩;refine N C M H1 O y Z _ _ r p λvs H2 ds n2 l D r2 p2=>?_;have m:=r.step l D;refine cX C.V M H2 (.tup U) ds x vs _ _ m.dom m.vM (B.pres (r.pres l) l R.uV) r2 p2 λv H3 z g vr pz=>?_;exact q v H3 z n2 ((o.trans l).trans g.ext) (D.grow g) (VR.back (o.trans l) vr) pz
end
end Dp
namespace Nt
open L2 Dp
def dG:D->Bool
 |.int i=>decide (0<=i)
 |_=>s_
def fO(N:Net):D->Bool
 |.tup a=>((a.length:Int)==(N.ps.length:Int))&&a.all dG
 |_=>s_
def df:D->Int
 |.int i=>i
 |_=>0
def Lp(N:Net)(b:t_ D)(a:Str):Int:=df ((BM (N.ps.map .inr) b (.inr a)).getD .non)
def HR(i:Int):Int:=if i<0 then -i else i
def Vn(N:Net):D->Bool
 |.tup c=>fO N (.tup c)&&N.ts.all λt=>decide (HR (Lp N c t.a - Lp N c t.b)<=t.len)
 |_=>s_
def IW(m:Int):u_ Int->Int
 |some d=>if d<m then d else m
 |none=>m
def NW:W2:=λa n P=>∃(N:Net) (s:Str) (m:Int),a=[.sh (Bw N),.sh (.str s),.sh (.int m)]/\okN N/\s∈N.ps/\∀F:NX,Told N s F->P (.tup (N.ps.map λx=>.int (IW m ((F x).map (·.1))))) n
def FU:AZ:=(Af (A5 3 (Ad LD (AC (AH (AB 0)) (AC (AH (AB 1)) Ae))))
 (As (Bz B2 (AE (Ba [P3 2,P3 3,q_] (BL (Aa BA (AB 0) (wC (D.int 0)))) (Al 2) C4 (bC (Ab (Aa (NA s_) (AB 2) (AB 1))) (Bz RO (AE (AB 0) (AE (Aa BA (Aa B4 (AB 1) (AB 2)) (wC (D.int 0))) AV))) (AB 0))) AV))))
theorem Qn:∀{b:t_ Key}{a:t_ D}{k:Key}{z:D},BM b a k=P3 z->z∈a
 |[],_,k,z,h=>by cases h
 |_::_,[],k,z,h=>by cases h
 |e::b,d::a,k,z,h=>by
  have c:(if e=k then P3 d else BM b a k)=P3 z:=h
  split at c
  ·cases c; exact Sc
  ·exact Rs _ (Qn c)
theorem ge_int{d:D}(h:dG d=r_):∃i,d=.int i/\0<=i:=by
 cases d with
 |int i=>exact⟨i,rfl,of_decide_eq_true h⟩
 |_=>cases h
theorem XA{c:t_ Str}(h:rising c):c.Nodup:=List.Pairwise.imp (λ{a b} z e=>by rw[e]at z; exact B5 _ z) h
theorem Wq{N:Net}{b:t_ D}(d:b.length=N.ps.length)(e:∀x∈b,dG x=r_){a:Str}(f:a∈N.ps):BM (N.ps.map .inr) b (.inr a)=P3 (.int (Lp N b a)):=by
 obtain⟨z,c⟩:=Hv (ks:=N.ps.map .inr) (ds:=b) (k:=.inr a) (by rw[Go]; exact d.symm) (Uf.mpr ⟨a,f,rfl⟩);obtain⟨i,rfl,_⟩:=ge_int (e z (Qn c));unfold Lp;rw[c];rfl
section
variable {ss:t_ Slot}{n:Nat}{Pd:D->Nat->Prop}
theorem JI(h:NW ss n Pd):FU (EE Pd) n (ss++UF 1 .no):=by
 obtain⟨N,s,m,rfl,b,i,p⟩:=h;have k:=b.2.1;unfold FU;refine⟨N,s,rfl,b,i,λc e F M T=>?_⟩;refine⟨_,AK (j:=0) rfl,by show(N.ps.map D.str).length<=10000000; rw[Go]; omega,?_⟩;refine BK (λd=>match d with|.str x=>.int (IW m ((F x).map (·.1)))|_=>.non) (λf=>∃g,f=[.sh (.int m),.sh (.dic c e),g]) _ _ _ _ ?_ ⟨_,rfl⟩ ?_
 ·rintro d l f o r ⟨g,rfl⟩ a
  obtain⟨x,t,rfl⟩:=Uf.mp l;refine⟨c,e,_,rfl,Bs x,?_⟩;show if((BM c e (.inr x)).isSome)=r_ then _ else _
  have a:r (.int (IW m ((F x).map (·.1)))) o [.sh (.int m),.sh (.dic c e),.sh (.str x)]:=a _ ⟨.sh (.str x),rfl⟩;rw[M.at_];cases ex:F x with
  |none=>
   rw[ex]at a;exact CH a
  |some q=>
   rw[ex]at a;exact Ef ⟨c,e,_,JR q,rfl,Bs x,by rw[M.at_,ex]; rfl,_,AK (j:=0) rfl,a⟩
 ·rw[gL,gh]
  exact p F T
end
theorem aW{m:Int}(a:0<=m){o:u_ Int}(b:∀d,o=P3 d->0<=d):0<=IW m o/\IW m o<=m:=by
 cases o with
 |none=>exact⟨a,iV _⟩
 |some d=>
  have:=b d rfl
  show 0<=(if d<m then d else m)/\(if d<m then d else m)<=m
  split <;>omega
end Nt
set_option maxHeartbeats 400000
namespace Nt
open L2 Dp
inductive Ca where
 |en
 |fa (u:Au) (p:List Int)
 |sp (u:Au) (c d:Ca)
def Ca.cnt:Ca->Nat
 |.sp _ c d=>1+c.cnt+d.cnt
 |_=>1
def Ca.dep:Ca->Nat
 |.sp _ c d=>1+max c.dep d.dep
 |_=>1
def Ca.D:Ca->D
 |.en=>.tup [.str "enough"]
 |.fa u p=>.tup [.str "far",Ak u,.tup (p.map .int)]
 |.sp u c d=>.tup [.str "split",Ak u,c.D,d.D]
def Cd(N:Net)(gone:t_ Au):Net:=⟨N.ps,N.ts.filter λt=>decide (t∉gone)⟩
def QO(N:Net)(t b:Int)(gone:t_ Au)(u:Au)(p:t_ Int):Bool:=Vn (Cd N gone) (.tup (p.map .int))&&decide (u.len*t<HR (Lp N (p.map .int) u.a - Lp N (p.map .int) u.b)*b)
def RC(N:Net)(t b:Int)(f:Nat):t_ Au->t_ Au->Ca->Bool
 |e,_,.en=>decide (f<=e.length)
 |_,a,.fa u p=>decide (u∈N.ts)&&decide (u∈a)&&QO N t b a u p
 |e,a,.sp u c d=>decide (u∈N.ts)&&decide (u∉e)&&decide (u∉a)&&RC N t b f (e++[u]) a c&&RC N t b f e (a++[u]) d
def Qj(N:Net)(t b:Int)(S:t_ Au):Prop:=∀u∈N.ts,∃d,Wk ⟨N.ps,S⟩ u.a u.b d/\d*b<=u.len*t
theorem XU{N:Net}(ok:N.Ok)(gone:t_ Au):(Cd N gone).Ok:=⟨ok.names,ok.rise,λt a=>ok.tin t (iG.mp a).1,ok.trise.sublist kH⟩
inductive Made (N:Net) (t b:Int) (many:Nat):List Au->List Au->List Au->Ca->Prop
 |en {kept gone left:List Au}:many<=kept.length->Made N t b many kept gone left .en
 |fa {kept gone left:List Au}{u:Au}{p:List Int}:u∈gone->QO N t b gone u p=r_->Made N t b many kept gone left (.fa u p)
 |no {kept gone:List Au}:(∀u∈gone,∃d,Wk (Cd N gone) u.a u.b d/\d*b<=u.len*t)->Made N t b many kept gone [] .en
 |sp {kept gone left rest:List Au}{u:Au}{c d:Ca}:left.Perm (u::rest)->Made N t b many (kept++[u]) gone rest c->Made N t b many kept (gone++[u]) rest d->Made N t b many kept gone left (.sp u c d)
theorem Made.dep{N:Net}{t b:Int}{a:Nat}{kept gone left:t_ Au}{c:Ca}(h:Made N t b a kept gone left c):c.dep<=left.length+1/\c.cnt+1<=2 ^ (left.length+1):=by
 induction h with
 |@en _ _ left _=>exact⟨jg (fo _),by have:=Nat.two_pow_pos left.length; show 1+1<=_; omega⟩
 |@fa _ _ left _ _ _ _=>exact⟨jg (fo _),by show 1+1<=_; grind⟩
 |no _=>exact⟨Re _,Re _⟩
 | sp g _ _ d f=>
  have e:=g.length_eq;rw[eq]at e;rw[e];obtain⟨i,j⟩:=d;obtain⟨k,l⟩:=f;refine⟨?_,?_⟩
  ·show 1+max _ _<=_
   omega
  ·show 1+_+_+1<=_
   omega
theorem Made.shows{N:Net}(ok:N.Ok){t b:Int}(H:0<=b)(m:b<=t){g:Nat}(y:∀S:t_ Au,S.Sublist N.ts->Qj N t b S->g<=S.length){f e left:t_ Au}{c:Ca}(h:Made N t b g f e left c)(i:(f++e++left).Perm N.ts):RC N t b g f e c=r_:=by
 have n:N.ts.Nodup:=Bt ok.trise
 induction h with
 |en h=>exact decide_eq_true h
 |fa j A=>
  unfold RC;rw[A,decide_eq_true j,decide_eq_true (i.subset (gu _ (fz _ j)))];rfl
 | @no f e B=>
  rw[gk]at i;have o:=i.nodup_iff.mpr n;refine decide_eq_true ?_
  have C:Qj N t b (Cd N e).ts:=λu j=>by
   by_cases w:u∈e
   ·exact B u w
   ·have p:u∈(Cd N e).ts:=iG.mpr ⟨j,decide_eq_true w⟩
    refine⟨u.len,?_,l8 m (by have:=(ok.tin u j).2.2.2.1; omega)⟩
    have:=Wk.snoc (Wk.nil (N:=Cd N e) (s:=u.a)) (Je p).1
    rw[iM]at this;exact this
  have I:=y (Cd N e).ts kH C
  have J:(Cd N e).ts.length<=f.length:=by
   refine sub_len (n.sublist kH) (iC.mp o).1 λx l=>?_;obtain⟨D,E⟩:=iG.mp l
   rcases gA.mp (i.symm.subset D)with z|z
   ·exact z
   ·exact absurd z (of_decide_eq_true E)
  omega
 | @sp f e left k u c d q _ _ r v=>
  have j:u∈left:=q.symm.subset Sc;have o:=i.nodup_iff.mpr n;have l:u∉f++e:=λz=>(iC.mp o).2.2 u z u j rfl
  have F:(f++[u]++e++k).Perm N.ts:=by
   refine jw ?_ i;refine jw ?_ (i4 _ q.symm);simp only[gv,jS];exact i4 _ (List.perm_middle.symm)
  have G:(f++(e++[u])++k).Perm N.ts:=by
   refine jw ?_ i;refine jw ?_ (i4 _ q.symm);simp only[gv,jS];exact nc _
  unfold RC;rw[r F,v G,decide_eq_true (i.subset (fz _ j)),decide_eq_true (show ¬u∈f from λz=>l (gu _ z)),decide_eq_true (show ¬u∈e from λz=>l (fz _ z))];rfl
end Nt
namespace Dp
open L2
theorem UJ{l m:t_ (Key×V)}{k:Key}{v:V}(h:B8 l k=P3 v):B8 (l++m) k=P3 v:=by
 unfold B8 at h ⊢
 grind
theorem Xt{a:t_ Key}{b:t_ V}{k:Key}(h:k∉a):((a.zip b).find? λc=>decide (c.1=k))=q_:=mP.mpr λp d=>by
 rw[decide_eq_true_eq];exact λz=>h (z▸(jP d).1)
theorem Fn{a:t_ Key}{b:t_ V}{k:Key}{v:V}(c:a.length=b.length):(a++[k]).zip (b++[v])=a.zip b++[(k,v)]:=nH c
theorem UI{a:t_ Key}{b:t_ V}{k:Key}{v:V}(h:k∉a):B8 (a.zip b++[(k,v)]) k=P3 v:=by
 unfold B8;rw[List.find?_append,Xt h];simp
theorem U2{a:t_ Key}{b:t_ V}{k:Key}{c v:V}(h:k∉a):putK (a.zip b++[(k,c)]) k v=a.zip b++[(k,v)]:=by
 unfold putK;rw[if_pos (by simp),gR]
 congr 1
 ·have:∀p∈a.zip b,(if p.1=k then(p.1,v)else p)=p:=λp d=>if_neg fun(z:p.1=k)=>h (z▸(jP d).1)
  exact(h_ this).trans (lA _)
 ·simp
theorem Rel.world{K:Frag}{C:Fm}{M:Db->Prop}{H:Hp}{n:Nat}{d:t_ Slot}{Z:L2.St}(R:Rel K C M H n d Z){i:Nat}{b:t_ Key}{c:t_ D}(g:d[i]?=P3 (.wd b c)):∃f a,Z[i]?=P3 (P3 (.ref f.1))/\C.F=P3 f/\f.t=P3 (b,c,a)/\ZG K M H f.1 b c a n:=by
 obtain⟨f,a,j,e,k⟩:=R.sl i _ g;refine⟨f,a,getD_some j,e,k,?_⟩
 rcases R.feed f e with⟨l,_⟩|⟨m,o,p,l,h⟩
 ·grind
 grind
section
variable {X:Cx}{x b e:Expr}{κ zQ:Kd}{wb:DW}{pos pos':Pos}{i k:Nat}
def Hs(i:Nat)(wb:DW):DW:=λn c P=>∃d e,c[i]?=P3 (.wd d e)/\wb n c λk f=>∃a z,keyOf k=P3 a/\BM d e a=P3 z/\P z f
theorem FP(B:Room k X.A)(D:PE X x (BN i))(E:DE X b zQ wb)(F:Tg b:=by intro _ _; rfl):DE X (.Subscript x b pos) .sh (Hs i wb):=by
 obtain⟨Y,g,h⟩:=E;refine⟨_,Fp (GG B) D g F,λC M H n G Z P Q R w q=>?_⟩;obtain⟨ks,ds,o,w⟩:=w;obtain⟨f,vs,I,J,K,_⟩:=R.world o;refine⟨.ref f.1,I,?_⟩;refine h C M H n G Z _ _ R w λy H1 kk L s t N p=>?_;obtain⟨j,z,O,S,p⟩:=p;have T:=R.step s t;obtain⟨f',U,_,a,c,r,u,W,d,_⟩:=T.world o;rw[J]at a;cases a;rw[K]at c;cases c;have e:=Gx (k:=j) (ks:=ks) d;rw[S]at e;obtain⟨v,e,l⟩:=e;rw[Fn (by rw[W,d.length])]at u;refine⟨f.1,v,rfl,?_,q v H1 z L s t l p⟩;rw[DK O (N.tpOf R.dom R.vM),←UJ (m:=[((gl "room":Key),V.int r)]) e];exact DGet.k u
def T6(i:Nat):DW:=λn c P=>∃a d,c[i]?=P3 (.wd a d)/\(gl "room":Key)∉a/\∀r:Int,(n:Int)<=r->r<=100000->P (.int r) n
theorem RZ{jc cp}(e:Room k X.A)(g:PE X x (BN i))(h:Tg (.Constant (.str "room") jc cp):=by intro _ _; rfl):DE X (.Subscript x (.Constant (.str "room") jc cp) pos) .sh (T6 i):=by
 refine⟨_,Fp (GG e) g GY h,λC M H n s Z P Q R w q=>?_⟩;obtain⟨t,u,j,a,w⟩:=w;obtain⟨f,v,l,y,z,r,d,m,c,o,p,_⟩:=R.world j;rw[Fn (by rw[m,c.length])]at d;refine⟨_,l,_,_,rfl,?_,q _ H (.int r) n (Ext.refl _ _) R.feed rfl (w r o p)⟩
 have:=DGet.k (k:=.inr "room") d
 rw[UI a]at this;exact this
def Ng(i:Nat)(wb:DW):AZ:=λf n a=>∃c g,a[i]?=P3 (.wd c g)/\(gl "room":Key)∉c/\c.length<=10/\wb n a λd h=>∃(r:Int) (e:Nat),d=.int r/\(e:Int)<=r/\r<=100000/\f.nx e a
theorem YB{jc cp}(G:Room k X.A)(I:PE X x (BN i))(J:DE X b zQ wb)(K:zQ≠.tp:=by intro z; cases z)
  (N:swapsWith b (P3 (.Subscript x (.Constant (.str "room") jc cp) pos')) pos.line X.env=pure s_:=by rfl):DS X κ (.Assign [.Subscript x (.Constant (.str "room") jc cp) pos'] b pos) (Ng i wb):=by
 obtain⟨u,O,P⟩:=J;refine⟨_,Fo (GG G) I GY O N,λC M H n Q Z D2 E R L w=>?_⟩;obtain⟨q,S,T,s,D,w⟩:=w;refine P C M H n Q Z _ _ R w λv H1 d n1 U W Y p=>?_;obtain⟨r,n2,rfl,h1,h2,p⟩:=p;have e:=R.step U W;obtain⟨f,j,ea,t,ht,r0,l,F,h,_,_,y⟩:=e.world T;have hv:v=.int r:=Y.shOf R.dom K;have a:q.length=j.length:=by rw[F,h.length]
 rw[Fn a]at l;have mf:M f.1:=e.vM _ (e.uV _ (e.fU f t));have a0:=PySem.sizeLine_eq;refine⟨.ref f.1,ea,f.1,_,rfl,DPut.k (k:=.inr "room") l (by rw[fw,ir]; show _+1<_; omega),?_⟩;rw[hv,U2 s];have pr:Pres M H1 M (A2 H1 f.1 (.dK (q.zip j++[((gl "room":Key),V.int r)]))):=Cw mf l;refine L.nx M _ n2 _ Z (e.step (λc o B=>?_) λg hg=>?_) p
 ·by_cases m:c=f.1
  ·rw[m,l]at B
   cases B;exact⟨_,by rw[m]; exact AR,λnu=>absurd (m▸e.fU f t) nu,λj z=>by cases z⟩
  ·exact⟨o,by rw[AM m]; exact B,λ_=>rfl,λ_ _=>rfl⟩
 ·have:g=f:=ft (hg.symm.trans t)
  subst this;exact .inr ⟨q,S,j,ht,r,by rw[Fn a]; exact AR,F,h.pres pr,h1,h2,y⟩
def Jp(i:Nat):Nat->t_ Slot->(Slot->Nat->Prop)->Prop:=λn a P=>match a[i]? with
 |some (.wd c d)=>P (.wd c d) n
 |_=>False
theorem Ky(i:Nat){x:Str}{pos:Pos}(d:X.N[i]?=P3 x:=by rfl)(e:Te X.env.scope x:=by first|exact XV rfl|exact gx (XV rfl)|exact gx (gx rfl))(a:(x==("__debug__":Str))=s_:=by decide)
  (c:(x==("__classdict__":Str))=s_:=by decide):c8 X (.Name x pos) (Jp i):=by
 refine⟨_,Ea d e a c,λC M H n m Z P Q R w q=>?_⟩;unfold Jp at w
 split at w
 ·rename_i g h a
  obtain⟨f,j,k,l⟩:=R.sl i _ a;exact⟨_,getD_some k,q _ H (.wd g h) n (Ext.refl _ _) R.feed ⟨⟨f,j,rfl,l⟩,rfl⟩ w⟩
 grind
def UE(W:W2)(k l m j:Nat)(o p q:Str)(r:Nat)(c:Int):DW:=λn a P=>∃e f g h,a[k]?=P3 (.sh e)/\a[l]?=P3 (.sh f)/\a[m]?=P3 (.sh g)/\a[j]?=P3 (.sh h)/\Co [e,f,g]=r_/\W [.wd [.inr o,.inr p,.inr q] [e,f,g],.sh (.lst []),.sh (.lst []),.sh h,.sh (.int c)] r λd _=>P d n
theorem OZ{a c d e:Key}{f g j k:V}(h:[a,c,d,e].Nodup):Ga [] [(a,f),(c,g),(d,j),(e,k)]=[(a,f),(c,g),(d,j),(e,k)]:=by
 simp only[gE,fi,gI,or_false,not_or]at h;obtain⟨⟨l,m,n⟩,⟨o,p⟩,q,_⟩:=h;simp[Ga,putK,decide_eq_false l,decide_eq_false m,decide_eq_false n,decide_eq_false o,decide_eq_false p,decide_eq_false q]
theorem WL{ps:t_ Str}{W:W2}{fn:Str}{i1 i2 i3 j r:Nat}{c:Int}{t u y:Str}{U Y e3 s:gB}{p dp:Pos}{j1 j2 j3 j4 j5 j6 q1 q2 q3 q4 q5 q6 l1 l2}(G:Got X.prog X.w X.K X.mg X.base fn k ps .sh W)
  (hr:Room k X.A) (N:Gl X fn) (h1:PE X U (BN i1)) (h2:PE X Y (BN i2)) (h3:PE X e3 (BN i3)) (h4:PE X s (BN j)) (nd:[(gl t:Key),gl u,gl y,gl "room"].Nodup) (b9:r<=100000) (a0:ps.length=5:=by rfl)
  (a5:(fn==("__debug__":Str))=s_:=by decide)
  (he:starEach [.Dict [P3 (.Constant (.str t) j1 q1),P3 (.Constant (.str u) j2 q2),P3 (.Constant (.str y) j3 q3),P3 (.Constant (.str "room") j4 q4)] [U,Y,e3,.Constant (.int r) j5 q5] dp,.List [] l1,.List [] l2,s,.Constant (.int c) j6 q6] X.env=(s_,eval (.Dict [P3 (.Constant (.str t) j1 q1),P3 (.Constant (.str u) j2 q2),P3 (.Constant (.str y) j3 q3),P3 (.Constant (.str "room") j4 q4)] [U,Y,e3,.Constant (.int r) j5 q5] dp) X.env)::starEach [.List [] l1,.List [] l2,s,.Constant (.int c) j6 q6] X.env:=by rfl)
  (a6:starEach [.List [] l1,.List [] l2,s,.Constant (.int c) j6 q6] X.env=(s_,eval (.List [] l1) X.env)::starEach [.List [] l2,s,.Constant (.int c) j6 q6] X.env:=by rfl) (a7:starEach [.List [] l2,s,.Constant (.int c) j6 q6] X.env=(s_,eval (.List [] l2) X.env)::starEach [s,.Constant (.int c) j6 q6] X.env:=by rfl)
  (a8:starEach [s,.Constant (.int c) j6 q6] X.env=(s_,eval s X.env)::starEach [.Constant (.int c) j6 q6] X.env:=by rfl) (a9:starEach [.Constant (.int c) j6 q6] X.env=[(s_,eval (.Constant (.int c) j6 q6) X.env)]:=by rfl)
  (b0:(backTo pos (starEach [.List [] l1,.List [] l2,s,.Constant (.int c) j6 q6] X.env)).any (·.1)=s_:=by rfl):
  DE X (.Call (.Name fn p) [.Dict [P3 (.Constant (.str t) j1 q1),P3 (.Constant (.str u) j2 q2),P3 (.Constant (.str y) j3 q3),P3 (.Constant (.str "room") j4 q4)] [U,Y,e3,.Constant (.int r) j5 q5] dp,.List [] l1,.List [] l2,s,.Constant (.int c) j6 q6] [] pos) .sh (UE W i1 i2 i3 j t u y r c):=by
 obtain⟨f,fd,G,hm,hk,hb,hW⟩:=G;refine⟨_,Mj G hr N hm hk hb .nil Q_ (Aq (Q8 (FH GY h1 (FH GY h2 (FH GY h3 (FH GY A0 Q4)))) rfl rfl (by intro z; cases z) (show 4<=15 by decide)) (Aq (IF A9) (Aq (IF A9) (Aq h4 (Aq A0 A9 a9) a8) a7) a6) he) a5 he b0,λC M H n ρ Z P Q R w q=>?_⟩;obtain⟨d1,d2,d3,d4,s1,s2,s3,s4,b3,w⟩:=w;obtain⟨I,b4,a1⟩:=R.sl i1 _ s1;obtain⟨J,b5,a2⟩:=R.sl i2 _ s2;obtain⟨L,b6,a3⟩:=R.sl i3 _ s3;obtain⟨v4,b7,a4⟩:=R.sl j _ s4;refine λh O=>⟨I,getD_some b4,J,getD_some b5,L,getD_some b6,AR,[(.inr t,I),(.inr u,J),(.inr y,L),(.inr "room",.int r)],rfl,(by decide:4<=15),?_⟩;rw[OZ nd];refine⟨fo _,λE B=>⟨fo _,λF m=>⟨v4,getD_some b7,?_⟩⟩⟩;have S:E≠h:=λz=>by rw[z,AR]at B; cases B
 have n2:F≠h:=λz=>by rw[z,AM (gP S),AR]at m; cases m
 have n3:F≠E:=λz=>by rw[z,AR]at m; cases m
 generalize D:A2 (A2 (A2 (A2 H h (.dK [])) h (.dK [((gl t:Key),I),(.inr u,J),(.inr y,L),(.inr "room",.int r)])) E (.lst [])) F (.lst [])=H7;have o1:H E=q_:=by rw[AM S,AM S]at B; exact B
 have o2:H F=q_:=by rw[AM n3,AM n2,AM n2]at m; exact m
 have a:∀b o,H b=P3 o->b≠h/\H7 b=P3 o:=λb o e=>by
  have z1:b≠h:=Ao e O;exact⟨z1,by rw[←D,AM (Ao e o2),AM (Ao e o1),AM z1,AM z1]; exact e⟩
 have x0:H7 h=P3 (.dK [((gl t:Key),I),(.inr u,J),(.inr y,L),(.inr "room",.int r)]):=by rw[←D,AM (gP n2),AM (gP S),AR]
 have x1:H7 E=P3 (.lst []):=by rw[←D,AM (gP n3),AR]
 have x2:H7 F=P3 (.lst []):=by rw[←D,AR]
 have pr:Pres M H (λb=>M b\/b=h) H7:=⟨λb o e _=>(a b o e).2,λb z=>z.elim .inl λz=>.inr (by rw[z]; exact O),λb vs e=>(a b _ e).2⟩
 have T:∀b,H b=q_->¬M b:=λb e z=>by
  obtain⟨o,q⟩:=R.dom b z;rw[e]at q; cases q
 show Ck X.K .sh W ps.length _ H7 Q E0;refine⟨by rw[a0]; rfl,P3 ⟨h,h,P3 ([.inr t,.inr u,.inr y],[d1,d2,d3],[I,J,L])⟩,(λb=>b=h),(λb=>C.V b\/b=h),(λb=>M b\/b=h),r,_,_,⟨λb z=>?_,λg N=>?_,λb z=>.inr z,λb z=>z.elim (λz=>.inl (R.vM b z)) .inr,λg N=>?_,?_⟩,w,λv H' d n' ex fx rx px=>?_⟩
 ·rcases z with z|z
  ·obtain⟨o,q⟩:=R.dom b z
   exact⟨o,(a b o q).2⟩
  ·rw[z]; exact⟨_,x0⟩
 ·cases N; rfl
 ·cases N
  exact .inr ⟨_,_,_,rfl,r,x0,rfl,⟨I,_,rfl,a1.pres pr,J,_,rfl,a2.pres pr,L,_,rfl,a3.pres pr,rfl⟩,iV _,by omega,b3⟩
 ·refine .cons ⟨⟨_,_,rfl,rfl,rfl⟩,rfl⟩ (.cons ⟨⟨_,rfl,E,[],rfl,⟨λz=>z.elim (T E o1) S,x1⟩,rfl⟩,rfl⟩ (.cons ⟨⟨_,rfl,F,[],rfl,⟨λz=>z.elim (T F o2) n2,x2⟩,rfl⟩,rfl⟩ (.cons ⟨⟨_,rfl,a4.pres pr⟩,rfl⟩ (.cons ⟨⟨_,rfl,rfl⟩,rfl⟩ .nil))))
 ·have l:∀b o,H b=P3 o->H' b=P3 o:=λb o e=>ex.keep (a b o e).2 (a b o e).1
  refine q v H' d n (λb o e=>⟨o,l b o e,λ_=>rfl,λ_ _=>rfl⟩) (R.feed.pres ⟨λb o e _=>l b o e,λ_ z=>.inl z,λb vs e=>l b _ e⟩ λf o _ e=>l _ o e) ?_ px;have b8:At X.K (λb=>M b\/b=h) H' d v:=rx;exact b8.pres ⟨λb o e _=>e,λb z=>.inl (.inl z),λb vs e=>e⟩
end
end Dp
namespace Nt
open L2 Dp
def SR(N:Net)(p:t_ Int):Prop:=p.length=N.ps.length/\∀x∈p,0<=x/\x<=10 ^ 14
def TZ(N:Net):Ca->Prop
 |.en=>True
 |.fa u p=>u∈N.ts/\SR N p
 |.sp u c d=>u∈N.ts/\TZ N c/\TZ N d
def Hw(t b:Int):Prop:=1<=b/\b<=1000000/\1<=t/\t<=1000000
def MT(N:Net)(l:t_ Au):Prop:=(∀u∈l,u∈N.ts)/\l.length<=100
abbrev CW(t b:Int):D:=.tup [.int t,.int b]
abbrev E4(l:t_ Au):D:=.lst (l.map Ak)
theorem VS{N:Net}(ok:N.Ok){l:t_ Au}(h:MT N l):CG (E4 l):=(Cf ok h.1).2
theorem KW{N:Net}(h:okN N)(gone:t_ Au):okN (Cd N gone):=⟨XU h.1 gone,h.2.1,gO (jT _ _) h.2.2⟩
theorem NG:∀c:Ca,1<=c.dep
 |.en=>Re _
 |.fa _ _=>Re _
 |.sp _ _ _=>lK _ _
theorem M7{N:Net}{p:t_ Int}(h:SR N p):((p.map D.int).length=N.ps.length)/\∀x∈p.map D.int,dG x=r_:=⟨by rw[Go]; exact h.1,λx a=>by
 obtain⟨y,b,rfl⟩:=Uf.mp a;exact decide_eq_true (h.2 y b).1⟩
abbrev eV(N:Net)(t b:Int)(a:Nat):Slot:=.wd [.inr "net",.inr "times",.inr "many"] [Bw N,CW t b,.int (a:Int)]
def EL:W2:=λa n P=>∃(N:Net) (u:Au),a=[.sh (Bw N),.sh (Ak u)]/\N.Ok/\u∈N.ts/\P (.bl r_) n
def Jm:W2:=λc n P=>∃(N:Net) (t b:Int) (a:Nat) (gone:t_ Au) (u:Au) (p:t_ Int),c=[eV N t b a,.sh (E4 gone),.sh (Ak u),.sh (.tup (p.map .int))]/\okN N/\Hw t b/\MT N gone/\u∈N.ts/\SR N p/\P (.bl (decide (u∈gone)&&QO N t b gone u p)) n
def EK(j:Nat):W2:=λf n P=>∃(N:Net) (t b:Int) (a:Nat) (kept gone:t_ Au) (c:Ca) (d:Nat),f=[eV N t b a,.sh (E4 kept),.sh (E4 gone),.sh c.D,.sh (.int (d:Int))]/\okN N/\Hw t b/\MT N kept/\MT N gone/\kept.length+c.dep<=90/\gone.length+c.dep<=90/\TZ N c/\d+c.dep<=16/\c.dep<=j+1/\c.cnt<=n/\∀e,n - c.cnt<=e->P (.bl (RC N t b a kept gone c)) e
def Hg:W2:=λd n P=>∃(N:Net) (t b:Int) (a:Nat) (c:Ca),d=[.sh (Bw N),.sh (CW t b),.sh (.int (a:Int)),.sh c.D]/\okN N/\Hw t b/\TZ N c/\c.dep<=12/\c.cnt<=4000/\P (.bl (RC N t b a [] [] c)) n
def IY:AZ:=(Af (BC (CF (Br (Ab (GK "tuple" (AB 1)))) (CF (Ab (Aa (Ku r_) (Bz B6 (AE (AB 1) AV)) (wC (D.int 3)))) (Ab (GK "bool" (Aa BA (AB 1) (wC (D.int 2))))))) (As (wC (D.bl s_))) Ay)
 (As (Aa (IS s_) (AB 1) (Aa BA (AB 0) (wC (D.int 1))))))
def Ew(a:W2):AZ:=(Af (Ng 0 (Aa Et (T6 0) (wC (D.int 1))))
 (Af (BC (CF (Ab (Aa Ox (T6 0) (wC (D.int 0)))) (Ab (Aa (f2 λi j=>D.bl (decide (j<i))) (AB 4) (wC (D.int 15))))) (As (wC (D.bl s_))) Ay)
 (Af (BC (CF (Br (Ab (GK "tuple" (AB 3)))) (Ab (Aa (Ku s_) (Bz B6 (AE (AB 3) AV)) (wC (D.int 0))))) (As (wC (D.bl s_))) Ay)
 (Af (BC (Ab (Aa (Ku s_) (Aa BA (AB 3) (wC (D.int 0))) (wC (D.str "enough")))) (As (UH (Aa (Ku s_) (Bz B6 (AE (AB 3) AV)) (wC (D.int 1))) (Aa (f2 λi j=>D.bl (decide (j<=i))) (Bz B6 (AE (AB 1) AV)) (Hs 0 (wC (D.str "many")))))) Ay)
 (Af (BC (Ab (Aa (Ku s_) (Aa BA (AB 3) (wC (D.int 0))) (wC (D.str "far")))) (As (UH (Aa (Ku s_) (Bz B6 (AE (AB 3) AV)) (wC (D.int 3))) (Ad Jm (AC (Jp 0) (AC (AH (AB 2)) (AC (AH (Aa BA (AB 3) (wC (D.int 1)))) (AC (AH (Aa BA (AB 3) (wC (D.int 2)))) Ae))))))) Ay)
 (Af (BC (CF (Ab (Aa (Ku r_) (Aa BA (AB 3) (wC (D.int 0))) (wC (D.str "split")))) (CF (Ab (Aa (Ku r_) (Bz B6 (AE (AB 3) AV)) (wC (D.int 4)))) (Br (Ab (Ad EL (AC (AH (Hs 0 (wC (D.str "net")))) (AC (AH (Aa BA (AB 3) (wC (D.int 1)))) Ae))))))) (As (wC (D.bl s_))) Ay)
 (Af (A5 5 (Aa BA (AB 3) (wC (D.int 1))))
 (Af (BC (Ab (Aa (IS s_) (AB 5) (Aa BB (AB 1) (AB 2)))) (As (wC (D.bl s_))) Ay)
 (Af (BC (Br (Ab (Ad a (AC (Jp 0) (AC (AH (Aa BB (AB 1) (Di (AE (AB 5) AV)))) (AC (AH (AB 2)) (AC (AH (Aa BA (AB 3) (wC (D.int 2)))) (AC (AH (Aa BB (AB 4) (wC (D.int 1)))) Ae)))))))) (As (wC (D.bl s_))) Ay)
 (As (Ad a (AC (Jp 0) (AC (AH (AB 1)) (AC (AH (Aa BB (AB 2) (Di (AE (AB 5) AV)))) (AC (AH (Aa BA (AB 3) (wC (D.int 3)))) (AC (AH (Aa BB (AB 4) (wC (D.int 1)))) Ae))))))))))))))))
def F_:AZ:=(As (UE (EK 11) 0 1 2 3 "net" "times" "many" 4000 1))
theorem Tx(x y z:D):BM [.inr "net",.inr "times",.inr "many"] [x,y,z] (.inr "net")=P3 x:=if_pos rfl
theorem Nc(x y z:D):BM [.inr "net",.inr "times",.inr "many"] [x,y,z] (.inr "times")=P3 y:=by
 unfold BM;rw[if_neg (λz=>absurd (iR z) (by decide +kernel))];exact if_pos rfl
theorem Wi(x y z:D):BM [.inr "net",.inr "times",.inr "many"] [x,y,z] (.inr "many")=P3 z:=by
 unfold BM;rw[if_neg (λz=>absurd (iR z) (by decide +kernel))];unfold BM;rw[if_neg (λz=>absurd (iR z) (by decide +kernel))];exact if_pos rfl
theorem key_ne{x y:Str}(h:x≠y):(gl x:Key)≠gl y:=λz=>h (iR z)
theorem Ms:(gl "room":Key)∉[(gl "net":Key),.inr "times",.inr "many"]:=λz=>by
 simp only[fi,gI,or_false]at z
 rcases z with z|z|z <;>exact absurd z (key_ne (by decide +kernel))
theorem Z1:[(gl "net":Key),gl "times",gl "many",gl "room"].Nodup:=by
 simp only[gE,fi,gI,not_or,not_false_eq_true,and_true,gW];exact⟨⟨key_ne (by decide +kernel),key_ne (by decide +kernel),key_ne (by decide +kernel)⟩,⟨key_ne (by decide +kernel),key_ne (by decide +kernel)⟩,key_ne (by decide +kernel)⟩
theorem NM:∀c:Ca,1<=c.cnt
 |.en=>Re _
 |.fa _ _=>Re _
 |.sp _ c d=>by show 1<=1+c.cnt+d.cnt; omega
section
variable {ss:t_ Slot}{n:Nat}{Pd:D->Nat->Prop}
theorem JJ(h:EL ss n Pd):IY (EE Pd) n (ss++UF 0 .no):=by
 obtain⟨N,u,rfl,ok,a,q⟩:=h;refine⟨_,_,rfl,rfl,_,AK rfl,?_⟩;refine⟨_,AK rfl,DV ok a,(Cf ok λ_ z=>z).1,_,rfl,?_⟩;rw[De,decide_eq_true a];exact q
theorem KD{H:W2}{j:Nat}(k:∀ss n P,j≠0->EK (j - 1) ss n P->H ss n P)(h:EK j ss n Pd):Ew H (EE Pd) n (ss++UF 1 .no):=by
 obtain⟨N,t,b,f,a,e,c,g,rfl,i,A,B,x,M,O,y,Q,R,S,q⟩:=h;have ok:=i.1;have T:=PySem.sizeLine_eq;have cp:=NM c;have dp:=NG c;unfold Ew;refine⟨_,_,rfl,Ms,(by decide:3<=10),_,_,rfl,Ms,λr r0 r1=>⟨r - 1,n - 1,rfl,by omega,by omega,?_⟩⟩;refine⟨_,_,rfl,Ms,λU V W=>?_⟩;show if decide (U<0)=r_ then _ else _
 rw[decide_eq_false (by omega)];refine CH ?_;show if decide ((15:Int)<(g:Int))=r_ then _ else _
 rw[decide_eq_false (by omega)];refine CH ?_;cases c with
 |en=>
  refine⟨_,_,rfl,rfl,?_⟩;refine⟨_,AK (j:=0) rfl,?_⟩;refine⟨_,_,rfl,rfl,?_⟩;refine⟨_,_,rfl,rfl,_,_,rfl,_,_,rfl,Wi _ _ _,?_⟩;show Pd (.bl (decide ((f:Int)<=(((a.map Ak).length:Nat):Int)))) (n - 1);rw[show decide ((f:Int)<=(((a.map Ak).length:Nat):Int))=decide (f<=a.length)from decide_eq_decide.mpr (by rw[Go]; omega)];exact q _ (Re _)
 |fa u p=>
  refine⟨_,_,rfl,rfl,?_⟩;refine⟨_,AK (j:=0) rfl,?_⟩;refine⟨_,AK (j:=0) rfl,?_⟩;refine⟨_,_,rfl,rfl,?_⟩;refine⟨_,AK (j:=1) rfl,_,AK (j:=2) rfl,N,t,b,f,e,u,p,rfl,i,A,x,y.1,y.2,?_⟩;have q:=q (n - 1) (Re _);rw[show RC N t b f a e (.fa u p)=(decide (u∈N.ts)&&decide (u∈e)&&QO N t b e u p)from rfl,decide_eq_true y.1,lE]at q;exact q
 | sp u c d=>
  obtain⟨l,C,D⟩:=y;have I:1+max c.dep d.dep<=j+1:=R;have E:g+(1+max c.dep d.dep)<=16:=Q;have X:a.length+(1+max c.dep d.dep)<=90:=M;have Y:e.length+(1+max c.dep d.dep)<=90:=O;have J:1+c.cnt+d.cnt<=n:=S;have p1:=NG c;have p2:=NG d;have c1:=NM c;have c2:=NM d;have q:∀K,n - (1+c.cnt+d.cnt)<=K->Pd (.bl (decide (u∈N.ts)&&decide (u∉a)&&decide (u∉e)&&RC N t b f (a++[u]) e c&&RC N t b f a (e++[u]) d)) K:=q;refine⟨_,_,rfl,rfl,?_⟩;refine⟨_,AK (j:=0) rfl,?_⟩;refine⟨_,AK (j:=0) rfl,?_⟩;refine⟨_,AK (j:=0) rfl,?_⟩;refine⟨_,_,rfl,rfl,?_⟩;refine⟨_,_,rfl,_,_,rfl,Tx _ _ _,_,AK (j:=1) rfl,N,u,rfl,ok,l,?_⟩;refine⟨_,AK (j:=1) rfl,?_⟩;have m:CG (.lst ((a++e).map Ak)):=(Cf ok λv o=>(gA.mp o).elim (B.1 v) (x.1 v)).2;refine⟨by rw[Go,Go]; omega,?_⟩;rw[←gR];refine⟨DV ok l,m,_,rfl,?_⟩;rw[De];show if decide (u∈a++e)=r_ then _ else _
  by_cases s:u∈a++e
  ·rw[decide_eq_true s]
   refine Ef ?_;have q:=q (n - 1) (by omega)
   rw[show(decide (u∈N.ts)&&decide (u∉a)&&decide (u∉e)&&RC N t b f (a++[u]) e c&&RC N t b f a (e++[u]) d)=s_ by
    rcases gA.mp s with z|z
    ·rw[show decide (u∉a)=s_ from decide_eq_false λw=>w z]; simp
    ·rw[show decide (u∉e)=s_ from decide_eq_false λw=>w z]; simp]at q
   exact q
  rw[decide_eq_false s];rw[decide_eq_true l,show decide (u∉a)=r_ from decide_eq_true λz=>s (gu _ z),show decide (u∉e)=r_ from decide_eq_true λz=>s (fz _ z)]at q;have F:MT N (a++[u]):=⟨λv o=>(gA.mp o).elim (B.1 v) λz=>by rw[TM.mp z]; exact l,by rw[fw,gC]; omega⟩;have G:MT N (e++[u]):=⟨λv o=>(gA.mp o).elim (x.1 v) λz=>by rw[TM.mp z]; exact l,by rw[fw,gC]; omega⟩;have Z:a.map Ak++[Ak u]=(a++[u]).map Ak:=by rw[gR]; rfl
  have eg:e.map Ak++[Ak u]=(e++[u]).map Ak:=by rw[gR]; rfl
  refine CH ⟨z1,by show(a.map Ak).length+1<=_; rw[Go]; omega,_,AK (j:=2) rfl,?_⟩;rw[Z];refine k _ _ _ (by omega) ⟨N,t,b,f,a++[u],e,c,g+1,rfl,i,A,F,x,by rw[fw,gC]; omega,by omega,C,by omega,by omega,by omega,λn1 a0=>?_⟩;show if(!RC N t b f (a++[u]) e c)=r_ then _ else _
  cases L:RC N t b f (a++[u]) e c with
  |false=>
   rw[L]at q;exact Ef (q n1 (by omega))
  |true=>
  rw[L]at q;refine CH ⟨z1,by show(e.map Ak).length+1<=_; rw[Go]; omega,_,AK (j:=3) rfl,?_⟩;rw[eg];exact k _ _ _ (by omega) ⟨N,t,b,f,a,e++[u],d,g+1,rfl,i,A,B,G,by omega,by rw[fw,gC]; omega,D,by omega,by omega,by omega,λn2 a1=>q n2 (by omega)⟩
theorem GW(h:Hg ss n Pd):F_ (EE Pd) n (ss++UF 0 .no):=by
 obtain⟨N,t,b,d,c,rfl,a,e,f,g,j,q⟩:=h;have i:Er (Bw N)=r_:=(Jc (by decide) (UM (Mz a.1) (FL a.1) (by rw[Go]; have:=a.2.1; omega) (by rw[Go]; have:=a.2.2; omega)).1).1;refine⟨_,_,_,_,rfl,rfl,rfl,rfl,?_,N,t,b,d,[],[],c,1,rfl,a,e,⟨λ_ z=>absurd z gI,by decide⟩,⟨λ_ z=>absurd z gI,by decide⟩,by grind,by grind,f,by omega,g,by omega,λk _=>q⟩;show(Er (Bw N)&&_)=r_;rw[i];rfl
end
end Nt
set_option maxHeartbeats 4000000
namespace L2
open PySem.W
structure PrV (prog:gD) (w:gK) (A:gS) (I d:Db) (n:Nat) (base:fu) (key:Nat->Ev) (val:Nat->Ev) (ch:Db->Prop) (St:Nat->fu->Prop):Prop where
 new:∀b,ch b->base.get? b=q_
 item:∀(i:Nat) (s:On) (Q:Option Ev->On->Prop) (E:Ev->On->Prop),i<n->St i s.heap->(∀b o,base.get? b=P3 o->s.heap.get? b=P3 o)->(∃o,s.heap.get? d=P3 o)->
  (∀h' tk a o c,h'.get? a=P3 o->o.cls=.type "tuple"->o.data=.seq #[key i,val i] c->St (i+1) h'->(∀b o,¬ch b->s.heap.get? b=P3 o->h'.get? b=P3 o)->Q (P3 (.ref a)) {s with heap:=h',toks:=tk})->wpAny (model prog w) A (pyNext (.ref I)) Q E s
 done:∀(s:On) (Q:Option Ev->On->Prop) (E:Ev->On->Prop),St n s.heap->(∀b o,base.get? b=P3 o->s.heap.get? b=P3 o)->(∀h' tk,(∀b o,¬ch b->s.heap.get? b=P3 o->h'.get? b=P3 o)->Q q_ {s with heap:=h',toks:=tk})->wpAny (model prog w) A (pyNext (.ref I)) Q E s
 frame:∀i h h',St i h->i6 d h h'->St i h'
 dch:¬ch d
section
variable {prog:Program}{w:World}{A:Around}{R:Result->Shared->Prop}{I d:Addr}{n:Nat}{base:Heap}{key:Nat->Value}{val:Nat->Value}{ch:Addr->Prop}{St:Nat->Heap->Prop}{K:Type}[DecidableEq K]{knd:KeyKind prog w K}
theorem V0(W:PrV prog w A.in1 I d n base key val ch St)(f:t_ (K×Ev))(U:f.length=n)(nd:(f.map (·.1)).Nodup)(hsz:n<=sizeLine)(E:base.get? d=q_)
  (F:∀(i:Nat) (p:K×Ev),f[i]?=P3 p->p.2=val i/\knd.is p.1 (key i)=r_):
  ∀(k i:Nat) (s:On),n - i=k->i<=n->St i s.heap->(∀b o,base.get? b=P3 o->s.heap.get? b=P3 o)->s.heap.DictOf knd d (f.take i)->
   (∀l C,l.DictOf knd d f->(∀b o,base.get? b=P3 o->l.get? b=P3 o)->R (.ok (.ret .none)) {s with heap:=l,toks:=C})->
   codeAny (model prog w) A (.builtin "dict.update.loop" ⟨[.ref d,.ref I,rawInt (i:Int),.none],[]⟩) R s:=by
 have u:∀{h l:fu},(∀b o,base.get? b=P3 o->h.get? b=P3 o)->(∀b o,¬ch b->h.get? b=P3 o->l.get? b=P3 o)->∀b o,base.get? b=P3 o->l.get? b=P3 o:=λY Z b o e=>Z b o (λz=>by rw[W.new b z]at e; cases e) (Y b o e);intro k
 induction k with
 |zero=>
  intro i s hk hi q g D G;have H:i=n:=by omega
  subst H;refine gy CU ?_;rw[g_ BI _];show wpAny _ A.in1 (pyNext (.ref I) >>=_) _ _ s;refine Ch (W.done s _ _ q g λl C j=>?_);show wpAny _ A.in1 (m8 d [] >>=λ_=>ret gH) _ _ _;refine Ch (Op (Op (G l C ?_ (u g j))));obtain⟨o,J,L,v,r⟩:=D;rw[k_ (by omega)]at r;exact⟨o,J,L,j d o W.dch v,r⟩
 | succ k ih=>
  intro i s hk hi q g D G;have x:i<n:=by omega
  refine gy CU ?_;rw[g_ BI _];show wpAny _ A.in1 (pyNext (.ref I) >>=_) _ _ s;refine Ch (W.item i s _ _ x q g (by obtain⟨o,_,_,h,_⟩:=D; exact⟨o,h⟩) λl C a o c V hc hd y j=>?_);have B:f[i]?=P3 (f[i]'(by omega)):=FM (by omega);generalize f[i]'(by omega)=p at B;obtain⟨k1,M⟩:=F i p B;have v:=u g j
  have N:l.DictOf knd d (f.take i):=by
   obtain⟨o,J,L,v,r⟩:=D;exact⟨o,J,L,j d o W.dch v,r⟩
  show wpAny _ A.in1 (holding [fj a] _ >>=_) _ _ _;refine Ch (gQ ?_);show wpAny _ A.in1 (tryCatch (jy (.ref a)) _ >>=_) _ _ _;refine Ch (j_ ?_);unfold jy;refine Ch (i9 (T:="tuple") ⟨o,V,hc⟩ ?_);show wpAny _ A.in1 (seqItems? (.ref a) >>=_) _ _ _;refine Ch (hX V hd (Op ?_));rw[←k1];show wpAny _ A.in1 (holding [key i,p.2] (dictSet d (key i) p.2)) _ _ _;refine gQ (wpAny_dictSet_pairs (hsz:=by rw[jK]; omega) M N λa0 m X=>?_)
  have O:p.1∉(f.take i).map (·.1):=λz=>by
   have e:f.map (·.1)=(f.take i).map (·.1)++p.1::(f.drop (i+1)).map (·.1):=by
    have:=nX i f
    rw[i5 (by omega:i<f.length)]at this;rw[FM (by omega:i<f.length)]at B;cases B
    conv=>lhs; rw[←this]
    rw[gR,f9]
   rw[e,iC]at nd;exact nd.2.2 p.1 z p.1 Sc rfl
  have e2:f.take (i+1)=f.take i++[p]:=by rw[List.take_add_one,B]; rfl
  rw[stored_new O,←e2]at m;refine Op ⟨iJ BI _,?_⟩;have P:((i:Int)+1)=((i+1:Nat):Int):=by omega
  rw[P];refine ih (i+1) _ (by omega) x (W.frame _ _ _ y X) (λb o e=>?_) m λh3 Q S t=>G h3 Q S t;exact(X.2 b λz=>by rw[z,E]at e; cases e).trans (v b o e)
theorem PrV.zip{V W:Bool}{z TI TO y B G H:Db}{C X:Array Ev}(hh:A.handled=q_)(D:Tp z TI TO y B G H)(g:TI≠z/\TI≠TO/\TI≠y/\TI≠B)(l:d≠z/\d≠TI/\d≠TO/\d≠y/\d≠B)(hn:∀b,b=z\/b=TO\/b=y\/b=B->base.get? b=q_)
  (J:SqAt V base G C) (L:SqAt W base H X) (h1:C.size=n) (hk:∀i,i<n->C[i]?=P3 (key i)/\X[i]?=P3 (val i)):PrV prog w A z d n base key val (λb=>b=z\/b=TO\/b=y\/b=B) (ZS V W z TI TO y B G H d) where
 new:=hn
 item:=λi s Q E hi ⟨r,u,v,M⟩ f ⟨od,a0⟩ h=>by
  have N:SqAt V s.heap G C:=J.mv λo e=>f _ o e;have Y:SqAt W s.heap H X:=L.mv λo e=>f _ o e;obtain⟨O,e2⟩:=hk i hi;have lt:∀{b:Db}{o:Obj},s.heap.get? b=P3 o->s.heap.objs.size≠b:=λe=>i7 (Tk e);obtain⟨o1,x1,_⟩:=u.lies;obtain⟨o2,x2,_⟩:=v.lies
  rcases M with⟨k,p,q,j⟩|⟨a,b,o,k,F,P,Z,S,T,U⟩
  ·refine GC D k r j u v N Y O e2 λt b1 b2 b3 b4 b5 _ m=>?_
   exact h t s.toks _ _ _ b5 rfl rfl ⟨m _ _ g.1 g.2.1 g.2.2.1 g.2.2.2 r,b3,b4,.inr ⟨_,s_,_,b1,b5,lt k,lt j,lt x1,lt x2,lt a0⟩⟩ λb o c e=>m b o (λz=>c (.inl z)) (λz=>c (.inr (.inl z))) (λz=>c (.inr (.inr (.inl z)))) (λz=>c (.inr (.inr (.inr z)))) e
  ·refine NC D k F r u v N Y O e2 λt b1 b3 b4 b5 m=>?_
   exact h t s.toks _ _ _ b5 rfl rfl ⟨m _ _ g.1 g.2.2.1 g.2.2.2 r,b3,b4,.inr ⟨a,r_,o,b1,m _ _ P S T F,P,Z,S,T,U⟩⟩ λb o c e=>m b o (λz=>c (.inl z)) (λz=>c (.inr (.inr (.inl z)))) (λz=>c (.inr (.inr (.inr z)))) e
 done:=λs Q E ⟨r,u,v,M⟩ f h=>by
  have N:SqAt V s.heap G C:=J.mv λo e=>f _ o e;have Y:SqAt W s.heap H X:=L.mv λo e=>f _ o e;have O:C[n]?=q_:=by rw[k9 (by omega)]
  rcases M with⟨k,p,q,j⟩|⟨a,b,o,k,F,P,Z,S,T,U⟩
  ·exact G_ hh D k r j u v N Y (.inl O) λt m=>h t s.toks λb o c e=>m b o (λz=>c (.inl z)) (λz=>c (.inr (.inl z))) (λz=>c (.inr (.inr (.inl z)))) (λz=>c (.inr (.inr (.inr z)))) e
  ·exact Oy hh D k F r u N O λt m=>h t s.toks λb o c e=>m b o (λz=>c (.inl z)) (λz=>c (.inr (.inr (.inl z)))) e
 frame:=λi h t ⟨r,u,v,M⟩ hs=>by
  have x:∀b o,b≠d->h.get? b=P3 o->t.get? b=P3 o:=λb o c e=>(hs.2 b c).trans e;refine⟨x _ _ (gP l.2.1) r,u.mv λo e=>x _ o (gP l.2.2.2.1) e,v.mv λo e=>x _ o (gP l.2.2.2.2) e,?_⟩
  rcases M with⟨k,p,q,j⟩|⟨a,b,o,k,F,P,Z,S,T,U⟩
  ·exact .inl ⟨x _ _ (gP l.1) k,p,q,x _ _ (gP l.2.2.1) j⟩
  ·exact .inr ⟨a,b,o,x _ _ (gP l.1) k,x _ _ U F,P,Z,S,T,U⟩
 dch:=λz=>by
  rcases z with z|z|z|z
  ·exact l.1 z
  ·exact l.2.2.1 z
  ·exact l.2.2.2.1 z
  ·exact l.2.2.2.2 z
end
section
variable {prog:Program}{w:World}{A:Around}{E:Value->Shared->Prop}{s:Shared}{K:Type}[DecidableEq K]{knd:KeyKind prog w K}
theorem V1{X Y:Bool}{z TI TO l m J L:Db}{ks vs:Array Ev}{base:fu}{n:Nat}{key:Nat->Ev}{val:Nat->Ev}{Q:Ev->On->Prop}(Z:A.handled=q_)(D:Tp z TI TO l m J L)(M:TI≠z/\TI≠TO/\TI≠l/\TI≠m)
  (I:jZ s.heap z TI TO .none) (ti:hZ s.heap TI (.ref l) (.ref m)) (to:∃a b,hZ s.heap TO a b) (r:ItAt X s.heap l J 0) (t:ItAt Y s.heap m L 0) (hn:∀b,b=z\/b=TO\/b=l\/b=m->base.get? b=q_) (hold:∀b o,base.get? b=P3 o->s.heap.get? b=P3 o)
  (N:SqAt X base J ks) (O:SqAt Y base L vs) (h1:ks.size=n) (hk:∀i,i<n->ks[i]?=P3 (key i)/\vs[i]?=P3 (val i))
  (c:t_ (K×Ev)) (u:c.length=n) (nd:(c.map (·.1)).Nodup) (P:n<=sizeLine) (R:∀(i:Nat) (p:K×Ev),c[i]?=P3 p->p.2=val i/\knd.is p.1 (key i)=r_)
  (h:∀v S,v.DictOf knd s.heap.objs.size c->(∀b o,base.get? b=P3 o->v.get? b=P3 o)->Q (.ref s.heap.objs.size) {s with heap:=v,toks:=S}):
  wpAny (model prog w) A (call (.type "dict") [.ref z]) Q E s:=by
 refine callType_codes (Q₁:=λx f=>x=.ref s.heap.objs.size/\f={s with heap:=s.heap.push {cls:=.type "dict",data:=.dict #[]}}) dp_called (RU _) PySem.F.entry_dict_init (Io _ ⟨rfl,rfl⟩) ?_;rintro x f ⟨rfl,rfl⟩;have j:(s.heap.push {cls:=.type "dict",data:=.dict #[]}).get? s.heap.objs.size=P3 {cls:=.type "dict",data:=.dict #[]}:=TW _ rfl;have y:jZ (s.heap.push {cls:=.type "dict",data:=.dict #[]}) z TI TO .none:=No _ I;have d:∀{b:Db}{o:Obj},s.heap.get? b=P3 o->s.heap.objs.size≠b:=λe=>i7 (Tk e);refine⟨⟨_,j,rfl⟩,PySem.F.args_dict_init_2 _ _,?_⟩;unfold iS.«dict.__init__»;refine Ch ?_;unfold m9;refine Ch (lR ⟨_,j,rfl⟩ ?_);show wpAny _ _ (pure (s.heap.objs.size,[fj z])) _ _ _;refine Op ?_;show wpAny _ _ (jo "dict.__init__" s.heap.objs.size (.ref z) [] .none) _ _ _;unfold jo;refine Ch (i9 (T:="zip") ⟨_,y,rfl⟩ ?_);rw[if_pos (by decide)];have B:A.in1.in1.handled=q_:=by simp[Z]
 have a0:A.in1.handled=q_:=by simp[Z]
 refine Ch (X3 y B λC U G=>?_);show wpAny _ _ (rule _ >>=_) _ _ _;refine Ch (kY ?_);have k:∀b o,s.heap.get? b=P3 o->C.get? b=P3 o:=λb o e=>G b o (No _ e);refine Ch (mz (s:={s with heap:=C,toks:=U}) (k _ _ I) ?_);refine Op ⟨iJ BI _,?_⟩;obtain⟨p,q,H⟩:=to;obtain⟨o1,x1,_⟩:=r.lies;obtain⟨o2,x2,_⟩:=t.lies
 have V:base.get? s.heap.objs.size=q_:=by
  cases e:base.get? s.heap.objs.size with
  |none=>rfl
  |some o=>exact absurd (Tk (hold _ _ e)) (gY _)
 refine V0 (knd:=knd) (A:=A.in1) (PrV.zip (A:=A.in1.in1) B D M ⟨d I,d ti,d H,d x1,d x2⟩ hn N O h1 hk) c u nd P V R n 0 _ (Nat.sub_zero _) (fo _) ⟨k _ _ ti,r.mv λo e=>k _ o e,t.mv λo e=>k _ o e,.inl ⟨k _ _ I,p,q,k _ _ H⟩⟩ (λb o e=>k b o (hold b o e)) (by rw[List.take_zero]; exact⟨_,#[],0,G _ _ j,⟨rfl,rfl,rfl⟩,rfl,(λe he=>by simp at he),(.nil),gW⟩) λv S hD W=>?_;exact⟨rfl,h v S hD W⟩
end
section
variable {X:Cx}
def W4(K:Frag)(e:TA):TE:=λZ H Q=>e Z H λf H1=>∃g h a b,∃(d:t_ V) (c:t_ Key),f=[.ref a,.ref b]/\SqK g K H1 a (c.map kV)/\SqK h K H1 b d/\d.length=c.length/\c.length<=sizeLine/\c.Nodup/\∀l,H1 l=q_->Q (.ref l) (A2 H1 l (.dK (c.zip d)))
theorem VU:∀{a:t_ Key}{b:t_ V}{c:t_ Ev},Vals b c->KV (a.zip b) (a.zip c)
 |[],_,_,_=>.nil
 |_::_,_,_,.nil=>.nil
 |k::a,_,_,.cons d e=>.cons ⟨rfl,d⟩ (VU e)
theorem SW{r j:gB}{ta:TA}{E J y F:Pos}(L:X.calm=r_)(ha:PA X [r,j] ta)(M:Gl X "dict")(N:X.mg "dict"=q_)(O:Gl X "zip")(P:X.mg "zip"=q_)(h1:starEach [kR (.Name "zip" y) [r,j] [] F] X.env=[(s_,eval (kR (.Name "zip" y) [r,j] [] F) X.env)]:=by rfl)
  (hs:starEach [r,j] X.env=[(s_,eval r X.env),(s_,eval j X.env)]:=by rfl) (z:starEach [j] X.env=[(s_,eval j X.env)]:=by rfl):PE X (.Call (.Name "dict" E) [.Call (.Name "zip" y) [r,j] [] F] [] J) (W4 X.K ta):=by
 intro zH s Z H Q I h;refine iK (DJ I M N boot_dict ?_);refine hU ?_ h1 rfl;rw[h1];refine kL ?_;refine Call_ (DJ I O P boot_zip (hU (thn (ha F zH s Z H _ I h) λa2 g ⟨vs,H1,t,r1,J⟩=>?_) (by rw[hs,z]) (by rw[z]; rfl)));obtain⟨zY,zX,a,b,ws,d,e,g1,g2,lw,hz,nd,q⟩:=J;subst e;obtain⟨u,v,rfl,ru,rv⟩:=vals2 r1;cases ru;cases rv;obtain⟨ks,A,k⟩:=g1.at t;obtain⟨G,B,l⟩:=g2.at t;have l1:=A.length;have l2:=B.length;rw[Go]at l1;have R:a<g.heap.objs.size:=by obtain⟨o,e⟩:=k.lies; exact Tk e
 have S:b<g.heap.objs.size:=by obtain⟨o,e⟩:=l.lies; exact Tk e
 have f:∀c,g.heap.objs.size<=c->g.heap.get? c=q_:=λc hb=>by
  cases e:g.heap.get? c with
  |none=>rfl
  |some o=>exact absurd (f8 (Tk e) hb) (gY _)
 refine HI k l λT C U V W Y a0=>ke ?_;have D:=Tu g.heap.objs.size a b R S;have m:g.heap.objs.size<=T.objs.size:=j7 (kO (lK _ 4) (Tk C));refine V1 (knd:=Ar X.prog X.w) (s:={g with heap:=T}) (base:=g.heap) (n:=d.length) (ks:=ks.toArray) (vs:=G.toArray) (key:=λi=>ks.getD i .none) (val:=λi=>G.getD i .none) (t.ok.hd L) D (by refine⟨?_,?_,?_,?_⟩ <;>(show(_:Nat)≠(_:Nat); omega)) C U ⟨_,_,V⟩ W Y (λc L=>f c ?_) a0 k l (by rw[fk]; omega) (λi hi=>?_) (d.zip G) (by rw[ir]; omega) (by rw[m_ (by omega)]; exact nd) hz (λi p e=>?_) λh2 tk hD a1=>?_
 ·rcases L with rfl|rfl|rfl|rfl <;>(show(_:Nat)<=(_:Nat); omega)
 ·constructor
  ·rw[ng,FM (by omega),fq,FM (by omega)]; rfl
  ·rw[ng,FM (by omega),fq,FM (by omega)]; rfl
 ·obtain⟨E,y⟩:=p
  rw[jd]at e;obtain⟨u,f1,f2⟩:=A.get (i:=i) (x:=kV E) (by rw[T0,e.1]; rfl);refine⟨?_,?_⟩
  ·show y=G.getD i .none; rw[fq,e.2]; rfl
  ·show(Ar X.prog X.w).is E (ks.getD i .none)=r_
   rw[fq,f1];exact Km f2
 ·exact⟨.ref T.objs.size,_,t.laid (t':=tk) (o:=.dK (d.zip ws)) a1 m (QT (by rw[ir]; omega) (beq_eq_false_iff_ne.mpr (gP (f_ (f8 t.big m)))) (VU B) hD),rfl,q _ (t.hok.fresh m)⟩
end
end L2
namespace Dp
open L2
def IQ:t_ D->u_ (t_ Key)
 |[]=>P3 []
 |d::a=>match keyOf d,IQ a with
  |some k,P3 b=>P3 (k::b)
  |_,_=>q_
theorem Lz{K:Frag}{M:Db->Prop}{H:Hp}:∀{c:t_ D}{a:t_ V}{b:t_ Key},IQ c=P3 b->Ats K M H c a->a=b.map kV
 |[],a,b,e,h=>by cases e; exact h
 | d::c,a,b,e,h=>by
  obtain⟨v,r,rfl,f,g⟩:=h;unfold IQ at e
  split at e
  ·rename_i k i j l
   cases e;rw[Lz l g,DK (U:=λ_=>False) j (f.tp λ_ z=>z.elim)];rfl
  ·cases e
theorem Om(a:t_ Str):IQ (a.map .str)=P3 (a.map .inr):=by
 induction a with
 |nil=>rfl
 |cons x r b=>rw[f9]; unfold IQ; rw[b]; rfl
section
variable {X:Cx}{e1 e2:Expr}{ws:Dh}{p1 q1 p2 q2:Pos}
def Qm(ws:Dh):DW:=λn f P=>ws n f λg h=>∃d e c b a,g=[d,e]/\G0 d=P3 c/\G0 e=P3 b/\IQ c=P3 a/\a.length=b.length/\a.length<=sizeLine/\a.Nodup/\P (.dic a b) h
theorem TF(D:X.calm=r_)(E:Yc X [e1,e2] ws)(i:Gl X "dict")(j:X.mg "dict"=q_)(k:Gl X "zip")(m:X.mg "zip"=q_)(F:starEach [kR (.Name "zip" p2) [e1,e2] [] q2] X.env=[(s_,eval (kR (.Name "zip" p2) [e1,e2] [] q2) X.env)]:=by rfl)
  (G:starEach [e1,e2] X.env=[(s_,eval e1 X.env),(s_,eval e2 X.env)]:=by rfl) (s:starEach [e2] X.env=[(s_,eval e2 X.env)]:=by rfl):DE X (.Call (.Name "dict" p1) [.Call (.Name "zip" p2) [e1,e2] [] q2] [] q1) .fr (Qm ws):=by
 obtain⟨t,I,J⟩:=E;refine⟨_,SW D I i j k m F G s,λC M H n K Z P Q R w q=>?_⟩;refine J C M H n K Z _ _ R w λL H1 ds N u y O p=>?_;obtain⟨d,e,xs,S,v,rfl,T,V,W,Y,hz,nd,p⟩:=p;cases O with
 | cons r x=>
  cases x with
  |cons r' x=>
   cases x;have A:=R.step u y;obtain⟨zY,a,us,rfl,g1,s1⟩:=MW (U:=C.U) r T R.uV A.vM;obtain⟨zX,b,c,rfl,B,s2⟩:=MW (U:=C.U) r' V R.uV A.vM;cases Lz W g1;have l2:=B.length;refine⟨zY,zX,a,b,c,v,rfl,s1 M H1 (Pres.refl _ _) (Ext.refl _ _),s2 M H1 (Pres.refl _ _) (Ext.refl _ _),by omega,hz,nd,λl h=>?_⟩;have g:Grow H1 (A2 H1 l (.dK (v.zip c))):=Av h;refine q _ _ (.dic v S) N (u.trans g.ext) (y.grow g) (VR.back u (κ:=.fr) ⟨l,rfl,h,c,AR,Y,B.pres ?_⟩) p;exact⟨λb o f nb=>by rw[AM (λz=>by rw[z,h]at f; cases f)]; exact f,λb z=>z.elim .inl λz=>.inr (by rw[z]; exact h),λb L f=>by rw[AM (λz=>by rw[z,h]at f; cases f)]; exact f⟩
end
end Dp
set_option maxHeartbeats 400000
namespace Nt
open L2 Dp
def UR:AZ:=(BC (Yf (Ab (Aa (IS r_) (BO (AE (AB 7) (AE (AB 8) (AE (AB 9) AV)))) (AB 1))) (Ab (Aa (f2 λi j=>D.bl (decide (j<i))) (Bz X0 (AE (Aa Et (Aa B4 (AB 6) (AB 7)) (Aa B4 (AB 6) (AB 8))) AV)) (AB 9)))) (As (wC (D.bl s_))) Ay)
def Q3:AZ:=(BC (CF (Ab (GK "bool" (AB 5))) (CF (Br (Ab (GK "int" (AB 5)))) (Ab (Aa Ox (AB 5) (wC (D.int 0)))))) (As (wC (D.bl s_))) Ay)
def EG:AZ:=(Af (A5 4 (Hs 0 (wC (D.str "net"))))
 (Af (BC (CF (Br (Ab (Ad EL (AC (AH (AB 4)) (AC (AH (AB 2)) Ae))))) (Ab (Aa (IS r_) (AB 2) (AB 1)))) (As (wC (D.bl s_))) Ay)
 (Af (BC (CF (Br (Ab (GK "tuple" (AB 3)))) (Ab (Aa (Ku r_) (Bz B6 (AE (AB 3) AV)) (Bz B6 (AE (Aa BA (AB 4) (wC (D.int 0))) AV))))) (As (wC (D.bl s_))) Ay)
 (Af (Gv (BL (AB 3)) (Al 5) Q3)
 (Af (A5 6 (Qm (AE (Aa BA (AB 4) (wC (D.int 0))) (AE (AB 3) AV))))
 (Af (Gv (BL (Aa BA (AB 4) (wC (D.int 1)))) (IZ 3 (A_ (Al 7) (A_ (Al 8) (A_ (Al 9) EC)))) UR)
 (Af (A5 10 (Bz X0 (AE (Aa Et (Aa B4 (AB 6) (Aa BA (AB 2) (wC (D.int 0)))) (Aa B4 (AB 6) (Aa BA (AB 2) (wC (D.int 1))))) AV)))
 (As (Aa (f2 λi j=>D.bl (decide (j<i))) (Aa DX (AB 10) (Aa BA (Hs 0 (wC (D.str "times"))) (wC (D.int 1)))) (Aa DX (Aa BA (AB 2) (wC (D.int 2))) (Aa BA (Hs 0 (wC (D.str "times"))) (wC (D.int 0)))))))))))))
theorem aK{N:Net}{gone:t_ Au}{p:t_ Int}(c:SR N p):Vn (Cd N gone) (.tup (p.map .int))=N.ts.all λx=>(decide (x∈gone)||decide (HR (Lp N (p.map .int) x.a - Lp N (p.map .int) x.b)<=x.len)):=by
 obtain⟨d,e⟩:=M7 c;show(((((p.map _).length:Int)==N.ps.length)&&(p.map _).all _)&&(N.ts.filter _).all λt=>decide (HR (Lp N _ _ - Lp N _ _)<=t.len))=_
 simp_all
theorem YS{i j:Int}(a:1<=j)(b:j<=1000000):CMul i j:=.inr (by omega)
theorem N_{N:Net}(j:okN N){gone:t_ Au}(l:MT N gone){p:t_ Int}(m:SR N p){D2:E2}{n:Nat}{s0 s2 s3 s4 s5 s10:Slot}:∀(d:t_ Au) (g h i:Slot),(∀x∈d,x∈N.ts)->
  ((d.all λx=>(decide (x∈gone)||decide (HR (Lp N (p.map .int) x.a - Lp N (p.map .int) x.b)<=x.len)))=s_->D2.rt (.bl s_) n)->
  ((d.all λx=>(decide (x∈gone)||decide (HR (Lp N (p.map .int) x.a - Lp N (p.map .int) x.b)<=x.len)))=r_->∀g h i,D2.nx n [s0,.sh (E4 gone),s2,s3,s4,s5,.sh (.dic (N.ps.map .inr) (p.map .int)),g,h,i,s10])->
  CI (IZ 3 (A_ (Al 7) (A_ (Al 8) (A_ (Al 9) EC)))) UR D2 (d.map Ak) n [s0,.sh (E4 gone),s2,s3,s4,s5,.sh (.dic (N.ps.map .inr) (p.map .int)),g,h,i,s10]
 |[],g,h,i,_,_,e=>e rfl g h i
 | x::d,g,h,i,o,f,e=>by
  have ok:=j.1;have k:=o x Sc;obtain⟨u,v,_⟩:=ok.tin x k;obtain⟨q,r⟩:=M7 m;have w:=Wq q r u;have z:=Wq q r v;have s:=N_ j l m (D2:=D2) (n:=n) (s0:=s0) (s2:=s2) (s3:=s3) (s4:=s4) (s5:=s5) (s10:=s10) d (.sh (.str x.a)) (.sh (.str x.b)) (.sh (.int x.len)) λy A=>o y (Rs _ A);rw[n_]at f e;unfold UR;refine⟨rfl,rfl,z3,DV ok k,VS ok l,_,rfl,?_⟩;show if(!((gone.map Ak).any λy=>Fz y (Ak x)))=r_ then _ else _
  rw[De];cases t:decide (x∈gone)with
  |true=>
   rw[t,Bool.true_or,lE]at f e;exact CH (CH (s f e))
  | false=>
   rw[t,Bool.false_or]at f e;refine Ef ⟨_,_,_,_,rfl,rfl,w,_,_,_,_,rfl,rfl,z,?_⟩;show if decide (x.len<HR (Lp N (p.map .int) x.a - Lp N (p.map .int) x.b))=r_ then _ else _
   by_cases c:HR (Lp N (p.map .int) x.a - Lp N (p.map .int) x.b)<=x.len
   ·rw[decide_eq_false (by omega)]
    rw[decide_eq_true c,lE]at f e;exact CH (s f e)
   ·rw[decide_eq_true (by omega)]
    rw[decide_eq_false c,Bool.false_and]at f;exact Ef (f rfl)
theorem KC{c:E2}{n:Nat}{d e f g i j k l m b:Slot}:∀(p:t_ Int) (a:Slot),(∀x∈p,0<=x)->(∀a,c.nx n [d,e,f,g,i,a,j,k,l,m,b])->CI (Al 5) Q3 c (p.map .int) n [d,e,f,g,i,a,j,k,l,m,b]
 |[],a,_,h=>h a
 |x::p,a,o,h=>by
  have r:=o x Sc;show if decide _=r_ then _ else _
  rw[decide_eq_false (by omega)];exact CH (KC p _ (λy q=>o y (Rs _ q)) h)
theorem JK{k:t_ Slot}{n:Nat}{l:D->Nat->Prop}(h:Jm k n l):EG (EE l) n (k++UF 7 .no):=by
 obtain⟨N,t,b,m,a,u,p,rfl,d,⟨s,v,w,y⟩,o,i,f,q⟩:=h;have ok:=d.1;have A:=PySem.sizeLine_eq;have B:=d.2.1;obtain⟨C,E,_⟩:=ok.tin u i;obtain⟨g,r⟩:=M7 f;have F:=Wq g r C;have G:=Wq g r E;unfold EG;refine⟨_,_,rfl,_,_,rfl,Tx _ _ _,?_⟩;refine⟨N,u,rfl,ok,i,?_⟩;refine⟨DV ok i,VS ok o,_,rfl,?_⟩;rw[De];show if(!decide (u∈a))=r_ then _ else _
 cases e:decide (u∈a)with
 |false=>rw[e]at q; exact Ef q
 |true=>
 rw[e,lE]at q;unfold QO at q;rw[aK f]at q;refine CH ⟨_,_,rfl,rfl,_,AK (j:=0) rfl,_,_,rfl,rfl,?_⟩;show if(!((((p.map D.int).length:Nat):Int)==(((N.ps.map D.str).length:Nat):Int)))=r_ then _ else _
 rw[g,Go,beq_self_eq_true];refine CH (KC p _ (λx H=>(f.2 x H).1) λI=>?_);refine⟨_,AK (j:=0) rfl,_,_,N.ps.map .str,p.map .int,N.ps.map .inr,rfl,rfl,rfl,Om _,by rw[Go]; exact g.symm,by rw[Go]; omega,kr.mpr ((XA ok.rise).imp λh e=>h (iR e)),?_⟩;refine⟨_,AK (j:=1) rfl,?_⟩;refine N_ d o f N.ts _ _ _ (λ_ z=>z) (λc=>?_) λc J K L=>?_
 ·rw[c]at q; exact q
 ·rw[c,lE]at q
  refine⟨_,AK (j:=0) rfl,_,_,_,_,rfl,rfl,F,_,AK (j:=1) rfl,_,_,_,_,rfl,rfl,G,?_⟩;refine⟨_,_,rfl,_,_,rfl,Nc _ _ _,_,AK (j:=1) rfl,YS s v,_,AK (j:=2) rfl,_,_,rfl,_,_,rfl,Nc _ _ _,_,AK (j:=0) rfl,YS w y,?_⟩;exact q
end Nt
set_option maxHeartbeats 4000000
namespace L2
def DRaw(h:fu)(a:Db)(b:Array lM)(c:Nat):Prop:=∃o,h.get? a=P3 o/\o.ExactDict/\o.data=.dict b c
section
variable {P:Program}{w:World}{A:Around}{E:Value->Shared->Prop}{s:Shared}{d t:Addr}{es:Array DictEntry}{ep i:Nat}
theorem DRaw.ty(x:DRaw s.heap d es ep):s.TypeIs (.ref d) "dict":=let ⟨o,a,b,_⟩:=x; ⟨o,a,b.1⟩
theorem DRaw.lt{h:fu}(x:DRaw h d es ep):d<h.objs.size:=let ⟨_,a,_⟩:=x; Tk a
theorem DRaw.to{h a:fu}(x:DRaw h d es ep)(k:∀o,h.get? d=P3 o->a.get? d=P3 o):DRaw a d es ep:=let ⟨o,b,c⟩:=x; ⟨o,k o b,c⟩
theorem Ul{Q:Ev->On->Prop}(e:(d==sysModules)=s_)(x:DRaw s.heap d es ep)
  (q:Q (.ref s.heap.objs.size) {s with heap:=s.heap.push {cls:=.type "dict_keyiterator",data:=.fields #[.ref d,.int 0 0,.int es.size 0,.int ep 0]}}):wpAny (model P w) A (pyIter (.ref d)) Q E s:=by
 have T:=x.ty;obtain⟨o,b,f,c⟩:=x;refine wpAny_pyIter_slot T F.slot_dict_iter (iN F.slot_dict_iter T F.entry_dict_iter ?_ (F.args_dict_iter_1 _));refine Ch ?_;refine Ch (lR T ?_);refine Op ?_;show wpAny _ _ (nh d >>=_) _ _ s; unfold nh
 rw[if_neg (by grind)]; refine Ch (Op (Ch (mh b c (Ch (nJ b c ?_)))))
 refine Ch (iI (Op ⟨_,rfl,_,_,⟨_,TW _ rfl,rfl⟩,ij.lookup,?_⟩)); assumption
theorem Um{Q:u_ Ev->On->Prop}(x:s.heap.IsKeyIter t d i es.size ep)(y:DRaw s.heap d es ep)(j:i<es.size)
  (q:∀c,c.IsKeyIter t d (i+1) es.size ep->i6 t s.heap c->Q (P3 es[i].key) {s with heap:=c}):wpAny (model P w) A (pyNext (.ref t)) Q E s:=by
 have T:=x.typeIs;obtain⟨o,e,k,b⟩:=x;obtain⟨l,f,m,g⟩:=y;unfold pyNext; refine Ch (jF (gw (name:=ig "__next__") T ij (iN ij T l9 ?_ (lv _))))
 refine Ch (Op (Ch (Ch ?_)))
 first|refine Ch (jH T (Op ?_))|omega
 refine Ch (wpAny_fieldsOf e b ?_);have ow:mG "dict_keyiterator"=s_:=by decide
 simp only[ow,gm,if_false];show wpAny (model P w) _ (if(fj d==gH)=r_ then _ else _) _ _ s;rw[if_neg (show ¬(fj d==gH)=r_ by grind)]; refine Ch (Op (Ch (mh f g ?_)))
 rw[if_neg (by simp)]; refine Ch (Op (Ch (nJ f g ?_)))
 rw[if_neg (by simp)]; refine Op ?_
 simp only[show ¬(i:Int)<0 by omega,if_false,gz,iY j]; refine Ch ?_
 first|refine Ch (jH T (Op ?_))|omega
 refine Ch (wpAny_isOneOf_keyiter T ?_); show wpAny (model P w) _ (setField (.ref t) 1 (rawInt ((i:Int)+1)) >>=_) _ _ s
 refine Ch (jf e b (by simp) ?_);have h:(s.heap.update t (jE (·.setIfInBounds 1 (rawInt ((i:Int)+1))))).IsKeyIter t d (i+1) es.size ep:=⟨_,iQ _ e (lO (jM b _)),(Obj.cls_mapFields ..).trans k,by rw[jM b]; simp[rawInt]⟩;refine Ch (gQ (Ch (wpAny_isOneOf_keyiter h.typeIs ?_)));show wpAny (model P w) _ (pure es[i].key) _ _ _; exact Op (Op ⟨_,rfl,Op (q _ h (kF ..))⟩)
theorem XD{Q:u_ Ev->On->Prop}(k:A.handled=q_)(x:s.heap.IsKeyIter t d i es.size ep)(y:DRaw s.heap d es ep)(l:es.size<=i)
  (q:∀e,nQ t s.heap e->Q q_ {s with heap:=e}):wpAny (model P w) A (pyNext (.ref t)) Q E s:=by
 have T:=x.typeIs;obtain⟨o,f,n,g⟩:=x;obtain⟨p,h,r,j⟩:=y;unfold pyNext; refine Ch (jF (gw (name:=ig "__next__") T ij (iN ij T l9 ?_ (lv _))))
 refine Ch (Op (Ch (Ch ?_)))
 first|refine Ch (jH T (Op ?_))|omega
 refine Ch (wpAny_fieldsOf f g ?_);have ow:mG "dict_keyiterator"=s_:=by decide
 simp only[ow,gm,if_false];show wpAny (model P w) _ (if(fj d==gH)=r_ then _ else _) _ _ s;rw[if_neg (show ¬(fj d==gH)=r_ by grind)]; refine Ch (Op (Ch (mh h j ?_)))
 rw[if_neg (by simp)]; refine Ch (Op (Ch (nJ h j ?_)))
 rw[if_neg (by simp)]; refine Op ?_
 simp only[show ¬(i:Int)<0 by omega,if_false,gz,k9 l]; refine Ch ?_
 first|refine Ch (jH T (Op ?_))|grind
 show wpAny (model P w) _ (setField (.ref t) 0 .none >>=_) _ _ s; refine Ch (jf f g (by simp) ?_)
 show wpAny (model P w) _ (newExc (.type "StopIteration") [] >>=_) _ _ _; refine Ch ?_
 simp only[newExc,newTuple]; refine Ch (iI ?_ (by size_fits))
 refine Ch (m:=firstArgMember _ _) (k7 (a:=gH) (by first|rfl|omega) (iI ?_ (by size_fits)));simp only[raiseNew]; refine Ch (wpAny_handled ?_)
 rw[show A.in1.handled=q_ from k]; refine Ch (Op (wpAny_throw ?_)); refine Ch (lH (T:="StopIteration") (b:=r_) ⟨_,TW _ rfl,rfl⟩ isSubtype_stop ?_)
 exact Op (q _ (((kF ..).extBut.push _).push _))
theorem SI(p:A.handled=q_)(I d:Db)(g:d≠I)(es:Array lM)(ep:Nat):Walks P w A I [I,d] [I] es.size (λi v=>∃e,es[i]?=P3 e/\v=e.key) (λi h=>h.IsKeyIter I d i es.size ep/\DRaw h d es ep) where
 sub:=λb f=>by grind
 frame:=λ_ _ _ a l=>⟨a.1.at λo e=>l I (by simp) o e,a.2.to λo e=>l d (by simp) o e⟩
 item:=λi s Q E m a c=>Um a.1 a.2 m λj k n=>c _ j _ ⟨_,iY m,rfl⟩ ⟨k,a.2.to λo e=>n.extBut d o g e⟩ λb o f e=>n.extBut b o (λh=>f (by simp[h])) e
 done:=λs Q E a c=>XD p a.1 a.2 (Re _) λj q=>c j _ λb o f e=>q b o (λh=>f (by simp[h])) e
 self:=λ_ _ _ _ a c=>wpAny_pyIter_keyiter a.1 c
theorem XB(a:(d==sysModules)=s_):PySem.W.KdlSrc P w "dict" d d es.size (λi v=>∃e,es[i]?=P3 e/\v=e.key) (λh=>DRaw h d es ep) where
 type:=λ_ x=>x.ty
 there:=λ_ x=>⟨x.lt,x.lt⟩
 keep:=λ_ _ x k=>x.to λo e=>k d (.inl rfl) o e
 notList:=by decide
 notTuple:=by decide
 hint:=λ_ _ _ _ x q=>PySem.W.kdl_hint_dict x.ty q
 iter:=λ_ _ b x=>⟨_,_,(λ_ _ q=>Ul a x q),SI b _ d (f_ x.lt) es ep,⟨⟨_,TW _ rfl,rfl,rfl⟩,x.to λo e=>No _ e⟩⟩
end
open PySem.W
theorem Xo(k:Key):kOf k=kV k:=by cases k <;>rfl
theorem Xn(a:t_ Key):a.map kOf=a.map kV:=h_ λk _=>Xo k
section
variable {X:Cx}
theorem X8{P:gD}{w:gK}{H:Hp}{h:fu}{d:Db}{b:t_ (t_ Key×V)}(ok:HOk P w H h)(y:Rd H d (.dT b)):
  ∃(o:Obj) (c:Array lM) (f:Nat) (g:t_ Db),h.get? d=P3 o/\o.ExactDict/\o.data=.dict c f/\g.length=b.length/\c.size=b.length /\
   (∀(i:Nat) (e:lM),c[i]?=P3 e->∃a,g[i]?=P3 a/\e.key=.ref a)/\∀(i:Nat) (a:Db) (p:t_ Key×V),g[i]?=P3 a->b[i]?=P3 p->H a=P3 (.tup (p.1.map kV)):=by
 obtain⟨_,_,j,r,o,c,f,z,A,B,s,D,E⟩:=Im ok y
 have t:b.length=j.length:=by
  have:∀{l:t_ (t_ Key×V)}{m:t_ (t_ Key×Db×Ev)},KT H l m->l.length=m.length:=λq=>q.length
  exact this r
 have k:c.size=j.length:=by rw[←iH,s,Go]
 refine⟨o,c,f,j.map λx=>x.2.1,z,A,B,by rw[Go,t],by rw[k,t],λi e u=>?_,λi a p v C=>?_⟩
 ·rw[←lQ,s,T0]at u
  obtain⟨x,n,rfl⟩:=f7.mp u;exact⟨x.2.1,by rw[T0,n]; rfl,rfl⟩
 ·rw[T0]at v
  obtain⟨x,n,rfl⟩:=f7.mp v
  have:=KU r C n
  exact this.2.1
def Uo:t_ V->Hp->VK->Prop:=λf H Q=>∃(d:Db) (b:t_ (t_ Key×V)),f=[.ref d]/\Rd H d (.dT b)/\b.length<64/\(∀x∈b.map (·.1),∀y∈b.map (·.1),B0 x y=r_)/\(∀x∈b.map (·.1),x≠[]) /\
 ∀(c:t_ Db) (e:t_ Nat) (l:Db),c.length=b.length->(∀(i:Nat) (a:Db) (p:t_ Key×V),c[i]?=P3 a->b[i]?=P3 p->H a=P3 (.tup (p.1.map kV)))->JC (b.map (·.1)) e->H l=q_->
  Q (.ref l) (A2 H l (.lst (e.map λi=>(c.map V.ref).getD i .non)))
theorem Qa(E:X.calm=r_):By X (.builtin "sorted") Uo:=by
 intro F s Z H xs us Q I r h;obtain⟨d,j,rfl,y,G,k,m,q⟩:=h;obtain⟨u,rfl,J⟩:=vals1 r;cases J;obtain⟨o,es,ep,f,K,L,M,n,g5,N,z⟩:=X8 I.hok y;have O:=(Im I.hok y).2.1;refine EN (kw:=[]) (args_sorted1 _) (λx=>args_list_sort _) (PySem.W.kdu_collect (XB (P:=X.prog) (w:=X.w) (es:=es) (ep:=ep) O) (show X.A.in1.handled=q_ from by simp[I.ok.hd E]) ⟨o,K,L,M⟩ (by rw[gc]; omega) λR B c t b=>⟨by rw[iH,b.1,gc]; omega,?_⟩);have S:Inv X F Z H {s with heap:=R,toks:=B}:=I.kept (t':=B) t
 have T:c.toList=f.map fj:=by
  refine ko λi=>?_;cases C:c.toList[i]? with
  |some v=>
   obtain⟨e,U,rfl⟩:=b.2 i v (by rw[←lQ]; exact C);obtain⟨a,V,Y⟩:=N i e U;rw[T0,V,Y]; rfl
  |none=>
   have:c.toList.length<=i:=List.getElem?_eq_none_iff.mp C
   rw[iH,b.1]at this;rw[iz (by rw[Go]; omega)]
 rw[T];refine Lk S (Lf f) (by rw[Go]; omega) (keys:=j.map (·.1)) ⟨by rw[Go,Go]; exact n,λi ns e=>?_,k,m⟩ λix l ho hl=>q f ix l n z ho hl;rw[T0]at e;obtain⟨p,D,rfl⟩:=f7.mp e;have g:i<f.length:=by rw[n]; exact(ZB.mp D).1
 refine⟨f[i],by rw[T0,FM g]; rfl,?_⟩;rw[Xn];exact SqT.of (z i _ p (FM g) D)
end
end L2
namespace Dp
open L2
def tupK(k:t_ Key):D:=.tup (k.map Y5)
theorem Oi{K:Frag}{M:Db->Prop}{H:Hp}:∀{k:t_ Key},(∀x∈k,Fw x)->Ats K M H (k.map Y5) (k.map kV)
 |[],_=>rfl
 |x::k,h=>⟨_,_,rfl,WM (h x Sc),Oi λy a=>h y (Rs _ a)⟩
theorem Np{K:Frag}{M:Db->Prop}{H:Hp}:∀{b:t_ (t_ Key)}{c:t_ Db},c.length=b.length->(∀k∈b,∀x∈k,Fw x)->(∀(i:Nat) (a:Db) (k:t_ Key),c[i]?=P3 a->b[i]?=P3 k->H a=P3 (.tup (k.map kV)))->Ats K M H (b.map tupK) (c.map V.ref)
 |[],[],_,_,_=>rfl
 |k::b,a::c,j,d,h=>⟨_,_,rfl,⟨a,_,rfl,h 0 a k rfl rfl,Oi (d k Sc)⟩,Np (by grind) (λk e=>d k (Rs _ e)) λi f g l m=>h (i+1) f g (by simp_all) (by simp_all)⟩
section
variable {X:Cx}
def Vo(f:t_ D)(P:D->Prop):Prop:=∃(c:t_ (t_ Key)) (e:t_ D),f=[.dit c e]/\c.length=e.length/\c.length<64/\(∀x∈c,∀y∈c,B0 x y=r_)/\(∀x∈c,x≠[])/\(∀k∈c,∀x∈k,Fw x) /\
 ∀d:t_ (t_ Key),d.Perm c->d.Pairwise (λa b=>Bn b a=s_)->P (.lst (d.map tupK))
theorem VG{c:t_ (t_ Key)}{d:t_ Nat}(h:JC c d):(d.map λi=>c.getD i []).Perm c/\(d.map λi=>c.getD i []).Pairwise (λa b=>Bn b a=s_):=by
 obtain⟨f,g⟩:=h;have n:d.length=c.length:=by rw[f.length_eq,ip]
 constructor
 ·have:=f.map λi=>c.getD i []
  have e:(gF c.length).map (λi=>c.getD i [])=c:=by
   apply List.ext_getElem
   ·simp
   ·intro i f g
    simp[g]
  rw[e]at this;exact this
 ·rw[ja]
  intro i j l m k;rw[Go]at l m
  have:=g i j (j7 k) (by omega)
  simp_all
theorem YV:CJ X.K .fr Uo Vo:=by
 intro U M H O R P Q t S u w q;obtain⟨c,T,rfl,W,x,e,f,y,w⟩:=w;obtain⟨v,rfl,z⟩:=D4 u;obtain⟨a,g,rfl,A,B⟩:=QU z;have C:=B.length;have h:(c.zip g).map (·.1)=c:=m_ (by omega);have j:(c.zip g).length=c.length:=by rw[ir]; omega
 refine⟨a,_,rfl,A,by omega,by rw[h]; exact e,by rw[h]; exact f,λD m l E n o d=>?_⟩;rw[h]at o;obtain⟨F,G⟩:=VG o
 have I:Ats X.K M H (c.map tupK) (D.map V.ref):=Np (by omega) y λi b k J s=>by
  have p:i<(c.zip g).length:=by rw[j]; exact(ZB.mp s).1
  have:=n i b _ J (FM p)
  rw[List.getElem_zip]at this;obtain⟨_,L⟩:=ZB.mp s;rw[L]at this;exact this
 have N:(m.map λi=>(c.map tupK).getD i .non)=(m.map λi=>c.getD i []).map tupK:=by
  rw[gh];refine h_ λi p=>?_;have r:i<c.length:=iU.mp (o.1.mem_iff.mp p);show(c.map tupK).getD i .non=tupK (c.getD i []);rw[fq,fq,T0,FM r];rfl
 have:=w _ F G
 rw[←N]at this;exact q _ _ (.lst _) (Av d) (Cg d (I.pick m)) this
end
end Dp
namespace Nt
open L2 Dp
def pairD(p:Str×Str):D:=.tup [.str p.1,.str p.2]
end Nt
namespace L2
section
variable {prog:Program}{w:World}{A:Around}{E:Value->Shared->Prop}{s:Shared}{x y:Str}{t u:Tok}
def UL(x y:Str)(i:Nat):Str:=if i=0 then x else y
theorem Qo{i:Nat}{v:Ev}(h:(#[je x t,je y u]:Array Ev)[i]?=P3 v):∃k,v=.str (UL x y i) k:=by
 match i with
 |0=>exact⟨t,(ft h).symm⟩
 |1=>exact⟨u,(ft h).symm⟩
 |i+2=>simp at h
theorem TN:CmpOf prog w A .Lt (λi v=>(#[je x t,je y u]:Array Ev)[i]?=P3 v) (λi j=>decide ((UL x y i).cps.toList<(UL x y j).cps.toList)):=λi j f g s Q E c d h=>by
 obtain⟨a,rfl⟩:=Qo c;obtain⟨b,rfl⟩:=Qo d;exact richCompare_gives (kW s _ a) (kW s _ b) PySem.F.slot_str_lt PySem.F.entry_str_lt (PySem.F.args_str_lt_2 _ _) (gives_str_lt _ _ a b) (λe=>nomatch e) h
theorem TQ:CmpOf prog w A .Gt (λi v=>(#[je x t,je y u]:Array Ev)[i]?=P3 v) (λi j=>decide ((UL x y j).cps.toList<(UL x y i).cps.toList)):=λi j f g s Q E c d h=>by
 obtain⟨a,rfl⟩:=Qo c;obtain⟨b,rfl⟩:=Qo d;exact richCompare_gives (kW s _ a) (kW s _ b) PySem.F.slot_str_gt PySem.F.entry_str_gt (PySem.F.args_str_gt_2 _ _) (gives_str_gt _ _ a b) (λe=>nomatch e) h
theorem UN{n c:Nat}(h:c∈[n+1,n]):c<n+1+1:=by
 grind
theorem Nm{a:Nat->Nat->Bool}{v:Ev}(h:(#[je x t,je y u]:Array Ev)[argBest a 1]?=P3 v):v=if a 1 0=r_ then .str y u else .str x t:=by
 have e:argBest a 1=if a 1 0=r_ then 1 else 0:=rfl
 rw[e]at h;cases c:a 1 0 with
 |true=>simp_all
 |false=>rw[c]at h; exact(ft h).symm
theorem Sm{Q:Ev->On->Prop}(i:A.handled=q_)(h:∀a b,(∀c o,s.heap.get? c=P3 o->a.get? c=P3 o)->Q (if decide (y.cps.toList<x.cps.toList)=r_ then .str y u else .str x t) {s with heap:=a,toks:=b}):
  wpAny (model prog w) A (call (.builtin "min") [.str x t,.str y u]) Q E s:=by
 have f:(s.heap.push {cls:=.type "tuple",data:=.seq #[.str x t,.str y u]}).IsTuple s.heap.objs.size #[.str x t,.str y u]:=⟨_,TW _ rfl,rfl,0,rfl⟩;refine call_min_two (ie f ?_);have d:(s.heap.push {cls:=.type "tuple",data:=.seq #[.str x t,.str y u]}).objs.size=s.heap.objs.size+1:=iF ..;refine⟨_,[_,s.heap.objs.size],[_],_,_,_,_,rfl,Walks.tuple (A:=A.in1) i _ s.heap.objs.size (by grind) #[.str x t,.str y u],⟨⟨_,TW _ rfl,rfl,rfl⟩,f.push _⟩,λc g=>?_,by simp,TN,λv a b j k=>?_⟩
 ·rw[iF,d]; rw[d]at g; exact UN g
 ·rw[Nm j]
  refine h a b λc o e=>k c o (λm=>?_) (No _ (No _ e));have l:=Tk e;rw[TM.mp m,d]at l
  grind
theorem Sq{Q:Ev->On->Prop}(i:A.handled=q_)(h:∀a b,(∀c o,s.heap.get? c=P3 o->a.get? c=P3 o)->Q (if decide (x.cps.toList<y.cps.toList)=r_ then .str y u else .str x t) {s with heap:=a,toks:=b}):
  wpAny (model prog w) A (call (.builtin "max") [.str x t,.str y u]) Q E s:=by
 have f:(s.heap.push {cls:=.type "tuple",data:=.seq #[.str x t,.str y u]}).IsTuple s.heap.objs.size #[.str x t,.str y u]:=⟨_,TW _ rfl,rfl,0,rfl⟩;refine call_max_two (ie f ?_);have d:(s.heap.push {cls:=.type "tuple",data:=.seq #[.str x t,.str y u]}).objs.size=s.heap.objs.size+1:=iF ..;refine⟨_,[_,s.heap.objs.size],[_],_,_,_,_,rfl,Walks.tuple (A:=A.in1) i _ s.heap.objs.size (by grind) #[.str x t,.str y u],⟨⟨_,TW _ rfl,rfl,rfl⟩,f.push _⟩,λc g=>?_,by simp,TQ,λv a b j k=>?_⟩
 ·rw[iF,d]; rw[d]at g; exact UN g
 ·rw[Nm j]
  refine h a b λc o e=>k c o (λm=>?_) (No _ (No _ e));have l:=Tk e;rw[TM.mp m,d]at l
  grind
end
section
variable {X:Cx}
def Yq:t_ V->Hp->VK->Prop:=λa H Q=>∃x y:Str,a=[.str x,.str y]/\Q (.str (if decide (y.cps.toList<x.cps.toList)=r_ then y else x)) H
def Ys:t_ V->Hp->VK->Prop:=λa H Q=>∃x y:Str,a=[.str x,.str y]/\Q (.str (if decide (x.cps.toList<y.cps.toList)=r_ then y else x)) H
theorem TR(a:X.calm=r_):By X (.builtin "min") Yq:=by
 intro b s Z H c d Q I r h;obtain⟨x,y,rfl,q⟩:=h;obtain⟨u,e,rfl,⟨t,rfl⟩,⟨f,rfl⟩⟩:=vals2 r;refine Sm (I.ok.hd a) λg i k=>⟨_,H,I.kept k,?_,q⟩;cases decide (y.cps.toList<x.cps.toList) <;>exact⟨_,rfl⟩
theorem TV(a:X.calm=r_):By X (.builtin "max") Ys:=by
 intro b s Z H c d Q I r h;obtain⟨x,y,rfl,q⟩:=h;obtain⟨u,e,rfl,⟨t,rfl⟩,⟨f,rfl⟩⟩:=vals2 r;refine Sq (I.ok.hd a) λg i k=>⟨_,H,I.kept k,?_,q⟩;cases decide (x.cps.toList<y.cps.toList) <;>exact⟨_,rfl⟩
end
end L2
namespace Dp
open L2
section
variable {K:Frag}
def Vr(a:t_ D)(P:D->Prop):Prop:=∃x y:Str,a=[.str x,.str y]/\P (.str (if decide (y.cps.toList<x.cps.toList)=r_ then y else x))
def Vs(a:t_ D)(P:D->Prop):Prop:=∃x y:Str,a=[.str x,.str y]/\P (.str (if decide (x.cps.toList<y.cps.toList)=r_ then y else x))
theorem Nl{U M:Db->Prop}{H:Hp}{x y:Str}{a:t_ V}(b:Paired (λv d=>AtT K U M H d v) a [.str x,.str y]):a=[.str x,.str y]/\x.length<=sizeLine/\y.length<=sizeLine:=by
 cases b with
 | cons c e=>cases e with
  |cons f g=>
   cases g;obtain⟨rfl,h⟩:=c.str;obtain⟨rfl,i⟩:=f.str
   simp_all
theorem aj:CJ K .sh Yq Vr:=by
 intro U M H c d P Q a f b w q;obtain⟨x,y,rfl,w⟩:=w;obtain⟨e,g,h⟩:=Nl b;exact⟨x,y,e,q _ H (.str _) .refl ⟨rfl,by split <;>assumption⟩ w⟩
theorem al:CJ K .sh Ys Vs:=by
 intro U M H c d P Q a f b w q;obtain⟨x,y,rfl,w⟩:=w;obtain⟨e,g,h⟩:=Nl b;exact⟨x,y,e,q _ H (.str _) .refl ⟨rfl,by split <;>assumption⟩ w⟩
end
end Dp
namespace L2
open PySem.W
end L2
namespace Dp
open L2
end Dp
namespace L2
open PySem.W
end L2
namespace Dp
open L2
end Dp
namespace Nt
open L2 Dp
def words26:t_ Str:=["a","aa","ab","abc","b","ba","bb","c","come","d","far","in","lay","m","n","near","out","place","q","r","tie","tree","x","xy","y","zzzzzzzz"]
def Jk:W2:=λa n P=>a=[]/\P (.lst (words26.map .str)) n
def Fj:W2:=λb n P=>∃m:Nat,b=[.fd,.sh (.int m)]/\m<=26/\2<=n/\∀a:t_ Str,a.length=m->(∀x∈a,Vb x)->rising a->P (.tup (a.map .str)) (n - 2)
def ML:W2:=λa n P=>∃s:Int,a=[.fd,.sh (.int s)]/\0<=s/\s<=3/\1<=n/\∀r:Int,1<=r->r<=1000000->P (.int r) (n - 1)
def NU:W2:=λe n P=>∃(b:t_ Str) (a:Nat),e=[.fd,.sh (.tup (b.map .str)),.sh (.int a)]/\(∀x∈b,Vb x)/\rising b/\b.length<=26/\a<=60/\200<=n/\∀(c:t_ Au) (d:Nat),(⟨b,c⟩:Net).Ok->c.length<=a->n - 200<=d->P (.tup (c.map Ak)) d
def PY:W2:=λd n P=>∃a b:Nat,d=[.fd,.sh (.int a),.sh (.int b)]/\a<=25/\b<=60/\210<=n/\∀(N:Net) (c:Nat),N.Ok->N.ps.length<=a->N.ts.length<=b->n - 210<=c->P (Bw N) c
def Lb:AZ:=(Af (A5 0 (Di (AE (wC (D.str "a")) (AE (wC (D.str "aa")) (AE (wC (D.str "ab")) (AE (wC (D.str "abc")) (AE (wC (D.str "b")) (AE (wC (D.str "ba")) (AE (wC (D.str "bb")) (AE (wC (D.str "c")) (AE (wC (D.str "come")) (AE (wC (D.str "d")) (AE (wC (D.str "far")) (AE (wC (D.str "in")) (AE (wC (D.str "lay")) (AE (wC (D.str "m")) (AE (wC (D.str "n")) (AE (wC (D.str "near")) (AE (wC (D.str "out")) AV)))))))))))))))))))
 (As (Aa BB (AB 0) (Di (AE (wC (D.str "place")) (AE (wC (D.str "q")) (AE (wC (D.str "r")) (AE (wC (D.str "tie")) (AE (wC (D.str "tree")) (AE (wC (D.str "x")) (AE (wC (D.str "xy")) (AE (wC (D.str "y")) (AE (wC (D.str "zzzzzzzz")) AV)))))))))))))
def FW:AZ:=(Af (A5 2 (Ad Jk Ae))
 (Af (A5 3 (Ad Ct (AC (BG 0) (AC (AH (wC (D.int 26))) Ae))))
 (Af (A5 4 (Aa BA (Di (AE (wC (D.int 1)) (AE (wC (D.int 3)) (AE (wC (D.int 5)) (AE (wC (D.int 7)) AV))))) (Ad Ct (AC (BG 0) (AC (AH (wC (D.int 4))) Ae)))))
 (As (Bz B2 (AE (Bz Vq (AE (Ba [P3 2,P3 3,P3 4,q_] (Js (AE (AB 1) AV)) (Al 3) C4 (Aa BA (AB 0) (Aa (We (λ_ j=>0<j) λi j=>D.int (i % j)) (Aa BB (AB 1) (Aa DX (AB 2) (AB 3))) (wC (D.int 26))))) AV)) AV))))))
def FZ:AZ:=(Af (BC (Ab (Aa (Ku s_) (AB 1) (wC (D.int 3)))) (As (Aa Et (Aa (We Wc λi j=>D.int (i ^ j.toNat)) (wC (D.int 10)) (wC (D.int 6))) (Ad Ct (AC (BG 0) (AC (AH (wC (D.int 3))) Ae))))) Ay)
 (As (Aa BB (wC (D.int 1)) (Ad Ct (AC (BG 0) (AC (AH (Aa BA (Di (AE (wC (D.int 3)) (AE (wC (D.int 9)) (AE (wC (D.int 60)) AV)))) (AB 1))) Ae))))))
def HQ:AZ:=(Af (Jr 3 UB)
 (Af (A5 4 (Ad Ct (AC (BG 0) (AC (AH (wC (D.int 5))) Ae))))
 (Af (Gv (Js (AE (Ad Ct (AC (BG 0) (AC (AH (Aa BB (AB 2) (wC (D.int 1)))) Ae))) AV)) (Al 5) (BC (Ab (Aa (f2 λi j=>D.bl (decide (j<i))) (Bz B6 (AE (AB 1) AV)) (wC (D.int 1)))) (Af (A5 6 (Ad Ct (AC (BG 0) (AC (AH (Bz B6 (AE (AB 1) AV))) Ae))))
 (Af (A5 7 (Aa (We (λ_ j=>0<j) λi j=>D.int (i % j)) (Aa BB (Aa BB (AB 6) (wC (D.int 1))) (Ad Ct (AC (BG 0) (AC (AH (Aa Et (Bz B6 (AE (AB 1) AV)) (wC (D.int 1)))) Ae)))) (Bz B6 (AE (AB 1) AV))))
 (Yd 3 (BO (AE (Aa BA (AB 1) (Bz RO (AE (AB 6) (AE (AB 7) AV)))) (AE (Aa BA (AB 1) (Bz Vt (AE (AB 6) (AE (AB 7) AV)))) AV))) (Ad ML (AC (BG 0) (AC (AH (Aa BA (Di (AE (AB 4) (AE (Aa (We (λ_ j=>0<j) λi j=>D.int (i % j)) (AB 5) (wC (D.int 4))) AV))) (Aa (We Ti λi j=>D.int (i / j)) (AB 4) (wC (D.int 4))))) Ae)))))) Ay))
 (As (Bz B2 (AE (Ba [P3 3,q_] (BL (Bz Vo (AE (B7 3) AV))) (Al 1) C4 (Aa BB (AB 1) (BO (AE (Aa Ow (B7 0) (AB 1)) AV)))) AV))))))
def PM:AZ:=(Af (A5 3 (Ad Fj (AC (BG 0) (AC (AH (Ad Ct (AC (BG 0) (AC (AH (Aa BB (AB 1) (wC (D.int 1)))) Ae)))) Ae))))
 (As (BO (AE (AB 3) (AE (Ad NU (AC (BG 0) (AC (AH (AB 3)) (AC (AH (AB 2)) Ae)))) AV)))))
def DM(i:Nat):Str:=words26.getD i "a"
theorem Pe:∀i,i<26->Vb (DM i):=by
 have h:∀i∈gF 26,1<=(DM i).length/\(DM i).length<=8/\∀c∈cs (DM i),97<=c/\c<=122:=by decide +kernel
 exact λi a=>h i (iU.mpr a)
theorem Rx:∀i j,i<26->j<26->DM i=DM j->i=j:=by
 have h:∀i∈gF 26,∀j∈gF 26,cs (DM i)=cs (DM j)->i=j:=by decide +kernel
 exact λi j a b e=>h i (iU.mpr a) j (iU.mpr b) (congrArg cs e)
theorem Tw(i:Nat)(h:i<26):(words26.map D.str)[i]?=P3 (.str (DM i)):=by
 have a:i<words26.length:=h;unfold DM
 simp_all
section
variable {ss:t_ Slot}{n:Nat}{Pd:D->Nat->Prop}
theorem LN(h:Jk ss n Pd):Lb (EE Pd) n (ss++UF 1 .no):=by
 obtain⟨rfl,p⟩:=h;exact⟨by decide,by decide,by decide,p⟩
def P7(f s:Nat):D->D
 |.int k=>.str (DM ((f+s*k.toNat) % 26))
 |_=>.non
theorem OK(f s k:Nat):P7 f s (.int (0+(k:Int)))=.str (DM ((f+s*k) % 26)):=by
 show D.str _=_
 simp_all
theorem KG(h:Fj ss n Pd):FW (EE Pd) n (ss++UF 3 .no):=by
 obtain⟨m,rfl,A,B,p⟩:=h;unfold FW;refine⟨rfl,26,rfl,by decide,by decide,by omega,λfirst C E=>?_⟩;obtain⟨f,rfl⟩:∃f:Nat,first=(f:Int):=⟨first.toNat,by omega⟩
 refine⟨(by decide:4<=sizeLine),4,rfl,by decide,by decide,by omega,λw F G=>?_⟩
 obtain⟨s,u,v⟩:∃s:Nat,(s=1\/s=3\/s=5\/s=7)/\atI [D.int 1,D.int 3,D.int 5,D.int 7] w=P3 (.int (s:Int)):=by
  rcases(show w=0\/w=1\/w=2\/w=3 by omega)with rfl|rfl|rfl|rfl
  ·exact⟨1,.inl rfl,rfl⟩
  ·exact⟨3,.inr (.inl rfl),rfl⟩
  ·exact⟨5,.inr (.inr (.inl rfl)),rfl⟩
  ·exact⟨7,.inr (.inr (.inr rfl)),rfl⟩
 refine⟨_,v,(m:Int),rfl,⟨by omega,by omega⟩,by rw[CY]; omega,?_⟩;refine BK (P7 f s) (λq=>∃r,q=[.sh (.lst (words26.map .str)),.sh (.int f),.sh (.int s),r]) _ _ _ _ ?_ ⟨_,rfl⟩ ?_
 ·rintro d x q H I ⟨r,rfl⟩ a
  obtain⟨k,b,rfl⟩:=G3 x;have c:(f+s*k) % 26<26:=n8 _ (by decide);have g:(s:Int)*(0+(k:Int))=((s*k:Nat):Int):=by rw[iM]; exact(Int.natCast_mul s k).symm
  refine⟨cW (by omega) (by omega),by show(0:Int)<26; decide,.str (DM ((f+s*k) % 26)),?_,?_⟩
  ·rw[g,show((f:Int)+((s*k:Nat):Int)) % 26=(((f+s*k) % 26:Nat):Int) by omega]
   exact AK (Tw _ c)
  ·have:=a [.sh (.lst (words26.map .str)),.sh (.int f),.sh (.int s),.sh (.int (0+(k:Int)))] ⟨_,rfl⟩
   rw[OK]at this;exact this
 ·have e:[]++(CZ 0 ((m:Int)).toNat).map (P7 f s)=((gF m).map λk:Nat=>DM ((f+s*k) % 26)).map .str:=by
   unfold CZ;rw[gL,gh,gh,gz];refine h_ λk _=>?_;exact OK f s k
  rw[e];refine⟨_,_,rfl,PP _,by rw[Go,ip]; omega,λi l o=>p i ?_ ?_ ?_⟩
  ·rw[l.length_eq,Go,ip]
  ·intro y z
   obtain⟨k,_,rfl⟩:=Uf.mp (l.mem_iff.mp z);exact Pe _ (n8 _ (by decide))
  ·refine LG o (l.nodup_iff.mpr (Lr List.nodup_range λj t k b e=>?_))
   have e:=Rx _ _ (n8 _ (by decide)) (n8 _ (by decide)) e;have t:=iU.mp t;have b:=iU.mp b
   rcases u with rfl|rfl|rfl|rfl <;>omega
theorem KH(h:ML ss n Pd):FZ (EE Pd) n (ss++UF 0 .no):=by
 obtain⟨s,rfl,f,g,a,p⟩:=h;unfold FZ;show if(s==3)=r_ then _ else _
 refine Cp (λc=>?_) λc=>?_
 ·refine⟨fQ,_,rfl,by decide,by decide,a,λr b d=>?_⟩
  have i:(10:Int) ^ (6:Int).toNat=1000000:=by decide
  show Pd (.int (10 ^ (6:Int).toNat - r)) (n - 1)
  grind
 ·have c:s≠3:=by simpa using c
  obtain⟨k,j,e⟩:∃k:Int,(1<=k/\k<=60)/\atI [D.int 3,D.int 9,D.int 60] s=P3 (.int k):=by
   rcases(show s=0\/s=1\/s=2 by omega)with rfl|rfl|rfl
   ·exact⟨3,by decide,rfl⟩
   ·exact⟨9,by decide,rfl⟩
   ·exact⟨60,by decide,rfl⟩
  refine⟨(by decide:3<=sizeLine),_,e,k,rfl,by omega,by omega,a,λr b d=>?_⟩;exact p _ (by omega) (by omega)
theorem OC(h:PY ss n Pd):PM (EE Pd) n (ss++UF 1 .no):=by
 obtain⟨a,b,rfl,k,c,l,p⟩:=h;exact⟨_,rfl,by omega,by omega,by omega,λr m o=>⟨r.toNat,by grind,by omega,by omega,λd q e f=>⟨d,_,rfl,e,f,by omega,c,by omega,λs g ok i j=>⟨z2,p _ g ok (by grind) i (by omega)⟩⟩⟩⟩
theorem Rg(x y:Str):cs x<cs y\/x=y\/cs y<cs x:=by
 by_cases a:cs x<cs y
 ·exact .inl a
 ·by_cases b:cs y<cs x
  ·simp_all
  ·refine .inr (.inl ?_)
   have:=Lu (.inr x) (.inr y) (decide_eq_false a) (decide_eq_false b)
   grind
theorem U1{a:t_ (t_ Key)}{k x:t_ Key}(h:x∈CC a k):x∈a\/x=k:=by
 unfold CC at h
 split at h
 ·exact .inl h
 simp_all
theorem XH{a:t_ (t_ Key)}{k:t_ Key}(nd:a.Nodup):(CC a k).Nodup:=by
 unfold CC
 split
 ·exact nd
 ·rename_i h
  rw[iC];refine⟨nd,by simp,λx b y c e=>h (hasK_iffU.mpr ?_)⟩
  grind
theorem XI{a:t_ (t_ Key)}{k:t_ Key}:(CC a k).length<=a.length+1:=by
 unfold CC
 grind
theorem OJ{k:t_ Key}{d x:D}:∀{b:t_ (t_ Key)}{a:t_ D},x∈gn (λc e=>if c=k then d else e) b a->x=d\/x∈a
 |[],_,h=>by cases h
 |_::_,[],h=>by cases h
 |c::b,e::a,h=>by
  rcases fi.mp h with h|h
  ·grind
  ·exact(OJ h).imp id (Rs _)
theorem SK{b:t_ (t_ Key)}{a:t_ D}{k:t_ Key}{d x:D}(h:x∈CB b a k d):x=d\/x∈a:=by
 unfold CB at h
 split at h
 ·exact OJ h
 ·rcases gA.mp h with h|h
  ·exact .inr h
  grind
theorem Nk{k:t_ Key}{z:D}:∀{b:t_ (t_ Key)}{a:t_ D},CV b a k=P3 z->z∈a
 |[],_,h=>by cases h
 |_::_,[],h=>by cases h
 |c::b,d::a,h=>by
  unfold CV at h
  split at h
  ·grind
  ·exact Rs _ (Nk h)
structure Tds (xs:List Str) (ks:List (List Key)) (ds:List D):Prop where
 len:ks.length=ds.length
 nd:ks.Nodup
 key:∀k∈ks,∃a b:Str,k=[.inr a,.inr b]/\a∈xs/\b∈xs/\cs a<cs b
 val:∀d∈ds,∃l:Int,d=.int l/\1<=l/\l<=1000000
theorem Tds.put{c:t_ Str}{e:t_ (t_ Key)}{h:t_ D}(T:Tds c e h){a b:Str}{l:Int}(i:a∈c)(j:b∈c)(lt:cs a<cs b)(m:1<=l)(o:l<=1000000):Tds c (CC e [.inr a,.inr b]) (CB e h [.inr a,.inr b] (.int l)):=by
 refine⟨OH T.len,XH T.nd,λk f=>?_,λd g=>?_⟩
 ·rcases U1 f with f|rfl
  ·exact T.key k f
  ·exact⟨a,b,rfl,i,j,lt⟩
 ·rcases SK g with rfl|g
  ·simp_all
  ·exact T.val d g
def Lc(c:t_ (t_ Key))(e:t_ D):D->D
 |.tup [.str a,.str b]=>.tup [.str a,.str b,(CV c e [.inr a,.inr b]).getD .non]
 |d=>d
theorem Nb(c:t_ (t_ Key))(d:t_ D)(a b:Str):Lc c d (.tup [.str a,.str b])=.tup [.str a,.str b,(CV c d [.inr a,.inr b]).getD .non]:=rfl
theorem Tds.ties{j:t_ Str}{i:t_ (t_ Key)}{m:t_ D}(T:Tds j i m):∀{ks':t_ (t_ Key)},(∀k∈ks',k∈i)->ks'.Nodup->ks'.Pairwise (λa b=>Bn b a=s_)->
  ∃e:t_ Au,(ks'.map tupK).map (Lc i m)=e.map Ak/\e.map (λt=>([.inr t.a,.inr t.b]:t_ Key))=ks'/\(∀t∈e,t.a∈j/\t.b∈j/\cs t.a<cs t.b/\1<=t.len/\t.len<=1000000)/\e.Pairwise Bo
 |[],_,_,_=>⟨[],rfl,rfl,(λt h=>by cases h),ki⟩
 | k::ks',c,o,p=>by
  rw[gE]at o;rw[gq]at p;obtain⟨e,w,s,x,y⟩:=T.ties (ks':=ks') (λk A=>c k (Rs _ A)) o.2 p.2;obtain⟨a,b,rfl,B,C,lt⟩:=T.key k (c k Sc);obtain⟨z,u⟩:=GL T.len (c _ Sc);obtain⟨l,rfl,E,F⟩:=T.val z (Nk u);refine⟨⟨a,b,l⟩::e,?_,?_,λt f=>?_,gq.mpr ⟨λt f=>?_,y⟩⟩
  ·rw[f9,f9,f9,w]
   show Lc i m (.tup [.str a,.str b])::_=_;rw[Nb,u]; rfl
  ·rw[f9,s]
  ·rcases fi.mp f with rfl|f
   ·exact⟨B,C,lt,E,F⟩
   ·exact x t f
  ·have v:([.inr t.a,.inr t.b]:t_ Key)∈ks':=by rw[←s]; exact Uf.mpr ⟨t,f,rfl⟩
   have d:=p.1 _ v;have q:([.inr a,.inr b]:t_ Key)≠[.inr t.a,.inr t.b]:=λz=>o.1 (by rw[z]; exact v);have d:(if(gl t.a:Key)=.inr a then(if(gl t.b:Key)=.inr b then s_ else decide (t.b.cps.toList<b.cps.toList))else decide (t.a.cps.toList<a.cps.toList))=s_:=d;show cs a<cs t.a\/(a=t.a/\cs b<cs t.b)
   by_cases g:t.a=a
   ·rw[if_pos (by rw[g])]at d
    by_cases r:t.b=b
    ·exact absurd (by rw[g,r]) q
    ·rw[if_neg (λz=>r (iR z))]at d
     refine .inr ⟨g.symm,?_⟩
     rcases Rg b t.b with l|l|l
     ·exact l
     ·exact absurd l.symm r
     ·exact absurd l (of_decide_eq_false d)
   ·rw[if_neg (λz=>g (iR z))]at d
    left
    rcases Rg a t.a with l|l|l
    ·exact l
    ·exact absurd l.symm g
    ·exact absurd l (of_decide_eq_false d)
theorem Mc(h:NU ss n Pd):HQ (EE Pd) n (ss++UF 5 .no):=by
 obtain⟨xs,C,rfl,hx,hr,a4,hm,hn,p⟩:=h;have a5:=PySem.sizeLine_eq;unfold HQ;refine⟨5,rfl,by decide,by decide,by omega,λf s0 s1=>?_⟩;refine⟨_,rfl,by omega,by omega,by omega,λE m0 m1=>⟨E,rfl,⟨by omega,by omega⟩,?_⟩⟩;refine Fs (all:=CZ 0 E.toNat) (λB m H=>n - 2 - 3*B.length<=m/\∃(g:t_ (t_ Key)) (o:t_ D) (P Q R:Slot),H=[.fd,.sh (.tup (xs.map .str)),.sh (.int C),.ow (.dit g o),.sh (.int f),P,Q,R]/\Tds xs g o/\g.length<=B.length) ?_ ?_ _ [] _ _ rfl ⟨by simp; omega,[],[],_,_,_,rfl,⟨rfl,gW,(λk h=>by cases h),λd h=>by cases h⟩,Re _⟩
 ·rintro m H ⟨F,g,o,P,Q,R,rfl,T,G⟩
  rw[CY]at F G;refine⟨g,o,rfl,T.len,by omega,λx l y S=>?_,λx l=>?_,λk u x l=>?_,λks' I pw=>⟨by show(ks'.map tupK).length<=10000000; rw[Go,I.length_eq]; omega,?_⟩⟩
  ·obtain⟨a,b,rfl,_⟩:=T.key x l
   obtain⟨a',b',rfl,_⟩:=T.key y S;rfl
  ·obtain⟨a,b,rfl,_⟩:=T.key x l
   simp
  ·obtain⟨a,b,rfl,ha,hb,_⟩:=T.key k u
   have J:∀y∈xs,Fw (.inr y):=λy hy=>by
    have:=(hx y hy).2.1
    show y.length<=sizeLine;omega
   rcases fi.mp l with rfl|l
   ·exact J a ha
   ·rw[TM.mp l]; exact J b hb
  ·obtain⟨ts,e1,e2,N,O⟩:=T.ties (ks':=ks') (λk u=>I.mem_iff.mp u) (I.nodup_iff.mpr T.nd) pw
   have a6:ts.length=g.length:=by rw[←I.length_eq,←e2,Go]
   refine BK (Lc g o) (λH=>∃s,H=[.br (.dit g o),s]) _ _ _ _ ?_ ⟨_,rfl⟩ ?_
   ·rintro d hd H n' nx ⟨s,rfl⟩ t
    obtain⟨k,u,rfl⟩:=Uf.mp hd;have K:=I.mem_iff.mp u;obtain⟨a,b,rfl,_⟩:=T.key k K;obtain⟨z,hz⟩:=GL T.len K
    have:=t [.br (.dit g o),.sh (.tup [.str a,.str b])] ⟨_,rfl⟩
    rw[show Lc g o (tupK [.inr a,.inr b])=.tup [.str a,.str b,z] by show Lc g o (.tup [.str a,.str b])=_; rw[Nb,hz]; rfl]at this;exact⟨g,o,_,z,rfl,rfl,hz,z1,z3,this⟩
   ·rw[gL,e1]
    exact p ts m ⟨hx,hr,N,O⟩ (by omega) (by omega)
 ·rintro B d a3 m H nx L ⟨F,g,o,P,Q,R,rfl,T,G⟩ t
  obtain⟨rfl,hk⟩:=Qu L;rw[fw,gC]at t;generalize B.length=i at hk F G t ⊢;have xl:(xs.map D.str).length=xs.length:=Go ..;refine⟨_,_,rfl,rfl,?_⟩;show if decide ((1:Int)<((xs.map D.str).length:Int))=r_ then _ else _
  refine Cp (λc=>?_) λc=>t _ _ ⟨by omega,g,o,_,_,_,rfl,T,by omega⟩;have c:=of_decide_eq_true c;rw[xl]at c;refine⟨_,_,rfl,rfl,_,rfl,by omega,by omega,by omega,λa a0 a1=>?_⟩;refine⟨_,_,rfl,rfl,_,rfl,by omega,by omega,by omega,λq q0 q1=>⟨_,_,rfl,rfl,by show(0:Int)<_; omega,?_⟩⟩;rw[xl]at a1 q1 ⊢
  obtain⟨s,es,U,V⟩:∃s:Int,atI [D.int f,D.int ((0+(i:Int)) % 4)] (f / 4)=P3 (.int s)/\0<=s/\s<=3:=by
   rcases(show f<4\/f=4 by omega)with z|z
   ·refine⟨f,?_,s0,by omega⟩
    rw[show f / 4=0 by omega]; rfl
   ·refine⟨(0+(i:Int)) % 4,?_,by omega,by omega⟩
    rw[show f / 4=1 by omega]; rfl
  refine⟨g,o,rfl,by show(0:Int)<4; decide,z2,⟨by decide,by decide⟩,_,es,s,rfl,U,V,by omega,λr r1 r2=>?_⟩;have W:0<=(a+1+q) % (xs.length:Int)/\(a+1+q) % (xs.length:Int)<xs.length:=⟨nI _ (by omega),mQ _ (by omega)⟩
  have X:(a+1+q) % (xs.length:Int)≠a:=by
   intro e
   rcases(show a+1+q<xs.length\/xs.length<=a+1+q by omega)with z|z
   ·rw[Int.emod_eq_of_lt (by omega) z]at e; omega
   ·have:(a+1+q) % (xs.length:Int)=a+1+q - xs.length:=by
     rw[←Int.sub_emod_right,Int.emod_eq_of_lt (by omega) (by omega)]
    omega
  obtain⟨b,eb⟩:∃b,(a+1+q) % (xs.length:Int)=b:=⟨_,rfl⟩;rw[eb]at W X
  have Y:∀w A:Int,0<=w->w<A->A<xs.length->∃x y:Str,atI (xs.map D.str) w=P3 (.str x)/\atI (xs.map D.str) A=P3 (.str y)/\x∈xs/\y∈xs/\cs x<cs y:=by
   intro w A l0 lh hl;have N:w.toNat<xs.length:=by omega
   have O:A.toNat<xs.length:=by omega
   refine⟨xs[w.toNat],xs[A.toNat],?_,?_,iA _,iA _,?_⟩
   ·have:=AK (xs:=xs.map D.str) (j:=w.toNat) (v:=.str xs[w.toNat]) (by rw[T0,FM N]; rfl)
    rwa[show((w.toNat:Nat):Int)=w by omega]at this
   ·have:=AK (xs:=xs.map D.str) (j:=A.toNat) (v:=.str xs[A.toNat]) (by rw[T0,FM O]; rfl)
    rwa[show((A.toNat:Nat):Int)=A by omega]at this
   ·exact ja.mp hr _ _ N O (by omega)
  obtain⟨x,y,ex,ey,Z,a2,lt⟩:=Y (if b<a then b else a) (if b > a then b else a) (by split <;>omega) (by split <;>omega) (by split <;>omega);have done:=t (m - 1 - 1 - 1) [.fd,.sh (.tup (xs.map .str)),.sh (.int C),.ow (.dit (CC g [.inr x,.inr y]) (CB g o [.inr x,.inr y] (.int r))),.sh (.int f),.sh (.int (0+(i:Int))),.sh (.int a),.sh (.int b)] ⟨by omega,_,_,_,_,_,rfl,T.put Z a2 lt r1 r2,gO XI (by omega)⟩;subst eb;refine⟨_,ex,_,ey,z2,_,rfl,by omega,done⟩
end
abbrev Mx:=Nat->Nat->u_ Int
def KI(g:Mx)(i j:Nat)(x:Int):Mx:=λa b=>if a=i/\b=j then P3 x else g a b
theorem Bm{g:Mx}{i j:Nat}{x:Int}:KI g i j x i j=P3 x:=if_pos ⟨rfl,rfl⟩
theorem Bc{g:Mx}{i j a b:Nat}{x:Int}(h:¬(a=i/\b=j)):KI g i j x a b=g a b:=if_neg h
inductive WI (E:Nat->Nat->Int->Prop) (m i:Nat):Nat->Int->Prop
 |nil:WI E m i i 0
 |one {j:Nat}{l:Int}:E i j l->WI E m i j l
 |snoc {k j:Nat}{d l:Int}:WI E m i k d->k<m->E k j l->WI E m i j (d+l)
section
variable {E A:Nat->Nat->Int->Prop}{n m i j a b:Nat}{d:Int}{g g0:Mx}
theorem WI.pos(c:∀i j l,E i j l->0<=l)(h:WI E m i j d):0<=d:=by
 induction h with
 |nil=>omega
 |one e=>grind
 |snoc _ _ e f=>grind
theorem WI.split(o:∀i j l,E i j l->0<=l)(h:WI E (m+1) i j d):WI E m i j d\/∃c f,WI E m i m c/\WI E m m j f/\c+f<=d:=by
 induction h with
 |nil=>exact .inl .nil
 |one e=>exact .inl (.one e)
 | @snoc k j d l _ s e r=>
  have t:=o _ _ _ e
  rcases r with w|⟨c,f,p,q,u⟩
  ·by_cases g:k<m
   ·exact .inl (.snoc w g e)
   ·have:k=m:=by omega
    subst this;exact .inr ⟨d,l,w,.one e,iV _⟩
  ·by_cases g:k<m
   ·exact .inr ⟨c,f+l,p,.snoc q g e,by omega⟩
   ·have:k=m:=by omega
    subst this
    have:=q.pos o
    exact .inr ⟨c,l,p,.one e,by omega⟩
structure Fm (E A:Nat->Nat->Int->Prop) (n m:Nat) (g:Mx):Prop where
 snd:∀i j d,g i j=P3 d->A i j d
 cmp:∀i j d,i<n->j<n->WI E m i j d->∃d',g i j=P3 d'/\d'<=d
structure Rm (A:Nat->Nat->Int->Prop) (n m:Nat) (g0:Mx) (a b:Nat) (g:Mx):Prop where
 snd:∀i j d,g i j=P3 d->A i j d
 dec:∀i j d,g0 i j=P3 d->∃d',g i j=P3 d'/\d'<=d
 got:∀i j,j<n->(i<a\/(i=a/\j<b))->∀d1 d2,g0 i m=P3 d1->g0 m j=P3 d2->∃d',g i j=P3 d'/\d'<=d1+d2
theorem Fm.start(h:Fm E A n m g0):Rm A n m g0 0 0 g0:=⟨h.snd,λi j d e=>⟨d,e,iV _⟩,λi j _ z=>by omega⟩
theorem Rm.next(h:Rm A n m g0 a n g):Rm A n m g0 (a+1) 0 g:=⟨h.snd,h.dec,λi j c z=>h.got i j c (by omega)⟩
theorem Rm.done(q:∀i j l,E i j l->0<=l)(o:m<n)(c:Fm E A n m g0)(h:Rm A n m g0 n 0 g):Fm E A n (m+1) g:=by
 refine⟨h.snd,λi j d f k w=>?_⟩
 rcases w.split q with w|⟨r,p,s,t,B⟩
 ·obtain⟨u,e,l⟩:=c.cmp i j d f k w
  obtain⟨p,C,D⟩:=h.dec i j u e
  grind
 ·obtain⟨x,ex,F⟩:=c.cmp i m r f o s
  obtain⟨y,v,G⟩:=c.cmp m j p o k t;obtain⟨z,H,I⟩:=h.got i j k (.inl f) x y ex v
  grind
theorem Rm.skip(h:Rm A n m g0 a b g)(q:∀e f,g a m=P3 e->g m b=P3 f->∃k,g a b=P3 k/\k<=e+f):Rm A n m g0 a (b+1) g:=by
 refine⟨h.snd,h.dec,λi j p z e f l o=>?_⟩
 by_cases c:i<a\/(i=a/\j<b)
 ·exact h.got i j p c e f l o
 ·obtain⟨x,ex,r⟩:=h.dec _ _ _ l
  obtain⟨y,s,t⟩:=h.dec _ _ _ o
  grind
theorem Rm.put(B:∀i k j f l,A i k f->A k j l->A i j (f+l))(h:Rm A n m g0 a b g){x y:Int}(t:g a m=P3 x)(u:g m b=P3 y)(C:∀z,g a b=P3 z->x+y<=z):Rm A n m g0 a (b+1) (KI g a b (x+y)):=by
 have v:∀i j d,g i j=P3 d->∃o,KI g a b (x+y) i j=P3 o/\o<=d:=λi j d e=>by
  by_cases c:i=a/\j=b
  ·obtain⟨rfl,rfl⟩:=c
   exact⟨_,Bm,C d e⟩
  ·exact⟨d,by rw[Bc c]; exact e,iV _⟩
 refine⟨λi j d e=>?_,λi j d e=>?_,λi j D z f l p q=>?_⟩
 ·by_cases c:i=a/\j=b
  ·obtain⟨rfl,rfl⟩:=c
   rw[Bm]at e;cases e;exact B _ _ _ _ _ (h.snd _ _ _ t) (h.snd _ _ _ u)
  ·rw[Bc c]at e
   exact h.snd i j d e
 ·obtain⟨f,p,I⟩:=h.dec i j d e
  obtain⟨l,q,J⟩:=v i j f p;exact⟨l,q,by omega⟩
 ·by_cases c:i<a\/(i=a/\j<b)
  ·obtain⟨o,F,K⟩:=h.got i j D c f l p q
   obtain⟨G,H,L⟩:=v i j o F;exact⟨G,H,by omega⟩
  ·have r:i=a:=by omega
   have s:j=b:=by omega
   subst r s;obtain⟨M,ex,N⟩:=h.dec _ _ _ p;obtain⟨O,w,P⟩:=h.dec _ _ _ q;rw[t]at ex;rw[u]at w;cases ex;cases w;exact⟨_,Bm,by omega⟩
end
def EI(N:Net)(i j:Nat)(l:Int):Prop:=∃x y,N.ps[i]?=P3 x/\N.ps[j]?=P3 y/\Ed N x y l
def AI(N:Net)(i j:Nat)(d:Int):Prop:=∃x y,N.ps[i]?=P3 x/\N.ps[j]?=P3 y/\Wk N x y d
theorem Wk.trans{N:Net}{x y z:Str}{a b:Int}(f:Wk N x y a)(c:Wk N y z b):Wk N x z (a+b):=by
 induction c with
 |nil=>grind
 |snoc _ e d=>rw[←oB]; exact .snoc d e
theorem AI.trans{N:Net}:∀i k j b c,AI N i k b->AI N k j c->AI N i j (b+c):=by
 rintro i k j b c ⟨x,y,d,e,w⟩ ⟨h,z,a,f,g⟩;rw[e]at a;cases a;exact⟨x,z,d,f,w.trans g⟩
theorem EI.pos{N:Net}(ok:N.Ok):∀i j l,EI N i j l->0<=l:=by
 rintro i j l ⟨x,y,_,_,e⟩
 have:=e.pos ok
 omega
theorem Ko{N:Net}(ok:N.Ok){i j:Nat}{x:Str}(a:N.ps[i]?=P3 x)(b:N.ps[j]?=P3 x):i=j:=FJ (EZ ok.rise) a b
theorem Oo{N:Net}{x:Str}(h:x∈N.ps):∃i,N.ps[i]?=P3 x/\i<N.ps.length:=by
 obtain⟨i,l,e⟩:=jB.mp h;exact⟨i,by simp_all,l⟩
theorem Wk.wi{N:Net}(ok:N.Ok){i:Nat}{x:Str}(b:N.ps[i]?=P3 x){y:Str}{d:Int}(h:Wk N x y d):∀{j:Nat},N.ps[j]?=P3 y->WI (EI N) N.ps.length i j d:=by
 induction h with
 |nil=>
  intro j a;rw[Ko ok b a];exact .nil
 |@snoc z y d l w e f=>
  intro j a;obtain⟨k,c,g⟩:=Oo (w.ins ok (iD b));exact .snoc (f c) g ⟨z,y,c,a,e⟩
structure Tm (N:Net) (ts:List Au) (g:Mx):Prop where
 snd:∀i j d,g i j=P3 d->AI N i j d
 dia:∀i,i<N.ps.length->∃d,g i i=P3 d/\d<=0
 tie:∀t∈ts,∀i j,N.ps[i]?=P3 t.a->N.ps[j]?=P3 t.b->g i j=P3 t.len/\g j i=P3 t.len
theorem Tm.put{N:Net}(ok:N.Ok){r:t_ Au}{t:Au}{g:Mx}(h:Tm N r g)(w:t∈N.ts)(B:(r++[t]).Pairwise Bo)(C:∀s∈r,s∈N.ts){i j:Nat}(n:N.ps[i]?=P3 t.a)(k:N.ps[j]?=P3 t.b):Tm N (r++[t]) (KI (KI g i j t.len) j i t.len):=by
 obtain⟨_,_,lt,_⟩:=ok.tin t w
 have G:i≠j:=λe=>by
  subst e;rw[n]at k;rw[ft k]at lt;exact ii _ lt
 have x:=Je w;refine⟨λa b d e=>?_,λa f=>?_,λs u a b f m=>?_⟩
 ·by_cases y:a=j/\b=i
  ·obtain⟨rfl,rfl⟩:=y
   rw[Bm]at e;cases e
   have:=Wk.snoc (.nil (N:=N) (s:=t.b)) x.2
   rw[iM]at this;exact⟨_,_,k,n,this⟩
  ·rw[Bc y]at e
   by_cases z:a=i/\b=j
   ·obtain⟨rfl,rfl⟩:=z
    rw[Bm]at e;cases e
    have:=Wk.snoc (.nil (N:=N) (s:=t.a)) x.1
    rw[iM]at this;exact⟨_,_,n,k,this⟩
   ·rw[Bc z]at e
    exact h.snd a b d e
 ·rw[Bc (by omega),Bc (by omega)]
  exact h.dia a f
 ·rcases gA.mp u with c|c
  ·have D:=h.tie s c a b f m
   have v:=(jb.mp B).2.2 s c t Sc;obtain⟨_,_,o,_⟩:=ok.tin s (C s c)
   have E:¬(a=i/\b=j):=fun⟨z1,z2⟩=>by
    subst z1 z2;rw[n]at f;rw[k]at m;have p:=ft f;have q:=ft m
    rcases v with l|⟨H,A⟩
    ·rw[p]at l; exact ii _ l
    ·rw[q]at A; exact ii _ A
   have F:¬(a=j/\b=i):=fun⟨z1,z2⟩=>by
    subst z1 z2;rw[k]at f;rw[n]at m;have p:=ft f;have q:=ft m;rw[←p,←q]at o;exact absurd o (List.lt_asymm lt)
   rw[Bc (by omega),Bc (by omega),Bc (by omega),Bc (by omega)];exact D
  ·rw[TM.mp c]at f m ⊢
   have p:=Ko ok f n;have q:=Ko ok m k;subst p q;rw[Bc (a:=a) (b:=b) (by omega),Bm,Bm];exact⟨rfl,rfl⟩
theorem Tm.fm{N:Net}(ok:N.Ok){g:Mx}(h:Tm N N.ts g):Fm (EI N) (AI N) N.ps.length 0 g:=by
 refine⟨h.snd,λi j d k l w=>?_⟩;cases w with
 |nil=>exact h.dia i k
 |one e=>
  obtain⟨x,y,a,b,e⟩:=e;obtain⟨t,f,rfl,c⟩:=e.tie ok
  rcases c with⟨rfl,rfl⟩|⟨rfl,rfl⟩
  ·exact⟨_,(h.tie t f i j a b).1,iV _⟩
  ·exact⟨_,(h.tie t f j i b a).2,iV _⟩
 |snoc _ z _=>omega
def c6(N:Net)(F:Str->Str->u_ Int):Prop:=∀x∈N.ps,∀y∈N.ps,(∀d,F x y=P3 d->Least N x y d)/\∀d,Wk N x y d->F x y≠q_
def ofM(a:t_ Str)(g:Mx)(x y:Str):u_ Int:=g (a.idxOf x) (a.idxOf y)
theorem Fm.far{N:Net}(ok:N.Ok){g:Mx}(h:Fm (EI N) (AI N) N.ps.length N.ps.length g):c6 N (ofM N.ps g):=by
 intro x f y i;have a:=kT.mpr f;have b:=kT.mpr i;have ex:N.ps[N.ps.idxOf x]?=P3 x:=by rw[FM a,mR a]
 have j:N.ps[N.ps.idxOf y]?=P3 y:=by rw[FM b,mR b]
 have k:∀d,Wk N x y d->∃c,ofM _ g x y=P3 c/\c<=d:=λd w=>h.cmp _ _ d a b (w.wi ok ex j);refine⟨λd e=>⟨?_,λc w=>by simp_all⟩,λd w e=>?_⟩
 ·obtain⟨l,m,n,o,w⟩:=h.snd _ _ _ e
  grind
 grind
def ov:u_ Int->V
 |none=>.non
 |some l=>.int l
def od:u_ Int->D
 |none=>.non
 |some l=>.int l
def IC(n:Nat)(g:Mx)(i:Nat):t_ V:=(gF n).map λj=>ov (g i j)
def Sr(a:t_ Str)(F:Str->Str->u_ Int):D:=.lst (a.map λx=>.lst (a.map λy=>od (F x y)))
theorem FD{n:Nat}{g:Mx}{i:Nat}:(IC n g i).length=n:=by unfold IC; grind
theorem G2{n:Nat}{g:Mx}{i j:Nat}(h:j<n):(IC n g i)[j]?=P3 (ov (g i j)):=by
 unfold IC
 simp_all
theorem W_{n:Nat}{g:Mx}{i j:Nat}(h:j<n):atI (IC n g i) (j:Int)=P3 (ov (g i j)):=AK (G2 h)
theorem Ub{n:Nat}{g:Mx}{i j:Nat}{x:Int}:(IC n g i).set j (.int x)=IC n (KI g i j x) i:=by
 refine ko λk=>?_
 by_cases a:k<n
 ·rw[G2 a,kj]
  by_cases e:j=k
  ·subst e
   rw[if_pos rfl,if_pos (by rw[FD]; exact a),Bm]; rfl
  ·rw[if_neg e,G2 a,Bc (by omega)]
 ·rw[iz (by rw[iq,FD]; omega),iz (by rw[FD]; omega)]
theorem W9{n:Nat}{g:Mx}{i j k:Nat}{x:Int}(h:k≠i):IC n (KI g i j x) k=IC n g k:=by
 refine h_ λy _=>?_;rw[Bc (by omega)]
structure Mat (H:Hp) (d:Db) (as:List Db) (n:Nat) (g:Mx) (H':Hp):Prop where
 old:∀b o,H b=P3 o->H' b=P3 o
 new:H d=q_
 top:H' d=P3 (.lst (as.map .ref))
 inn:∀i a,as[i]?=P3 a->H a=q_/\a≠d/\H' a=P3 (.lst (IC n g i))
section
variable {H H':Hp}{d:Addr}{as:t_ Addr}{n:Nat}{g:Mx}
theorem Mat.ads(s:Mat H d as n g H')(b:as.Nodup){i j:Nat}{a:Db}(c:as[i]?=P3 a)(e:as[j]?=P3 a):i=j:=by
 obtain⟨k,f⟩:=ZB.mp c;obtain⟨l,h⟩:=ZB.mp e;exact List.getElem_inj b |>.mp (f.trans h.symm)
theorem Mat.put(s:Mat H d as n g H')(h:as.Nodup){i j:Nat}{a:Db}{x:Int}(c:as[i]?=P3 a):Mat H d as n (KI g i j x) (A2 H' a (.lst ((IC n g i).set j (.int x)))):=by
 obtain⟨r,l,t⟩:=s.inn i a c;refine⟨λb o e=>?_,s.new,?_,λk b f=>?_⟩
 ·have:b≠a:=λz=>by grind
  rw[AM this];exact s.old b o e
 ·rw[AM (gP l)]
  exact s.top
 ·obtain⟨m,p,q⟩:=s.inn k b f
  refine⟨m,p,?_⟩
  by_cases e:b=a
  ·subst e
   have:=s.ads h f c
   subst this;rw[AR,Ub]
  ·rw[AM e,W9 λz=>by
    grind]
   exact q
theorem Mat.more(s:Mat H d as n g H'){p q:Db}{o:HO}{t:t_ V}(A:H' p=q_)(j:A2 H' p o q=q_)(B:IC n g as.length=t):Mat H d (as++[q]) n g (A2 (A2 (A2 H' p o) q (.lst t)) d (.lst (as.map .ref++[.ref q]))):=by
 have v:∀b u,H' b=P3 u->b≠p:=λb u e z=>by rw[z,A]at e; cases e
 have k:q≠p:=λz=>by rw[z,AR]at j; cases j
 have f:H' q=q_:=by rw[AM k]at j; exact j
 have w:∀b u,H' b=P3 u->b≠q:=λb u e z=>by rw[z,f]at e; cases e
 have l:H q=q_:=by
  cases c:H q with
  |none=>rfl
  |some u=>rw[s.old q u c]at f; cases f
 refine⟨λb u e=>?_,s.new,?_,λi a h=>?_⟩
 ·have m:=s.old b u e
  rw[AM (λz=>by rw[z,s.new]at e; cases e),AM (w b u m),AM (v b u m)];exact m
 ·rw[AR,gR]; rfl
 ·rw[List.getElem?_append]at h
  split at h
  ·obtain⟨C,x,r⟩:=s.inn i a h
   exact⟨C,x,by rw[AM x,AM (w a _ r),AM (v a _ r)]; exact r⟩
  ·rename_i E
   have D:i=as.length:=by
    have:=(ZB.mp h).1
    rw[gC]at this;omega
   subst D;rw[kQ]at h;cases(show q=a from ft h);have y:q≠d:=λz=>by rw[z,s.top]at f; cases f
   exact⟨l,y,by rw[AM y,AR,B]⟩
theorem Mat.fresh(s:Mat H d as n g H'){q:Db}(b:H' q=q_):q∉as:=λa=>by
 obtain⟨i,l,e⟩:=jB.mp a;obtain⟨_,_,h⟩:=s.inn i q (by simp_all)
 grind
end
theorem Qe{K:Frag}{M:Db->Prop}{H:Hp}:∀{c:t_ D}{a:t_ V},c.length=a.length->(∀(i:Nat) d v,c[i]?=P3 d->a[i]?=P3 v->At K M H d v)->Ats K M H c a
 |[],[],_,_=>rfl
 |d::c,v::a,b,h=>⟨v,a,rfl,h 0 d v rfl rfl,Qe (li b) λi e f g j=>h (i+1) e f g j⟩
 |[],_::_,b,_=>by cases b
 |_::_,[],b,_=>by cases b
theorem Mat.at_{K:Frag}{M:Db->Prop}{H f:Hp}{d:Db}{h:t_ Db}{c:t_ Str}{g:Mx}(A:∀a,M a->∃o,H a=P3 o)(s:Mat H d h c.length g f)(B:h.length=c.length)(nd:c.Nodup):At K M f (Sr c (ofM c g)) (.ref d):=by
 have k:∀b,H b=q_->¬M b:=λb e m=>by grind
 have n:∀{i:Nat}{x:Str},c[i]?=P3 x->c.idxOf x=i:=λ{i x} e=>by
  have C:=iD e;have I:=kT.mpr C;exact FJ nd (by simp_all) e
 refine⟨d,h.map .ref,rfl,⟨k d s.new,s.top⟩,Qe (by rw[Go,Go,B]) λi x v r t=>?_⟩;rw[T0]at r t;obtain⟨p,D,rfl⟩:=f7.mp r;obtain⟨a,E,rfl⟩:=f7.mp t;obtain⟨F,J,G⟩:=s.inn i a E;refine⟨a,_,rfl,⟨k a F,G⟩,Qe (by rw[Go,FD]) λj y v u w=>?_⟩;rw[T0]at u;obtain⟨q,z,rfl⟩:=f7.mp u;rw[G2 (ZB.mp z).1]at w;cases w;show At K M f (od (g (c.idxOf p) (c.idxOf q))) _;rw[n D,n z];cases g i j with
 |none=>rfl
 |some l=>rfl
theorem aC{n j:Nat}(h:j<n):Tl n (j:Int)=P3 j:=by
 unfold Tl
 grind
section
variable {K:Frag}{H H':Hp}{d:Addr}{as:t_ Addr}{n:Nat}{g:Mx}{Z:L2.St}{a b i j:Nat}{zi zj:Int}
theorem Mat.rd2(s:Mat H d as n g H')(u:as.length=n){Q:VK}(v:i<n)(c:j<n)(e:Z[3]?=P3 (P3 (.ref d)))(f:Z[a]?=P3 (P3 (.int zi)))(h:zi=i)(k:Z[b]?=P3 (P3 (.int zj)))(l:zj=j){o:u_ Int}(m:g i j=o)(q:Q (ov o) H'):
  DP (SJ K) (DP (SJ K) (BN 3) (BN a)) (BN b) Z H' Q:=by
 subst h l m;obtain⟨r,p⟩:∃r,as[i]?=P3 r:=⟨_,FM (by omega)⟩;obtain⟨_,_,t⟩:=s.inn i r p;exact⟨_,e,_,f,d,_,_,_,rfl,rfl,SqL.of s.top,AK (by simp_all),_,k,r,_,_,_,rfl,rfl,SqL.of t,W_ c,q⟩
theorem Mat.wr(s:Mat H d as n g H')(o:as.length=n)(nd:as.Nodup){x:Int}{to e:TE}{R:L2.St->Hp->Prop}(p:i<n)(h:j<n)(k:∀Q:VK,(∀r,as[i]?=P3 r->Q (.ref r) H')->to Z H' Q)(l:∀Q:VK,Q (.int (j:Int)) H'->e Z H' Q)(q:∀c,Mat H d as n (KI g i j x) c->R Z c):
  aI to e Ur (.int x) Z H' R:=by
 refine k _ λr f=>l _ ?_;obtain⟨_,_,m⟩:=s.inn i r f;exact⟨r,_,_,j,rfl,rfl,m,aC (by rw[FD]; exact h),q _ (s.put nd f)⟩
theorem Mat.row(s:Mat H d as n g H')(k:as.length=n)(l:i<n){Q:VK}{c:TE}(e:Z[3]?=P3 (P3 (.ref d)))(f:∀Q:VK,Q (.int (i:Int)) H'->c Z H' Q)(q:∀r,as[i]?=P3 r->Q (.ref r) H'):DP (SJ K) (BN 3) c Z H' Q:=by
 obtain⟨r,h⟩:∃r,as[i]?=P3 r:=⟨_,FM (by omega)⟩;exact⟨_,e,f _ ⟨d,_,_,_,rfl,rfl,SqL.of s.top,AK (by simp_all),q r h⟩⟩
end
theorem Xs{K:Frag}{a:Db}{d:t_ V}{g:TG}{j:TS}{D:Ends}{Z:L2.St}{H:Hp}{J:It}(b:Nat->L2.St->Hp->Prop)(k:b 0 Z H)(r:(J=Wa K a/\∀i Z H,b i Z H->SqL K H a d)\/(J=Tq K a/\∀i Z H,b i Z H->SqT K H a d))
  (l:∀i x Z H,d[i]?=P3 x->b i Z H->g x Z H λe f=>j {D with nx:=b (i+1),ct:=b (i+1),bk:=D.nx} e f) (n:∀Z H,b d.length Z H->D.nx Z H):
  ∃W:Nat->Nat->L2.St->Hp->Prop,(∃m,W 0 m Z H)/\∀i m Z H,W i m Z H->
   (J.stop i H/\D.nx Z H)\/(J.go i H/\∃N:L2.St->Hp->Prop,(∀o c,N o c->∃q,q<m/\W (i+1) q o c)/\∀x c,J.yld i H x c->g x Z c λe f=>j {D with nx:=N,ct:=N,bk:=D.nx} e f):=by
 rcases r with⟨rfl,h⟩|⟨rfl,h⟩
 ·exact Vm b k (λi Z H _ p=>h i Z H p) l n
 ·exact M6 b k (λi Z H _ p=>h i Z H p) l n
theorem ag{K:Frag}{H:Hp}{a:Db}{J:It}{R:It->Hp->Prop}(h:(J=Wa K a/\∃c,SqL K H a c)\/(J=Tq K a/\∃c,SqT K H a c))(r:R J H):(∃b,V.ref a=.ref b/\(∃c,SqL K H b c)/\R (Wa K b) H)\/(∃b,V.ref a=.ref b/\(∃c,SqT K H b c)/\R (Tq K b) H)\/∃z,V.ref a=.str z/\R (dM z) H:=by
 rcases h with⟨rfl,h⟩|⟨rfl,h⟩
 ·exact .inl ⟨a,rfl,h,r⟩
 simp_all
theorem UT{K:Frag}{a:Db}{xs:t_ V}{g:TG}{d:TS}{D:Ends}{Z:L2.St}{H:Hp}{J:It}{i:Nat}(o:Z[i]?=P3 (P3 (.ref a)))(b:Nat->L2.St->Hp->Prop)(e:b 0 Z H)(k:(J=Wa K a/\∀i Z H,b i Z H->SqL K H a xs)\/(J=Tq K a/\∀i Z H,b i Z H->SqT K H a xs))
  (p:∀i x Z H,xs[i]?=P3 x->b i Z H->g x Z H λf j=>d {D with nx:=b (i+1),ct:=b (i+1),bk:=D.nx} f j) (q:∀Z H,b xs.length Z H->D.nx Z H):bS (cH K (BN i)) g d D Z H:=
 ⟨_,o,ag (R:=λJ H1=>∃W:Nat->Nat->L2.St->Hp->Prop,(∃m,W 0 m Z H1)/\∀i m Z H,W i m Z H->
   (J.stop i H/\D.nx Z H)\/(J.go i H/\∃N:L2.St->Hp->Prop,(∀l c,N l c->∃n,n<m/\W (i+1) n l c)/\∀x c,J.yld i H x c->g x Z c λf j=>d {D with nx:=N,ct:=N,bk:=D.nx} f j)) (k.imp (λh=>⟨h.1,_,h.2 _ _ _ e⟩) λh=>⟨h.1,_,h.2 _ _ _ e⟩) (Xs b e k p q)⟩
def Dg(N:Net)(k:Nat)(g:Mx):Prop:=(∀i j d,g i j=P3 d->AI N i j d)/\∀i,i<k->∃d,g i i=P3 d/\d<=0
theorem Dg.zero{N:Net}:Dg N 0 (λ_ _=>q_):=⟨λ_ _ _ e=>(by cases e),λ_ h=>(by omega)⟩
theorem Dg.succ{N:Net}{k:Nat}{g:Mx}(a:k<N.ps.length)(h:Dg N k g):Dg N (k+1) (KI g k k 0):=by
 refine⟨λi j d e=>?_,λi b=>?_⟩
 ·by_cases c:i=k/\j=k
  ·obtain⟨rfl,rfl⟩:=c
   rw[Bm]at e;cases e;exact⟨_,_,FM a,FM a,.nil⟩
  ·rw[Bc c]at e
   exact h.1 i j d e
 ·by_cases c:i=k
  ·subst c
   exact⟨0,Bm,iV _⟩
  ·rw[Bc (by omega)]
   exact h.2 i (by omega)
theorem Dg.tm{N:Net}{g:Mx}(h:Dg N N.ps.length g):Tm N [] g:=⟨h.1,h.2,λt a=>by cases a⟩
theorem Qs{K:Frag}{M:Db->Prop}{H:Hp}:∀{b:t_ Str}{a:t_ V},Ats K M H (b.map .str) a->a=b.map .str
 |[],a,h=>h
 |x::b,a,h=>by
  obtain⟨v,r,rfl,⟨rfl,_⟩,c⟩:=h;rw[Qs c,f9]
theorem ZU{N:Net}(ok:N.Ok){H:Hp}{b:Db}(d:H b=P3 (.tup (N.ps.map .str))){i:Nat}{x:Str}(a:N.ps[i]?=P3 x){Q:VK}(q:Q (.int (i:Int)) H):XG (.ref b) [.str x] H Q:=by
 have f:=PySem.sizeLine_eq;have g:Vb x:=ok.names x (iD a);have c:∀y∈N.ps,y.length<=sizeLine:=λy h=>by have:=(ok.names y h).2.1; omega
 have j:Ats ([]:Frag) (λ_=>False) H (N.ps.map D.str) (N.ps.map V.str):=Ats.strs c;obtain⟨k,l,_⟩:=IL ok.names;obtain⟨n,o,r⟩:=HB g;refine⟨b,_,.str x,Bi (N.ps.map .str),toPy (.str x),i,rfl,rfl,d,j.rv k,At.rv (K:=([]:Frag)) (M:=λ_=>False) (show At _ _ H (.str x) (.str x)from⟨rfl,c x (iD a)⟩) n,l,o,r,⟨toPy (.str x),by rw[B3,T0,T0,a]; rfl,?_⟩,λm p u e=>?_,q⟩
 ·show Fz (.str x) (.str x)=r_
  rw[Jd,beq_self_eq_true]
 ·rw[B3,T0,T0]at e
  obtain⟨z,s,rfl⟩:=f7.mp e;obtain⟨y,t,rfl⟩:=f7.mp s;show Fz (.str y) (.str x)=s_;rw[Jd,beq_eq_false_iff_ne];intro z;subst z
  have:=Ko ok t a
  omega
theorem Qp{N:Net}(ok:N.Ok){H:Hp}{a:Db}(b:H a=P3 (.tup (N.ps.map .str))){i k:Nat}{x:Str}{Z:L2.St}(c:Z[0]?=P3 (P3 (.ref a)))(d:Z[k]?=P3 (P3 (.str x)))(e:N.ps[i]?=P3 x)(Q:VK)(q:Q (.int (i:Int)) H):bN XG (BN 0) (Nw (BN k) R0) Z H Q:=
 ⟨_,c,⟨a,_,rfl,b⟩,_,d,ZU ok b e q⟩
def WY:W2:=λa n P=>∃(N:Net) (d:D),a=[.sh (.tup (N.ps.map .str)),.sh d]/\(d=.lst (N.ts.map Ak)\/d=.tup (N.ts.map Ak))/\N.Ok/\N.ps.length<=1000/\∀F,c6 N F->P (Sr N.ps F) n
end Nt
set_option maxHeartbeats 400000
namespace Nt
open L2 Dp
end Nt
set_option maxHeartbeats 4000000
namespace Nt
open L2 Dp
theorem UY{N:Net}(a:okN N):Gz (Bw N):=by
 obtain⟨b,c,d⟩:=UV a;exact Qt (B:=1000001) (by decide) b (by omega) (by omega)
inductive Cn (K:List Au) (x:Str):Str->Prop
 |refl:Cn K x x
 |step {y z:Str}:Cn K x y->(∃t∈K,(t.a=y/\t.b=z)\/(t.b=y/\t.a=z))->Cn K x z
section
structure fe (N:Net) (ks:List Key) (ds:List D) (F:Str->Option Str):Prop where
 m:Dmap ks ds D.str F
 i:∀x,F x≠q_->x∈N.ps
end
end Nt
namespace L2
end L2
namespace Dp
open L2
end Dp
namespace Nt
open L2 Dp
def tj(t:Au)(x y:Str):Prop:=(t.a=x/\t.b=y)\/(t.b=x/\t.a=y)
inductive Us (K:List Au) (x:Str):Str->Nat->Prop
 |nil:Us K x x 0
 |snoc {y z:Str}{n:Nat}{t:Au}:Us K x y n->t∈K->tj t y z->Us K x z (n+1)
def firm(N:Net)(t b:Int)(L:t_ Au):Prop:=∀a z c,L=a++z::c->¬Es (sub N a) t b z
structure Kept (N:Net) (t b:Int) (L:List Au):Prop where
 ok:okN N
 firm:firm N t b L
 ins:∀u∈L,u∈N.ts
 up:L.Pairwise λu v=>u.len<=v.len
 b1:1<=b
end Nt
namespace L2
open PySem.W
end L2
namespace Dp
open L2
end Dp
namespace Nt
open L2 Dp
def UQ(N:Net):t_ Str->t_ Au->Prop
 |x::y::r,d=>∃t c,d=t::c/\t∈N.ts/\((t.a=x/\t.b=y)\/(t.b=x/\t.a=y))/\UQ N (y::r) c
 |[_],d=>d=[]
 |[],_=>False
abbrev e_:=t_ (Au×t_ Str)
def ZF(N:Net)(b a:t_ Au):Prop:=a.Perm (N.ts.filter λt=>decide (t∉b))/\Gj a
def Zt(k:Nat)(b:Net)(T:e_):Prop:=∀p∈T,∃r c,p.2=p.1.a::r/\UQ b p.2 c/\p.2.length<=k/\∀x∈p.2,x∈b.ps
abbrev Yw:=Zt 500
structure fh (N:Net) (ts1 ts2:List Au) (T1 T2:e_):Prop where
 ok:N.Ok
 lp:N.ps.length<=24
 lt:N.ts.length<60
 s1:ts1.Sublist N.ts
 s2:ts2.Sublist ts1
 o1:ZF N ts1 (T1.map (·.1))
 o2:ZF ⟨N.ps,ts1⟩ ts2 (T2.map (·.1))
 p1:Yw ⟨N.ps,ts1⟩ T1
 p2:Yw ⟨N.ps,ts2⟩ T2
theorem Wx{N:Net}(ok:N.Ok){s t:Au}(n:s∈N.ts)(o:t∈N.ts)(i:s.a=t.a)(eb:s.b=t.b):s=t:=by
 have f:∀d:t_ Au,d.Pairwise Bo->s∈d->t∈d->s=t:=by
  intro d p j k
  induction p with
  |nil=>cases j
  | @cons u d l _ q=>
   have no:∀v w:Au,Bo v w->v.a=w.a->v.b=w.b->False:=λv w h e c=>by
    rcases h with h|⟨_,h⟩
    ·rw[e]at h; exact ii _ h
    ·rw[c]at h; exact ii _ h
   rcases fi.mp j with e|m
   ·rcases fi.mp k with c|g
    ·exact e.trans c.symm
    ·exact(no _ _ (l t g) (by rw[←e]; exact i) (by rw[←e]; exact eb)).elim
   ·rcases fi.mp k with c|g
    ·exact(no _ _ (l s m) (by rw[←c]; exact i.symm) (by rw[←c]; exact eb.symm)).elim
    ·exact q m g
 exact f N.ts ok.trise n o
section
theorem Xi{N:Net}(ok:N.Ok){t:Au}(g:t∈N.ts):CV (N.ts.map λt=>([.inr t.a,.inr t.b]:t_ Key)) (N.ts.map λt=>D.int t.len) [.inr t.a,.inr t.b]=P3 (.int t.len):=by
 have f:∀c:t_ Au,(∀s∈c,s∈N.ts)->t∈c->CV (c.map λt=>([.inr t.a,.inr t.b]:t_ Key)) (c.map λt=>D.int t.len) [.inr t.a,.inr t.b]=P3 (.int t.len):=by
  intro c i d
  induction c with
  |nil=>cases d
  | cons s c j=>
   show(if([.inr s.a,.inr s.b]:t_ Key)=[.inr t.a,.inr t.b]then P3 (D.int s.len)else CV (c.map λt=>([.inr t.a,.inr t.b]:t_ Key)) (c.map λt=>D.int t.len) [.inr t.a,.inr t.b])=_
   by_cases e:([.inr s.a,.inr s.b]:t_ Key)=[.inr t.a,.inr t.b]
   ·rw[if_pos e]
    simp only[List.cons.injEq,Sum.inr.injEq,and_true]at e;rw[Wx ok (i s Sc) g e.1 e.2]
   ·rw[if_neg e]
    rcases fi.mp d with rfl|d
    ·exact absurd rfl e
    ·exact j (λs h=>i s (Rs _ h)) d
 exact f N.ts (λ_ h=>h) g
theorem W5{N:Net}(ok:N.Ok){a:t_ Au}(h:a.Sublist N.ts):(⟨N.ps,a⟩:Net).Ok:=⟨ok.names,ok.rise,λt b=>ok.tin t (h.subset b),ok.trise.sublist h⟩
theorem af{g:Type}{f:g->D}{c:t_ g}{a b:t_ D}{d:D}(h:c.map f=a++d::b):∃t,c[a.length]?=P3 t/\d=f t:=by
 have e:(c.map f)[a.length]?=P3 d:=by rw[h,iT (Re _),kQ]; rfl
 rw[T0]at e;obtain⟨t,i,j⟩:=f7.mp e;exact⟨t,i,j.symm⟩
theorem RK{N:Net}(ok:N.Ok){i:Nat}{x:Str}(a:N.ps[i]?=P3 x):CG (.tup (N.ps.map .str))/\CG (.str x)/\(∃z,(N.ps.map D.str)[i]?=P3 z/\Fz z (.str x)=r_)/\∀(m:Nat) z,m<i->(N.ps.map D.str)[m]?=P3 z->Fz z (.str x)=s_:=by
 refine⟨IL ok.names,HB (ok.names x (iD a)),⟨.str x,by rw[T0,a]; rfl,by rw[Jd,beq_self_eq_true]⟩,λm z d b=>?_⟩;rw[T0]at b;obtain⟨y,c,rfl⟩:=f7.mp b;rw[Jd,beq_eq_false_iff_ne];intro e;subst e
 have:=Ko ok c a
 omega
theorem Xe{a:t_ Str}{F:Str->Str->u_ Int}{i:Nat}{x:Str}(b:a[i]?=P3 x):atI (a.map λx=>D.lst (a.map λy=>od (F x y))) (i:Int)=P3 (.lst (a.map λy=>od (F x y))):=AK (by rw[T0,b]; rfl)
theorem Z2{a:t_ Str}{F:Str->Str->u_ Int}{j:Nat}{x y:Str}(b:a[j]?=P3 y):atI (a.map λy=>od (F x y)) (j:Int)=P3 (od (F x y)):=AK (by rw[T0,b]; rfl)
end
end Nt
set_option maxHeartbeats 400000
namespace Dp
open L2
end Dp
namespace Nt
open L2 Dp
def DL:W2:=λa n P=>a=[.fd]/\1<=n/\∀t b:Int,1<=b->b<=t->t<=1000000->P (CW t b) (n - 1)
def EM:W2:=λa n P=>∃(N:Net) (t b:Int) (S:t_ Au),a=[.sh (Bw N),.sh (CW t b),.sh (E4 S)]/\okN N/\Hw t b/\S.Sublist N.ts/\∀r:Bool,(r=r_↔Qj N t b S)->P (.bl r) n
def JU:AZ:=(Af (A5 1 (Di (AE (BO (AE (wC (D.int 1)) (AE (wC (D.int 1)) AV))) (AE (BO (AE (wC (D.int 3)) (AE (wC (D.int 2)) AV))) (AE (BO (AE (wC (D.int 2)) (AE (wC (D.int 1)) AV))) (AE (BO (AE (wC (D.int 3)) (AE (wC (D.int 1)) AV))) (AE (BO (AE (wC (D.int 5)) (AE (wC (D.int 2)) AV))) (AE (BO (AE (wC (D.int 1000)) (AE (wC (D.int 999)) AV))) (AE (BO (AE (Aa (We Wc λi j=>D.int (i ^ j.toNat)) (wC (D.int 10)) (wC (D.int 6))) (AE (wC (D.int 1)) AV))) (AE (BO (AE (wC (D.int 2)) (AE (wC (D.int 2)) AV))) AV))))))))))
 (As (Aa BA (AB 1) (Ad Ct (AC (BG 0) (AC (AH (wC (D.int 8))) Ae))))))
def Ey:AZ:=(Af (A5 3 (Ad WY (AC (AH (Aa BA (AB 0) (wC (D.int 0)))) (AC (AH (AB 2)) Ae))))
 (Af (Gv (BL (Aa BA (AB 0) (wC (D.int 1)))) (IZ 3 (A_ (Al 4) (A_ (Al 5) (A_ (Al 6) EC)))) (Af (A5 7 (Aa BA (Aa BA (AB 3) (ZO (Aa BA (AB 0) (wC (D.int 0))) (AE (AB 4) AV))) (ZO (Aa BA (AB 0) (wC (D.int 0))) (AE (AB 5) AV))))
 (BC (CF (Ab (Aa (JQ s_) (AB 7) (wC D.non))) (Ab (Aa (f2 λi j=>D.bl (decide (j<i))) (Aa DX (AB 7) (Aa BA (AB 1) (wC (D.int 1)))) (Aa DX (AB 6) (Aa BA (AB 1) (wC (D.int 0))))))) (As (wC (D.bl s_))) Ay)))
 (As (wC (D.bl r_)))))
theorem Pu{a:t_ Slot}{n:Nat}{b:D->Nat->Prop}(h:DL a n b):JU (EE b) n (a++UF 1 .no):=by
 obtain⟨rfl,c,q⟩:=h;refine⟨z2,z2,z2,z2,z2,z2,⟨by decide,by decide,by decide⟩,z2,z2,by decide,?_⟩;refine⟨8,rfl,by decide,by decide,c,λr d e=>?_⟩
 rcases(by omega:r=0\/r=1\/r=2\/r=3\/r=4\/r=5\/r=6\/r=7)with rfl|rfl|rfl|rfl|rfl|rfl|rfl|rfl
 all_goals exact⟨_,rfl,q _ _ (by decide) (by decide) (by decide)⟩
theorem Pz{Q:t_ Slot}{n:Nat}{R:D->Nat->Prop}(h:EM Q n R):Ey (EE R) n (Q++UF 5 .no):=by
 obtain⟨N,t,b,S,rfl,o,⟨X,Y,Z,t2⟩,hs,p⟩:=h;have ok:=o.1;have lp:=o.2.1;have A:=W5 ok hs;unfold Ey;refine⟨_,AK (j:=0) rfl,⟨N.ps,S⟩,_,rfl,.inl rfl,A,by show N.ps.length<=1000; omega,λF T=>?_⟩;refine⟨_,AK (j:=1) rfl,?_⟩;refine Fs (all:=N.ts.map Ak) (λg m B=>m=n/\(∀(i:Nat) u,i<g.length->N.ts[i]?=P3 u->∃d,Wk ⟨N.ps,S⟩ u.a u.b d/\d*b<=u.len*t)/\∃C E G H,B=[.sh (Bw N),.sh (CW t b),.sh (E4 S),.sh (Sr N.ps F),C,E,G,H]) ?_ ?_ _ [] _ _ rfl ⟨rfl,λi u q=>absurd q (Nat.not_lt_zero _),_,_,_,_,rfl⟩
 ·rintro m B ⟨rfl,f,C,E,G,H,rfl⟩
  refine p r_ ⟨λ_ u y=>?_,λ_=>rfl⟩;obtain⟨i,q⟩:=iy.mp y;exact f i u (by rw[Go]; exact(ZB.mp q).1) q
 ·rintro g d U m B nx f ⟨rfl,r,C,E,G,H,rfl⟩ s
  obtain⟨u,y,rfl⟩:=af f;rw[fw,gC]at s;have l:=iD y;obtain⟨I,J,_⟩:=ok.tin u l;obtain⟨ia,V,la⟩:=Oo I;obtain⟨ib,W,lb⟩:=Oo J;obtain⟨a1,a2,a3,a4⟩:=RK ok V;obtain⟨K,L,M,O⟩:=RK ok W;refine⟨rfl,rfl,_,AK (j:=0) rfl,⟨_,rfl⟩,_,_,ia,rfl,rfl,a1,a2,a3,a4,_,Xe V,_,AK (j:=0) rfl,⟨_,rfl⟩,_,_,ib,rfl,rfl,K,L,M,O,_,Z2 W,?_⟩
  have x:=fun(h:∃d,Wk ⟨N.ps,S⟩ u.a u.b d/\d*b<=u.len*t)=>s m [.sh (Bw N),.sh (CW t b),.sh (E4 S),.sh (Sr N.ps F),.sh (.str u.a),.sh (.str u.b),.sh (.int u.len),.sh (od (F u.a u.b))] ⟨rfl,λi v q P=>by
   rcases(show i<g.length\/i=g.length by omega)with z|z
   ·exact r i v z P
   ·rw[z,y]at P
    cases P;exact h,_,_,_,_,rfl⟩
  cases e:F u.a u.b with
  |none=>
   refine⟨rfl,?_⟩;refine p s_ ⟨(λz=>by cases z),λk=>?_⟩;obtain⟨d,w,_⟩:=k u l;exact absurd e ((T u.a I u.b J).2 d w)
  | some d=>
   rw[e]at x;have lst:=(T u.a I u.b J).1 d e;refine⟨rfl,?_⟩;refine⟨_,AK (j:=1) rfl,YS X Y,_,AK (j:=0) rfl,YS Z t2,?_⟩;show if decide (u.len*t<d*b)=r_ then _ else _
   by_cases c:u.len*t<d*b
   ·rw[decide_eq_true c]
    refine Ef (p s_ ⟨(λz=>by cases z),λk=>?_⟩);obtain⟨d',w,a0⟩:=k u l
    have:=l7 (lst.2 d' w) (show 0<=b by omega)
    omega
   ·rw[decide_eq_false c]
    exact CH (x ⟨d,lst.1,by omega⟩)
def Gk(r:t_ Nat):Nat:=match r.getLast? with
 |none=>0
 |some l=>l+1
def HF(n:Nat)(r:t_ Nat):t_ (t_ Nat):=(gF (n - Gk r)).map λi=>r++[Gk r+i]
def rows(n:Nat):Nat->t_ (t_ Nat)
 |0=>[[]]
 |k+1=>(rows n k).flatMap (HF n)
theorem Z3{r:t_ Nat}(h:r.Pairwise (·<·)):∀x∈r,x<Gk r:=λx a=>by
 unfold Gk;cases e:r.getLast? with
 |none=>simp_all
 | some l=>
  obtain⟨b,rfl⟩:=kJ.mp e;show x<l+1
  rcases gA.mp a with z|z
  ·have:=(jb.mp h).2.2 x z l Sc
   omega
  grind
theorem D7{n:Nat}:∀(k:Nat) (r:t_ Nat),r∈rows n k↔r.length=k/\r.Pairwise (·<·)/\∀i∈r,i<n
 | 0,r=>by
  constructor
  ·intro h
   rw[TM.mp h];exact⟨rfl,ki,λi b=>by cases b⟩
  ·rintro⟨h,_⟩
   rw[jn.mp h];exact Sc
 | k+1,r=>by
  unfold rows;rw[iu];constructor
  ·rintro⟨a,m,o⟩
   obtain⟨c,f,g⟩:=(D7 k a).mp m;obtain⟨i,b,rfl⟩:=Uf.mp o;have b:=iU.mp b;refine⟨by rw[fw,c]; rfl,jb.mpr ⟨f,nB _ _,λx j y p=>?_⟩,λx j=>?_⟩
   ·rw[TM.mp p]
    have:=Z3 f x j
    omega
   ·rcases gA.mp j with z|z
    ·exact g x z
    ·rw[TM.mp z]; omega
  ·rintro⟨c,f,g⟩
   have d:r≠[]:=λz=>by rw[z]at c; cases c
   obtain⟨a,l,rfl⟩:∃a l,r=a++[l]:=⟨r.dropLast,r.getLast d,(List.dropLast_concat_getLast d).symm⟩;rw[fw,gC]at c;obtain⟨q,_,s⟩:=jb.mp f;have t:=g l (fz _ Sc);refine⟨a,(D7 k a).mpr ⟨by omega,q,λi b=>g i (gu _ b)⟩,?_⟩
   have u:Gk a<=l:=by
    unfold Gk;cases e:a.getLast? with
    |none=>exact fo _
    |some x=>
     show x+1<=l;exact s x (List.mem_of_getLast? e) l Sc
   refine Uf.mpr ⟨l - Gk a,iU.mpr (by omega),?_⟩;rw[show Gk a+(l - Gk a)=l by omega]
theorem R_:∀n k:Fin 11,(rows n.1 k.1).length<=252:=by decide +kernel
theorem J_{n k:Nat}(a:n<=10)(b:k<=10):(rows n k).length<=252:=R_ ⟨n,by omega⟩ ⟨k,by omega⟩
def dT:Au:=⟨"","",0⟩
def pick(a:t_ Au)(o:Nat)(r:t_ Nat):t_ Au:=r.map λi=>a.getD (i - o) dT
theorem JZ{a:Au}{b:t_ Au}{o:Nat}{r:t_ Nat}(h:∀i∈r,o+1<=i):pick (a::b) o r=pick b (o+1) r:=by
 refine h_ λi c=>?_
 have:=h i c
 rw[show i - o=(i - (o+1))+1 by omega];rfl
theorem KO:∀(b:t_ Au) (o:Nat) (r:t_ Nat),r.Pairwise (·<·)->(∀i∈r,o<=i/\i<o+b.length)->(pick b o r).Sublist b
 |[],o,r,_,h=>by
  cases r with
  |nil=>exact oK _
  |cons i r=>have:=h i Sc; simp only[iL]at this; omega
 | a::b,o,r,f,h=>by
  cases r with
  |nil=>exact List.nil_sublist _
  | cons i r=>
   obtain⟨g,j⟩:=gq.mp f;have m:=h i Sc;rw[eq]at h
   by_cases e:i=o
   ·have d:∀x∈r,o+1<=x:=λx c=>by have:=g x c; omega
    have k:=KO b (o+1) r j λx c=>⟨d x c,by grind⟩
    have l:pick (a::b) o (i::r)=a::pick (a::b) o r:=by
     unfold pick;rw[f9,e,kQ];rfl
    rw[l,JZ d];exact k.cons_cons a
   ·have d:∀x∈i::r,o+1<=x:=λx c=>by
     grind
    rw[JZ d];exact(KO b (o+1) (i::r) f λx c=>⟨d x c,by have:=(h x c).2; omega⟩).cons a
theorem UW:∀{d S:t_ Au},S.Sublist d->∀o:Nat,∃r:t_ Nat,r.Pairwise (·<·)/\(∀i∈r,o<=i/\i<o+d.length)/\S=pick d o r:=by
 intro d S h
 induction h with
 |slnil=>exact λo=>⟨[],ki,(λi b=>by cases b),rfl⟩
 | cons a _ g=>
  intro o;obtain⟨r,j,e,k⟩:=g (o+1);refine⟨r,j,λi b=>?_,?_⟩
  ·grind
  ·rw[JZ λi b=>(e i b).1]
   exact k
 | cons_cons a _ g=>
  intro o;obtain⟨r,j,e,k⟩:=g (o+1);refine⟨o::r,gq.mpr ⟨λi b=>by have:=(e i b).1; omega,j⟩,λi b=>?_,?_⟩
  ·rw[eq]
   grind
  ·rw[k,←JZ (a:=a) λi b=>(e i b).1]
   unfold pick;rw[f9,kQ];rfl
theorem rows_all{a:t_ Au}{k:Nat}{S:t_ Au}:S∈(rows a.length k).map (pick a 0)↔S.Sublist a/\S.length=k:=by
 rw[Uf];constructor
 ·rintro⟨r,d,rfl⟩
  obtain⟨b,c,h⟩:=(D7 k r).mp d;refine⟨KO a 0 r c λi e=>⟨fo _,by grind⟩,?_⟩;unfold pick
  grind
 ·rintro⟨f,g⟩
  obtain⟨r,b,c,rfl⟩:=UW f 0;refine⟨r,(D7 k r).mpr ⟨by unfold pick at g; grind,b,λi e=>by grind⟩,rfl⟩
def Dt(r:t_ Nat):D:=.tup (r.map fun(i:Nat)=>.int (i:Int))
def Eo:W2:=λb n P=>∃(a:t_ Au) (k:Nat),b=[.sh (E4 a),.sh (.int (k:Int))]/\a.length<=10/\k<=10/\P (.lst ((rows a.length k).map λr=>E4 (pick a 0 r))) n
def Jb:AZ:=(Af (A5 6 (bC (Ab (Aa Xw (AB 5) (BO AV))) (Aa BB (Aa BA (AB 5) (Wn (wC (D.int 1)))) (wC (D.int 1))) (wC (D.int 0))))
 (Wm 4 "list" Vu (AE (Ba [P3 5,q_] (Le (AE (AB 6) (AE (Bz B6 (AE (AB 0) AV)) AV))) (Al 1) C4 (Aa BB (AB 0) (BO (AE (AB 1) AV)))) AV)))
def RA:AZ:=(Af (Jr 4 (Di AV))
 (Af (Gv (BL (AB 2)) (Al 5) Jb)
 (Wo 4 (A5 2 (AB 4)))))
def Dd:AZ:=(Af (A5 2 (Di (AE (BO AV) AV)))
 (Af (Gv (Js (AE (AB 1) AV)) (Al 3) RA)
 (As (Ba [P3 0,q_] (BL (AB 2)) (Al 1) C4 (Ba [P3 0,q_] (BL (AB 1)) (Al 1) C4 (Aa BA (AB 0) (AB 1)))))))
theorem Xk{r:t_ Nat}(h:∀i∈r,i<10):CG (Dt r):=by
 have b:∀d∈r.map (fun(i:Nat)=>D.int i),IR 10 d/\TB d=0:=λd a=>by
  obtain⟨i,c,rfl⟩:=Uf.mp a;exact⟨by show Int.natAbs _<=10; grind,rfl⟩
 refine Gc (by decide) (FO λd a=>(b d a).1) ?_
 have:=dps_le.mpr λd a=>lX (b d a).2
 show JT _+1<=100;omega
def eF(r:t_ Nat):D->D
 |.int i=>Dt (r++[i.toNat])
 |_=>.non
theorem P0{f:E2}{n:Nat}{a:t_ Au}{r:t_ Nat}{c:t_ (t_ Nat)}{g j m o:Slot}(A:a.length<=10)(t:∀i∈r,i<a.length)(B:r.length<=10)(C:c.length<=1000000)(h:∀o,f.nx n [.sh (E4 a),g,j,m,.ow (.lst ((c++HF a.length r).map Dt)),.sh (Dt r),o]):Jb f n [.sh (E4 a),g,j,m,.ow (.lst (c.map Dt)),.sh (Dt r),o]:=by
 have w:=PySem.sizeLine_eq
 have E:Gk r<=a.length:=by
  unfold Gk;cases e:r.getLast? with
  |none=>exact fo _
  |some l=>have:=t l (List.mem_of_getLast? e); exact this
 have b:(Wm 4 "list" Vu (AE (Ba [P3 5,q_] (Le (AE (AB 6) (AE (Bz B6 (AE (AB 0) AV)) AV))) (Al 1) C4 (Aa BB (AB 0) (BO (AE (AB 1) AV)))) AV)) f n [.sh (E4 a),g,j,m,.ow (.lst (c.map Dt)),.sh (Dt r),.sh (.int ((Gk r:Nat):Int))]:=by
  refine⟨_,rfl,rfl,_,_,rfl,rfl,_,_,rfl,⟨by omega,by omega,by omega,by rw[Go]; omega⟩,by rw[CY,Go]; omega,?_⟩;refine BK (eF r) (λu=>∃s,u=[.sh (Dt r),s]) _ _ _ _ ?_ ⟨_,rfl⟩ ?_
  ·rintro d x u F G ⟨s,rfl⟩ p
   obtain⟨k,H,rfl⟩:=G3 x
   have e:eF r (.int ((Gk r:Int)+(k:Int)))=.tup (r.map (fun(i:Nat)=>D.int (i:Int))++[.int ((Gk r:Int)+(k:Int))]):=by
    show Dt (r++[((Gk r:Int)+(k:Int)).toNat])=_;unfold Dt;rw[gR,show((Gk r:Int)+(k:Int)).toNat=Gk r+k by omega];show D.tup (_++[D.int ((Gk r+k:Nat):Int)])=_;rw[show((Gk r+k:Nat):Int)=(Gk r:Int)+(k:Int) by omega]
   have z:=p [.sh (Dt r),.sh (.int ((Gk r:Int)+(k:Int)))] ⟨_,rfl⟩;rw[e]at z;exact⟨z1,by rw[Go]; show _+1<=_; omega,z⟩
  ·have e:(CZ (Gk r:Int) (((a.map Ak).length:Int) - (Gk r:Int)).toNat).map (eF r)=(HF a.length r).map Dt:=by
    unfold CZ HF;rw[gh,gh,Go,show((a.length:Int) - (Gk r:Int)).toNat=a.length - Gk r by omega];refine h_ λk _=>?_;show Dt (r++[((Gk r:Int)+(k:Int)).toNat])=_;rw[show((Gk r:Int)+(k:Int)).toNat=Gk r+k by omega];rfl
   rw[gL,e];refine⟨_,_,rfl,rfl,?_,?_⟩
   ·have:(HF a.length r).length<=10:=by unfold HF; rw[Go,ip]; omega
    rw[Go,Go]; omega
   ·have z:=h (.sh (.int ((Gk r:Nat):Int)))
    rw[gR]at z;exact z
 unfold Jb;refine⟨z0,Xk λi y=>by have:=t i y; omega,⟨rfl,rfl,by decide⟩,?_⟩;cases e:r.getLast? with
 |none=>
  have:r=[]:=List.getLast?_eq_none_iff.mp e
  subst this;exact b
 | some l=>
  have q:Gk r=l+1:=by unfold Gk; rw[e]
  obtain⟨v,rfl⟩:=kJ.mp e
  have en:Fz (Dt (v++[l])) (.tup [])=s_:=by
   cases v <;>rfl
  rw[en];refine⟨1,rfl,.int (l:Int),?_,?_⟩
  ·rw[gR]
   exact PN _ _
  ·rw[q]at b
   exact b
theorem Qv{f:E2}{n:Nat}{e:t_ Au}{g j k:Slot}(l:e.length<=10):∀(a b:t_ (t_ Nat)) (c d:Slot),(∀r∈a,(∀i∈r,i<e.length)/\r.length<=10)->b.length+10*a.length<=1000000->(∀c d,f.nx n [.sh (E4 e),g,j,k,.ow (.lst ((b++a.flatMap (HF e.length)).map Dt)),c,d])->
  CI (Al 5) Jb f (a.map Dt) n [.sh (E4 e),g,j,k,.ow (.lst (b.map Dt)),c,d]
 |[],b,c,d,_,_,h=>by
  have z:=h c d;rw[List.flatMap_nil,gk]at z;exact z
 |r::a,b,c,d,m,t,h=>by
  have u:(HF e.length r).length<=10:=by unfold HF; grind
  obtain⟨o,p⟩:=m r Sc;refine P0 l o p (by omega) λq=>?_;refine Qv l a _ _ _ (λx s=>m x (Rs _ s)) (by grind) λc d=>?_
  grind
def Y7(a:t_ Au):D->D
 |.int i=>Ak (a.getD i.toNat dT)
 |_=>.non
def eK(a:t_ Au):D->D
 |.tup b=>.lst (b.map (Y7 a))
 |_=>.non
theorem ac(a:t_ Au)(r:t_ Nat):eK a (Dt r)=E4 (pick a 0 r):=by
 show D.lst _=.lst ((r.map _).map _);rw[gh,gh];rfl
theorem Me{A:t_ Slot}{n:Nat}{B:D->Nat->Prop}(h:Eo A n B):Dd (EF B) n (A++UF 5 .no):=by
 obtain⟨a,k,rfl,C,F,q⟩:=h;have G:=PySem.sizeLine_eq;have len:∀j,j<=10->(rows a.length j).length<=252:=λj H=>J_ C H;unfold Dd;refine⟨z0,z1,_,rfl,⟨by omega,by omega⟩,?_⟩;rw[gz];refine Fs (all:=CZ 0 k) (λb m c=>m=n/\b.length<=k/\∃u v p t,c=[.sh (E4 a),.sh (.int (k:Int)),.sh (.lst ((rows a.length b.length).map Dt)),u,v,p,t]) ?_ ?_ _ [] _ _ rfl ⟨rfl,fo _,_,_,_,_,rfl⟩
 ·rintro m c ⟨rfl,_,u,v,p,t,rfl⟩
  rw[CY];refine⟨by rw[Go]; have:=len k F; omega,?_⟩;refine BK (eK a) (λc=>∃s,c=[.sh (E4 a),s]) _ _ _ _ ?_ ⟨_,rfl⟩ ?_
  ·rintro d w c N I ⟨s,rfl⟩ f
   obtain⟨r,x,rfl⟩:=Uf.mp w;obtain⟨J,O,y⟩:=(D7 k r).mp x;refine⟨by show(r.map fun(i:Nat)=>D.int (i:Int)).length<=10000000; rw[Go]; omega,?_⟩;refine BK (Y7 a) (λc=>∃s,c=[.sh (E4 a),s]) _ _ _ _ ?_ ⟨_,rfl⟩ ?_
   ·rintro d w c K L ⟨s,rfl⟩ g
    obtain⟨i,M,rfl⟩:=Uf.mp w;have l:=y i M;have z:=g [.sh (E4 a),.sh (.int (i:Int))] ⟨_,rfl⟩;refine⟨Ak (a.getD i dT),AK ?_,z⟩;rw[T0,fq,FM l];rfl
   ·rw[gL]
    exact f _ ⟨_,rfl⟩
  ·rw[gL,gh]
   have e:(rows a.length k).map (eK a∘Dt)=(rows a.length k).map λr=>E4 (pick a 0 r):=h_ λr _=>ac a r;rw[e];exact q
 ·rintro b d E m c I o ⟨rfl,P,u,v,p,t,rfl⟩ f
  obtain⟨_,l⟩:=Qu o;have Q:=len b.length (by omega);unfold RA;refine⟨z0,?_⟩;refine Qv C (rows a.length b.length) [] _ _ (λr x=>?_) (by show 0+_<=_; omega) λp t=>?_
  ·obtain⟨J,_,y⟩:=(D7 b.length r).mp x
   exact⟨y,by omega⟩
  ·rw[gL]
   refine⟨_,rfl,?_⟩;exact f _ _ ⟨rfl,by rw[fw,gC]; omega,_,_,_,_,by rw[fw,gC]; rfl⟩
end Nt
set_option maxHeartbeats 4000000
namespace Nt
open L2 Dp
def thn(N:Net)(a:t_ Au):Prop:=(∀t∈a,t∈N.ts)/\a.Pairwise Bo
def Kl(N:Net)(a:t_ Au):t_ Au:=N.ts.filter λt=>decide (t∉a)
abbrev Nd(w:t_ Str):D:=.tup (w.map .str)
def eW(t b:Int):Prop:=1<=b/\b<=1000000/\1<=t/\t<=1000000
def Wj(k:Nat)(M:Net)(a b:Str)(w:t_ Str)(d:Int):Prop:=(∃r,w=a::r)/\w.getLast?=P3 b/\walk M w d/\w.length<=k/\∀x∈w,x∈M.ps
def PapOkK(k:Nat)(M:Net)(t b:Int):t_ Au->t_ (t_ Str)->Prop
 |[],[]=>True
 |u::c,w::e=>(∃d,Wj k M u.a u.b w d/\d*b<=u.len*t)/\PapOkK k M t b c e
 |_,_=>False
def KR(k:Nat)(N:Net)(c:t_ Au)(t b:Int)(d:t_ (t_ Str)):Prop:=∀a:t_ Au,a.Perm (Kl N c)->Gj a->PapOkK k ⟨N.ps,c⟩ t b a d
def He:W2:=λd n P=>∃(N:Net) (a:t_ Au) (t b:Int),d=[.sh (Bw N),.sh (.tup [.int t,.int b]),.sh (Bw ⟨N.ps,a⟩)]/\okN N/\thn N a/\eW t b /\
 (∀c,KR N.ps.length N a t b c->(∀u∈Kl N a,Es ⟨N.ps,a⟩ t b u)->P (.tup (c.map Nd)) n)/\((∃u∈Kl N a,¬Es ⟨N.ps,a⟩ t b u)->P .non n)
def FT:AZ:=(Af (A5 3 (Ba [P3 2,P3 1,q_] (BL (Ad Rq (AC (AH (AB 0)) (AC (AH (AB 2)) Ae)))) (Al 2) C4 (Ad Gq (AC (AH (AB 0)) (AC (AH (AB 1)) (AC (AH (AB 2)) Ae))))))
 (As (bC (Ab (Aa (IS s_) (wC D.non) (AB 3))) (wC D.non) (Bz B2 (AE (AB 3) AV)))))
theorem thn.okN{N:Net}(a:okN N){b:t_ Au}(h:thn N b):okN ⟨N.ps,b⟩:=⟨Zd a.1 h.1 h.2,a.2.1,by
 have:=sub_len (Bt h.2) (Bt a.1.trise) h.1
 have:=a.2.2
 grind⟩
theorem PapOkK.len{k:Nat}{M:Net}{t b:Int}:∀{a:t_ Au}{c:t_ (t_ Str)},PapOkK k M t b a c->c.length=a.length
 |[],[],_=>rfl
 |u::a,w::c,h=>by rw[eq,eq,PapOkK.len h.2]
theorem Oe{N:Net}(ok:N.Ok){s x:Str}:∀(k:Nat) (d:Int),d.toNat<=k->Wk N s x d->∃e,Least N s x e/\e<=d
 | k,d,g,h=>by
  by_cases c:∃a,Wk N s x a/\a<d
  ·obtain⟨a,b,lt⟩:=c
   have i:=b.pos ok
   match k with
   |0=>omega
   |k+1=>
    obtain⟨e,j,f⟩:=Oe ok k a (by omega) b
    grind
  ·exact⟨d,⟨h,λa b=>mj λz=>c ⟨a,b,by omega⟩⟩,iV _⟩
section
variable {ss:t_ Slot}{n:Nat}{Pd:D->Nat->Prop}
def Tf(M:Net)(t b:Int):t_ Au->t_ (u_ (t_ Str))->Prop
 |[],[]=>True
 |u::c,o::d=>((∀w,o=P3 w->Way M u.a u.b (P3 w)/\Kj M t b u=r_)/\(o=q_->Kj M t b u=s_))/\Tf M t b c d
 |_,_=>False
theorem Wk.cons{N:Net}{x y z:Str}{l d:Int}(e:Ed N x y l)(h:Wk N y z d):Wk N x z (l+d):=by
 induction h with
 |nil=>rw[Int.add_comm]; exact .snoc .nil e
 |snoc h f a=>rw[←oB]; exact .snoc a f
theorem Hr{N:Net}(ok:N.Ok){b:Str}:∀{w:t_ Str}{d:Int},walk N w d->w.getLast?=P3 b->∀x∈w,∃e,Wk N x b e/\e<=d
 |[],_,h,_,_,_=>h.elim
 |[y],d,h,a,x,c=>by
  cases a;rw[TM.mp c,show d=0 from h];exact⟨0,.nil,iV _⟩
 | y::z::r,d,h,a,x,c=>by
  obtain⟨l,f,g,i,rfl⟩:=h;rw[List.getLast?_cons_cons]at a
  have:=(g.pos ok).1
  rcases fi.mp c with rfl|c
  ·obtain⟨e,j,k⟩:=Hr ok i a z Sc
   exact⟨l+e,Wk.cons g j,by omega⟩
  ·obtain⟨e,j,k⟩:=Hr ok i a x c
   grind
theorem Of{N:Net}(ok:N.Ok){b:Str}:∀{r:t_ Str}{a:Str}{d:Int},walk N (a::r) d->(a::r).getLast?=P3 b->(∀c,Wk N a b c->d<=c)->(a::r).Nodup
 |[],a,d,_,_,_=>gE.mpr ⟨by simp,gW⟩
 | z::r,a,d,h,g,i=>by
  obtain⟨l,f,j,k,rfl⟩:=h;refine gE.mpr ⟨λm=>?_,Of ok k g λc o=>?_⟩
  ·obtain⟨e,p,q⟩:=Hr ok k g a m
   have:=i e p
   have:=(j.pos ok).1
   omega
  ·have:=i _ (Wk.cons j o)
   omega
theorem OO{M:Net}(ok:M.Ok){t b:Int}:∀{a:t_ Au}{c:t_ (u_ (t_ Str))},Tf M t b a c->(∃e,c=e.map P3/\PapOkK M.ps.length M t b a e/\∀u∈a,Es M t b u)\/(c.any oC=r_/\∃u∈a,¬Es M t b u)
 |[],[],_=>.inl ⟨[],rfl,trivial,λu o=>by cases o⟩
 |u::a,q_::c,h=>.inr ⟨rfl,u,Sc,λz=>by
  have:=h.1.2 rfl
  rw[nearB_iff.mpr z]at this;cases this⟩
 | u::a,P3 w::c,h=>by
  obtain⟨p,f⟩:=h.1.1 w rfl;have f:=nearB_iff.mp f
  rcases OO ok h.2 with⟨e,rfl,g,i⟩|⟨g,v,i,q⟩
  ·refine .inl ⟨w::e,rfl,⟨?_,g⟩,λv A=>?_⟩
   ·obtain⟨d,r,s,j,k,l,B,m⟩:=p
    obtain⟨C,x,y⟩:=f;subst s;exact⟨d,⟨⟨r,rfl⟩,j,k,MO (Of ok k j l.2) m,m⟩,by rw[Least.unique l x]; exact y⟩
   grind
  ·exact .inr ⟨by rw[n9,g,Bool.or_true],v,Rs _ i,q⟩
theorem Ri:∀a:t_ (u_ (t_ Str)),((a.map IG).any λy=>Fz y .non)=a.any oC
 |[]=>rfl
 |none::a=>rfl
 |some w::a=>by
  rw[f9,n9,Ri a];rfl
theorem QJ{M:Net}(ok:M.Ok){t b:Int}:∀{c:t_ Au}{a:t_ (u_ (t_ Str))},Tf M t b c a->Kt 0 (a.map IG)/\JT (a.map IG)<=1
 |[],[],_=>⟨trivial,fo _⟩
 |u::c,q_::a,h=>by
  obtain⟨e,f⟩:=QJ ok h.2;exact⟨⟨trivial,e⟩,by assumption⟩
 |u::c,P3 w::a,h=>by
  obtain⟨e,f⟩:=QJ ok h.2;obtain⟨d,r,j,k,l,m,o,g⟩:=(h.1.1 w rfl).1;obtain⟨i,_,p⟩:=Hq ok g;exact⟨⟨i,e⟩,by show max (JT _+1) _<=1; omega⟩
theorem JH(h:He ss n Pd):FT (EE Pd) n (ss++UF 1 .no):=by
 obtain⟨N,i,t,b,rfl,f,E,⟨F,G,H,I⟩,p,q⟩:=h;have j:=E.okN f;have A:=f.2.2;unfold FT;refine⟨N,i,rfl,f.1,by omega,E.1,λk l J=>?_⟩;have K:k.length<=60:=by rw[l.length_eq]; exact gO (jT _ _) A
 refine⟨by show(k.map Ak).length<=10000000; rw[Go]; omega,?_⟩
 have L:∀(P:t_ D->Nat->Prop),(∀c,Tf ⟨N.ps,i⟩ t b k c->P (c.map IG) n)->∀(a:t_ Au) (e:t_ D) (s:Slot),(∀u∈a,u∈N.ts)->(∀c,Tf ⟨N.ps,i⟩ t b a c->P (e++c.map IG) n)->
   GD (Al 2) C4 (Ad Gq (AC (AH (AB 0)) (AC (AH (AB 1)) (AC (AH (AB 2)) Ae)))) P (a.map Ak) e n [.sh (Bw ⟨N.ps,i⟩),.sh (.tup [.int t,.int b]),s]:=by
  intro P hP a
  induction a with
  |nil=>
   intro e s _ h
   have:=h [] trivial
   rw[lm,gk]at this;exact this
  |cons u a M=>
   intro e s g h;obtain⟨O,Q,_⟩:=f.1.tin u (g u Sc);refine⟨⟨N.ps,i⟩,u,t,b,rfl,j,O,Q,F,G,H,I,λo m C=>?_⟩;refine M (e++[IG o]) _ (λv R=>g v (Rs _ R)) λc d=>?_
   have:=h (o::c) ⟨⟨m,C⟩,d⟩
   rw[gv];exact this
 have r:∀c,Tf ⟨N.ps,i⟩ t b k c->(As (bC (Ab (Aa (IS s_) (wC D.non) (AB 3))) (wC D.non) (Bz B2 (AE (AB 3) AV)))) (EE Pd) n [.sh (Bw N),.sh (.tup [.int t,.int b]),.sh (Bw ⟨N.ps,i⟩),.sh (.lst (c.map IG))]:=λc d=>by
  obtain⟨S,f2⟩:=QJ j.1 d;refine⟨⟨rfl,rfl,fo _⟩,Gc (B:=0) (by decide) S (by show JT (c.map IG)+1<=100; omega),_,rfl,?_⟩;show if((c.map IG).any λy=>Fz y .non)=r_ then _ else _
  rw[Ri]
  rcases OO j.1 d with⟨x,rfl,m,C⟩|⟨m,u,g,T⟩
  ·have U:(x.map P3).any oC=s_:=by
    rw[io];intro z;obtain⟨o,V,z⟩:=jk.mp z;obtain⟨w,_,rfl⟩:=Uf.mp V;cases z
   rw[U];have W:(x.map P3).map IG=x.map Nd:=by rw[gh]; rfl
   refine CH ?_;show Pd (.tup ((x.map P3).map IG)) n;rw[W];refine p x (λX Y Z=>?_) λu g=>C u (l.mem_iff.mpr g);rw[OF (Y.trans l.symm) Z J];exact m
  ·rw[m]
   exact Ef (q ⟨u,l.mem_iff.mp g,T⟩)
 exact L _ r k [] _ (λu g=>(iG.mp (l.mem_iff.mp g)).1) λc d=>by rw[gL]; exact r c d
end
end Nt
set_option maxHeartbeats 400000
namespace Nt
open L2 Dp
theorem JY{N:Net}(g:Str->Int){a:Str}(b:a∈N.ps):Lp N ((N.ps.map g).map .int) a=g a:=by
 unfold Lp;rw[gh,JW,if_pos b];rfl
theorem S7{M:Net}(ok:M.Ok)(g:Str->Int)(c:∀x∈M.ps,0<=g x)(h:∀t∈M.ts,HR (g t.a - g t.b)<=t.len):Vn M (.tup ((M.ps.map g).map .int))=r_:=by
 show(((((M.ps.map g).map _).length==(M.ps.length:Int))&&((M.ps.map g).map _).all _)&&M.ts.all _)=r_;rw[Go,Go,beq_self_eq_true,gj];refine⟨jj.mpr λd e=>?_,jj.mpr λt f=>?_⟩
 ·obtain⟨i,j,rfl⟩:=Uf.mp e
  obtain⟨x,k,rfl⟩:=Uf.mp j;exact decide_eq_true (c x k)
 ·obtain⟨l,m,_⟩:=ok.tin t f
  rw[JY g l,JY g m]
  simp_all
theorem Xu{M:Net}(ok:M.Ok){s x:Str}{o:u_ Int}(h:eS M s x o):∀d,o=P3 d->0<=d:=λd e=>by
 rw[e]at h;exact(h).1.pos ok
theorem QX{M:Net}(ok:M.Ok){s:Str}{G:Kn}(h:∀x,eS M s x (G x)){m:Int}{t:Au}(i:t∈M.ts):HR (IW m (G t.a) - IW m (G t.b))<=t.len:=by
 obtain⟨_,_,_,C,_⟩:=ok.tin t i;obtain⟨u,v⟩:=Je i
 have j:∀{y z:Str}{l:Int},Ed M y z l->∀d,G y=P3 d->∃c,G z=P3 c/\c<=d+l:=λ{y z l} w d e=>by
  have k:=h y;rw[e]at k;have n:Wk M s z (d+l):=Wk.snoc (show Least M s y d from k).1 w;have f:=h z;cases o:G z with
  |none=>rw[o]at f; exact absurd n (f _)
  |some c=>rw[o]at f; exact⟨c,rfl,(show Least M s z c from f).2 _ n⟩
 have A:=j u;have B:=j v;cases p:G t.a with
 |none=>
  cases g:G t.b with
  |none=>unfold HR IW; split <;>omega
  |some b=>grind
 | some a=>
  cases g:G t.b with
  |none=>grind
  |some b=>
   obtain⟨D,q,E⟩:=A a p;rw[g]at q; cases q
   obtain⟨F,r,H⟩:=B b g;rw[p]at r; cases r
   show(if(if a<m then a else m) - (if b<m then b else m)<0 then -((if a<m then a else m) - (if b<m then b else m))else(if a<m then a else m) - (if b<m then b else m))<=t.len
   grind
abbrev fI(t b:Int):D:=.tup [.int t,.int b]
def F8:W2:=λa n P=>∃t b l:Int,a=[.sh (fI t b),.sh (.int l)]/\eW t b/\P (.int (l*t / b+1)) n
def IX:AZ:=(As (Aa BB (Aa (We Ti λi j=>D.int (i / j)) (Aa DX (AB 1) (Aa BA (AB 0) (wC (D.int 0)))) (Aa BA (AB 0) (wC (D.int 1)))) (wC (D.int 1))))
section
variable {ss:t_ Slot}{n:Nat}{Pd:D->Nat->Prop}
theorem OE(h:F8 ss n Pd):IX (EE Pd) n (ss++UF 0 .no):=by
 obtain⟨t,b,l,rfl,⟨a,c,d,e⟩,p⟩:=h;exact⟨_,AK rfl,.inr (by omega),_,AK rfl,⟨by omega,by omega⟩,p⟩
end
end Nt
set_option maxHeartbeats 4000000
namespace Dp
open L2
end Dp
namespace Nt
open L2 Dp
def de:u_ Au->D
 |none=>.non
 |some u=>Ak u
structure FewR (N:Net) (t b:Int) (ts us r:List Au):Prop where
 th:thn N r
 kp:Qj N t b r
 sub:∀x∈r,x∈ts
 sup:∀x∈ts,x∉us->x∈r
 few:∀S,thn N S->Qj N t b S->(∀x∈S,x∈ts)->(∀x∈ts,x∉us->x∈S)->r.length<=S.length
theorem VW{N:Net}{t b:Int}{S a:t_ Au}(h:∀x∈S,x∈a)(k:Qj N t b S):Qj N t b a:=λu c=>by
 obtain⟨d,e,f⟩:=k u c;exact⟨d,Wk.mono h e,f⟩
theorem HC{N:Net}(c:okN N){t b:Int}(tm:Hw t b)(l:b<=t){a:t_ Au}(m:thn N a):(∀u∈Kl N a,Es ⟨N.ps,a⟩ t b u)↔Qj N t b a:=by
 constructor
 ·intro h u f
  by_cases k:u∈a
  ·refine⟨_,?_,l8 l (by have:=(c.1.tin u f).2.2.2.1; omega)⟩
   have:=Wk.snoc (Wk.nil) (Je (N:=⟨N.ps,a⟩) k).1
   grind
  ·obtain⟨d,g,i⟩:=h u (iG.mpr ⟨f,decide_eq_true k⟩)
   exact⟨d,g.1,i⟩
 ·intro h u f
  obtain⟨d,g,i⟩:=h u (iG.mp f).1;obtain⟨e,n,j⟩:=Oe (m.okN c).1 _ _ (Re _) g;exact⟨e,n,Int.le_trans (l7 j (by have:=tm.1; omega)) i⟩
theorem FewR.nil{N:Net}{t b:Int}{a:t_ Au}(c:thn N a)(k:Qj N t b a):FewR N t b a [] a:=⟨c,k,λ_ h=>h,λ_ h _=>h,λS d _ _ h=>sub_len (Bt c.2) (Bt d.2) λx e=>h x e (by simp)⟩
abbrev QY(a:t_ Au)(u:Au):t_ Au:=a.filter λv=>decide (v∉[u])
theorem Wy{N:Net}{a:t_ Au}(h:thn N a)(u:Au):thn N (QY a u):=⟨λx b=>h.1 x (iG.mp b).1,h.2.filter _⟩
theorem mem_cut{a:t_ Au}{u x:Au}:x∈QY a u↔x∈a/\x≠u:=by simp
theorem FewR.skip{N:Net}{t b:Int}{c f r:t_ Au}{u:Au}(h:FewR N t b c f r)(d:¬Qj N t b (QY c u)):FewR N t b c (u::f) r:=⟨h.th,h.kp,h.sub,λx a d=>h.sup x a λz=>d (Rs _ z),λS j g i m=>by
 by_cases k:u∈S
 ·refine h.few S j g i λx a l=>?_
  grind
 ·exact absurd (VW (λx a=>mem_cut.mpr ⟨i x a,λe=>k (by simp_all)⟩) g) d⟩
theorem FewR.pick{N:Net}{t b:Int}{g k l m:t_ Au}{u:Au}(h:FewR N t b g k l)(i:FewR N t b (QY g u) k m):FewR N t b g (u::k) (if m.length<l.length then m else l):=by
 have j:∀S,thn N S->Qj N t b S->(∀x∈S,x∈g)->(∀x∈g,x∉u::k->x∈S)->l.length<=S.length\/m.length<=S.length:=λS p q r v=>by
  by_cases s:u∈S
  ·refine .inl (h.few S p q r λx f o=>?_)
   grind
  ·refine .inr (i.few S p q (λx f=>mem_cut.mpr ⟨r x f,fun(e:x=u)=>s (by grind)⟩) λx f o=>?_)
   grind
 split
 ·refine⟨i.th,i.kp,λx f=>(mem_cut.mp (i.sub x f)).1,λx f n=>i.sup x (mem_cut.mpr ⟨f,λe=>n (by simp[e])⟩) λz=>n (Rs _ z),λS a b c d=>?_⟩
  rcases j S a b c d with z|z <;>omega
 ·refine⟨h.th,h.kp,h.sub,λx f n=>h.sup x f λz=>n (Rs _ z),λS a b c d=>?_⟩
  rcases j S a b c d with z|z <;>omega
def F6:W2:=λb n P=>∃(a N:Net) (z:D) (gone:t_ Au),b=[.sh (Bw N),.sh z]/\G0 z=P3 (gone.map Ak)/\okN a/\okN N/\MT a gone/\P (Bw (Cd N gone)) n
def LF(j:Nat):W2:=λd n P=>∃(N:Net) (t b:Int) (c a:t_ Au),d=[.sh (Bw N),.sh (CW t b),.sh (Bw ⟨N.ps,c⟩),.sh (.tup (a.map Ak))]/\okN N/\Hw t b/\b<=t/\thn N c/\(∀u∈a,u∈N.ts)/\Qj N t b c/\a.length<=j/\a.length<=60/\∀r,FewR N t b c a r->P (Bw ⟨N.ps,r⟩) n
def Jl:W2:=λd n P=>∃(M:Net) (t b:Int) (c:t_ Au),d=[.sh (Bw M),.sh (CW t b),.sh (E4 c)]/\okN M/\Hw t b/\(∀u∈c,u.a∈M.ps/\u.b∈M.ps)/\∀o:u_ Au,(o=q_->∀u∈c,Es M t b u)->(∀u,o=P3 u->u∈c/\¬Es M t b u)->P (de o) n
def QN(N:Net)(t b:Int)(a:Nat):Prop:=∀S:t_ Au,S.Sublist N.ts->Qj N t b S->a<=S.length
def Hk(j:Nat):W2:=λd n P=>∃(N:Net) (t b:Int) (a:Nat) (kept gone left:t_ Au),d=[.sh (Bw N),.sh (CW t b),.sh (.int (a:Int)),.sh (E4 kept),.sh (E4 gone)]/\okN N/\Hw t b/\b<=t/\(kept++gone++left).Perm N.ts/\left.length<=j/\QN N t b a/\∀c:Ca,Made N t b a kept gone left c->TZ N c->P c.D n
def Rv(N:Net)(t b:Int)(d:D):Prop:=∃(r:t_ Au) (a:t_ (t_ Str)) (c:Ca),d=.tup [Bw ⟨N.ps,r⟩,.tup (a.map Nd),c.D]/\thn N r/\Qj N t b r/\QN N t b r.length/\KR N.ps.length N r t b a/\Made N t b r.length [] [] N.ts c/\TZ N c
def Fk:W2:=λa n P=>∃(N:Net) (t b:Int),a=[.sh (Bw N),.sh (CW t b)]/\okN N/\Hw t b/\b<=t/\N.ts.length<=10/\∀d,Rv N t b d->P d n
def HJ:AZ:=(As (Ad LC (AC (AH (AB 0)) (AC (Jq (Ba [P3 1,q_] (BL (Aa BA (AB 0) (wC (D.int 1)))) (Al 1) (Ab (Aa (IS r_) (AB 1) (AB 0))) (AB 1))) Ae))))
def FV(a:W2):AZ:=(Af (BC (Br (Wl (AB 3))) (As (AB 2)) Ay)
 (Af (A5 4 (Ad a (AC (AH (AB 0)) (AC (AH (AB 1)) (AC (AH (AB 2)) (AC (AH (Ye M8 (AB 3) (Ig (wC (D.int 1))) DN)) Ae))))))
 (Af (A5 5 (Ad F6 (AC (AH (AB 2)) (AC (AH (Ye M8 (AB 3) DN (Ig (wC (D.int 1))))) Ae))))
 (Af (BC (Ab (Aa (JQ s_) (Ad He (AC (AH (AB 0)) (AC (AH (AB 1)) (AC (AH (AB 5)) Ae)))) (wC D.non))) (As (AB 4)) Ay)
 (Af (A5 6 (Ad a (AC (AH (AB 0)) (AC (AH (AB 1)) (AC (AH (AB 5)) (AC (AH (Ye M8 (AB 3) (Ig (wC (D.int 1))) DN)) Ae))))))
 (As (bC (Ab (Aa Ox (Bz B6 (AE (Aa BA (AB 6) (wC (D.int 1))) AV)) (Bz B6 (AE (Aa BA (AB 4) (wC (D.int 1))) AV)))) (AB 6) (AB 4))))))))
def HM:AZ:=(Af (Gv (BL (AB 2)) (Al 3) (BC (Ab (Aa (JQ s_) (Ad Gq (AC (AH (AB 0)) (AC (AH (AB 1)) (AC (AH (AB 3)) Ae)))) (wC D.non))) (As (AB 3)) Ay))
 (As (wC D.non)))
def HP(a:W2):AZ:=(Af (BC (Ab (Aa (f2 λi j=>D.bl (decide (j<=i))) (Bz B6 (AE (AB 3) AV)) (AB 2))) (As (BO (AE (wC (D.str "enough")) AV))) Ay)
 (Af (A5 5 (Ad F6 (AC (AH (AB 0)) (AC (AH (AB 4)) Ae))))
 (Af (A5 6 (Ad Jl (AC (AH (AB 5)) (AC (AH (AB 1)) (AC (AH (AB 4)) Ae)))))
 (Af (BC (Ab (Aa (JQ r_) (AB 6) (wC D.non))) (As (BO (AE (wC (D.str "far")) (AE (AB 6) (AE (Ad NW (AC (AH (AB 5)) (AC (AH (Aa BA (AB 6) (wC (D.int 0)))) (AC (AH (Ad F8 (AC (AH (AB 1)) (AC (AH (Aa BA (AB 6) (wC (D.int 2)))) Ae)))) Ae)))) AV))))) Ay)
 (Af (A5 7 (Aa BA (Aa BA (Ad F6 (AC (AH (AB 5)) (AC (AH (AB 3)) Ae))) (wC (D.int 1))) (wC (D.int 0))))
 (Af (A5 8 (Ad a (AC (AH (AB 0)) (AC (AH (AB 1)) (AC (AH (AB 2)) (AC (AH (Aa BB (AB 3) (Di (AE (AB 7) AV)))) (AC (AH (AB 4)) Ae)))))))
 (Af (A5 9 (Ad a (AC (AH (AB 0)) (AC (AH (AB 1)) (AC (AH (AB 2)) (AC (AH (AB 3)) (AC (AH (Aa BB (AB 4) (Di (AE (AB 7) AV)))) Ae)))))))
 (As (BO (AE (wC (D.str "split")) (AE (AB 7) (AE (AB 8) (AE (AB 9) AV)))))))))))))
def Eu:AZ:=(Af (BC (Ab (Aa (f2 λi j=>D.bl (decide (j<i))) (Bz B6 (AE (Aa BA (AB 0) (wC (D.int 1))) AV)) (wC (D.int 10)))) MQ Ay)
 (Af (A5 2 (Ad (LF 10) (AC (AH (AB 0)) (AC (AH (AB 1)) (AC (AH (Ad LC (AC (AH (AB 0)) (AC (Jq (Aa BA (AB 0) (wC (D.int 1)))) Ae)))) (AC (AH (Aa BA (AB 0) (wC (D.int 1)))) Ae))))))
 (As (BO (AE (AB 2) (AE (Ad He (AC (AH (AB 0)) (AC (AH (AB 1)) (AC (AH (AB 2)) Ae)))) (AE (Ad (Hk 10) (AC (AH (AB 0)) (AC (AH (AB 1)) (AC (AH (Bz B6 (AE (Aa BA (AB 2) (wC (D.int 1))) AV))) (AC (AH (Di AV)) (AC (AH (Di AV)) Ae)))))) AV)))))))
theorem Xj{N:Net}(ok:N.Ok){z:D}{l:t_ Au}(a:G0 z=P3 (l.map Ak))(h:MT N l):CG z:=by
 have:=Cf ok h.1
 cases z with
 |tup b=>cases a; exact this.1
 |lst b=>cases a; exact this.2
 |_=>cases a
theorem YR(x:D)(a:t_ D):Dp.cutD (x::a) q_ (P3 1)=[x]:=by
 rfl
section
variable {ss:t_ Slot}{n:Nat}{Pd:D->Nat->Prop}
theorem SA(h:F6 ss n Pd):HJ (EE Pd) n (ss++UF 0 .no):=by
 obtain⟨B,M,z,a,rfl,i,g,b,l,p⟩:=h;have ok:=b.1;have o:=b.2.2;unfold HJ;refine⟨_,AK (j:=1) rfl,by show(M.ts.map Ak).length<=10000000; rw[Go]; omega,?_⟩;refine D8 (λd=>!((a.map Ak).any λy=>Fz y d)) id (λk=>∃s,k=[.sh z,s]) _ _ _ _ ?_ ⟨_,rfl⟩ ?_
 ·rintro d q k m C D ⟨s,rfl⟩ r u
  obtain⟨t,v,rfl⟩:=Uf.mp q;refine⟨DV ok v,Xj g.1 i l,_,i,?_⟩;exact Cp (λc=>r _ ⟨_,rfl⟩ c) λc=>u _ ⟨_,rfl⟩ (io.mpr c)
 ·rw[gL,lA]
  have e:(M.ts.map Ak).filter (λd=>!((a.map Ak).any λy=>Fz y d))=(Cd M a).ts.map Ak:=by
   rw[lr]
   congr 1
   refine ku λt _=>?_;show(!((a.map Ak).any λy=>Fz y (Ak t)))=decide (¬t∈a);rw[De,decide_not]
  rw[e];have f:=KW b a;refine⟨M,_,(Cd M a).ts,rfl,rfl,by have:=f.2.2; omega,λw x A=>?_⟩;rw[GN x A (Ei f.1.trise)];exact p
theorem Ui{B:W2}{j:Nat}(d:∀ss n P,j≠0->LF (j - 1) ss n P->B ss n P)(h:LF j ss n Pd):FV B (EE Pd) n (ss++UF 3 .no):=by
 obtain⟨N,t,b,f,e,rfl,a,g,o,q,C,D,w,y,p⟩:=h;unfold FV;cases e with
 |nil=>exact⟨_,rfl,p _ (.nil q D)⟩
 | cons u e=>
  have E:j≠0:=λz=>by rw[z]at w; cases w
  have A:u∈N.ts:=C u Sc;have i:∀x∈e,x∈N.ts:=λx k=>C x (Rs _ k);have l:e.length<=j - 1:=by rw[eq]at w; omega
  have m:e.length<=60:=by rw[eq]at y; omega
  refine⟨_,rfl,?_⟩;refine d _ _ _ E ⟨N,t,b,f,e,by rw[aX]; rfl,a,g,o,q,i,D,l,m,λF G=>?_⟩;refine⟨N,⟨N.ps,f⟩,_,[u],rfl,congrArg P3 (YR _ _),a,q.okN a,⟨λx k=>by rw[TM.mp k]; exact A,by show 1<=100; decide⟩,?_⟩;have r:=Wy q u;have I:Cd ⟨N.ps,f⟩ [u]=⟨N.ps,QY f u⟩:=rfl;rw[I];refine⟨N,QY f u,t,b,rfl,a,r,g,λQ _ J=>⟨rfl,?_⟩,λk=>⟨rfl,?_⟩⟩
  ·have K:=(HC a g o r).mp J
   refine d _ _ _ E ⟨N,t,b,QY f u,e,by rw[aX]; rfl,a,g,o,r,i,K,l,m,λH L=>?_⟩;have s:=p _ (G.pick L);refine⟨_,AK (j:=1) rfl,_,_,rfl,rfl,_,AK (j:=1) rfl,_,_,rfl,rfl,?_⟩;rw[Go,Go];show if(decide ((H.length:Int)<(F.length:Int)))=r_ then _ else _
   by_cases c:H.length<F.length
   ·rw[if_pos c]at s
    rw[decide_eq_true (by omega)];exact Ef s
   ·rw[if_neg c]at s
    rw[decide_eq_false (by omega)];exact CH s
  ·refine p _ (G.skip λz=>?_)
   obtain⟨v,M,O⟩:=k;exact O ((HC a g o r).mpr z v M)
theorem SF(h:Jl ss n Pd):HM (EE Pd) n (ss++UF 1 .no):=by
 obtain⟨M,t,b,c,rfl,f,⟨m,q,r,s⟩,g,p⟩:=h;unfold HM
 have x:∀(a done:t_ Au) (i:Slot),done++a=c->(∀u∈done,Es M t b u)->
   CI (Al 3) (BC (Ab (Aa (JQ s_) (Ad Gq (AC (AH (AB 0)) (AC (AH (AB 1)) (AC (AH (AB 3)) Ae)))) (wC D.non))) (As (AB 3)) Ay) {EE Pd with nx:=As (wC D.non) (EE Pd)} (a.map Ak) n [.sh (Bw M),.sh (CW t b),.sh (E4 c),i]:=by
  intro a
  induction a with
  |nil=>intro done i e j; rw[gk]at e; subst e; exact p q_ (λ_=>j) nofun
  | cons u a A=>
   intro done i e j;have k:u∈c:=by rw[←e]; exact fz _ Sc
   obtain⟨B,C⟩:=g u k;refine⟨M,u,t,b,rfl,f,B,C,m,q,r,s,λo E F=>⟨rfl,?_⟩⟩;cases o with
   |none=>
    have l:=F rfl;exact p (P3 u) nofun λv G=>by cases G; exact⟨k,λz=>by rw[nearB_iff.mpr z]at l; cases l⟩
   |some w=>
    refine A (done++[u]) _ (by rw[gv]; exact e) λv d=>?_
    rcases gA.mp d with d|d
    ·exact j v d
    ·rw[TM.mp d]; exact nearB_iff.mp (E w rfl).2
 exact x c [] _ rfl nofun
theorem Nu(l:t_ Au)(u:Au):E4 (l++[u])=.lst (l.map Ak++[Ak u]):=by
 grind
theorem cL{N:Net}(f:okN N){t b:Int}(tm:Hw t b){gone:t_ Au}{u:Au}(k:u∈N.ts)(l:¬Es (Cd N gone) t b u){F:NX}(T:Told (Cd N gone) u.a F):QO N t b gone u (N.ps.map λx=>IW (u.len*t / b+1) ((F x).map (·.1)))=r_/\SR N (N.ps.map λx=>IW (u.len*t / b+1) ((F x).map (·.1))):=by
 obtain⟨y,A,B,o⟩:=tm;obtain⟨p,q,_,C,r⟩:=f.1.tin u k;have c:=KW f gone;have h:u.len*t<(u.len*t / b+1)*b:=Int.lt_ediv_add_one_mul_self (u.len*t) (show 0<b by omega);have g:0<=u.len*t:=Int.mul_nonneg (by omega) (by omega);have D:0<=u.len*t / b:=Int.ediv_nonneg g (by omega);have E:u.len*t / b<=u.len*t:=Int.ediv_le_self _ g;have G:u.len*t<=1000000*1000000:=Int.mul_le_mul r o (by omega) (by omega);have i:=λx=>aW (m:=u.len*t / b+1) (by omega) (Xu c.1 (T.far x));refine⟨?_,by rw[Go],λx H=>?_⟩
 ·unfold QO
  rw[gj];refine⟨S7 (M:=Cd N gone) c.1 _ (λx _=>(i x).1) λv s=>QX c.1 T.far s,decide_eq_true ?_⟩;rw[JY _ p,JY _ q,T.start];have I:=(i u.b).1
  have w:HR (IW (u.len*t / b+1) ((P3 ((0:Int),(q_:u_ Str))).map (·.1)) - IW (u.len*t / b+1) ((F u.b).map (·.1)))=IW (u.len*t / b+1) ((F u.b).map (·.1)):=by
   show HR ((if(0:Int)<u.len*t / b+1 then 0 else u.len*t / b+1) - _)=_;rw[if_pos (by omega)];unfold HR
   split <;>omega
  rw[w];cases e:(F u.b).map (·.1)with
  |none=>exact h
  |some d=>
   have j:=T.far u.b;rw[e]at j;show _<(if d<u.len*t / b+1 then d else u.len*t / b+1)*b
   split
   ·exact Int.not_le.mp λz=>l ⟨d,j,z⟩
   ·exact h
 grind
theorem SH{H:W2}{j:Nat}(m:∀ss n P,j≠0->Hk (j - 1) ss n P->H ss n P)(h:Hk j ss n Pd):HP H (EE Pd) n (ss++UF 5 .no):=by
 obtain⟨N,t,b,l,g,f,left,rfl,i,w,E,q,I,G,p⟩:=h;have ok:=i.1;have O:=i.2.2;have Q:N.ts.Nodup:=Bt ok.trise;have nd:=q.nodup_iff.mpr Q;have R:=q.length_eq;rw[fw,fw]at R;have S:∀u∈g,u∈N.ts:=λu k=>q.subset (gu _ (gu _ k));have y:∀u∈f,u∈N.ts:=λu k=>q.subset (gu _ (fz _ k));have U:∀u∈left,u∈N.ts:=λu k=>q.subset (fz _ k);have s:=KW i f;unfold HP;refine⟨_,_,rfl,rfl,?_⟩;rw[Go];show if(decide ((l:Int)<=(g.length:Int)))=r_ then _ else _
 by_cases J:l<=g.length
 ·rw[decide_eq_true (by omega)]
  exact Ef ⟨z1,p .en (.en J) trivial⟩
 rw[decide_eq_false (by omega)];refine CH ⟨N,N,E4 f,f,rfl,rfl,i,i,⟨y,by omega⟩,Cd N f,t,b,f,rfl,s,w,λu k=>⟨(ok.tin u (y u k)).1,(ok.tin u (y u k)).2.1⟩,λo V W=>?_⟩;cases o with
 |some u=>
  obtain⟨k,X⟩:=W u rfl;refine⟨rfl,_,AK (j:=0) rfl,_,AK (j:=2) rfl,t,b,u.len,rfl,w,Cd N f,u.a,_,rfl,s,(ok.tin u (y u k)).1,λF T=>⟨by show 3<=sizeLine; decide,?_⟩⟩;obtain⟨Y,Z⟩:=cL i w (y u k) X T
  have:=p (.fa u _) (.fa k Y) ⟨y u k,Z⟩
  unfold Ca.D at this;rw[gh]at this;exact this
 | none=>
  have A:=V rfl
  have K:left≠[]:=λe=>by
   subst e;have hk:Made N t b l g f [] .en:=.no λu k=>by obtain⟨d,a1,a2⟩:=A u k; exact⟨d,a1.1,a2⟩
   exact J (of_decide_eq_true (hk.shows ok (by have:=w.1; omega) E G q))
  have L:j≠0:=λz=>by rw[z]at I; exact K (List.eq_nil_of_length_eq_zero (Nat.le_zero.mp I))
  refine⟨rfl,N,Cd N f,E4 g,g,rfl,rfl,i,s,⟨S,by omega⟩,_,AK (j:=1) rfl,?_⟩
  have B:∀x,x∈(Cd (Cd N f) g).ts↔x∈left:=λx=>by
   show x∈((N.ts.filter λv=>decide (v∉f)).filter λv=>decide (v∉g))↔_
   grind
  obtain⟨u,r,M⟩:=List.exists_cons_of_ne_nil (λe=>K (List.eq_nil_iff_forall_not_mem.mpr λx hx=>by have:=(B x).mpr hx; rw[e]at this; cases this):(Cd (Cd N f) g).ts≠[]);have k:u∈left:=(B u).mp (by rw[M]; exact Sc);have C:left.Perm (u::left.erase u):=List.perm_cons_erase k;have le:=C.length_eq;rw[eq]at le;refine⟨Ak u,AK (j:=0) (by show((Cd (Cd N f) g).ts.map Ak)[0]?=_; rw[M]; rfl),z1,?_⟩;refine⟨by show(g.map Ak).length+1<=sizeLine; rw[Go,gc]; omega,m _ _ _ L ⟨N,t,b,l,g++[u],f,left.erase u,by rw[Nu],i,w,E,?_,by omega,G,λc hc kc=>?_⟩⟩
  ·refine jw ?_ q
   rw[gv,gv,gv];refine i4 _ ?_;rw[←gv];refine(List.perm_append_comm.append_right _).trans ?_;rw[gv];exact i4 _ C.symm
  refine⟨z1,by show(f.map Ak).length+1<=sizeLine; rw[Go,gc]; omega,m _ _ _ L ⟨N,t,b,l,g,f++[u],left.erase u,by rw[Nu],i,w,E,?_,by omega,G,λd hd kd=>?_⟩⟩
  ·refine jw ?_ q
   rw[←gv,gv (g++f)];exact i4 _ C.symm
  exact⟨by show 4<=sizeLine; decide,p (.sp u c d) (.sp C hc hd) ⟨U u k,kc,kd⟩⟩
theorem Px(h:Fk ss n Pd):Eu (EE Pd) n (ss++UF 1 .no):=by
 obtain⟨N,t,b,rfl,a,d,k,e,p⟩:=h;have ok:=a.1;have q:thn N N.ts:=⟨λ_ h=>h,ok.trise⟩;have s:Qj N t b N.ts:=(HC a d k q).mp λu l=>absurd (iG.mp l).1 (of_decide_eq_true (iG.mp l).2);unfold Eu;refine⟨_,AK (j:=1) rfl,_,_,rfl,rfl,?_⟩;rw[Go];show if(decide ((10:Int)<(N.ts.length:Int)))=r_ then _ else _
 rw[decide_eq_false (by omega)];refine CH ⟨_,AK (j:=1) rfl,N,_,N.ts,rfl,rfl,by omega,λv w y=>?_⟩;rw[GN w y (Ei ok.trise)];refine⟨_,AK (j:=1) rfl,N,t,b,N.ts,N.ts,rfl,a,d,k,q,λ_ h=>h,s,e,by omega,λr f=>?_⟩;have g:QN N t b r.length:=λS m z=>f.few S ⟨λx i=>m.subset i,ok.trise.sublist m⟩ z (λx i=>m.subset i) λx i o=>absurd i o;refine⟨N,r,t,b,rfl,a,f.th,d,λA B _=>?_,fun⟨u,l,o⟩=>absurd ((HC a d k f.th).mpr f.kp u l) o⟩;refine⟨_,AK (j:=1) rfl,_,_,rfl,rfl,fo _,fo _,?_⟩;rw[Go];exact⟨N,t,b,r.length,[],[],N.ts,rfl,a,d,k,nc _,e,g,λc C D=>⟨by show 3<=sizeLine; decide,p _ ⟨r,A,c,rfl,f.th,f.kp,g,B,C,D⟩⟩⟩
end
def En:W2:=λa n P=>∃(N:Net) (r:t_ Au),a=[.sh (Bw N),.sh (Bw ⟨N.ps,r⟩)]/\okN N/\thn N r/\P (.bl r_) n
def Hj:W2:=λa n P=>∃(M:Net) (w:t_ Str) (l:Int),a=[.sh (E4 M.ts),.sh (Nd w)]/\okN M/\walk M w l/\2<=w.length/\w.length<=1000/\(∀x∈w,x∈M.ps)/\P (.int l) n
def F5:W2:=λc n P=>∃(N:Net) (r:t_ Au) (t b:Int) (a:t_ (t_ Str)),c=[.sh (Bw N),.sh (CW t b),.sh (E4 r),.sh (.tup (a.map Nd))]/\okN N/\thn N r/\Hw t b/\KR N.ps.length N r t b a/\P (.bl r_) n
def Fi:W2:=λa n P=>∃(N:Net) (t b:Int) (d:D),a=[.sh (Bw N),.sh (CW t b),.sh d]/\okN N/\N.ts.length<=10/\Hw t b/\b<=t/\Rv N t b d/\P (.bl r_) n
def BV(m k:Nat):t_ (Nat×Nat):=(gF k).flatMap λa=>(gF (m - (a+1))).map λc=>(a,a+1+c)
def Fq(a:t_ Str)(m:Nat):t_ (Str×Str):=(BV m m).map λp=>(a.getD p.1 "",a.getD p.2 "")
def C3:W2:=λc n P=>∃m:Nat,c=[.fd,.sh (.int (m:Int))]/\2<=m/\m<=6/\40<=n/\∀(a:t_ Str) (b:Nat),a.length=m->(∀x∈a,Vb x)->rising a->n - 40<=b->P (.tup [.tup (a.map .str),.lst ((Fq a m).map pairD)]) b
def Hf:W2:=λb n P=>b=[.fd]/\60<=n/\∀(N:Net) (a:Nat),okN N->N.ts.length<=10->n - 60<=a->P (Bw N) a
def LB:W2:=λa n P=>∃(N:Net) (t b:Int),a=[.sh (Bw N),.sh (CW t b)]/\okN N/\10<N.ts.length/\P (.bl r_) n
def DZ:AZ:=(Af (BC (CF (Br (Ab (GK "tuple" (AB 1)))) (CF (Ab (Aa (Ku r_) (Bz B6 (AE (AB 1) AV)) (wC (D.int 2)))) (Ab (Aa (Ku r_) (Bz HE (AE (Aa BA (AB 1) (wC (D.int 0))) AV)) (Bz HE (AE (Aa BA (AB 0) (wC (D.int 0))) AV)))))) (As (wC (D.bl s_))) Ay)
 (Af (BC (Br (Ab (GK "tuple" (Aa BA (AB 1) (wC (D.int 1)))))) (As (wC (D.bl s_))) Ay)
 (As (Aa (Ku s_) (Bz HE (AE (Aa BA (AB 1) (wC (D.int 1))) AV)) (Bz HE (AE (Bz B2 (AE (Ba [P3 1,q_] (BL (Aa BA (AB 0) (wC (D.int 1)))) (Al 1) (Ab (Aa (IS s_) (AB 1) (Aa BA (AB 0) (wC (D.int 1))))) (AB 1)) AV)) AV))))))
def FY:AZ:=(Af (BC (CF (Br (Ab (GK "tuple" (AB 1)))) (CF (Ab (Aa Ox (Bz B6 (AE (AB 1) AV)) (wC (D.int 2)))) (Ab (Aa (IS s_) (wC (D.bl s_)) (Ba [q_] (BL (AB 1)) (Al 0) C4 (GK "str" (AB 0))))))) (As (wC D.non)) Ay)
 (Af (A5 2 (Bz Vv (AE (Ba [q_] (BL (AB 0)) (Al 0) C4 (BO (AE (Ye M8 (AB 0) DN (Ig (wC (D.int 2)))) (AE (Aa BA (AB 0) (wC (D.int 2))) AV)))) AV)))
 (Af (A5 3 (wC (D.int 0)))
 (Af (Gv (Le (AE (wC (D.int 1)) (AE (Bz B6 (AE (AB 1) AV)) AV))) (Al 4) (Af (A5 5 (BO (AE (Bz Vr (AE (Aa BA (AB 1) (Aa Et (AB 4) (wC (D.int 1)))) (AE (Aa BA (AB 1) (AB 4)) AV))) (AE (Bz Vs (AE (Aa BA (AB 1) (Aa Et (AB 4) (wC (D.int 1)))) (AE (Aa BA (AB 1) (AB 4)) AV))) AV))))
 (Af (BC (Ab (Aa (aL r_) (AB 5) (AB 2))) (As (wC D.non)) Ay)
 (A5 3 (Aa BB (AB 3) (Aa Ow (AB 2) (AB 5)))))))
 (As (AB 3))))))
def Ci:AZ:=(Af (A5 4 (Ad Gp (AC (AH (Ba [P3 2,q_] (BL (Aa BA (AB 0) (wC (D.int 1)))) (Al 1) (Ab (Aa (IS r_) (AB 1) (AB 0))) (AB 1))) Ae)))
 (Af (BC (CF (Br (Ab (GK "tuple" (AB 3)))) (Ab (Aa (Ku r_) (Bz B6 (AE (AB 3) AV)) (Bz B6 (AE (AB 4) AV))))) (As (wC (D.bl s_))) Ay)
 (Af (Gv (ZM (AE (AB 4) (AE (AB 3) AV))) (IZ 2 (A_ (Al 5) (A_ (Al 6) EC))) (Af (A5 7 (Ad Hj (AC (AH (AB 2)) (AC (AH (AB 6)) Ae))))
 (BC (CF (Ab (Aa (JQ s_) (AB 7) (wC D.non))) (CF (Ab (Aa Xw (BO (AE (Aa BA (AB 6) (wC (D.int 0))) (AE (Aa BA (AB 6) (Wn (wC (D.int 1)))) AV))) (Ye M8 (AB 5) DN (Ig (wC (D.int 2)))))) (Ab (Aa (f2 λi j=>D.bl (decide (j<i))) (Aa DX (AB 7) (Aa BA (AB 1) (wC (D.int 1)))) (Aa DX (Aa BA (AB 5) (wC (D.int 2))) (Aa BA (AB 1) (wC (D.int 0)))))))) (As (wC (D.bl s_))) Ay)))
 (As (wC (D.bl r_))))))
def ED:AZ:=(Af (A5 2 (Ad Fj (AC (BG 0) (AC (AH (AB 1)) Ae))))
 (Af (Jr 3 (Di AV))
 (Af (Gv (Js (AE (AB 1) AV)) (Al 4) (Wm 3 "list" Vu (AE (Ba [P3 2,P3 4,q_] (Le (AE (Aa BB (AB 4) (wC (D.int 1))) (AE (AB 1) AV))) (Al 2) C4 (BO (AE (Aa BA (AB 0) (AB 1)) (AE (Aa BA (AB 0) (AB 2)) AV)))) AV)))
 (Wo 3 (As (BO (AE (AB 2) (AE (AB 3) AV))))))))
def Cs:AZ:=(Af (Wp (Ad C3 (AC (BG 0) (AC (AH (wC (D.int 5))) Ae))) (IZ 2 (A_ (Al 1) (A_ (Al 2) EC))))
 (Af (A5 3 (Ad Ct (AC (BG 0) (AC (AH (wC (D.int 4))) Ae))))
 (As (BO (AE (AB 1) (AE (Bz B2 (AE (Ba [P3 0,P3 3,q_] (BL (AB 2)) (Al 2) C4 (Aa BB (AB 2) (BO (AE (Ad ML (AC (BG 0) (AC (AH (AB 1)) Ae))) AV)))) AV)) AV))))))
def Ex:AZ:=(Af (BC (CF (Br (Ab (GK "tuple" (AB 2)))) (CF (Ab (Aa (Ku r_) (Bz B6 (AE (AB 2) AV)) (wC (D.int 3)))) (Br (Ab (Ad En (AC (AH (AB 0)) (AC (AH (Aa BA (AB 2) (wC (D.int 0)))) Ae))))))) (As (wC (D.bl s_))) Ay)
 (Af (A5 3 (Bz M9 (AE (Aa BA (Aa BA (AB 2) (wC (D.int 0))) (wC (D.int 1))) AV)))
 (Af (BC (CF (Br (Ab (Ad F5 (AC (AH (AB 0)) (AC (AH (AB 1)) (AC (AH (AB 3)) (AC (AH (Aa BA (AB 2) (wC (D.int 1)))) Ae))))))) (Br (Ab (Ad EM (AC (AH (AB 0)) (AC (AH (AB 1)) (AC (AH (AB 3)) Ae))))))) (As (wC (D.bl s_))) Ay)
 (Af (BC (Br (Ab (Ad Hg (AC (AH (AB 0)) (AC (AH (AB 1)) (AC (AH (Bz B6 (AE (AB 3) AV))) (AC (AH (Aa BA (AB 2) (wC (D.int 2)))) Ae))))))) (As (wC (D.bl s_))) Ay)
 (Af (BC (Ab (Aa cQ (AB 3) (Di AV))) (As (wC (D.bl r_))) Ay)
 (As (Aa (IS r_) (wC (D.bl r_)) (Ba [P3 0,P3 1,q_] (BL (Ad Eo (AC (AH (Bz M9 (AE (Aa BA (AB 0) (wC (D.int 1))) AV))) (AC (AH (Aa Et (Bz B6 (AE (AB 3) AV)) (wC (D.int 1)))) Ae)))) (Al 2) C4 (Ad EM (AC (AH (AB 0)) (AC (AH (AB 1)) (AC (AH (AB 2)) Ae))))))))))))
def ME:AZ:=(Af (A5 2 (Di (AE (Ad PY (AC (BG 1) (AC (AH (wC (D.int 5))) (AC (AH (wC (D.int 7))) Ae)))) (AE (Ad PY (AC (BG 1) (AC (AH (wC (D.int 4))) (AC (AH (wC (D.int 8))) Ae)))) AV))))
 (Af (BC (Ab (Aa (Ku s_) (Ad Ct (AC (BG 1) (AC (AH (wC (D.int 16))) Ae))) (wC (D.int 0)))) (A5 2 (Di (AE (Ad Hf (AC (BG 1) Ae)) AV))) Ay)
 (Af (Gv (BL (AB 2)) (Al 3) (Af (A5 4 (Ad DL (AC (BG 1) Ae)))
 (Af (A5 5 (Bz HE (AE (AB 3) AV)))
 (BC (CF (Br (Ab (Ad Fi (AC (AH (AB 3)) (AC (AH (AB 4)) (AC (AH (Ad Fk (AC (AH (AB 3)) (AC (AH (AB 4)) Ae)))) Ae)))))) (Ab (Aa (Ku r_) (Bz HE (AE (AB 3) AV)) (AB 5)))) (As (wC (D.bl s_))) Ay))))
 (Af (Wp (Ad C3 (AC (BG 1) (AC (AH (wC (D.int 6))) Ae))) (IZ 2 (A_ (Al 6) (A_ (Al 7) EC))))
 (Af (A5 8 (Aa BB (wC (D.int 11)) (Ad Ct (AC (BG 1) (AC (AH (wC (D.int 5))) Ae)))))
 (Af (A5 9 (Bz B2 (AE (Ba [P3 7,q_] (Js (AE (AB 8) AV)) (Al 1) C4 (Aa BB (Aa BA (AB 0) (AB 1)) (BO (AE (Aa BB (wC (D.int 1)) (Aa (We (λ_ j=>0<j) λi j=>D.int (i % j)) (AB 1) (wC (D.int 4)))) AV)))) AV)))
 (As (Ad LB (AC (AH (BO (AE (AB 6) (AE (AB 9) AV)))) (AC (AH (Ad DL (AC (BG 1) Ae))) Ae))))))))))
theorem Jw{N:Net}(ok:N.Ok){r:t_ Au}(h:thn N r):N.ts.filter (λt=>decide (t∈r))=r:=by
 refine GN ((mX ((Bt ok.trise).filter _) (Bt h.2)).mpr λx=>?_) (Ei (ok.trise.filter _)) (Ei h.2);rw[iG,decide_eq_true_eq];exact⟨λz=>z.2,λz=>⟨h.1 x z,z⟩⟩
theorem Lo:∀(c:t_ Au),SQ (c.map λu=>D.tup [.tup [.str u.a,.str u.b],.int u.len])=P3 (c.map λu=>([.inr u.a,.inr u.b]:t_ Key),c.map λu=>D.int u.len)
 |[]=>rfl
 |u::c=>by
  rw[f9];unfold SQ;rw[Lo c];rfl
theorem N4{a:t_ D}(h:∀d∈a,item d)(c:a.length<=100):Gz (.tup a):=by
 have e:=MS λd b=>jg (h d b).2.1;have f:=dps_le.mpr λd b=>(h d b).2.2;exact Qt (by decide) (fines_iff.mpr λd b=>(h d b).1) (by show JT a+1<=100; omega) (by show Pa a<=200000; omega)
theorem J0{M:Net}(a:okN M):Gz (.tup (M.ps.map .str))/\Gz (.tup (M.ts.map Ak)):=⟨N4 (Mz a.1) (by rw[Go]; have:=a.2.1; omega),N4 (FL a.1) (by rw[Go]; have:=a.2.2; omega)⟩
theorem Ih:2<=sizeLine:=by decide
theorem Sy(b:t_ D):CG (.lst (b.map λ_=>.bl r_)):=by
 refine Gc (B:=1) (by decide) (fines_iff.mpr λd a=>by obtain⟨_,_,rfl⟩:=Uf.mp a; exact trivial) ?_
 have:JT (b.map λ_=>D.bl r_)<=0:=dps_le.mpr λd a=>by obtain⟨_,_,rfl⟩:=Uf.mp a; exact Re _
 show JT _+1<=100;omega
section
variable {ss:t_ Slot}{n:Nat}{Pd:D->Nat->Prop}
theorem Ma(h:En ss n Pd):DZ (EE Pd) n (ss++UF 0 .no):=by
 obtain⟨N,r,rfl,b,k,p⟩:=h;have ok:=b.1;have a:=k.okN b;have o:=b.2.2;have w:=UV a;unfold DZ;have f:Gz (.tup (N.ps.map .str)):=(J0 a).1;have g:Gz (.tup (r.map Ak)):=(J0 a).2;refine⟨_,_,rfl,rfl,_,AK (j:=0) rfl,_,rfl,f,_,AK (j:=0) rfl,_,rfl,f,Cp (λc=>absurd c (by simp)) λ_=>?_⟩;refine⟨_,AK (j:=1) rfl,_,AK (j:=1) rfl,_,rfl,g,_,AK (j:=1) rfl,by show(N.ts.map Ak).length<=10000000; rw[Go]; omega,?_⟩;refine D8 (λd=>(r.map Ak).any λy=>Fz y d) id (λl=>∃s,l=[.sh (Bw ⟨N.ps,r⟩),s]) _ _ _ _ ?_ ⟨_,rfl⟩ ?_
 ·rintro d q l m z A ⟨s,rfl⟩ u v
  obtain⟨t,i,rfl⟩:=Uf.mp q;refine⟨_,AK (j:=1) rfl,DV ok i,(Cf a.1 (λx h=>h)).1,_,rfl,?_⟩;exact Cp (λc=>u _ ⟨_,rfl⟩ c) λc=>v _ ⟨_,rfl⟩ (io.mpr c)
 ·rw[gL,lA]
  have e:(N.ts.map Ak).filter (λd=>(r.map Ak).any λy=>Fz y d)=r.map Ak:=by
   rw[lr];refine congrArg (List.map Ak) (Eq.trans (ku λt _=>?_) (Jw ok k));exact De
  rw[e];refine⟨_,rfl,g,?_⟩;show Pd (.bl (Pm _==Pm _)) n;rw[beq_self_eq_true];exact p
theorem SG(h:Hj ss n Pd):FY (EE Pd) n (ss++UF 4 .no):=by
 obtain⟨M,w,l,rfl,o,k,w2,wk,Q,p⟩:=h;have ok:=o.1;have R:=o.2.2;unfold FY;refine⟨_,_,rfl,rfl,Cp (λc=>absurd (of_decide_eq_true c) (by rw[Go]; omega)) λ_=>⟨by show(w.map D.str).length<=10000000; rw[Go]; omega,?_⟩⟩;refine BK (λ_=>.bl r_) (λq=>∃s,q=[s]) _ _ _ _ ?_ ⟨_,rfl⟩ ?_
 ·rintro d v q m nx ⟨s,rfl⟩ i
  obtain⟨x,J,rfl⟩:=Uf.mp v;exact i _ ⟨_,rfl⟩
 rw[gL];refine⟨⟨rfl,rfl,by decide⟩,Sy _,_,rfl,?_⟩;show if(((w.map D.str).map λ_=>D.bl r_).any λy=>Fz y (.bl s_))=r_ then _ else _
 rw[mY.mpr λy S=>by obtain⟨_,_,rfl⟩:=Uf.mp S; decide];refine CH ⟨by show(M.ts.map Ak).length<=10000000; rw[Go]; omega,?_⟩;refine BK (λd=>match d with|.tup [.str a,.str b,.int l]=>.tup [.tup [.str a,.str b],.int l]|_=>.non) (λq=>∃s,q=[s]) _ _ _ _ ?_ ⟨_,rfl⟩ ?_
 ·rintro d v q m nx ⟨s,rfl⟩ i
  obtain⟨u,B,rfl⟩:=Uf.mp v;exact⟨_,AK (j:=2) rfl,Ih,i _ ⟨_,rfl⟩⟩
 rw[gL,gh]
 have T:(M.ts.map λu=>([.inr u.a,.inr u.b]:t_ Key)).Nodup:=by
  rw[List.nodup_iff_pairwise_ne,kr];refine List.Pairwise.imp_of_mem (λ{s t} hs ht C e=>?_) ok.trise;have K:=List.cons.inj e;have E:s.a=t.a:=iR K.1;have U:s.b=t.b:=iR (List.cons.inj K.2).1
  rcases C with z|⟨_,z⟩
  ·rw[E]at z; exact B5 _ z
  ·rw[U]at z; exact B5 _ z
 refine⟨_,_,_,rfl,Lo M.ts,T,?_⟩;refine⟨_,_,rfl,rfl,1,_,rfl,⟨by decide,by decide,by omega,by rw[Go]; omega⟩,?_⟩;rw[Go]
 have V:∀(r f:t_ Str) (x:Str) (d g:Int) (F G:Slot),f++x::r=w->walk M (x::r) d->g+d=l->
   CI (Al 4) (Af (A5 5 (BO (AE (Bz Vr (AE (Aa BA (AB 1) (Aa Et (AB 4) (wC (D.int 1)))) (AE (Aa BA (AB 1) (AB 4)) AV))) (AE (Bz Vs (AE (Aa BA (AB 1) (Aa Et (AB 4) (wC (D.int 1)))) (AE (Aa BA (AB 1) (AB 4)) AV))) AV))))
 (Af (BC (Ab (Aa (aL r_) (AB 5) (AB 2))) (As (wC D.non)) Ay)
 (A5 3 (Aa BB (AB 3) (Aa Ow (AB 2) (AB 5)))))) {EE Pd with nx:=As (AB 3) (EE Pd)} (CZ ((f.length:Int)+1) r.length) n [.sh (E4 M.ts),.sh (Nd w),.sh (.dit (M.ts.map λu=>([.inr u.a,.inr u.b]:t_ Key)) (M.ts.map λu=>D.int u.len)),.sh (.int g),F,G]:=by
  intro r
  induction r with
  |nil=>
   intro f x d g F G _ k e;have v:d=0:=k;rw[v,Int.add_zero]at e;subst e;exact p
  | cons y r W=>
   intro f x d g F G H k e;obtain⟨l1,E,X,I,rfl⟩:=k;rw[eq,N7];have Y:(w.map D.str)[f.length]?=P3 (.str x):=by rw[←H,T0,iT (Re _),kQ]; rfl
   have Z:(w.map D.str)[f.length+1]?=P3 (.str y):=by rw[←H,T0,iT (by omega),Nat.add_sub_cancel_left]; rfl
   have L:atI (w.map D.str) ((f.length:Int)+1 - 1)=P3 (.str x):=by rw[Int.add_sub_cancel]; exact AK Y
   have N:atI (w.map D.str) ((f.length:Int)+1)=P3 (.str y):=AK (j:=f.length+1) Z;obtain⟨u,B,rfl,J⟩:=X.tie ok;have lt:cs u.a<cs u.b:=(ok.tin u B).2.2.1;have A:¬cs u.b<cs u.a:=λz=>B5 _ (oA z lt);have O:=Xi ok B
   have P:(if decide (cs y<cs x)=r_ then y else x)=u.a/\(if decide (cs x<cs y)=r_ then y else x)=u.b:=by
    rcases J with⟨rfl,rfl⟩|⟨rfl,rfl⟩
    ·rw[decide_eq_false A,decide_eq_true lt]; exact⟨rfl,rfl⟩
    ·rw[decide_eq_false A,decide_eq_true lt]; exact⟨rfl,rfl⟩
   refine⟨_,L,_,N,x,y,rfl,_,L,_,N,x,y,rfl,Ih,?_⟩;have k1:(if decide (y.cps.toList<x.cps.toList)=r_ then y else x)=u.a:=P.1;have k2:(if decide (x.cps.toList<y.cps.toList)=r_ then y else x)=u.b:=P.2;rw[k1,k2];refine⟨_,_,[.inr u.a,.inr u.b],rfl,rfl,?_⟩;show if(!(CV _ _ _).isSome)=r_ then _ else _
   rw[O];refine CH ⟨_,_,_,_,rfl,rfl,O,?_⟩
   have:=W (f++[x]) y E (g+u.len) (.sh (.int ((f.length:Int)+1))) (.sh (.tup [.str u.a,.str u.b])) (by rw[gv]; exact H) I (by omega)
   rw[fw,gC]at this;exact this
 cases w with
 |nil=>exact k.elim
 |cons x r=>
  rw[show(((x::r).length:Int) - 1).toNat=r.length by rw[eq]; omega];exact V r [] x l 0 _ _ rfl k (iM _)
end
section
variable {ss:t_ Slot}{n:Nat}{Pd:D->Nat->Prop}
theorem N9(h:F5 ss n Pd):Ci (EE Pd) n (ss++UF 4 .no):=by
 obtain⟨N,r,t,b,K,rfl,f,R,⟨b1,S,t1,T⟩,U,p⟩:=h;have ok:=f.1;have A:=R.okN f;have C:=f.2.2;have V:=f.2.1;unfold Ci;refine⟨_,AK (j:=1) rfl,by show(N.ts.map Ak).length<=10000000; rw[Go]; omega,?_⟩;refine D8 (λd=>!((r.map Ak).any λy=>Fz y d)) id (λL=>∃s,L=[.sh (E4 r),s]) _ _ _ _ ?_ ⟨_,rfl⟩ ?_
 ·rintro d W L m nx sk ⟨s,rfl⟩ X Y
  obtain⟨u,l,rfl⟩:=Uf.mp W;refine⟨DV ok l,(Cf A.1 (λx h=>h)).2,_,rfl,?_⟩;exact Cp (λc=>X _ ⟨_,rfl⟩ c) λc=>Y _ ⟨_,rfl⟩ (io.mpr c)
 rw[gL,lA]
 have e:(N.ts.map Ak).filter (λd=>!((r.map Ak).any λy=>Fz y d))=(Kl N r).map Ak:=by
  rw[lr]
  congr 1
  refine ku λu _=>?_;show(!((r.map Ak).any λy=>Fz y (Ak u)))=decide (¬u∈r);rw[De,decide_not]
 rw[e];have ll:(Kl N r).length<=60:=gO (jT _ _) C;refine⟨_,Kl N r,rfl,rfl,by omega,λE M Z=>?_⟩;have B:=U E M Z;refine⟨_,_,rfl,rfl,_,_,rfl,rfl,Cp (λc=>absurd c (by rw[Go,Go,B.len]; simp)) λ_=>?_⟩;refine⟨_,_,_,_,rfl,rfl,rfl,?_⟩
 have go:∀(o:t_ Au) (g:t_ (t_ Str)) (F G H:Slot),(∀u∈o,u∈N.ts)->PapOkK N.ps.length ⟨N.ps,r⟩ t b o g->
   CI (IZ 2 (A_ (Al 5) (A_ (Al 6) EC))) (Af (A5 7 (Ad Hj (AC (AH (AB 2)) (AC (AH (AB 6)) Ae))))
 (BC (CF (Ab (Aa (JQ s_) (AB 7) (wC D.non))) (CF (Ab (Aa Xw (BO (AE (Aa BA (AB 6) (wC (D.int 0))) (AE (Aa BA (AB 6) (Wn (wC (D.int 1)))) AV))) (Ye M8 (AB 5) DN (Ig (wC (D.int 2)))))) (Ab (Aa (f2 λi j=>D.bl (decide (j<i))) (Aa DX (AB 7) (Aa BA (AB 1) (wC (D.int 1)))) (Aa DX (Aa BA (AB 5) (wC (D.int 2))) (Aa BA (AB 1) (wC (D.int 0)))))))) (As (wC (D.bl s_))) Ay)) {EE Pd with nx:=As (wC (D.bl r_)) (EE Pd)} (Ho (o.map Ak) (g.map Nd)) n [.sh (Bw N),.sh (CW t b),.sh (E4 r),.sh (.tup (K.map Nd)),.sh (.lst (E.map Ak)),F,G,H]:=by
  intro o
  induction o with
  |nil=>
   intro g F G H _ h;cases g with
   |nil=>exact p
   |cons _ _=>exact h.elim
  | cons u o ih=>
   intro g F G H l h;cases g with
   |nil=>exact h.elim
   | cons w g=>
    obtain⟨⟨d,⟨⟨q,rfl⟩,O,hw,hk,I⟩,a0⟩,hr⟩:=h;have J:=l u Sc;obtain⟨m1,m2,lt,_⟩:=ok.tin u J;have ne:u.a≠u.b:=λz=>by rw[z]at lt; exact B5 _ lt
    have w2:2<=(u.a::q).length:=by
     cases q with
     |nil=>exact absurd (ft O) ne
     |cons _ _=>rw[eq,eq]; omega
    refine⟨rfl,rfl,⟨N.ps,r⟩,u.a::q,d,rfl,A,hw,w2,by omega,I,⟨rfl,?_⟩⟩
    have P:CG (.tup [.str u.a,.str u.b]):=IL (ps:=[u.a,u.b]) λx Q=>by
     simp only[fi,gI,or_false]at Q
     rcases Q with rfl|rfl
     ·exact ok.names _ m1
     ·exact ok.names _ m2
    refine⟨_,AK (j:=0) rfl,1,rfl,_,Xl O,Ih,P,P,?_⟩;rw[show Fz (.tup [.str u.a,.str u.b]) (.tup (Dp.cutD [.str u.a,.str u.b,.int u.len] q_ (P3 2)))=r_ from by show((u.a==u.a)&&((u.b==u.b)&&r_))=r_; rw[beq_self_eq_true,beq_self_eq_true]; rfl];refine CH ⟨_,AK (j:=1) rfl,cW (by omega) S,_,AK (j:=2) rfl,_,AK (j:=0) rfl,cW (by omega) T,?_⟩;show if(decide (u.len*t<d*b))=r_ then _ else _
    rw[decide_eq_false (by omega)];exact CH (ih g _ _ _ (λv hv=>l v (Rs _ hv)) hr)
 exact go E K _ _ _ (λu l=>(iG.mp (M.mem_iff.mp l)).1) B
theorem Pw(h:Fi ss n Pd):Ex (EE Pd) n (ss++UF 1 .no):=by
 obtain⟨N,t,b,d,rfl,f,k,l,I,⟨r,J,c,rfl,o,K,C,M,E,O⟩,p⟩:=h;have ok:=f.1;have s:=o.okN f;have P:0<=b:=by have:=l.1; omega
 have u:r.Sublist N.ts:=by rw[←Jw ok o]; exact kH
 obtain⟨X,Y⟩:=E.dep;have Q:=E.shows ok P I C (nc _);have Z:2 ^ (N.ts.length+1)<=2 ^ 11:=Nat.pow_le_pow_right (by decide) (by omega);unfold Ex;refine⟨_,_,rfl,rfl,_,AK (j:=0) rfl,N,r,rfl,f,o,?_⟩;refine⟨_,AK (j:=0) rfl,_,AK (j:=1) rfl,?_⟩;refine⟨_,AK (j:=1) rfl,N,r,t,b,J,rfl,f,o,l,M,?_⟩;refine⟨N,t,b,r,rfl,f,l,u,λz w=>?_⟩;cases w.mpr K;refine⟨_,_,rfl,rfl,_,AK (j:=2) rfl,N,t,b,r.length,c,by rw[Go],f,l,O,by omega,by omega,?_⟩;rw[Q];refine⟨fo _,(Cf s.1 (λx h=>h)).2,⟨rfl,rfl,by decide⟩,?_⟩;cases r with
 |nil=>exact p
 | cons v i=>
  refine⟨_,AK (j:=1) rfl,_,_,rfl,rfl,N.ts,i.length,?_,k,by have:=u.length_le; rw[eq]at this; omega,?_⟩
  ·rw[Go,eq,show(((i.length+1:Nat):Int) - 1)=(i.length:Int) by omega]
  refine⟨by rw[Go]; have:=J_ k (show i.length<=10 by have:=u.length_le; rw[eq]at this; omega); omega,?_⟩
  have R:∀(L:t_ (t_ Au)) (a:t_ D) (A:Slot),(∀S∈L,S.Sublist N.ts/\S.length=i.length)->(∀x∈a,x=.bl s_)->
    GD (Al 2) C4 (Ad EM (AC (AH (AB 0)) (AC (AH (AB 1)) (AC (AH (AB 2)) Ae)))) (λa T=>CG (.bl r_)/\CG (.lst a)/\∃F,G0 (.lst a)=P3 F/\Pd (.bl (!(F.any λy=>Fz y (.bl r_)))) T) (L.map E4) a n [.sh (Bw N),.sh (CW t b),A]:=by
   intro L
   induction L with
   | nil=>
    intro a A _ m;refine⟨⟨rfl,rfl,by decide⟩,?_,a,rfl,?_⟩
    ·refine Gc (B:=1) (by decide) (fines_iff.mpr λx g=>by rw[m x g]; exact trivial) ?_
     have:JT a<=0:=dps_le.mpr λx g=>by rw[m x g]; exact Re _
     show JT _+1<=100;omega
    ·rw[mY.mpr λx g=>by rw[m x g]; decide]
     exact p
   | cons S L U=>
    intro a A G m;obtain⟨q,V⟩:=G S Sc;refine⟨N,t,b,S,rfl,f,l,q,λz w=>?_⟩;have W:z=s_:=io.mpr λe=>by have:=C S q (w.mp e); rw[V,eq]at this; omega
    subst W
    exact U (a++[.bl s_]) _ (λx g=>G x (Rs _ g)) λx g=>by
     rcases gA.mp g with g|g
     ·exact m x g
     ·exact TM.mp g
  have H:=R ((rows N.ts.length i.length).map (pick N.ts 0)) [] .no (λS q=>rows_all.mp q) nofun
  rw[gh]at H;exact H
end
theorem L3:∀m k:Fin 7,(BV m.1 k.1).length<=15:=by decide +kernel
theorem Vi:∀m:Fin 7,∀p∈BV m.1 m.1,p.1<p.2/\p.2<m.1:=by decide +kernel
theorem Vg:∀m:Fin 7,(BV m.1 m.1).Pairwise λp q=>p.1<q.1\/p.1=q.1/\p.2<q.2:=by decide +kernel
theorem Vh(m k:Nat):BV m (k+1)=BV m k++(gF (m - (k+1))).map λc=>(k,k+1+c):=by
 unfold BV;rw[List.range_succ,List.flatMap_append,List.flatMap_singleton]
abbrev Ep(a:t_ Str)(p:Nat×Nat)(l:Int):Au:=⟨a.getD p.1 "",a.getD p.2 "",l⟩
theorem ID{a:t_ Str}(c:rising a){i j:Nat}(h:i<j)(b:j<a.length):cs (a.getD i "")<cs (a.getD j ""):=by
 have:=ja.mp c i j (by omega) b h
 rw[fq,fq,FM _,FM b];exact this
theorem Oa{a:t_ Str}{i:Nat}(h:i<a.length):a.getD i ""∈a:=by
 simp_all
theorem Jn{e:t_ Str}:∀{L:t_ (Nat×Nat)}{d:t_ Int}{t:Au},t∈gn (Ep e) L d->∃p l,p∈L/\l∈d/\t=Ep e p l
 | p::L,l::d,t,h=>by
  rcases fi.mp h with rfl|h
  ·exact⟨p,l,Sc,Sc,rfl⟩
  ·obtain⟨q,f,a,b,c⟩:=Jn h
   exact⟨q,f,Rs _ a,Rs _ b,c⟩
 |[],_,t,h=>by simp_all
 |_::_,[],t,h=>by simp_all
theorem Yz{e:t_ Str}(s:∀x∈e,Vb x)(h:rising e)(A:e.length<=6){L:t_ (Nat×Nat)}{g:t_ Int}(i:L.Sublist (BV e.length e.length))(r:∀l∈g,1<=l/\l<=1000000):okN ⟨e,gn (Ep e) L g⟩:=by
 have f:∀p∈L,p.1<p.2/\p.2<e.length:=λp k=>Vi ⟨e.length,by omega⟩ p (i.subset k);have m:=(Vg ⟨e.length,by omega⟩).sublist i;refine⟨⟨s,h,λt n=>?_,?_⟩,by show e.length<=25; omega,?_⟩
 ·obtain⟨p,l,k,o,rfl⟩:=Jn n
  obtain⟨a,b⟩:=f p k;exact⟨Oa (show p.1<e.length by omega),Oa b,ID h a b,r l o⟩
 ·show(gn (Ep e) L g).Pairwise Bo
  clear i
  induction L generalizing g with
  |nil=>rw[ni]; exact .nil
  | cons p L u=>
   cases g with
   |nil=>rw[List.zipWith_nil_right]; exact .nil
   |cons l g=>
    rw[nS,gq];rw[gq]at m;refine⟨λt n=>?_,u (λx v=>r x (Rs _ v)) (λq j=>f q (Rs _ j)) m.2⟩;obtain⟨q,B,j,_,rfl⟩:=Jn n;obtain⟨a,b⟩:=f q (Rs _ j);obtain⟨c,d⟩:=f p Sc
    rcases m.1 q j with z|⟨w,y⟩
    ·exact .inl (ID h z (by omega))
    ·exact .inr ⟨by show e.getD p.1 ""=e.getD q.1 ""; rw[w],ID h y b⟩
 ·show(gn (Ep e) L g).length<=60
  have:=i.length_le
  have:=L3 ⟨e.length,by omega⟩ ⟨e.length,by omega⟩
  rw[kG];simp only at this;omega
section
variable {ss:t_ Slot}{n:Nat}{Pd:D->Nat->Prop}
theorem OD(h:C3 ss n Pd):ED (EE Pd) n (ss++UF 3 .no):=by
 obtain⟨m,rfl,B,C,q,p⟩:=h;unfold ED;refine⟨m,rfl,by omega,by omega,λb r t u=>⟨fo _,_,rfl,⟨by omega,by omega⟩,?_⟩⟩;rw[gz]
 have v:∀(k a:Nat) (j:Slot),a+k=m->CI (Al 4) (Wm 3 "list" Vu (AE (Ba [P3 2,P3 4,q_] (Le (AE (Aa BB (AB 4) (wC (D.int 1))) (AE (AB 1) AV))) (Al 2) C4 (BO (AE (Aa BA (AB 0) (AB 1)) (AE (Aa BA (AB 0) (AB 2)) AV)))) AV)) {EE Pd with nx:=Wo 3 (As (BO (AE (AB 2) (AE (AB 3) AV)))) (EE Pd)} (CZ (a:Int) k) (n - 2) [.fd,.sh (.int (m:Int)),.sh (.tup (b.map .str)),.ow (.lst (((BV m a).map λp=>(b.getD p.1 "",b.getD p.2 "")).map pairD)),j]:=by
  intro k
  induction k with
  |zero=>
   intro a j e;have e:a=m:=by omega
   subst e;exact⟨_,rfl,Ih,p b (n - 2) r t u (by omega)⟩
  | succ k w=>
   intro a j e;rw[N7];refine⟨_,rfl,rfl,_,_,rfl,⟨by omega,by omega,by omega,by omega⟩,by rw[CY]; omega,?_⟩;refine BK (λd=>match d with|.int i=>pairD (b.getD a "",b.getD i.toNat "")|_=>.non) (λl=>∃s,l=[.sh (.tup (b.map .str)),.sh (.int (a:Int)),s]) _ _ _ _ ?_ ⟨_,rfl⟩ ?_
   ·rintro d x l E nx ⟨s,rfl⟩ f
    obtain⟨c,F,rfl⟩:=G3 x;have y:((a:Int)+1+(c:Int))=((a+1+c:Nat):Int):=by omega
    rw[y]at f ⊢;have g:∀{i:Nat},i<b.length->(b.map D.str)[i]?=P3 (.str (b.getD i "")):=λ{i} o=>by rw[T0,FM o,fq,FM o]; rfl
    exact⟨_,AK (g (by omega)),_,AK (g (by omega)),Ih,f _ ⟨_,rfl⟩⟩
   ·rw[gL]
    have z:(((BV m a).map λp=>(b.getD p.1 "",b.getD p.2 "")).map pairD).length<=15:=by rw[Go,Go]; exact L3 ⟨m,by omega⟩ ⟨a,by omega⟩
    refine⟨_,_,rfl,rfl,by simp only[Go,CY,gc]at z ⊢; omega,?_⟩
    have:=w (a+1) (.sh (.int (a:Int))) (by omega)
    rw[Vh,gR,gR]at this
    have A:(CZ ((a:Int)+1) ((m:Int) - ((a:Int)+1)).toNat).map (λd=>match d with|.int i=>pairD (b.getD a "",b.getD i.toNat "")|_=>.non)=(((gF (m - (a+1))).map λc=>(a,a+1+c)).map λp=>(b.getD p.1 "",b.getD p.2 "")).map pairD:=by
     unfold CZ;rw[gh,gh,gh,show((m:Int) - ((a:Int)+1)).toNat=m - (a+1) by omega];refine h_ λc _=>?_;show pairD (b.getD a "",b.getD ((a:Int)+1+(c:Int)).toNat "")=pairD (b.getD a "",b.getD (a+1+c) "");rw[show((a:Int)+1+(c:Int)).toNat=a+1+c by omega]
    rw[A];exact this
 exact v m 0 _ (Nat.zero_add _)
theorem Pt(h:Hf ss n Pd):Cs (EE Pd) n (ss++UF 3 .no):=by
 obtain⟨rfl,o,p⟩:=h;unfold Cs;refine⟨5,rfl,by decide,by decide,by omega,λd j r t u E=>⟨rfl,rfl,4,rfl,by decide,by decide,by omega,λs v F=>?_⟩⟩;refine⟨by show((Fq d 5).map pairD).length<=10000000; rw[Go]; unfold Fq; rw[Go]; decide,?_⟩
 have w:∀(L:t_ (Nat×Nat)) (a:t_ D) (m:Nat) (e:Slot) (P:t_ D->Nat->Prop),L.length<=m->L.length+a.length<=100->(∀(b:t_ Int) (c:Nat),b.length=L.length->(∀l∈b,1<=l/\l<=1000000)->m - L.length<=c->P (a++(gn (Ep d) L b).map Ak) c)->
   GD (Al 2) C4 (Aa BB (AB 2) (BO (AE (Ad ML (AC (BG 0) (AC (AH (AB 1)) Ae))) AV))) P ((L.map λp=>(d.getD p.1 "",d.getD p.2 "")).map pairD) a m [.fd,.sh (.int s),e]:=by
  intro L
  induction L with
  |nil=>intro a m e P _ _ h; have:=h [] m rfl nofun (by omega); rw[ni,lm,gk]at this; exact this
  |cons q L y=>
   intro a m e P z A h;rw[eq]at z A;refine⟨s,rfl,v,by omega,by omega,λl B C=>⟨z1,by show 2+1<=sizeLine; decide,?_⟩⟩;refine y (a++[_]) (m - 1) _ P (by omega) (by rw[fw,gC]; omega) λb c k f g=>?_
   have:=h (l::b) c (by rw[eq,eq,k]) (λx i=>by rcases fi.mp i with rfl|i; exact⟨B,C⟩; exact f x i) (by rw[eq]; omega)
   rw[nS,f9]at this;rw[gv];exact this
 refine w (BV 5 5) [] (j - 1) _ _ (by show 10<=_; omega) (by decide) λb c k f g=>?_;have g:j - 1 - 10<=c:=g;rw[gL];refine⟨Ih,?_⟩;have ok:okN ⟨d,gn (Ep d) (BV 5 5) b⟩:=Yz t u (by omega) (by rw[r]; exact oK _) f;exact p _ c ok (by show(gn _ _ _).length<=10; rw[kG]; show min 10 _<=10; omega) (by omega)
end
abbrev eU:E2:={nx:=λ_ _=>False,rt:=λd _=>d=.bl r_}
def Vy:AZ:=(Af (Wp (Ad C3 (AC (BG 1) (AC (AH (wC (D.int 6))) Ae))) (IZ 2 (A_ (Al 6) (A_ (Al 7) EC))))
 (Af (A5 8 (Aa BB (wC (D.int 11)) (Ad Ct (AC (BG 1) (AC (AH (wC (D.int 5))) Ae)))))
 (Af (A5 9 (Bz B2 (AE (Ba [P3 7,q_] (Js (AE (AB 8) AV)) (Al 1) C4 (Aa BB (Aa BA (AB 0) (AB 1)) (BO (AE (Aa BB (wC (D.int 1)) (Aa (We (λ_ j=>0<j) λi j=>D.int (i % j)) (AB 1) (wC (D.int 4)))) AV)))) AV)))
 (As (Ad LB (AC (AH (BO (AE (AB 6) (AE (AB 9) AV)))) (AC (AH (Ad DL (AC (BG 1) Ae))) Ae)))))))
theorem Uj{m:Nat}(E:100<=m){n o p q:Slot}:Vy eU m [.no,.fd,n,o,p,q,.no,.no,.no,.no]:=by
 unfold Vy;refine⟨6,rfl,by decide,by decide,by omega,λa F u v w G=>⟨rfl,rfl,5,rfl,by decide,by decide,by omega,λr x H=>?_⟩⟩;refine⟨_,rfl,⟨by omega,by omega⟩,by rw[CY]; omega,?_⟩;obtain⟨k,rfl⟩:=Int.eq_ofNat_of_zero_le x;have I:k<5:=by omega
 have f:((11:Int)+(k:Int)).toNat=11+k:=by omega
 rw[f];have y:(BV 6 6).length=15:=by decide
 refine BK (λd=>match d with|.int i=>Ak (Ep a ((BV 6 6).getD i.toNat (0,0)) (1+i % 4))|_=>.non) (λh=>∃s,h=[.sh (.lst ((Fq a 6).map pairD)),s]) _ _ _ _ ?_ ⟨_,rfl⟩ ?_
 ·rintro d z h J K ⟨s,rfl⟩ e
  obtain⟨c,L,rfl⟩:=G3 z;have A:(0:Int)+(c:Int)=(c:Int):=iM _;rw[A]at e ⊢
  have g:((Fq a 6).map pairD)[c]?=P3 (pairD (a.getD ((BV 6 6).getD c (0,0)).1 "",a.getD ((BV 6 6).getD c (0,0)).2 "")):=by
   unfold Fq;have B:(BV 6 6).getD c (0,0)=(BV 6 6)[c]'(by omega):=by rw[fq,FM (show c<(BV 6 6).length by omega)]; rfl
   rw[B,T0,T0,FM (show c<(BV 6 6).length by omega)];rfl
  exact⟨_,AK g,(by show(0:Int)<4; decide),z1,by show 2+1<=sizeLine; decide,e _ ⟨_,rfl⟩⟩
 rw[gL];refine⟨Ih,rfl,by omega,λt b M N O=>?_⟩
 have C:(CZ 0 (11+k)).map (λd=>match d with|.int i=>Ak (Ep a ((BV 6 6).getD i.toNat (0,0)) (1+i % 4))|_=>.non)=(gn (Ep a) ((BV 6 6).take (11+k)) ((gF (11+k)).map fun(i:Nat)=>1+(i:Int) % 4)).map Ak:=by
  refine ko λi=>?_;unfold CZ;rw[gh,T0,T0,lP,T0]
  by_cases j:i<11+k
  ·rw[List.getElem?_range j,mq j,FM (show i<(BV 6 6).length by omega)]
   show P3 (Ak (Ep a ((BV 6 6).getD (0+(i:Int)).toNat (0,0)) (1+(0+(i:Int)) % 4)))=_;rw[iM,gz,fq,FM (show i<(BV 6 6).length by omega)];rfl
  ·rw[iz (show(gF (11+k)).length<=i by rw[ip]; omega)]
   cases((BV 6 6).take (11+k))[i]? <;>rfl
 rw[C];refine⟨⟨a,gn (Ep a) ((BV 6 6).take (11+k)) ((gF (11+k)).map fun(i:Nat)=>1+(i:Int) % 4)⟩,t,b,rfl,Yz v w (by omega) (by rw[u]; exact kg _ _) (λl D=>?_),?_,rfl⟩
 ·obtain⟨i,_,rfl⟩:=Uf.mp D
  omega
 ·show 10<(gn _ _ _).length
  rw[kG,jK,Go,ip];omega
theorem IE{L:t_ Net}(k:∀N∈L,okN N/\N.ts.length<=10):∀(a:t_ Net) (m:Nat) (g h i:Slot),(∀N∈a,N∈L)->100+a.length<=m->
  CI (Al 3) (Af (A5 4 (Ad DL (AC (BG 1) Ae)))
 (Af (A5 5 (Bz HE (AE (AB 3) AV)))
 (BC (CF (Br (Ab (Ad Fi (AC (AH (AB 3)) (AC (AH (AB 4)) (AC (AH (Ad Fk (AC (AH (AB 3)) (AC (AH (AB 4)) Ae)))) Ae)))))) (Ab (Aa (Ku r_) (Bz HE (AE (AB 3) AV)) (AB 5)))) (As (wC (D.bl s_))) Ay))) {eU with nx:=Vy eU} (a.map Bw) m [.no,.fd,.sh (.lst (L.map Bw)),g,h,i,.no,.no,.no,.no]
 |[],m,g,h,i,_,j=>Uj (by rw[iL]at j; omega)
 |N::a,m,g,h,i,l,j=>by
  obtain⟨e,f⟩:=k N (l N Sc);rw[eq]at j;have sh:=UY e;refine⟨rfl,by omega,λt b q n r=>?_⟩;have o:Hw t b:=⟨q,by omega,by omega,r⟩;refine⟨_,rfl,sh,N,t,b,rfl,e,o,n,f,λd s=>⟨N,t,b,d,rfl,e,f,o,n,s,?_⟩⟩;refine⟨_,rfl,sh,Cp (λc=>absurd c (by simp)) λ_=>?_⟩;exact IE k a (m - 1) _ _ _ (λx u=>l x (Rs _ u)) (by omega)
theorem Py:ME {nx:=λ_ _=>False,rt:=λd _=>d=.bl r_} 3000 (.no::.fd::UF 8 .no):=by
 unfold ME;refine⟨5,7,rfl,by decide,by decide,by decide,λg k b l m n=>⟨4,8,rfl,by decide,by decide,by omega,λi o c p q s=>⟨Ih,16,rfl,by decide,by decide,by omega,λr t u=>?_⟩⟩⟩;refine Cp (λ_=>?_) λ_=>?_
 ·refine⟨rfl,by omega,λN j e f v=>⟨z1,?_⟩⟩
  exact IE (L:=[N]) (λM a=>by rw[TM.mp a]; exact⟨e,f⟩) [N] j _ _ _ (λ_ h=>h) (by show 100+1<=j; omega)
 ·refine IE (L:=[g,i]) (λM a=>?_) [g,i] _ _ _ _ (λ_ h=>h) (by show 100+2<=_; omega)
  simp only[fi,gI,or_false]at a
  rcases a with rfl|rfl
  ·exact⟨⟨b,by omega,by omega⟩,by omega⟩
  ·exact⟨⟨c,by omega,by omega⟩,by omega⟩
def F7:WX:=λa n _ c=>∃(N:Net) (t b:Int),a=[.sh (Bw N),.sh (CW t b)]/\okN N/\10<N.ts.length/\c "TooMany" [] [] n
def CS(a:PX):AZ:=(Af (BC (Ab (Aa (f2 λi j=>D.bl (decide (j<i))) (Bz B6 (AE (Aa BA (AB 0) (wC (D.int 1))) AV)) (wC (D.int 10)))) (λb=>(T8 "TooMany" [] (AE (wC (D.str "a least thin net is told of at most ten ties")) AV)) b a) Ay) MQ)
def DY:AZ:=(Af (A5 2 (wC D.non))
 (Af (bJ (UA (UD F7 (AC (AH (AB 0)) (AC (AH (AB 1)) Ae))))
 (T_ "ThinError" 4 (λa=>(Pf 2 4))
 T9))
 (Af (A5 3 (T3 2 ["NoLine","NoPaper","NoPlace","NoRow","NoTie","Twice"]))
 (As (UH (ZN 2 "TooMany") (UH (bK (AB 3)) (T4 2)))))))
section
variable {ss:t_ Slot}{n:Nat}{Pd:D->Nat->Prop}{Pr:PX}
theorem OA(h:F7 ss n Pd Pr):CS Pr (EE Pd) n (ss++UF 1 .no):=by
 obtain⟨N,t,b,rfl,a,c,p⟩:=h;unfold CS;refine⟨_,AK (j:=1) rfl,_,_,rfl,rfl,?_⟩;rw[Go];show if(decide ((10:Int)<(N.ts.length:Int)))=r_ then _ else _
 rw[decide_eq_true (by omega)];exact Ef (.inl ⟨rfl,by show 1<=100; decide,p⟩)
theorem Uh(h:LB ss n Pd):DY (EE Pd) n (ss++UF 3 .no):=by
 obtain⟨N,t,b,rfl,d,e,p⟩:=h;unfold DY;refine⟨N,t,b,rfl,d,e,?_⟩;refine Cp (λ_ a=>?_) λc=>absurd (.inr rfl) c;exact p
end
end Nt
namespace K60
open L2 Dp Nt
section
variable (P:Program)(w:World)(K:Frag)(mg:Str->u_ Value)(base:Heap)
abbrev MH:Prop:=Got P w K mg base "rank_of" 1 ["tie"] .sh MK
abbrev K8:Prop:=Got P w K mg base "order_of" 4 ["ties"] .fr Gp
abbrev Gm:Prop:=Got P w K mg base "steps_of" 1 ["net"] .sh NV
abbrev Qi:Prop:=Got P w K mg base "only" 1 ["net","ties"] .sh LC
abbrev Ic:Prop:=Got P w K mg base "without" 2 ["net","ties"] .sh F6
abbrev K9:Prop:=Got P w K mg base "left_out" 5 ["net","thin"] .fr Rq
abbrev Iw:Prop:=Got P w K mg base "length_of" 2 ["net","thing"] .sh Ya
abbrev HU:Prop:=Got P w K mg base "nearest_of" 1 ["waiting","found"] .sh Rp
abbrev Em:Prop:=Got P w K mg base "least_ways" 2 ["net","start"] .fr LD
abbrev PV:Prop:=Got P w K mg base "way_of" 3 ["net","a","b"] .sh YZ
abbrev GH:Prop:=Got P w K mg base "prices_from" 3 ["net","place","most"] .sh NW
abbrev Iy:Prop:=Got P w K mg base "is_within" 1 ["length","times","number"] .sh Jj
abbrev Fc:Prop:=Got P w K mg base "least_beyond" 1 ["times","number"] .sh F8
abbrev Gn:Prop:=Got P w K mg base "near_way" 4 ["net","times","tie"] .sh Gq
abbrev El:Prop:=Got P w K mg base "ways_paper" 6 ["net","times","thin"] .sh He
abbrev Iz:Prop:=Got P w K mg base "fewest_of" 17 ["net","times","thin","ties"] .sh (LF 10)
abbrev MI:Prop:=Got P w K mg base "lost_of" 5 ["left","times","out"] .sh Jl
abbrev MJ:Prop:=Got P w K mg base "case_of" 16 ["net","times","many","kept","out"] .sh (Hk 10)
abbrev HV:Prop:=Got P w K mg base "least_thin" 18 ["net","times"] .sh Fk
abbrev Bb:Prop:=Got P w K mg base "_law_next" 1 ["_law_feed_here","_law_many"] .sh Ct
abbrev Hc:Prop:=Got P w K mg base "_law_names" 1 [] .sh Jk
abbrev Dv:Prop:=Got P w K mg base "_law_places" 2 ["_law_feed_here","_law_many"] .sh Fj
abbrev Dw:Prop:=Got P w K mg base "_law_length" 2 ["_law_feed_here","_law_sort"] .sh ML
abbrev I_:Prop:=Got P w K mg base "_law_ties" 3 ["_law_feed_here","_law_places_here","_law_most"] .sh NU
abbrev K_:Prop:=Got P w K mg base "_law_net" 4 ["_law_feed_here","_law_most","_law_ties_here"] .sh PY
abbrev HW:Prop:=Got P w K mg base "_law_times" 2 ["_law_feed_here"] .sh DL
abbrev LA:Prop:=Got P w K mg base "_law_far" 1 ["_law_places_here","_law_ties_here"] .sh WY
abbrev Hd:Prop:=Got P w K mg base "_law_keeps" 2 ["_law_net_here","_law_times_here","_law_some"] .sh EM
abbrev JA:Prop:=Got P w K mg base "_law_rank" 1 ["_law_tie"] .sh MK
abbrev Hb:Prop:=Got P w K mg base "_law_order" 4 ["_law_ties_here"] .fr Gp
abbrev Fh:Prop:=Got P w K mg base "_law_choices" 1 ["_law_ties_here","_law_many"] .fr Eo
abbrev Fg:Prop:=Got P w K mg base "_law_is_thin" 1 ["_law_net_here","_law_thing"] .sh En
abbrev JB:Prop:=Got P w K mg base "_law_long" 1 ["_law_ties_here","_law_thing"] .sh Hj
abbrev Df:Prop:=Got P w K mg base "_law_ways_right" 5 ["_law_net_here","_law_times_here","_law_some","_law_thing"] .sh F5
abbrev Dy:Prop:=Got P w K mg base "_law_is_tie" 1 ["_law_net_here","_law_thing"] .sh EL
abbrev GI:Prop:=Got P w K mg base "_law_is_far" 2 ["_law_world","_law_gone","_law_tie","_law_prices"] .sh Jm
abbrev HY:Prop:=Got P w K mg base "_law_shows" 14 ["_law_world","_law_kept","_law_gone","_law_thing","_law_deep"] .sh (EK 11)
abbrev EJ:Prop:=Got P w K mg base "_law_read_case" 15 ["_law_net_here","_law_times_here","_law_many","_law_thing"] .sh Hg
abbrev Dx:Prop:=Got P w K mg base "_law_joined" 3 ["_law_feed_here","_law_many"] .sh C3
abbrev EH:Prop:=Got P w K mg base "_law_whole_net" 4 ["_law_feed_here"] .sh Hf
abbrev HZ:Prop:=Got P w K mg base "_law_right" 16 ["_law_net_here","_law_times_here","_law_found"] .sh Fi
abbrev Fe:Prop:=Got P w K mg base "_law_refused" 19 ["_law_net_here","_law_times_here"] .sh LB
abbrev GJ:Prop:=a9 P w K mg base "least_thin" 18 ["net","times"] .sh F7
end
section
variable {P:Program}{w:World}{K:Frag}{mg:Str->u_ Value}{base:Heap}
local macro_rules|`(tactic|walk_at "l")=>`(tactic|(intro _ _ _ _ h; repeat (first|(obtain⟨e,_⟩:=h; subst e; rfl)|(obtain⟨_,h⟩:=h))))
variable {f:Addr}{fd:FuncData}
theorem Pp:Ac ["tie"] ["tie"] (AN H_):=by walk_at "s"
theorem QC(T:Txt K mg)(F:Fu K "rank_of" H_ f fd):A3 P w K mg base B1 1 f fd ["tie"] (Ck K .sh MK 1):=
 E3 F Pp (λa=>(AJ (AW (A1 (AD (AX AQ Am (dv 0) AF) (AD (AX AQ Am (dv 0) AF) (AD (AX AQ Am (dv 0) AF) AU))))))) KA
theorem N5:Ac ["ties"] ["ties"] (AN GQ):=by walk_at "s"
theorem OQ(T:Txt K mg)(a:MH P w K mg base)(F:Fu K "order_of" GQ f fd):A3 P w K mg base B1 4 f fd ["ties"] (Ck K .fr Gp 1):=
 E3 F N5 (λb=>(AJ (AW (O3 a (b.mono (by decide)) rfl T.Gaf rfl (dv 0))))) Ii
theorem oO:Ac ["net","steps","place","a","b","length"] ["net"] (AN GP):=⟨rfl,rfl,rfl,by decide +kernel,rfl,by decide +kernel,by decide +kernel⟩
theorem OP{f:Db}{fd:gZ}(F:Fun K "steps_of" "steps_of" GP f fd):A3 P w K mg base B1 1 f fd ["net"] (Ck K .sh NV 1):=by
 refine F.ok (k:=0) oO (λvs H Q E h=>h.1) (λc8 A b3 s H vs Q E hr h=>?_);obtain⟨hl,F0,U,V',M,n,ss,Pd,ra,⟨N,rfl,ok,lp,lt,p⟩,q⟩:=h;obtain⟨b4,fU,uV,vM,b5,pa⟩:=ra;cases pa with
 |cons r1 pa=>
 cases pa;obtain⟨v,e1,h1⟩:=r1.1;cases e1;obtain⟨an,vs,rfl,hn,v1,r,rfl,hp,v2,r2,rfl,ht,e2⟩:=h1;cases(show r2=[]from e2);obtain⟨ap,us,rfl,b6,a5⟩:=hp;obtain⟨a3,ws,rfl,b7,a6⟩:=ht;have nd:=oO.nd;have hu:=GG hr;have c9:=PySem.sizeLine_eq;have a7:us.length=N.ps.length:=by rw[a5.length,Go]
 have a8:ws.length=N.ts.length:=by rw[a6.length,Go]
 refine⟨_,Az (DA (i:=1) nd rfl (XV rfl) ON)
  (Az (FF gM rfl (U8 (BS ix_tup (pv 0) A0 (λ_ _=>rfl))) (Bv (i:=2) nd rfl (XV rfl)) (BQ (Fo hu (pv 1) (pv 2) ON rfl)))
  (Az (FF gM rfl (U8 (BS ix_tup (pv 0) A0 (λ_ _=>rfl))) (P9 rfl (DB (Bv (i:=3) nd rfl (XV rfl)) (DB (Bv (i:=4) nd rfl (XV rfl)) (DB (Bv (i:=5) nd rfl (XV rfl)) Mg))))
   (Az (Fo hu (Fp hu (pv 1) (pv 3) (λ_ _=>rfl)) (pv 4) (pv 5) rfl) (BQ (Fo hu (Fp hu (pv 1) (pv 4) (λ_ _=>rfl)) (pv 3) (pv 5) rfl))))
  (BQ (FE (Zr (pv 1)))))),?_⟩
 refine λd hd=>?_;have D:∀b o,H b=P3 o->A2 H d (.dK []) b=P3 o:=λb o e=>by rw[AM (Ao e hd)]; exact e
 have a9:∀c:Hp,(∀b o,H b=P3 o->c b=P3 o)->SqT K c an [.ref ap,.ref a3]:=λc o=>SqT.of (o _ _ hn);have b0:∀c:Hp,(∀b o,H b=P3 o->c b=P3 o)->SqT K c ap us:=λc o=>SqT.of (o _ _ b6);have b1:∀c:Hp,(∀b o,H b=P3 o->c b=P3 o)->SqT K c a3 ws:=λc o=>SqT.of (o _ _ b7);refine⟨_,rfl,an,_,0,_,rfl,rfl,a9 _ D,rfl,ap,rfl,⟨_,b0 _ D⟩,?_⟩;refine M6 (xs:=us) (λi Z c=>∃(u:t_ (Str×Db)) (L O R S:u_ V),Z=[P3 (.ref an),P3 (.ref d),L,O,R,S]/\u.map (·.1)=N.ps.take i/\Stp H d u (λ_=>[]) c) ?_ (λi Z c T ⟨u,L,O,R,S,e,J,j⟩=>b0 _ j.old) ?_ ?_
 ·exact⟨[],_,_,_,_,rfl,rfl,D,hd,AR,(λx G=>by cases G),gW,gW⟩
 ·rintro i x Z c G ⟨u,L,O,R,S,rfl,J,j⟩
  have T:i<N.ps.length:=by rw[←a7]; exact(ZB.mp G).1
  obtain⟨x',I,W⟩:=a5.get (i:=i) (d:=.str N.ps[i]) (by rw[T0,FM T]; rfl);rw[G]at I;cases I;obtain⟨rfl,_⟩:=W;intro q hq;have d0:u.length<=i:=by have:=congrArg kz J; rw[Go,jK]at this; omega
  have nq:d≠q:=λe=>by rw[←e,j.top]at hq; cases hq
  have c7:(u.map λx=>((.inr x.1:Key),V.ref x.2)).length=u.length:=Go ..;refine⟨_,rfl,_,rfl,d,_,rfl,DPut.k (k:=.inr N.ps[i]) (by rw[AM nq]; exact j.top) (by omega),?_⟩;refine⟨u++[(N.ps[i],q)],_,_,_,_,rfl,?_,j.more hq ?_ rfl⟩
  ·rw[gR,J,nj,FM T]; rfl
  ·rw[J]; exact QF (EZ ok.rise) T
 ·rintro Z c ⟨u,L,O,R,S,rfl,J,j⟩
  rw[a7,lI]at J;refine⟨_,rfl,an,_,1,_,rfl,rfl,a9 _ j.old,rfl,a3,rfl,⟨_,b1 _ j.old⟩,?_⟩;refine M6 (xs:=ws) (λi Z c=>∃(L O R S:u_ V),Z=[P3 (.ref an),P3 (.ref d),L,O,R,S]/\Stp H d u (λp=>(D6 (N.ts.take i) p).map kv) c) ⟨_,_,_,_,rfl,j⟩ (λi Z c T ⟨L,O,R,S,e,j⟩=>b1 _ j.old) ?_ ?_
  ·rintro i x Z c G ⟨L,O,R,S,rfl,j⟩
   have T:i<N.ts.length:=by rw[←a8]; exact(ZB.mp G).1
   obtain⟨x',I,W⟩:=a6.get (i:=i) (d:=Ak N.ts[i]) (by rw[T0,FM T]; rfl);rw[G]at I;cases I;have a0:N.ts[i]∈N.ts:=iA T;have l:N.ts.take (i+1)=N.ts.take i++[N.ts[i]]:=by rw[nj,FM T]; rfl
   have a1:(N.ts.take (i+1)).Pairwise Bo:=ok.trise.sublist (kg _ _);have a2:∀s∈N.ts.take (i+1),cs s.a<cs s.b:=λs hs=>(ok.tin s (lg hs)).2.2.1;rw[l]at a1 a2;have B:=Vx a1 a2;have b8:(N.ts.take i).length<=1000:=by rw[jK]; omega
   generalize N.ts[i]=t at W a0 l B;generalize N.ts.take i=ts at l B j b8;obtain⟨m1,m2,m3,_⟩:=ok.tin t a0;have X:t.a≠t.b:=λe=>by rw[e]at m3; exact ii _ m3
   obtain⟨y,m,tl⟩:=t;obtain⟨tt,d1,rfl,b9,c0⟩:=W;obtain⟨va,r3,rfl,⟨rfl,_⟩,vb,r4,rfl,⟨rfl,_⟩,vl,r5,rfl,rfl,e5⟩:=c0;cases(show r5=[]from e5);rw[←J]at m1 m2;obtain⟨⟨xa,pa⟩,ha,ea⟩:=Uf.mp m1;obtain⟨⟨xb,pb⟩,hb,eb⟩:=Uf.mp m2;have c1:y=xa:=ea.symm;have c2:m=xb:=eb.symm;subst c1 c2;clear ea eb;replace X:y≠m:=X;replace B:m∉(D6 ts y).map (·.1)/\y∉(D6 ts m).map (·.1):=B;have ga:=DGet.k (k:=.inr y) j.top;rw[JV j.nms ha]at ga;have l1:=RD ts y;refine⟨tt,_,rfl,SqT.of (j.old _ _ b9),rfl,_,_,rfl,_,_,rfl,_,_,rfl,rfl,?_⟩;refine⟨_,rfl,_,rfl,_,rfl,d,_,rfl,ga,_,rfl,pa,_,rfl,DPut.k (k:=.inr m) (j.inn _ ha).2.2 (by show((D6 ts y).map kv).length<sizeLine; rw[Go]; omega),?_⟩;have Y:=j.put (tb2:=λp=>(D6 ts p++if y=p then [(m,tl)]else []).map kv) ha (kvs:=putK ((D6 ts y).map kv) (.inr m) (.int tl)) (by rw[Q0 B.1,if_pos rfl]) (λq hq=>by rw[if_neg (gP hq),gk]);have gb:=DGet.k (k:=.inr m) Y.top;rw[JV Y.nms hb]at gb;have l2:=RD ts m;have ib:=(Y.inn _ hb).2.2;simp only[if_neg X,gk]at ib;refine⟨_,rfl,_,rfl,_,rfl,d,_,rfl,gb,_,rfl,pb,_,rfl,DPut.k (k:=.inr y) ib (by rw[Go]; omega),?_⟩;refine⟨_,_,_,_,rfl,Y.put hb ?_ λq hq=>?_⟩
   ·show(D6 (N.ts.take (i+1)) m).map kv=_
    rw[l,OW,Q0 B.2];show((D6 ts m++((if y=m then [(m,tl)]else [])++if m=m then [(y,tl)]else [])).map kv)=_;rw[if_neg X,if_pos rfl]; rfl
   ·show(D6 (N.ts.take (i+1)) q).map kv=_
    rw[l,OW];show((D6 ts q++((if y=q then [(m,tl)]else [])++if m=q then [(y,tl)]else [])).map kv)=_;rw[if_neg (gP hq),gk]
  ·rintro Z c ⟨L,O,R,S,rfl,j⟩
   rw[a8,lI]at j
   have C:∀(f:Db->Obj) b o,H b=P3 o->Gd c (u.map (·.2)) f b=P3 o:=λf b o e=>by
    rw[D9 (λJ=>by obtain⟨x,G,e2⟩:=Uf.mp J; have:=(j.inn x G).1; rw[e2,e]at this; cases this)];exact j.old b o e
   refine⟨_,rfl,(u.map fun(x:Str×Db)=>x.2),λb hb=>?_,λf=>q (.ref d) (Gd c (u.map fun(x:Str×Db)=>x.2) f) (E5 N) n (λb o e=>⟨o,C f b o e,λ_=>rfl,λ_ _=>rfl⟩) (λg hg=>?_) (show At K M (Gd c (u.map fun(x:Str×Db)=>x.2) f) (E5 N) (.ref d)from j.at_ b4 J f) p⟩
   ·obtain⟨x,G,rfl⟩:=Uf.mp hb
    exact⟨_,(j.inn x G).2.2⟩
   ·rcases b5 g hg with⟨tg,a,r,a4,hf,c3,hc,b2⟩|⟨c4,c5,c6,tg,r,hf,h2,h3,h4⟩
    ·exact .inl ⟨tg,a,r,a4,C f _ _ hf,c3,⟨hc.1,C f _ _ hc.2⟩,b2⟩
    ·exact .inr ⟨c4,c5,c6,tg,r,C f _ _ hf,h2,h3.pres ⟨λb o e _=>C f b o e,λ_ z=>.inl z,λb vs e=>C f b _ e⟩,h4⟩
theorem W8:Ac ["net","ties"] ["net","ties"] (AN Pq):=by walk_at "s"
theorem Xa(T:Txt K mg)(F:Fu K "only" Pq f fd):A3 P w K mg base B1 1 f fd ["net","ties"] (Ck K .sh LC 2):=
 E3 F W8 (λa=>(AJ (AW (A1 (AD (AX AQ Am (dv 0) AF) (AD (BY BJ Cj rfl T.Gad jv (AL (AY Qb YW rfl T.Gaf nR (AL (To 1) AT)) AT)) AU)))))) SE
theorem Po:Ac ["net","ties"] ["net","ties"] (AN Hz):=by walk_at "s"
theorem QB(T:Txt K mg)(c:Qi P w K mg base)(F:Fu K "without" Hz f fd):A3 P w K mg base B1 2 f fd ["net","ties"] (Ck K .sh F6 2):=
 E3 F Po (λb=>(AJ (AW (cg b c (AA (AO (dv 0)) (AA (Rc (NY [("ties":Str),("tie":Str)] [P3 1,q_] (Bg (AX AQ Am (dv 0) AF)) (Ah (i:=1) (show iE [("ties":Str),("tie":Str)] by decide +kernel) rfl (XV rfl)) (Jf (Ai (C1 b) Fb (dv 1) (dv 0) (by with_unfolding_all rfl))) (dv 1) (by kernel_rfl))) AS)))))) SA
theorem N6:Ac ["net","thin"] ["net","thin"] (AN GS):=by walk_at "s"
theorem OS(T:Txt K mg)(c:K8 P w K mg base)(F:Fu K "left_out" GS f fd):A3 P w K mg base B1 5 f fd ["net","thin"] (Ck K .fr Rq 2):=
 E3 F N6 (λb=>(AJ (AW (cg b c (AA (AO (NY [("thin":Str),("tie":Str)] [P3 1,q_] (Bg (AX AQ Am (dv 0) AF)) (Ah (i:=1) (show iE [("thin":Str),("tie":Str)] by decide +kernel) rfl (XV rfl)) (Jf (Ai (C1 b) Fb (dv 1) (AX AQ Am (dv 0) AF) (by with_unfolding_all rfl))) (dv 1) (by kernel_rfl))) AS))))) OB
theorem oR:Ac ["net","thing","steps","length","here","there"] ["net","thing"] (AN E6):=by walk_at "s"
theorem Ml(T:Txt K mg)(b:Gm P w K mg base)(F:Fu K "length_of" E6 f fd):A3 P w K mg base B1 2 f fd ["net","thing"] (Ck K .sh Ya 2):=
 E3 F oR (λa=>(AG (A8 (DTW.dt (Bp (BR (BP (CD kit_tuple (dv 1) rfl T.Gaa rfl T.Gad (by decide +kernel)))) (Bu (Ai G7 NS (AY Ap BU rfl T.Gab PySem.boot_len (AL (dv 1) AT)) AF (An _))))) (AJ (AW BZ)) Aj)
 (AG (A8 (BR (BP (AY (WQ rfl) cf rfl T.Gar PyProof.Rows.boot_all (AL (NY [("place":Str)] [q_] (Bg (dv 1)) (Ah (i:=0) (show iE [("place":Str)] by decide +kernel) rfl (XV rfl)) Be (CD RF (dv 0) rfl T.Gaa rfl T.Gaq (by decide +kernel)) (by kernel_rfl)) AT)))) (AJ (AW BZ)) Aj)
 (AG (Ag (i:=2) oR.nd rfl (XV rfl) (cg a b (AA (AO (dv 0)) AS)))
 (AG (A8 (Ai (D5 a) HS (AX AQ Am (dv 1) AF) (dv 2) (by with_unfolding_all rfl)) (AJ (AW BZ)) Aj)
 (AG (Ag (i:=3) oR.nd rfl (XV rfl) AF)
 (AG (CQ gM rfl (WC rfl T.Gal (AD (dv 1) (AD (L8 R7 MG (dv 1) (F2 AF) F3) AU))) (Gi rfl (BE (Ah (i:=4) oR.nd rfl (XV rfl)) (BE (Ah (i:=5) oR.nd rfl (XV rfl)) Eg))) (AG (A8 (Ai (D5 a) HS (dv 5) (Bx a (dv 2) (dv 4)) (by with_unfolding_all rfl)) (AJ (AW BZ)) Aj)
 (AJ (YD (i:=3) oR.nd rfl (XV rfl) (Bx a (Bx a (dv 2) (dv 4)) (dv 5))))))
 (AJ (AW (dv 3)))))))))) Mb
theorem LI:Ac ["waiting","found"] ["waiting","found"] (AN ER):=by walk_at "s"
theorem LQ(T:Txt K mg)(F:Fu K "nearest_of" ER f fd):A3 P w K mg base B1 1 f fd ["waiting","found"] (Ck K .sh Rp 2):=
 E3 F LI (λa=>(AJ (AW (AX AQ Am (AY (TU a) ak rfl T.Gah boot_min (AL (NY [("found":Str),("place":Str)] [P3 1,q_] (Bg (To 0)) (Ah (i:=1) (show iE [("found":Str),("place":Str)] by decide +kernel) rfl (XV rfl)) Be (A1 (AD (AX AQ Am (Bx a (To 0) (dv 1)) AF) (AD (dv 1) AU))) (by kernel_rfl)) AT)) AF)))) LK
theorem oU:Ac ["net","start","steps","found","waiting","place","other","step","length"] ["net","start"] (AN ES):=by walk_at "s"
theorem LR(T:Txt K mg)(d:HU P w K mg base)(e:Gm P w K mg base)(F:Fu K "least_ways" ES f fd):A3 P w K mg base B1 2 f fd ["net","start"] (Ck K .fr LD 2):=
 E3 F oU (λb=>(AG (Ag (i:=2) oU.nd rfl (XV rfl) (cg b e (AA (AO (dv 0)) AS)))
 (AG (F1 (i:=3) oU.nd rfl (XV rfl) (WK (dv 1) (A1 (AD AF (AD BZ AU)))))
 (AG (F1 (i:=4) oU.nd rfl (XV rfl) (BX (AD (dv 1) AU)))
 (AG (Oz gM (V4 (To 4)) (AG (Ag (i:=5) oU.nd rfl (XV rfl) (cg b d (AA (Rc (To 4)) (AA (Rc (To 3)) AS))))
 (AG (O0 4 PySem.F.plainAttrs_list PySem.F.slot_list_remove PySem.F.type_list_remove (Sl b) cY (pv 4) (AD (dv 5) AU))
 (AJ (CQ gM rfl (WD (Bx b (dv 2) (dv 5))) (Gi rfl (BE (Ah (i:=6) oU.nd rfl (XV rfl)) (BE (Ah (i:=7) oU.nd rfl (XV rfl)) Eg))) (AG (Ag (i:=8) oU.nd rfl (XV rfl) (Aw A7 BD (AX AQ Am (Bx b (To 3) (dv 5)) AF) (dv 7)))
 (AJ (A8 (Ai (D5 b) HS (dv 6) (To 3) (by with_unfolding_all rfl)) (AG (O0 4 PySem.F.plainAttrs_list PySem.F.slot_list_append PySem.F.type_list_append II ZC (pv 4) (AD (dv 6) AU))
 (AJ (RT (i:=3) b (pv 3) (dv 6) (A1 (AD (dv 8) (AD (dv 5) AU)))))) (AJ (A8 (Ai (KY b) PR (dv 8) (AX AQ Am (Bx b (To 3) (dv 6)) AF) (An _)) (AJ (RT (i:=3) b (pv 3) (dv 6) (A1 (AD (dv 8) (AD (dv 5) AU))))) Aj))))))))))
 (AJ (YC 3 (pv 3)))))))) LM
theorem oW:Ac ["net","a","b","found","way","place"] ["net","a","b"] (AN J8):=by walk_at "s"
theorem Se(T:Txt K mg)(b:Em P w K mg base)(F:Fu K "way_of" J8 f fd):A3 P w K mg base B1 3 f fd ["net","a","b"] (Ck K .sh YZ 3):=
 E3 F oW (λa=>(AG (Ag (i:=3) oW.nd rfl (XV rfl) (cg a b (AA (AO (dv 0)) (AA (AO (dv 1)) AS))))
 (AG (A8 (Ai (D5 a) HS (dv 2) (dv 3) (by with_unfolding_all rfl)) (AJ (AW BZ)) Aj)
 (AG (F1 (i:=4) oW.nd rfl (XV rfl) (BX AU))
 (AG (Ag (i:=5) oW.nd rfl (XV rfl) (dv 2))
 (AG (Oz gM (Ai Ja WU (dv 5) BZ (An _)) (AG (O0 4 PySem.F.plainAttrs_list PySem.F.slot_list_append PySem.F.type_list_append II ZC (pv 4) (AD (dv 5) AU))
 (AJ (Ag (i:=5) oW.nd rfl (XV rfl) (AX AQ Am (Bx a (dv 3) (dv 5)) AF)))))
 (AJ (AW (TD rfl (To 4) rfl T.Gad rfl T.Gak))))))))) SD
theorem oY:Ac ["net","place","most","found"] ["net","place","most"] (AN Dk):=by walk_at "s"
theorem Ka(T:Txt K mg)(d:Em P w K mg base)(F:Fu K "prices_from" Dk f fd):A3 P w K mg base B1 3 f fd ["net","place","most"] (Ck K .sh NW 3):=
 E3 F oY (λc=>(AG (Ag (i:=3) oY.nd rfl (gx rfl) (cg c d (AA (AO (dv 0)) (AA (AO (dv 1)) AS))))
 (AJ (AW (BY BJ Cj rfl T.Gad jv (AL (NY [("most":Str),("found":Str),("other":Str)] [P3 2,P3 3,q_] (Bg (AX AQ Am (dv 0) AF)) (Ah (i:=2) (show iE [("most":Str),("found":Str),("other":Str)] by decide +kernel) rfl (XV rfl)) Be (Ra (Ai (Zy c) ce (dv 2) (dv 1) (by with_unfolding_all rfl)) (AY (L_ rfl) WV rfl T.Gah boot_min (AL (dv 0) (AL (AX AQ Am (Bx c (dv 1) (dv 2)) AF) AT))) (dv 0)) (by kernel_rfl)) AT)))))) JI
theorem MX:Ac ["length","times","number"] ["length","times","number"] (AN E7):=by walk_at "s"
theorem Mm(T:Txt K mg)(F:Fu K "is_within" E7 f fd):A3 P w K mg base B1 1 f fd ["length","times","number"] (Ck K .sh Jj 3):=
 E3 F MX (λa=>(AJ (AW (FR Zw cZ (Aw CT Du (dv 0) (AX AQ Am (dv 1) AF)) (Aw CT Du (dv 2) (AX AQ Am (dv 1) AF)) (An _))))) Md
theorem JF:Ac ["times","number"] ["times","number"] (AN C5):=by walk_at "s"
theorem JL(T:Txt K mg)(F:Fu K "least_beyond" C5 f fd):A3 P w K mg base B1 1 f fd ["times","number"] (Ck K .sh F8 2):=
 E3 F JF (λa=>(AJ (AW (Aw A7 BD (Aw G6 Ek (Aw CT Du (dv 1) (AX AQ Am (dv 0) AF)) (AX AQ Am (dv 0) AF)) AF)))) OE
theorem oZ:Ac ["net","times","tie","way"] ["net","times","tie"] (AN GR):=by walk_at "s"
theorem OR(T:Txt K mg)(b:Iy P w K mg base)(c:Iw P w K mg base)(d:PV P w K mg base)(F:Fu K "near_way" GR f fd):A3 P w K mg base B1 4 f fd ["net","times","tie"] (Ck K .sh Gq 3):=
 E3 F oZ (λa=>(AG (Ag (i:=3) oZ.nd rfl (XV rfl) (cg a d (AA (AO (dv 0)) (AA (AO (AX AQ Am (dv 2) AF)) (AA (AO (AX AQ Am (dv 2) AF)) AS)))))
 (AG (A8 (DTW.dt (Bp (Ai IH PU (dv 3) BZ (An _)) (Bu (BR (BP (cg a b (AA (AO (cg a c (AA (AO (dv 0)) (AA (AO (dv 3)) AS)))) (AA (AO (dv 1)) (AA (AO (AX AQ Am (dv 2) AF)) AS))))))))) (AJ (AW BZ)) Aj)
 (AJ (AW (dv 3)))))) LL
theorem oi:Ac ["net","times","thin","ways"] ["net","times","thin"] (AN EQ):=by walk_at "s"
theorem LP(T:Txt K mg)(c:K9 P w K mg base)(d:Gn P w K mg base)(F:Fu K "ways_paper" EQ f fd):A3 P w K mg base B1 6 f fd ["net","times","thin"] (Ck K .sh He 3):=
 E3 F oi (λb=>(AG (YA (i:=3) oi.nd rfl (XV rfl) rfl [("thin":Str),("times":Str),("tie":Str)] [P3 2,P3 1,q_] (Bg (cg b c (AA (AO (dv 0)) (AA (AO (dv 2)) AS)))) (λ_ _ _ _ _=>(Ah (i:=2) (show iE [("thin":Str),("times":Str),("tie":Str)] by decide +kernel) rfl (XV rfl))) (λ_ _ _ _ _=>Be) (λ_ _ _ _ _=>(cg b d (AA (AO (dv 0)) (AA (AO (dv 1)) (AA (AO (dv 2)) AS))))) (by kernel_rfl))
 (AJ (AW (Ra (Ai (KZ b) Fb BZ (dv 3) (by with_unfolding_all rfl)) BZ (BY BJ Cj rfl T.Gad jv (AL (dv 3) AT))))))) JH
theorem on:Ac ["net","times","thin","ties","more","less","fewer"] ["net","times","thin","ties"] (AN E8):=by walk_at "s"
theorem Mn(T:Txt K mg)(d:El P w K mg base)(e:Ic P w K mg base)(F:Fu K "fewest_of" E8 f fd)(m:mg "fewest_of"=P3 (.ref f))(b:Binds K fd ["net","times","thin","ties"] []):A3 P w K mg base B1 17 f fd ["net","times","thin","ties"] (Ck K .sh (LF 10) 4):=
 RM 5 F on m b (λg c a=>(AG (A8 (BR (V4 (dv 3))) (AJ (AW (dv 2))) Aj)
 (AG (Ag (i:=4) on.nd rfl (XV rfl) (BF c (a.mono (Re _)) rfl (AA (AO (dv 0)) (AA (AO (dv 1)) (AA (AO (dv 2)) (AA (AO (L8 R7 MG (dv 3) (F2 AF) F3)) AS))))))
 (AG (Ag (i:=5) on.nd rfl (XV rfl) (BF e (a.mono (by omega)) rfl (AA (AO (dv 2)) (AA (AO (L8 R7 MG (dv 3) F3 (F2 AF))) AS))))
 (AG (A8 (Ai IH PU (BF d (a.mono (by omega)) rfl (AA (AO (dv 0)) (AA (AO (dv 1)) (AA (AO (dv 5)) AS)))) BZ (An _)) (AJ (AW (dv 4))) Aj)
 (AG (Ag (i:=6) on.nd rfl (XV rfl) (BF c (a.mono (Re _)) rfl (AA (AO (dv 0)) (AA (AO (dv 1)) (AA (AO (dv 5)) (AA (AO (L8 R7 MG (dv 3) (F2 AF) F3)) AS))))))
 (AJ (AW (Ra (Ai (KY a) PR (AY Ap BU rfl T.Gab PySem.boot_len (AL (AX AQ Am (dv 6) AF) AT)) (AY Ap BU rfl T.Gab PySem.boot_len (AL (AX AQ Am (dv 4) AF) AT)) (An _)) (dv 6) (dv 4)))))))))) Ui (by walk_at "l") (by decide) 10
theorem oy:Ac ["left","times","out","tie"] ["left","times","out"] (AN IA):=by walk_at "s"
theorem QD(T:Txt K mg)(a:Gn P w K mg base)(F:Fu K "lost_of" IA f fd):A3 P w K mg base B1 5 f fd ["left","times","out"] (Ck K .sh Jl 3):=
 E3 F oy (λb=>(AG (CQ gM rfl (IU (dv 2)) (Ah (i:=3) oy.nd rfl (XV rfl)) (AJ (A8 (Ai IH PU (cg b a (AA (AO (dv 0)) (AA (AO (dv 1)) (AA (AO (dv 3)) AS)))) BZ (An _)) (AJ (AW (dv 3))) Aj)))
 (AJ (AW BZ)))) SF
theorem oz:Ac ["net","times","many","kept","out","left","lost","tie","case_in","case_out"] ["net","times","many","kept","out"] (AN IB):=by walk_at "s"
theorem QE(T:Txt K mg)(e:Fc P w K mg base)(g:MI P w K mg base)(h:GH P w K mg base)(c:Ic P w K mg base)(F:Fu K "case_of" IB f fd)(m:mg "case_of"=P3 (.ref f))(b:Binds K fd ["net","times","many","kept","out"] []):A3 P w K mg base B1 16 f fd ["net","times","many","kept","out"] (Ck K .sh (Hk 10) 5):=
 RM 4 F oz m b (λj d a=>(AG (A8 (Ai VJ Y_ (AY Ap BU rfl T.Gab PySem.boot_len (AL (dv 3) AT)) (dv 2) (An _)) (AJ (AW (A1 (AD Ax AU)))) Aj)
 (AG (Ag (i:=5) oz.nd rfl (XV rfl) (BF c (a.mono (by omega)) rfl (AA (AO (dv 0)) (AA (AO (dv 4)) AS))))
 (AG (Ag (i:=6) oz.nd rfl (XV rfl) (BF g (a.mono (by omega)) rfl (AA (AO (dv 5)) (AA (AO (dv 1)) (AA (AO (dv 4)) AS)))))
 (AG (A8 (Ai Ja WU (dv 6) BZ (An _)) (AJ (AW (A1 (AD Ax (AD (dv 6) (AD (BF h (a.mono (by omega)) rfl (AA (AO (dv 5)) (AA (AO (AX AQ Am (dv 6) AF)) (AA (AO (BF e (a.mono (by omega)) rfl (AA (AO (dv 1)) (AA (AO (AX AQ Am (dv 6) AF)) AS)))) AS)))) AU)))))) Aj)
 (AG (Ag (i:=7) oz.nd rfl (XV rfl) (AX AQ Am (AX AQ Am (BF c (a.mono (by omega)) rfl (AA (AO (dv 5)) (AA (AO (dv 3)) AS))) AF) AF))
 (AG (Ag (i:=8) oz.nd rfl (XV rfl) (BF d (a.mono (Re _)) rfl (AA (AO (dv 0)) (AA (AO (dv 1)) (AA (AO (dv 2)) (AA (AO (Aw A7 BD (dv 3) (BX (AD (dv 7) AU)))) (AA (AO (dv 4)) AS)))))))
 (AG (Ag (i:=9) oz.nd rfl (XV rfl) (BF d (a.mono (Re _)) rfl (AA (AO (dv 0)) (AA (AO (dv 1)) (AA (AO (dv 2)) (AA (AO (dv 3)) (AA (AO (Aw A7 BD (dv 4) (BX (AD (dv 7) AU)))) AS)))))))
 (AJ (AW (A1 (AD Ax (AD (dv 7) (AD (dv 8) (AD (dv 9) AU))))))))))))))) SH (by walk_at "l") (by decide) 10
theorem o7:Ac ["net","times","thin"] ["net","times"] (AN Cu):=by walk_at "s"
theorem Kh(T:Txt K mg)(GX_TooMany:Rw K mg "TooMany")(F:Fu K "least_thin" Cu f fd):A3 P w K mg base (Wb P w) 18 f fd ["net","times"] (dB K .sh F7 2):=by
 obtain⟨_,a⟩:=T.Gac;exact fnX (wb:=λb=>CS b) F o7 (by decide) (λd A c s H E b i U M l e=>(S_ (aQ (Ai FI Iv (AY Ap BU rfl T.Gab PySem.boot_len (AL (AX AQ Am (dv 0) AF) AT)) (Rb rfl a) (An _)) (V8 (QR VE l (λ_ h=>h) (QP (k:=1) GX_TooMany (e.mono (by decide)) rfl (AD Ax AU)))) (X9 Aj)) QQ)) (λj n m b o g=>OA g)
theorem LS(T:Txt K mg)(c:MJ P w K mg base)(d:Iz P w K mg base)(e:Qi P w K mg base)(g:El P w K mg base)(F:Fu K "least_thin" Cu f fd):A3 P w K mg base B1 18 f fd ["net","times"] (Ck K .sh Fk 2):=by
 obtain⟨_,b⟩:=T.Gac;exact E3 F o7 (λa=>(AG (A8 (Ai FI Iv (AY Ap BU rfl T.Gab PySem.boot_len (AL (AX AQ Am (dv 0) AF) AT)) (Rb rfl b) (An _)) (AJ V_) Aj)
 (AG (Ag (i:=2) o7.nd rfl (XV rfl) (cg a d (AA (AO (dv 0)) (AA (AO (dv 1)) (AA (AO (cg a e (AA (AO (dv 0)) (AA (Rc (AX AQ Am (dv 0) AF)) AS)))) (AA (AO (AX AQ Am (dv 0) AF)) AS))))))
 (AJ (AW (A1 (AD (dv 2) (AD (cg a g (AA (AO (dv 0)) (AA (AO (dv 1)) (AA (AO (dv 2)) AS)))) (AD (cg a c (AA (AO (dv 0)) (AA (AO (dv 1)) (AA (AO (AY Ap BU rfl T.Gab PySem.boot_len (AL (AX AQ Am (dv 2) AF) AT))) (AA (AO (BX AU)) (AA (AO (BX AU)) AS)))))) AU))))))))) Px
theorem o8:Ac ["_law_names_here"] [] (AN EX):=by walk_at "s"
theorem LY(T:Txt K mg)(F:Fu K "_law_names" EX f fd):A3 P w K mg base B1 1 f fd [] (Ck K .sh Jk 0):=
 E3 F o8 (λa=>(AG (Ag (i:=0) o8.nd rfl (XV rfl) (BX (AD Ax (AD Ax (AD Ax (AD Ax (AD Ax (AD Ax (AD Ax (AD Ax (AD Ax (AD Ax (AD Ax (AD Ax (AD Ax (AD Ax (AD Ax (AD Ax (AD Ax AU)))))))))))))))))))
 (AJ (AW (Aw A7 BD (dv 0) (BX (AD Ax (AD Ax (AD Ax (AD Ax (AD Ax (AD Ax (AD Ax (AD Ax (AD Ax AU))))))))))))))) LN
theorem o9:Ac ["_law_feed_here","_law_many","_law_names_here","_law_at","_law_step"] ["_law_feed_here","_law_many"] (AN Dl):=by walk_at "s"
theorem Kb(T:Txt K mg)(o_:Hc P w K mg base)(b:Bb P w K mg base)(F:Fu K "_law_places" Dl f fd):A3 P w K mg base B1 2 f fd ["_law_feed_here","_law_many"] (Ck K .sh Fj 2):=
 E3 F o9 (λa=>(AG (Ag (i:=2) o9.nd rfl (gx rfl) (TJ o_ (a.mono (by decide)) rfl))
 (AG (Ag (i:=3) o9.nd rfl (gx rfl) (cg a b (AA (Bk 0) (AA (AO AF) AS))))
 (AG (Ag (i:=4) o9.nd rfl (gx rfl) (AX AQ Am (BX (AD AF (AD AF (AD AF (AD AF AU))))) (cg a b (AA (Bk 0) (AA (AO AF) AS)))))
 (AJ (AW (BY BJ Cj rfl T.Gad jv (AL (AY Qc YX rfl T.Gaf nR (AL (NY [("_law_names_here":Str),("_law_at":Str),("_law_step":Str),("_law_k":Str)] [P3 2,P3 3,P3 4,q_] (DI.c (EB rfl T.Gae (AL (dv 1) AT))) (Ah (i:=3) (show iE [("_law_names_here":Str),("_law_at":Str),("_law_step":Str),("_law_k":Str)] by decide +kernel) rfl (XV rfl)) Be (AX AQ Am (dv 0) (Aw DC Ek (Aw A7 BD (dv 1) (Aw CT Du (dv 2) (dv 3))) AF)) (by kernel_rfl)) AT)) AT)))))))) KG
theorem J5:Ac ["_law_feed_here","_law_sort"] ["_law_feed_here","_law_sort"] (AN Dn):=by walk_at "s"
theorem Kc(T:Txt K mg)(a:Bb P w K mg base)(F:Fu K "_law_length" Dn f fd):A3 P w K mg base B1 2 f fd ["_law_feed_here","_law_sort"] (Ck K .sh ML 2):=
 E3 F J5 (λb=>(AG (A8 (Ai G7 NS (dv 1) AF (An _)) (AJ (AW (Aw DU Fa (Aw P_ Ek AF AF) (cg b a (AA (Bk 0) (AA (AO AF) AS)))))) Aj)
 (AJ (AW (Aw A7 BD AF (cg b a (AA (Bk 0) (AA (AO (AX AQ Am (BX (AD AF (AD AF (AD AF AU)))) (dv 1))) AS)))))))) KH
theorem pB:Ac ["_law_feed_here","_law_places_here","_law_most","_law_found","_law_sort","_law_k","_law_a","_law_b"] ["_law_feed_here","_law_places_here","_law_most"] (AN E9):=by walk_at "s"
theorem Mo(T:Txt K mg)(c:Dw P w K mg base)(b:Bb P w K mg base)(F:Fu K "_law_ties" E9 f fd):A3 P w K mg base B1 3 f fd ["_law_feed_here","_law_places_here","_law_most"] (Ck K .sh NU 3):=
 E3 F pB (λa=>(AG (F1 (i:=3) pB.nd rfl (gx rfl) WJ)
 (AG (Ag (i:=4) pB.nd rfl (XV rfl) (cg a b (AA (Bk 0) (AA (AO AF) AS))))
 (AG (CQ gM rfl (EB rfl T.Gae (AL (cg a b (AA (Bk 0) (AA (AO (Aw A7 BD (dv 2) AF)) AS))) AT)) (Ah (i:=5) pB.nd rfl (XV rfl)) (AJ (A8 (Ai FI Iv (AY Ap BU rfl T.Gab PySem.boot_len (AL (dv 1) AT)) AF (An _)) (AG (Ag (i:=6) pB.nd rfl (XV rfl) (cg a b (AA (Bk 0) (AA (AO (AY Ap BU rfl T.Gab PySem.boot_len (AL (dv 1) AT))) AS))))
 (AG (Ag (i:=7) pB.nd rfl (XV rfl) (Aw DC Ek (Aw A7 BD (Aw A7 BD (dv 6) AF) (cg a b (AA (Bk 0) (AA (AO (Aw DU Fa (AY Ap BU rfl T.Gab PySem.boot_len (AL (dv 1) AT)) AF)) AS)))) (AY Ap BU rfl T.Gab PySem.boot_len (AL (dv 1) AT))))
 (AJ (X_ (i:=3) a (pv 3) (A1 (AD (AX AQ Am (dv 1) (AY (L_ rfl) WV rfl T.Gah boot_min (AL (dv 6) (AL (dv 7) AT)))) (AD (AX AQ Am (dv 1) (AY (TX rfl) am rfl T.Gap boot_max (AL (dv 6) (AL (dv 7) AT)))) AU))) (cg a c (AA (Bk 0) (AA (AO (AX AQ Am (BX (AD (dv 4) (AD (Aw DC Ek (dv 5) AF) AU))) (Aw G6 Ek (dv 4) AF))) AS))))))) Aj)))
 (AJ (AW (BY BJ Cj rfl T.Gad jv (AL (NY [("_law_found":Str),("_law_pair":Str)] [P3 3,q_] (Bg (AY (Qa rfl) YV rfl T.Gaf nR (AL (To 3) AT))) (Ah (i:=1) (show iE [("_law_found":Str),("_law_pair":Str)] by decide +kernel) rfl (XV rfl)) Be (Aw A7 BD (dv 1) (A1 (AD (RY a (To 0) (dv 1)) AU))) (by kernel_rfl)) AT)))))))) Mc
theorem pD:Ac ["_law_feed_here","_law_most","_law_ties_here","_law_places_here"] ["_law_feed_here","_law_most","_law_ties_here"] (AN GU):=by walk_at "s"
theorem OT(T:Txt K mg)(b:Bb P w K mg base)(c:Dv P w K mg base)(d:I_ P w K mg base)(F:Fu K "_law_net" GU f fd):A3 P w K mg base B1 4 f fd ["_law_feed_here","_law_most","_law_ties_here"] (Ck K .sh PY 3):=
 E3 F pD (λa=>(AG (Ag (i:=3) pD.nd rfl (XV rfl) (cg a c (AA (Bk 0) (AA (AO (cg a b (AA (Bk 0) (AA (AO (Aw A7 BD (dv 1) AF)) AS)))) AS))))
 (AJ (AW (A1 (AD (dv 3) (AD (cg a d (AA (Bk 0) (AA (AO (dv 3)) (AA (AO (dv 2)) AS)))) AU))))))) OC
theorem pG:Ac ["_law_feed_here","_law_some"] ["_law_feed_here"] (AN ET):=by walk_at "s"
theorem LU(T:Txt K mg)(a:Bb P w K mg base)(F:Fu K "_law_times" ET f fd):A3 P w K mg base B1 2 f fd ["_law_feed_here"] (Ck K .sh DL 1):=
 E3 F pG (λb=>(AG (Ag (i:=1) pG.nd rfl (XV rfl) (BX (AD (A1 (AD AF (AD AF AU))) (AD (A1 (AD AF (AD AF AU))) (AD (A1 (AD AF (AD AF AU))) (AD (A1 (AD AF (AD AF AU))) (AD (A1 (AD AF (AD AF AU))) (AD (A1 (AD AF (AD AF AU))) (AD (A1 (AD (Aw P_ Ek AF AF) (AD AF AU))) (AD (A1 (AD AF (AD AF AU))) AU))))))))))
 (AJ (AW (AX AQ Am (dv 1) (cg b a (AA (Bk 0) (AA (AO AF) AS)))))))) Pu
theorem fY(n:Nat):-2 ^ 62<=(n:Int):=by omega
theorem fX{n:Nat}(h:n<=1000):(n:Int)<2 ^ 62:=by omega
theorem pH:Ac ["_law_places_here","_law_ties_here","_law_many","_law_spans","_law_k","_law_a","_law_b","_law_length_here","_law_mid","_law_by"] ["_law_places_here","_law_ties_here"] (AN GV):=by constructor <;>first|rfl|decide +kernel
theorem OU{f:Db}{fd:gZ}(T:Txt K mg)(F:Fun K "_law_far" "_law_far" GV f fd):A3 P w K mg base B1 1 f fd ["_law_places_here","_law_ties_here"] (Ck K .sh WY 2):=by
 refine F.ok (k:=0) pH (λvs H Q E h=>h.1) (λd3 A b4 s H vs Q E hr h=>?_);obtain⟨hl,F0,U,V',M,n,ss,Pd,ra,⟨N,dt,rfl,b5,ok,lp,p⟩,q⟩:=h;obtain⟨b6,fU,uV,vM,b7,pa⟩:=ra;cases pa with
 |cons r1 pa=>
 cases pa with
 |cons r2 pa=>
 cases pa;obtain⟨v,e1,h1⟩:=r1.1;cases e1;obtain⟨v2,e2,h2⟩:=r2.1;cases e2
 rename_i v2
 obtain⟨ap,us,rfl,S,b8⟩:=h1;have nd:=pH.nd;have d4:=PySem.sizeLine_eq
 refine⟨_,Az (DA (i:=2) nd rfl (gx rfl) (Cb Ap rfl T.Gab boot_len (Aq (pv 0) A9)))
  (Az (Q1 (i:=3) rfl [("_law_many":Str),("_law_k":Str)] [P3 2,q_] (Cz rfl T.Gae (Aq (pv 2) A9)) (by kernel_rfl) nd rfl (XV rfl) rfl)
  (Az (FF gM rfl (Cz rfl T.Gae (Aq (pv 2) A9)) (Bv (i:=4) nd rfl (XV rfl)) (BQ (FG A0 (GX (BS ix_list (pv 3) (pv 4) (λ_ _=>rfl)) (pv 4) set_list))))
  (Az (FF gM rfl (P8 (pv 1)) (P9 rfl (DB (Bv (i:=5) nd rfl (XV rfl)) (DB (Bv (i:=6) nd rfl (XV rfl)) (DB (Bv (i:=7) nd rfl (XV rfl)) Mg))))
   (Az (FG (pv 7) (GX (BS ix_list (pv 3) (KP PySem.F.slot_tuple_index PySem.F.type_tuple_index (Kk hr) (pv 0) (Aq (pv 5) A9)) (λ_ _=>rfl)) (KP PySem.F.slot_tuple_index PySem.F.type_tuple_index (Kk hr) (pv 0) (Aq (pv 6) A9)) set_list))
   (BQ (FG (pv 7) (GX (BS ix_list (pv 3) (KP PySem.F.slot_tuple_index PySem.F.type_tuple_index (Kk hr) (pv 0) (Aq (pv 6) A9)) (λ_ _=>rfl)) (KP PySem.F.slot_tuple_index PySem.F.type_tuple_index (Kk hr) (pv 0) (Aq (pv 5) A9)) set_list)))))
  (Az (FF gM rfl (Cz rfl T.Gae (Aq (pv 2) A9)) (Bv (i:=8) nd rfl (XV rfl)) (BQ
   (FF gM rfl (Cz rfl T.Gae (Aq (pv 2) A9)) (Bv (i:=5) nd rfl (XV rfl)) (BQ
   (FF gM rfl (Cz rfl T.Gae (Aq (pv 2) A9)) (Bv (i:=6) nd rfl (XV rfl)) (BQ
    (Ln (P2 (Cv Ja (BS ix_list (BS ix_list (pv 3) (pv 5) (λ_ _=>rfl)) (pv 8) (λ_ _=>rfl)) KQ rfl) (Mf (Cv Ja (BS ix_list (BS ix_list (pv 3) (pv 8) (λ_ _=>rfl)) (pv 6) (λ_ _=>rfl)) KQ rfl))).pt
     (Az (DA (i:=9) nd rfl (XV rfl) (Bj op_add (BS ix_list (BS ix_list (pv 3) (pv 5) (λ_ _=>rfl)) (pv 8) (λ_ _=>rfl)) (BS ix_list (BS ix_list (pv 3) (pv 8) (λ_ _=>rfl)) (pv 6) (λ_ _=>rfl))))
     (BQ (Ln (Yv (Cv IH (BS ix_list (BS ix_list (pv 3) (pv 5) (λ_ _=>rfl)) (pv 6) (λ_ _=>rfl)) KQ rfl) (Uy (Cv op_lt (pv 9) (BS ix_list (BS ix_list (pv 3) (pv 5) (λ_ _=>rfl)) (pv 6) (λ_ _=>rfl)) rfl))).pt
      (BQ (FG (pv 9) (GX (BS ix_list (pv 3) (pv 5) (λ_ _=>rfl)) (pv 6) set_list))) G4))) G4)))))))
  (BQ (FE (pv 3))))))),?_⟩
 cases(Qs b8);have S:H ap=P3 (.tup (N.ps.map .str)):=S;have b9:N.ps.length=(N.ps.map V.str).length:=(Go ..).symm;refine⟨_,rfl,_,N.ps.length,rfl,.inr ⟨_,SqT.of S,b9⟩,?_⟩;have b1:-2 ^ 62<=(N.ps.length:Int):=fY _;have b2:(N.ps.length:Int)<2 ^ 62:=fX lp
 refine⟨_,rfl,_,rfl,b1,b2,λl a5 hk cl C s' H0 fp=>⟨_,_,_,λi m zZ D=>i<=N.ps.length/\m=N.ps.length - i/\∃(as:t_ Db) (x:u_ V),as.length=i/\as.Nodup/\zZ=[P3 (.int N.ps.length),x]/\Mat H l as N.ps.length (λ_ _=>q_) D,
  Bv (i:=1) (show iE [("_law_many":Str),("_law_k":Str)] by decide +kernel) rfl (XV rfl),Q7,Bj Zu (IF (Aq KQ A9)) (pv 0),⟨N.ps.length,?_⟩,?_⟩⟩
 ·exact⟨fo _,rfl,[],_,rfl,gW,rfl,λb o e=>by rw[AM (Ao e a5)]; exact e,a5,AR,λi a h=>by cases h⟩
 rintro i m zZ D ⟨hi,rfl,as,x,B,a0,rfl,j⟩;rw[gz]
 by_cases a6:i<N.ps.length
 ·refine .inr ⟨a6,λy H2 ⟨e1,e2⟩=>?_⟩
  subst e1 e2;have nl:∀b,H2 b=q_->l≠b:=λb e z=>by rw[←z,j.top]at e; cases e
  refine⟨by show 1<=sizeLine; omega,λp' hp=>⟨_,rfl,p',N.ps.length,[.non],rfl,rfl,AR,by omega,by omega,by show 1*_<=_; rw[gz]; omega,λr a1=>⟨as.map .ref,?_,?_,N.ps.length - (i+1),by omega,by omega,rfl,as++[r],_,?_,?_,rfl,j.more hp a1 ?_⟩⟩⟩
  ·have nr:l≠r:=λz=>by rw[←z,AM (nl p' hp),j.top]at a1; cases a1
   rw[AM nr,AM (nl p' hp)];exact j.top
  ·rw[Go]; omega
  ·rw[fw,gC,B]
  ·have hn:H2 r=q_:=by
    have:r≠p':=λz=>by rw[z,AR]at a1; cases a1
    rwa[AM this]at a1
   rw[iC];refine⟨a0,gE.mpr ⟨gI,gW⟩,λa R b Y e=>?_⟩;rw[TM.mp Y]at e;rw[e]at R;exact j.fresh hn R
  ·rw[gz,List.flatten_replicate_singleton]
   unfold IC;show(gF N.ps.length).map (λ_=>V.non)=_;rw[List.map_const',ip]
 ·have e:i=N.ps.length:=by omega
  refine .inl ⟨show N.ps.length<=i by omega,?_⟩;rw[e]at B;clear a6 e hi
  obtain⟨G,ws,rfl,a7,hJ⟩:∃(G:Db) (ws:t_ V),v2=.ref G/\Ats K M H (N.ts.map Ak) ws/\(H G=P3 (.lst ws)\/H G=P3 (.tup ws)):=by
   rcases b5 with rfl|rfl
   ·obtain⟨a,us,rfl,⟨_,h⟩,hs⟩:=h2
    exact⟨a,us,rfl,hs,.inl h⟩
   ·obtain⟨a,us,rfl,h,hs⟩:=h2
    exact⟨a,us,rfl,hs,.inr h⟩
  have a8:ws.length=N.ts.length:=by rw[a7.length,Go]
  refine⟨_,rfl,_,rfl,b1,b2,?_⟩;refine Fy (lo:=0) (n:=N.ps.length) (λk Z D=>∃(x4 W L x7 x8 O:u_ V) (g:Mx),Z=[P3 (.ref ap),P3 (.ref G),P3 (.int N.ps.length),P3 (.ref l),x4,W,L,x7,x8,O]/\Mat H l as N.ps.length g D/\Dg N k g) ⟨_,_,_,_,_,_,_,rfl,j,Dg.zero⟩ ?_ ?_
  ·rintro k Z D hk ⟨x4,W,L,x7,x8,O,g,rfl,j,dg⟩
   refine j.wr B a0 hk hk (λQ q=>j.row B hk rfl (λQ q=>⟨_,rfl,?_⟩) q) (λQ q=>⟨_,rfl,?_⟩) λH3 I=>⟨_,_,_,_,_,_,_,rfl,I,dg.succ hk⟩
   ·rw[iM]; exact q
   ·rw[iM]; exact q
  rintro Z D ⟨x4,W,L,x7,x8,O,g,rfl,j,dg⟩
  obtain⟨J,hJ⟩:∃J:It,(J=Wa K G/\∀D:Hp,(∀b o,H b=P3 o->D b=P3 o)->SqL K D G ws)\/(J=Tq K G/\∀D:Hp,(∀b o,H b=P3 o->D b=P3 o)->SqT K D G ws):=by
   rcases hJ with h|h
   ·exact⟨_,.inl ⟨rfl,λD o=>SqL.of (o _ _ h)⟩⟩
   ·exact⟨_,.inr ⟨rfl,λD o=>SqT.of (o _ _ h)⟩⟩
  unfold Pj
  dsimp only
  refine UT (i:=1) (J:=J) (xs:=ws) rfl (λi Z D=>∃(x4 W L x7 x8 O:u_ V) (g:Mx),Z=[P3 (.ref ap),P3 (.ref G),P3 (.int N.ps.length),P3 (.ref l),x4,W,L,x7,x8,O]/\Mat H l as N.ps.length g D/\Tm N (N.ts.take i) g) ⟨_,_,_,_,_,_,_,rfl,j,dg.tm⟩
   (hJ.imp (λh=>⟨h.1,λi Z D z=>h.2 _ (by obtain⟨_,_,_,_,_,_,_,_,j,_⟩:=z; exact j.old)⟩) λh=>⟨h.1,λi Z D z=>h.2 _ (by obtain⟨_,_,_,_,_,_,_,_,j,_⟩:=z; exact j.old)⟩) ?_ ?_
  ·rintro i x Z D hx ⟨x4,W,L,x7,x8,O,g,rfl,j,tm⟩
   have hi:i<N.ts.length:=by rw[←a8]; exact(ZB.mp hx).1
   obtain⟨x',a9,b0⟩:=a7.get (i:=i) (d:=Ak N.ts[i]) (by rw[T0,FM hi]; rfl);rw[hx]at a9;cases a9;have a2:N.ts[i]∈N.ts:=iA hi;have X:N.ts.take (i+1)=N.ts.take i++[N.ts[i]]:=by rw[nj,FM hi]; rfl
   have a3:(N.ts.take (i+1)).Pairwise Bo:=ok.trise.sublist (kg _ _);rw[X]at a3;have c0:∀s∈N.ts.take i,s∈N.ts:=λs hs=>lg hs;generalize N.ts[i]=t at b0 a2 X a3;obtain⟨m1,m2,m3,_⟩:=ok.tin t a2;obtain⟨ia,R,la⟩:=Oo m1;obtain⟨ib,Y,lb⟩:=Oo m2;obtain⟨tt,d5,rfl,c4,c5⟩:=b0;obtain⟨va,r3,rfl,⟨rfl,_⟩,vb,r4,rfl,⟨rfl,_⟩,vl,r5,rfl,rfl,e5⟩:=c5;cases(show r5=[]from e5);refine⟨tt,_,rfl,SqT.of (j.old _ _ c4),rfl,_,_,rfl,_,_,rfl,_,_,rfl,rfl,?_⟩;refine⟨_,rfl,j.wr B a0 la lb (λQ q=>j.row B la rfl (Qp ok (j.old _ _ S) rfl rfl R) q) (Qp ok (j.old _ _ S) rfl rfl Y) λH3 I=>?_⟩;refine⟨_,rfl,I.wr B a0 lb la (λQ q=>I.row B lb rfl (Qp ok (I.old _ _ S) rfl rfl Y) q) (Qp ok (I.old _ _ S) rfl rfl R) λH4 c6=>?_⟩;refine⟨_,_,_,_,_,_,_,rfl,c6,?_⟩;rw[X];exact tm.put ok a2 a3 c0 R Y
  rintro Z D ⟨x4,W,L,x7,x8,O,g,rfl,j,tm⟩;rw[a8,lI]at tm;refine⟨_,rfl,_,rfl,b1,b2,?_⟩;refine Fy (lo:=0) (n:=N.ps.length) (λm Z D=>∃(x4 W L x7 x8 O:u_ V) (g:Mx),Z=[P3 (.ref ap),P3 (.ref G),P3 (.int N.ps.length),P3 (.ref l),x4,W,L,x7,x8,O]/\Mat H l as N.ps.length g D/\Fm (EI N) (AI N) N.ps.length m g) ⟨_,_,_,_,_,_,_,rfl,j,tm.fm ok⟩ ?_ ?_
  ·rintro m Z D hm ⟨x4,W,L,x7,x8,O,g0,rfl,j,fm⟩
   refine⟨_,rfl,_,rfl,b1,b2,?_⟩;refine Fy (lo:=0) (n:=N.ps.length) (λa Z D=>∃(W L O:u_ V) (g:Mx),Z=[P3 (.ref ap),P3 (.ref G),P3 (.int N.ps.length),P3 (.ref l),x4,W,L,x7,P3 (.int (0+(m:Int))),O]/\Mat H l as N.ps.length g D/\Rm (AI N) N.ps.length m g0 a 0 g) ⟨_,_,_,_,rfl,j,fm.start⟩ ?_ ?_
   ·rintro a Z D R ⟨W,L,O,g,rfl,j,rm⟩
    refine⟨_,rfl,_,rfl,b1,b2,?_⟩;refine Fy (lo:=0) (n:=N.ps.length) (λb Z D=>∃(L O:u_ V) (g:Mx),Z=[P3 (.ref ap),P3 (.ref G),P3 (.int N.ps.length),P3 (.ref l),x4,P3 (.int (0+(a:Int))),L,x7,P3 (.int (0+(m:Int))),O]/\Mat H l as N.ps.length g D/\Rm (AI N) N.ps.length m g0 a b g) ⟨_,_,_,rfl,j,rm⟩ ?_ ?_
    ·rintro b Z D Y ⟨L,O,g,rfl,j,rm⟩
     have z:=λk:Nat=>iM (k:Int)
     rcases c1:g a m with _|x
     ·refine j.rd2 B R hm rfl rfl (z _) rfl (z _) c1 ⟨rfl,_,rfl,Cp (λc=>absurd c (by simp[ov])) λ_=>Cp (λc=>absurd c (by decide)) λ_=>⟨_,_,_,rfl,j,rm.skip λd1 d2 e1 e2=>?_⟩⟩
      rw[c1]at e1; cases e1
     refine j.rd2 B R hm rfl rfl (z _) rfl (z _) c1 ⟨rfl,_,rfl,Cp (λ_=>?_) λc=>absurd (show(!decide (ov (P3 x)=V.non))=r_ by simp[ov]) c⟩
     rcases c2:g m b with _|y
     ·refine j.rd2 B hm Y rfl rfl (z _) rfl (z _) c2 ⟨rfl,_,rfl,Cp (λc=>absurd c (by simp[ov])) λ_=>⟨_,_,_,rfl,j,rm.skip λd1 d2 e1 e2=>?_⟩⟩
      rw[c2]at e2; cases e2
     refine j.rd2 B hm Y rfl rfl (z _) rfl (z _) c2 ⟨rfl,_,rfl,Cp (λ_=>?_) λc=>absurd (show(!decide (ov (P3 y)=V.non))=r_ by simp[ov]) c⟩;refine j.rd2 B R hm rfl rfl (z _) rfl (z _) c1 (j.rd2 B hm Y rfl rfl (z _) rfl (z _) c2 ⟨x,y,rfl,rfl,?_⟩)
     rcases c3:g a b with _|u
     ·refine j.rd2 B R Y rfl rfl (z _) rfl (z _) c3 ⟨rfl,_,rfl,Cp (λ_=>Cp (λ_=>?_) λc=>absurd rfl c) λc=>absurd (show decide (ov q_=V.non)=r_ by simp[ov]) c⟩
      refine⟨_,rfl,j.wr B a0 R Y (λQ q=>j.row B R rfl (λQ q=>⟨_,rfl,by rw[iM]; exact q⟩) q) (λQ q=>⟨_,rfl,by rw[iM]; exact q⟩) λH3 I=>⟨_,_,_,rfl,I,rm.put AI.trans c1 c2 λv e=>?_⟩⟩;rw[c3]at e; cases e
     refine j.rd2 B R Y rfl rfl (z _) rfl (z _) c3 ⟨rfl,_,rfl,Cp (λc=>absurd c (by simp[ov])) λ_=>?_⟩;refine⟨_,rfl,j.rd2 B R Y rfl rfl (z _) rfl (z _) c3 ⟨x+y,u,rfl,rfl,_,rfl,Cp (λc=>?_) λc=>?_⟩⟩
     ·have c:=of_decide_eq_true c
      refine⟨_,rfl,j.wr B a0 R Y (λQ q=>j.row B R rfl (λQ q=>⟨_,rfl,by rw[iM]; exact q⟩) q) (λQ q=>⟨_,rfl,by rw[iM]; exact q⟩) λH3 I=>⟨_,_,_,rfl,I,rm.put AI.trans c1 c2 λv e=>?_⟩⟩;rw[c3]at e; cases e; omega
     ·have c:¬x+y<u:=λz=>c (decide_eq_true z)
      refine⟨_,_,_,rfl,j,rm.skip λd1 d2 e1 e2=>⟨u,c3,?_⟩⟩;rw[c1]at e1; rw[c2]at e2; cases e1; cases e2; omega
    ·rintro Z D ⟨L,O,g,rfl,j,rm⟩
     exact⟨_,_,_,_,rfl,j,rm.next⟩
   ·rintro Z D ⟨W,L,O,g,rfl,j,rm⟩
    exact⟨_,_,_,_,_,_,_,rfl,j,rm.done (EI.pos ok) hm fm⟩
  rintro Z D ⟨x4,W,L,x7,x8,O,g,rfl,j,fm⟩;refine⟨_,rfl,q (.ref l) D (Sr N.ps (ofM N.ps g)) n (λb o e=>⟨o,j.old b o e,λ_=>rfl,λ_ _=>rfl⟩) (λg' hg=>?_) (show At K M D (Sr N.ps (ofM N.ps g)) (.ref l)from j.at_ b6 B (EZ ok.rise)) (p _ (fm.far ok))⟩
  rcases b7 g' hg with⟨tg,a,r,a4,hf,c7,hc,b3⟩|⟨c8,c9,d0,tg,r,hf,h2,h3,h4⟩
  ·exact .inl ⟨tg,a,r,a4,j.old _ _ hf,c7,⟨hc.1,j.old _ _ hc.2⟩,b3⟩
  ·exact .inr ⟨c8,c9,d0,tg,r,j.old _ _ hf,h2,h3.pres ⟨λb o e _=>j.old b o e,λ_ z=>.inl z,λb vs e=>j.old b _ e⟩,h4⟩
theorem pI:Ac ["_law_net_here","_law_times_here","_law_some","_law_spans","_law_a","_law_b","_law_length_here","_law_by"] ["_law_net_here","_law_times_here","_law_some"] (AN EY):=by walk_at "s"
theorem LZ(T:Txt K mg)(b:LA P w K mg base)(F:Fu K "_law_keeps" EY f fd):A3 P w K mg base B1 2 f fd ["_law_net_here","_law_times_here","_law_some"] (Ck K .sh EM 3):=
 E3 F pI (λa=>(AG (Ag (i:=3) pI.nd rfl (XV rfl) (cg a b (AA (AO (AX AQ Am (dv 0) AF)) (AA (AO (dv 2)) AS))))
 (AG (CQ gM rfl (IU (AX AQ Am (dv 0) AF)) (Gi rfl (BE (Ah (i:=4) pI.nd rfl (XV rfl)) (BE (Ah (i:=5) pI.nd rfl (XV rfl)) (BE (Ah (i:=6) pI.nd rfl (XV rfl)) Eg)))) (AG (Ag (i:=7) pI.nd rfl (XV rfl) (AX AQ Am (AX AQ Am (dv 3) (WF a (AX AQ Am (dv 0) AF) (AL (dv 4) AT))) (WF a (AX AQ Am (dv 0) AF) (AL (dv 5) AT))))
 (AJ (A8 (DTW.dt (Bp (Ai IH PU (dv 7) BZ (An _)) (Bu (Ai FI Iv (Aw CT Du (dv 7) (AX AQ Am (dv 1) AF)) (Aw CT Du (dv 6) (AX AQ Am (dv 1) AF)) (An _))))) (AJ (AW Bq)) Aj))))
 (AJ (AW Bq))))) Pz
theorem MY:Ac ["_law_tie"] ["_law_tie"] (AN E_):=by walk_at "s"
theorem Mp(T:Txt K mg)(F:Fu K "_law_rank" E_ f fd):A3 P w K mg base B1 1 f fd ["_law_tie"] (Ck K .sh MK 1):=
 E3 F MY (λa=>(AJ (AW (A1 (AD (AX AQ Am (dv 0) AF) (AD (AX AQ Am (dv 0) AF) (AD (AX AQ Am (dv 0) AF) AU))))))) KA
theorem LJ:Ac ["_law_ties_here"] ["_law_ties_here"] (AN EW):=by walk_at "s"
theorem LX(T:Txt K mg)(a:JA P w K mg base)(F:Fu K "_law_order" EW f fd):A3 P w K mg base B1 4 f fd ["_law_ties_here"] (Ck K .fr Gp 1):=
 E3 F LJ (λb=>(AJ (AW (O3 a (b.mono (by decide)) rfl T.Gaf rfl (dv 0))))) Ii
theorem pL:Ac ["_law_ties_here","_law_many","_law_found","_law_k","_law_longer","_law_row","_law_begin"] ["_law_ties_here","_law_many"] (AN C8):=by walk_at "s"
theorem JO(T:Txt K mg)(F:Fu K "_law_choices" C8 f fd):A3 P w K mg base B1 1 f fd ["_law_ties_here","_law_many"] (Ck K .fr Eo 2):=
 E3 F pL (λa=>(AG (Ag (i:=2) pL.nd rfl (XV rfl) (BX (AD (A1 AU) AU)))
 (AG (CQ gM rfl (EB rfl T.Gae (AL (dv 1) AT)) (Ah (i:=3) pL.nd rfl (XV rfl)) (AG (F1 (i:=4) pL.nd rfl (XV rfl) (BX AU))
 (AG (CQ gM rfl (IU (dv 2)) (Ah (i:=5) pL.nd rfl (gx rfl)) (AG (Ag (i:=6) pL.nd rfl (XV rfl) (Ra (Ai (VI a) Y8 (dv 5) (A1 AU) (An _)) (Aw A7 BD (AX AQ Am (dv 5) (WG AF)) AF) AF))
 (AJ (O0 4 PySem.F.plainAttrs_list PySem.F.slot_list_extend PySem.F.type_list_extend Ls ZA (pv 4) (AD (NY [("_law_row":Str),("_law_at":Str)] [P3 5,q_] (DI.c (IT rfl T.Gae (AL (dv 6) (AL (AY Ap BU rfl T.Gab PySem.boot_len (AL (dv 0) AT)) AT)))) (Ah (i:=1) (show iE [("_law_row":Str),("_law_at":Str)] by decide +kernel) rfl (XV rfl)) Be (Aw A7 BD (dv 0) (A1 (AD (dv 1) AU))) (by kernel_rfl)) AU)))))
 (RS 4 (AJ (Ag (i:=2) pL.nd rfl (XV rfl) (dv 4)))))))
 (AJ (AW (NY [("_law_ties_here":Str),("_law_row":Str)] [P3 0,q_] (Bg (dv 2)) (Ah (i:=1) (show iE [("_law_ties_here":Str),("_law_row":Str)] by decide +kernel) rfl (XV rfl)) Be (NY [("_law_ties_here":Str),("_law_at":Str)] [P3 0,q_] (Bg (dv 1)) (Ah (i:=1) (show iE [("_law_ties_here":Str),("_law_at":Str)] by decide +kernel) rfl (XV rfl)) Be (AX AQ Am (dv 0) (dv 1)) (by kernel_rfl)) (by kernel_rfl))))))) Me
theorem JG:Ac ["_law_net_here","_law_thing"] ["_law_net_here","_law_thing"] (AN C7):=by walk_at "s"
theorem JN(T:Txt K mg)(F:Fu K "_law_is_thin" C7 f fd):A3 P w K mg base B1 1 f fd ["_law_net_here","_law_thing"] (Ck K .sh En 2):=
 E3 F JG (λb=>(AG (A8 (DTW.dt (Bp (BR (BP (CD kit_tuple (dv 1) rfl T.Gaa rfl T.Gad (by decide +kernel)))) (Bp (Ai G5 NQ (AY Ap BU rfl T.Gab PySem.boot_len (AL (dv 1) AT)) AF (An _)) (Bu (Ai G5 NQ (AY (C2 b) Ib rfl T.Gag mS (AL (AX AQ Am (dv 1) AF) AT)) (AY (C2 b) Ib rfl T.Gag mS (AL (AX AQ Am (dv 0) AF) AT)) (An _)))))) (AJ (AW Bq)) Aj)
 (AG (A8 (BR (BP (CD kit_tuple (AX AQ Am (dv 1) AF) rfl T.Gaa rfl T.Gad (by decide +kernel)))) (AJ (AW Bq)) Aj)
 (AJ (AW (FR G7 NS (AY (C2 b) Ib rfl T.Gag mS (AL (AX AQ Am (dv 1) AF) AT)) (AY (C2 b) Ib rfl T.Gag mS (AL (BY BJ Cj rfl T.Gad jv (AL (NY [("_law_thing":Str),("_law_tie":Str)] [P3 1,q_] (Bg (AX AQ Am (dv 0) AF)) (Ah (i:=1) (show iE [("_law_thing":Str),("_law_tie":Str)] by decide +kernel) rfl (XV rfl)) (Jf (Ai (KZ b) Fb (dv 1) (AX AQ Am (dv 0) AF) (by with_unfolding_all rfl))) (dv 1) (by kernel_rfl)) AT)) AT)) (An _))))))) Ma
theorem pM:Ac ["_law_ties_here","_law_thing","_law_lengths","_law_found","_law_k","_law_step"] ["_law_ties_here","_law_thing"] (AN FA):=by walk_at "s"
theorem Mq(T:Txt K mg)(F:Fu K "_law_long" FA f fd):A3 P w K mg base B1 1 f fd ["_law_ties_here","_law_thing"] (Ck K .sh Hj 2):=
 E3 F pM (λa=>(AG (A8 (DTW.dt (Bp (BR (BP (CD kit_tuple (dv 1) rfl T.Gaa rfl T.Gad (by decide +kernel)))) (Bp (Ai (KY a) PR (AY Ap BU rfl T.Gab PySem.boot_len (AL (dv 1) AT)) AF (An _)) (Bu (Ai (KZ a) Fb Bq (NY [("_law_name":Str)] [q_] (Bg (dv 1)) (Ah (i:=0) (show iE [("_law_name":Str)] by decide +kernel) rfl (XV rfl)) Be (CD RF (dv 0) rfl T.Gaa rfl T.Gaq (by decide +kernel)) (by kernel_rfl)) (by with_unfolding_all rfl)))))) (AJ (AW BZ)) Aj)
 (AG (Ag (i:=2) pM.nd rfl (XV rfl) (BY (Qd rfl a) YY rfl T.Gan boot_dict (AL (NY [("_law_tie":Str)] [q_] (Bg (dv 0)) (Ah (i:=0) (show iE [("_law_tie":Str)] by decide +kernel) rfl (XV rfl)) Be (A1 (AD (L8 R7 MG (dv 0) F3 (F2 AF)) (AD (AX AQ Am (dv 0) AF) AU))) (by kernel_rfl)) AT)))
 (AG (Ag (i:=3) pM.nd rfl (XV rfl) AF)
 (AG (CQ gM rfl (IT rfl T.Gae (AL AF (AL (AY Ap BU rfl T.Gab PySem.boot_len (AL (dv 1) AT)) AT))) (Ah (i:=4) pM.nd rfl (XV rfl)) (AG (Ag (i:=5) pM.nd rfl (XV rfl) (A1 (AD (AY (TR rfl) aj rfl T.Gah boot_min (AL (AX AQ Am (dv 1) (Aw DU Fa (dv 4) AF)) (AL (AX AQ Am (dv 1) (dv 4)) AT))) (AD (AY (TV rfl) al rfl T.Gap boot_max (AL (AX AQ Am (dv 1) (Aw DU Fa (dv 4) AF)) (AL (AX AQ Am (dv 1) (dv 4)) AT))) AU))))
 (AG (A8 (Ai (D5 a) WS (dv 5) (dv 2) (by with_unfolding_all rfl)) (AJ (AW BZ)) Aj)
 (AJ (Ag (i:=3) pM.nd rfl (XV rfl) (Aw A7 BD (dv 3) (RY a (dv 2) (dv 5))))))))
 (AJ (AW (dv 3)))))))) SG
theorem pN:Ac ["_law_net_here","_law_times_here","_law_some","_law_thing","_law_out","_law_tie","_law_way","_law_long_here"] ["_law_net_here","_law_times_here","_law_some","_law_thing"] (AN B_):=by walk_at "s"
theorem GZ(T:Txt K mg)(c:JB P w K mg base)(d:Hb P w K mg base)(F:Fu K "_law_ways_right" B_ f fd):A3 P w K mg base B1 5 f fd ["_law_net_here","_law_times_here","_law_some","_law_thing"] (Ck K .sh F5 4):=
 E3 F pN (λb=>(AG (Ag (i:=4) pN.nd rfl (XV rfl) (cg b d (AA (AO (NY [("_law_some":Str),("_law_tie":Str)] [P3 2,q_] (Bg (AX AQ Am (dv 0) AF)) (Ah (i:=1) (show iE [("_law_some":Str),("_law_tie":Str)] by decide +kernel) rfl (XV rfl)) (Jf (Ai (C1 b) Fb (dv 1) (dv 0) (by with_unfolding_all rfl))) (dv 1) (by kernel_rfl))) AS)))
 (AG (A8 (DTW.dt (Bp (BR (BP (CD kit_tuple (dv 3) rfl T.Gaa rfl T.Gad (by decide +kernel)))) (Bu (Ai G5 NQ (AY Ap BU rfl T.Gab PySem.boot_len (AL (dv 3) AT)) (AY Ap BU rfl T.Gab PySem.boot_len (AL (dv 4) AT)) (An _))))) (AJ (AW Bq)) Aj)
 (AG (CQ gM rfl (WC rfl T.Gal (AD (dv 4) (AD (dv 3) AU))) (Gi rfl (BE (Ah (i:=5) pN.nd rfl (XV rfl)) (BE (Ah (i:=6) pN.nd rfl (XV rfl)) Eg))) (AG (Ag (i:=7) pN.nd rfl (XV rfl) (cg b c (AA (AO (dv 2)) (AA (AO (dv 6)) AS))))
 (AJ (A8 (DTW.dt (Bp (Ai IH PU (dv 7) BZ (An _)) (Bp (Ai (VI b) Y8 (A1 (AD (AX AQ Am (dv 6) AF) (AD (AX AQ Am (dv 6) (WG AF)) AU))) (L8 R7 MG (dv 5) F3 (F2 AF)) (An _)) (Bu (Ai FI Iv (Aw CT Du (dv 7) (AX AQ Am (dv 1) AF)) (Aw CT Du (AX AQ Am (dv 5) AF) (AX AQ Am (dv 1) AF)) (An _)))))) (AJ (AW Bq)) Aj))))
 (AJ (AW Bq)))))) N9
theorem J7:Ac ["_law_net_here","_law_thing"] ["_law_net_here","_law_thing"] (AN Dq):=by walk_at "s"
theorem Kf(T:Txt K mg)(F:Fu K "_law_is_tie" Dq f fd):A3 P w K mg base B1 1 f fd ["_law_net_here","_law_thing"] (Ck K .sh EL 2):=
 E3 F J7 (λa=>(AG (A8 (DTW.dt (Bp (BR (BP (CD kit_tuple (dv 1) rfl T.Gaa rfl T.Gad (by decide +kernel)))) (Bp (Ai G5 NQ (AY Ap BU rfl T.Gab PySem.boot_len (AL (dv 1) AT)) AF (An _)) (Bu (BP (CD Oh (AX AQ Am (dv 1) AF) rfl T.Gaa rfl T.Gam (by decide +kernel))))))) (AJ (AW Bq)) Aj)
 (AJ (AW (FR (KZ a) Fb (dv 1) (AX AQ Am (dv 0) AF) (by with_unfolding_all rfl)))))) JJ
theorem pQ:Ac ["_law_world","_law_gone","_law_tie","_law_prices","_law_net_here","_law_price","_law_by","_law_a","_law_b","_law_length_here","_law_apart"] ["_law_world","_law_gone","_law_tie","_law_prices"] (AN Dr):=by walk_at "s"
theorem Kg(T:Txt K mg)(d:Dy P w K mg base)(F:Fu K "_law_is_far" Dr f fd):A3 P w K mg base B1 2 f fd ["_law_world","_law_gone","_law_tie","_law_prices"] (Ck K .sh Jm 4):=
 E3 F pQ (λc=>(AG (Ag (i:=4) pQ.nd rfl (XV rfl) (FP c (pv 0) Ax))
 (AG (A8 (DTW.dt (Bp (BR (BP (cg c d (AA (AO (dv 4)) (AA (AO (dv 2)) AS))))) (Bu (Ai (C1 c) Fb (dv 2) (dv 1) (by with_unfolding_all rfl))))) (AJ (AW Bq)) Aj)
 (AG (A8 (DTW.dt (Bp (BR (BP (CD kit_tuple (dv 3) rfl T.Gaa rfl T.Gad (by decide +kernel)))) (Bu (Ai G5 NQ (AY Ap BU rfl T.Gab PySem.boot_len (AL (dv 3) AT)) (AY Ap BU rfl T.Gab PySem.boot_len (AL (AX AQ Am (dv 4) AF) AT)) (An _))))) (AJ (AW Bq)) Aj)
 (AG (CQ gM rfl (IU (dv 3)) (Ah (i:=5) pQ.nd rfl (XV rfl)) (AJ (A8 (DTW.dt (Bp (BP (CD Oh (dv 5) rfl T.Gaa rfl T.Gam (by decide +kernel))) (Bp (BR (BP (CD Xm (dv 5) rfl T.Gaa rfl T.Gas (by decide +kernel)))) (Bu (Ai (KY c) PR (dv 5) AF (An _)))))) (AJ (AW Bq)) Aj)))
 (AG (Ag (i:=6) pQ.nd rfl (XV rfl) (TF rfl (AL (AX AQ Am (dv 4) AF) (AL (dv 3) AT)) rfl T.Gan rfl T.Gal))
 (AG (CQ gM rfl (IU (AX AQ Am (dv 4) AF)) (Gi rfl (BE (Ah (i:=7) pQ.nd rfl (XV rfl)) (BE (Ah (i:=8) pQ.nd rfl (XV rfl)) (BE (Ah (i:=9) pQ.nd rfl (XV rfl)) Eg)))) (AJ (A8 (DTW.dt (aP (Ai (C1 c) Fb (A1 (AD (dv 7) (AD (dv 8) (AD (dv 9) AU)))) (dv 1) (by with_unfolding_all rfl)) (X6 (Ai FI Iv (AY PC ZD rfl T.Gao boot_abs (AL (Aw DU Fa (Bx c (dv 6) (dv 7)) (Bx c (dv 6) (dv 8))) AT)) (dv 9) (An _))))) (AJ (AW Bq)) Aj)))
 (AG (Ag (i:=10) pQ.nd rfl (XV rfl) (AY PC ZD rfl T.Gao boot_abs (AL (Aw DU Fa (Bx c (dv 6) (AX AQ Am (dv 2) AF)) (Bx c (dv 6) (AX AQ Am (dv 2) AF))) AT)))
 (AJ (AW (FR FI Iv (Aw CT Du (dv 10) (AX AQ Am (FP c (pv 0) Ax) AF)) (Aw CT Du (AX AQ Am (dv 2) AF) (AX AQ Am (FP c (pv 0) Ax) AF)) (An _)))))))))))) JK
theorem pS:Ac ["_law_world","_law_kept","_law_gone","_law_thing","_law_deep","_law_tie"] ["_law_world","_law_kept","_law_gone","_law_thing","_law_deep"] (AN EU):=by walk_at "s"
theorem LV(T:Txt K mg)(d:GI P w K mg base)(e:Dy P w K mg base)(F:Fu K "_law_shows" EU f fd)(m:mg "_law_shows"=P3 (.ref f))(b:Binds K fd ["_law_world","_law_kept","_law_gone","_law_thing","_law_deep"] []):A3 P w K mg base B1 14 f fd ["_law_world","_law_kept","_law_gone","_law_thing","_law_deep"] (Ck K .sh (EK 11) 5):=
 RM 1 F pS m b (λg c a=>(AG (YB a (pv 0) (Aw DU Fa (RZ a (pv 0)) AF))
 (AG (A8 (DTW.dt (Bp (Ai (KY a) PR (RZ a (pv 0)) AF (An _)) (Bu (Ai FI Iv (dv 4) AF (An _))))) (AJ (AW Bq)) Aj)
 (AG (A8 (DTW.dt (Bp (BR (BP (CD kit_tuple (dv 3) rfl T.Gaa rfl T.Gad (by decide +kernel)))) (Bu (Ai G7 NS (AY Ap BU rfl T.Gab PySem.boot_len (AL (dv 3) AT)) AF (An _))))) (AJ (AW Bq)) Aj)
 (AG (A8 (Ai G7 NS (AX AQ Am (dv 3) AF) Ax (An _)) (AJ (AW (NJ (FR G7 NS (AY Ap BU rfl T.Gab PySem.boot_len (AL (dv 3) AT)) AF (An _)) (QW (FR VJ Y_ (AY Ap BU rfl T.Gab PySem.boot_len (AL (dv 1) AT)) (FP a (pv 0) Ax) (An _)))))) Aj)
 (AG (A8 (Ai G7 NS (AX AQ Am (dv 3) AF) Ax (An _)) (AJ (AW (NJ (FR G7 NS (AY Ap BU rfl T.Gab PySem.boot_len (AL (dv 3) AT)) AF (An _)) (QW (BF d (a.mono (by omega)) rfl (AA (Ky 0) (AA (AO (dv 2)) (AA (AO (AX AQ Am (dv 3) AF)) (AA (AO (AX AQ Am (dv 3) AF)) AS))))))))) Aj)
 (AG (A8 (DTW.dt (Bp (Ai G5 NQ (AX AQ Am (dv 3) AF) Ax (An _)) (Bp (Ai G5 NQ (AY Ap BU rfl T.Gab PySem.boot_len (AL (dv 3) AT)) AF (An _)) (Bu (BR (BP (BF e (a.mono (by omega)) rfl (AA (AO (FP a (pv 0) Ax)) (AA (AO (AX AQ Am (dv 3) AF)) AS))))))))) (AJ (AW Bq)) Aj)
 (AG (Ag (i:=5) pS.nd rfl (XV rfl) (AX AQ Am (dv 3) AF))
 (AG (A8 (Ai (KZ a) Fb (dv 5) (Aw A7 BD (dv 1) (dv 2)) (by with_unfolding_all rfl)) (AJ (AW Bq)) Aj)
 (AG (A8 (BR (BP (BF c (a.mono (Re _)) rfl (AA (Ky 0) (AA (AO (Aw A7 BD (dv 1) (BX (AD (dv 5) AU)))) (AA (AO (dv 2)) (AA (AO (AX AQ Am (dv 3) AF)) (AA (AO (Aw A7 BD (dv 4) AF)) AS)))))))) (AJ (AW Bq)) Aj)
 (AJ (AW (BF c (a.mono (Re _)) rfl (AA (Ky 0) (AA (AO (dv 1)) (AA (AO (Aw A7 BD (dv 2) (BX (AD (dv 5) AU)))) (AA (AO (AX AQ Am (dv 3) AF)) (AA (AO (Aw A7 BD (dv 4) AF)) AS)))))))))))))))))) KD (by walk_at "l") (by decide) 11
theorem G1:Ac ["_law_net_here","_law_times_here","_law_many","_law_thing"] ["_law_net_here","_law_times_here","_law_many","_law_thing"] (AN CM):=by walk_at "s"
theorem G9(T:Txt K mg)(a:HY P w K mg base)(F:Fu K "_law_read_case" CM f fd):A3 P w K mg base B1 15 f fd ["_law_net_here","_law_times_here","_law_many","_law_thing"] (Ck K .sh Hg 4):=
 E3 F G1 (λb=>(AJ (AW (WL a (b.mono (by decide)) rfl (pv 0) (pv 1) (pv 2) (pv 3) Z1 (by decide))))) GW
theorem pW:Ac ["_law_feed_here","_law_many","_law_places_here","_law_pairs","_law_a"] ["_law_feed_here","_law_many"] (AN Do):=by walk_at "s"
theorem Ke(T:Txt K mg)(a:Dv P w K mg base)(F:Fu K "_law_joined" Do f fd):A3 P w K mg base B1 3 f fd ["_law_feed_here","_law_many"] (Ck K .sh C3 2):=
 E3 F pW (λb=>(AG (Ag (i:=2) pW.nd rfl (gx rfl) (cg b a (AA (Bk 0) (AA (AO (dv 1)) AS))))
 (AG (F1 (i:=3) pW.nd rfl (XV rfl) (BX AU))
 (AG (CQ gM rfl (EB rfl T.Gae (AL (dv 1) AT)) (Ah (i:=4) pW.nd rfl (gx rfl)) (AJ (O0 3 PySem.F.plainAttrs_list PySem.F.slot_list_extend PySem.F.type_list_extend Ls ZA (pv 3) (AD (NY [("_law_places_here":Str),("_law_a":Str),("_law_b":Str)] [P3 2,P3 4,q_] (DI.c (IT rfl T.Gae (AL (Aw A7 BD (dv 4) AF) (AL (dv 1) AT)))) (Ah (i:=2) (show iE [("_law_places_here":Str),("_law_a":Str),("_law_b":Str)] by decide +kernel) rfl (XV rfl)) Be (A1 (AD (AX AQ Am (dv 0) (dv 1)) (AD (AX AQ Am (dv 0) (dv 2)) AU))) (by kernel_rfl)) AU))))
 (RS 3 (AJ (AW (A1 (AD (dv 2) (AD (dv 3) AU)))))))))) OD
theorem pX:Ac ["_law_feed_here","_law_places_here","_law_pairs","_law_sort"] ["_law_feed_here"] (AN CL):=by walk_at "s"
theorem G8(T:Txt K mg)(b:Dx P w K mg base)(c:Dw P w K mg base)(d:Bb P w K mg base)(F:Fu K "_law_whole_net" CL f fd):A3 P w K mg base B1 4 f fd ["_law_feed_here"] (Ck K .sh Hf 1):=
 E3 F pX (λa=>(AG (WA (cg a b (AA (Bk 0) (AA (AO AF) AS))) (Gi rfl (BE (Ah (i:=1) pX.nd rfl (XV rfl)) (BE (Ah (i:=2) pX.nd rfl (XV rfl)) Eg))))
 (AG (Ag (i:=3) pX.nd rfl (gx rfl) (cg a d (AA (Bk 0) (AA (AO AF) AS))))
 (AJ (AW (A1 (AD (dv 1) (AD (BY BJ Cj rfl T.Gad jv (AL (NY [("_law_feed_here":Str),("_law_sort":Str),("_law_pair":Str)] [P3 0,P3 3,q_] (Bg (dv 2)) (Ah (i:=2) (show iE [("_law_feed_here":Str),("_law_sort":Str),("_law_pair":Str)] by decide +kernel) rfl (XV rfl)) Be (Aw A7 BD (dv 2) (A1 (AD (cg a c (AA (Bk 0) (AA (AO (dv 1)) AS))) AU))) (by kernel_rfl)) AT)) AU)))))))) Pt
theorem pZ:Ac ["_law_net_here","_law_times_here","_law_found","_law_some"] ["_law_net_here","_law_times_here","_law_found"] (AN EV):=by walk_at "s"
theorem LW(T:Txt K mg)(c:Fh P w K mg base)(d:Fg P w K mg base)(b:Hd P w K mg base)(e:EJ P w K mg base)(g:Df P w K mg base)(F:Fu K "_law_right" EV f fd):A3 P w K mg base B1 16 f fd ["_law_net_here","_law_times_here","_law_found"] (Ck K .sh Fi 3):=
 E3 F pZ (λa=>(AG (A8 (DTW.dt (Bp (BR (BP (CD kit_tuple (dv 2) rfl T.Gaa rfl T.Gad (by decide +kernel)))) (Bp (Ai G5 NQ (AY Ap BU rfl T.Gab PySem.boot_len (AL (dv 2) AT)) AF (An _)) (Bu (BR (BP (cg a d (AA (AO (dv 0)) (AA (AO (AX AQ Am (dv 2) AF)) AS))))))))) (AJ (AW Bq)) Aj)
 (AG (Ag (i:=3) pZ.nd rfl (XV rfl) (BY Eh Rn rfl T.Gaj boot_list (AL (AX AQ Am (AX AQ Am (dv 2) AF) AF) AT)))
 (AG (A8 (DTW.dt (Bp (BR (BP (cg a g (AA (AO (dv 0)) (AA (AO (dv 1)) (AA (AO (dv 3)) (AA (AO (AX AQ Am (dv 2) AF)) AS))))))) (Bu (BR (BP (cg a b (AA (AO (dv 0)) (AA (AO (dv 1)) (AA (AO (dv 3)) AS))))))))) (AJ (AW Bq)) Aj)
 (AG (A8 (BR (BP (cg a e (AA (AO (dv 0)) (AA (AO (dv 1)) (AA (AO (AY Ap BU rfl T.Gab PySem.boot_len (AL (dv 3) AT))) (AA (AO (AX AQ Am (dv 2) AF)) AS))))))) (AJ (AW Bq)) Aj)
 (AG (A8 (Ai (Zx a) cb (dv 3) (BX AU) (An _)) (AJ (AW Bq)) Aj)
 (AJ (AW (FR (C1 a) Fb Bq (NY [("_law_net_here":Str),("_law_times_here":Str),("_law_one":Str)] [P3 0,P3 1,q_] (Bg (cg a c (AA (AO (BY Eh Rn rfl T.Gaj boot_list (AL (AX AQ Am (dv 0) AF) AT))) (AA (AO (Aw DU Fa (AY Ap BU rfl T.Gab PySem.boot_len (AL (dv 3) AT)) AF)) AS)))) (Ah (i:=2) (show iE [("_law_net_here":Str),("_law_times_here":Str),("_law_one":Str)] by decide +kernel) rfl (XV rfl)) Be (cg a b (AA (AO (dv 0)) (AA (AO (dv 1)) (AA (AO (dv 2)) AS)))) (by kernel_rfl)) (by with_unfolding_all rfl)))))))))) Pw
theorem pj:Ac ["_law_net_here","_law_times_here","_law_caught","_law_others","e"] ["_law_net_here","_law_times_here"] (AN C6):=by walk_at "s"
theorem JM(T:Txt K mg)(GR_least_thin:GJ P w K mg base)(F:Fu K "_law_refused" C6 f fd):A3 P w K mg base B1 19 f fd ["_law_net_here","_law_times_here"] (Ck K .sh LB 2):=by
 obtain⟨C_NoLine,U_NoLine,o,p⟩:=T.x_NoLine;obtain⟨C_NoPaper,U_NoPaper,e,g⟩:=T.x_NoPaper;obtain⟨C_NoPlace,U_NoPlace,k,l⟩:=T.x_NoPlace;obtain⟨C_NoRow,U_NoRow,q,r⟩:=T.x_NoRow;obtain⟨C_NoTie,U_NoTie,s,t⟩:=T.x_NoTie;obtain⟨C_TooMany,U_TooMany,m,n⟩:=T.x_TooMany;obtain⟨C_Twice,U_Twice,u,v⟩:=T.x_Twice;obtain⟨C_ThinError,b,c,d⟩:=T.x_ThinError;exact E3 F pj (λx=>(AG (Ag (i:=2) pj.nd rfl (XV rfl) BZ)
 (AG (aR rfl rfl (λ_ _ h=>h) (V6 (V7 (WE GR_least_thin (x.mono (by decide)) rfl (AA (AO (dv 0)) (AA (AO (dv 1)) AS)))))
 (YJ (i:=4) pj.nd rfl rfl rfl c d (XV ⟨rfl,b⟩) rfl rfl (λa=>(AJ (V9 (i:=4) (j:=2) pj.nd rfl (XV rfl))))
 aT))
 (AG (Ag (i:=3) pj.nd rfl (XV rfl) (YL (i:=2) (F4 (by decide) o rfl p (F4 (by decide) e rfl g (F4 (by decide) k rfl l (F4 (by decide) q rfl r (F4 (by decide) s rfl t (F4 (by decide) u rfl v aZ)))))) (by decide) rfl T.Gaa))
 (AJ (AW (NJ (aV (i:=2) (by decide) m rfl n rfl T.Gaa) (NJ (aU (dv 3)) (QW (YM (i:=2) rfl T.Gai rfl T.Gaa)))))))))) Uh
end
section
variable {P:Program}{w:World}{K:Frag}{mg:Str->u_ Value}{base:Heap}
theorem MZ:Ac ["_law_script"] ["_law_script"] (AN FC):=by constructor <;>first|rfl|decide +kernel
theorem Mr{f:Db}{fd:gZ}(T:Txt K mg)(F:Fun K "_law_feed" "_law_feed" FC f fd):A3 P w K mg base B1 1 f fd ["_law_script"] (MU K):=by
 refine F.ok MZ (λi H Q E h=>?_) (λj A d s H i Q E n h=>?_)
 ·obtain⟨a,k,rfl,_⟩:=h
  rfl
 ·obtain⟨a,k,rfl,⟨l,m⟩,q⟩:=h
  refine⟨_,BQ (FE (IF (Aq (Lq Eh rfl T.Gaj boot_list (Aq (OL sl_list (pv 0) Q6 (Q5 A0)) A9)) (Aq A0 (Aq A0 A9))))),?_⟩;refine⟨_,rfl,63,rfl,a,_,rfl,m,λp o=>⟨p,_,rfl,.inl (SqL.of AR),λc r=>⟨by show 3<=sizeLine; decide,λg e=>?_⟩⟩⟩;rw[cV l]at e ⊢;have b:c≠g:=λz=>by rw[←z,AR]at e; cases e
  exact q c g _ b (by rw[AM b,AR]) AR
theorem pq:Ac ["_law_script","_law_feed_here","_law_nets","_law_net_here","_law_times_here","_law_kept","_law_places_here","_law_pairs","_law_many","_law_ties_here"] ["_law_script"] (AN J9):=by walk_at "s"
theorem Zz{f e:Db}{fd d:gZ}(T:Txt K mg)(l:A3 P w K mg base B1 1 e d ["_law_script"] (MU K))(m:mg "_law_feed"=P3 (.ref e))(n:keepIn K (.ref e)=r_)(o:Binds K d ["_law_script"] [])
  (p:Dx P w K mg base) (h:K_ P w K mg base) (j:Bb P w K mg base) (q:Fe P w K mg base) (r:HZ P w K mg base) (k:HW P w K mg base) (p_:EH P w K mg base) (t:HV P w K mg base) (F:Fun K "law" "law" J9 f fd):A3 P w K mg base B1 20 f fd ["_law_script"] (N3 K):=by
 exact cJ (n0:=3000) F pq rfl (by decide) (λg A b s H E a=>DA (i:=1) pq.nd rfl (XV rfl) (Mj l (a.mono (by decide)) rfl m n o .nil Q_ (Aq (pv 0) A9)))
  (λg A b s H E a=>(AG (Ag (i:=2) pq.nd rfl (XV rfl) (BX (AD (cg a h (AA (Bk 1) (AA (AO AF) (AA (AO AF) AS)))) (AD (cg a h (AA (Bk 1) (AA (AO AF) (AA (AO AF) AS)))) AU))))
 (AG (A8 (Ai G7 NS (cg a j (AA (Bk 1) (AA (AO AF) AS))) AF (An _)) (AJ (Ag (i:=2) pq.nd rfl (XV rfl) (BX (AD (cg a p_ (AA (Bk 1) AS)) AU)))) Aj)
 (AG (CQ gM rfl (IU (dv 2)) (Ah (i:=3) pq.nd rfl (XV rfl)) (AG (Ag (i:=4) pq.nd rfl (XV rfl) (cg a k (AA (Bk 1) AS)))
 (AG (Ag (i:=5) pq.nd rfl (XV rfl) (AY (C2 a) Ib rfl T.Gag mS (AL (dv 3) AT)))
 (AJ (A8 (DTW.dt (Bp (BR (BP (cg a r (AA (AO (dv 3)) (AA (AO (dv 4)) (AA (AO (cg a t (AA (AO (dv 3)) (AA (AO (dv 4)) AS)))) AS)))))) (Bu (Ai G5 NQ (AY (C2 a) Ib rfl T.Gag mS (AL (dv 3) AT)) (dv 5) (An _))))) (AJ (AW Bq)) Aj)))))
 (AG (WA (cg a p (AA (Bk 1) (AA (AO AF) AS))) (Gi rfl (BE (Ah (i:=6) pq.nd rfl (XV rfl)) (BE (Ah (i:=7) pq.nd rfl (gx rfl)) Eg))))
 (AG (Ag (i:=8) pq.nd rfl (XV rfl) (Aw A7 BD AF (cg a j (AA (Bk 1) (AA (AO AF) AS)))))
 (AG (Ag (i:=9) pq.nd rfl (XV rfl) (BY BJ Cj rfl T.Gad jv (AL (NY [("_law_pairs":Str),("_law_k":Str)] [P3 7,q_] (DI.c (EB rfl T.Gae (AL (dv 8) AT))) (Ah (i:=1) (show iE [("_law_pairs":Str),("_law_k":Str)] by decide +kernel) rfl (XV rfl)) Be (Aw A7 BD (AX AQ Am (dv 0) (dv 1)) (A1 (AD (Aw A7 BD AF (Aw DC Ek (dv 1) AF)) AU))) (by kernel_rfl)) AT)))
 (AJ (AW (cg a q (AA (AO (A1 (AD (dv 6) (AD (dv 9) AU)))) (AA (AO (cg a k (AA (Bk 1) AS))) AS)))))))))))) Py
end
theorem Gb{d:Type}{n:Nat}(g k:t_ Ev->d)(b:t_ Ev)(h:b.length=n+1)(c:∀(a:Ev) (r:t_ Ev),r.length=n->g (a::r)=k (a::r)):g b=k b:=by
 cases b with
 |nil=>cases h
 |cons a r=>exact c a r (li h)
theorem len0{d:Type}(g k:t_ Ev->d)(b:t_ Ev)(h:b.length=0)(c:g []=k []):g b=k b:=by
 cases b with
 |nil=>exact c
 |cons a r=>cases h
theorem fW{d:gZ}{b:t_ Str}(c:bindArgs d ⟨[],[]⟩=pure (b.zip []))(a:t_ Ev)(h:a.length=0):bindArgs d ⟨a,[]⟩=pure (b.zip a):=len0 (λr=>bindArgs d ⟨r,[]⟩) (λr=>pure (b.zip (r))) a h c
theorem et{d:gZ}{b:t_ Str}(c:∀a:Ev,bindArgs d ⟨[a],[]⟩=pure (b.zip [a]))(e:t_ Ev)(h:e.length=1):bindArgs d ⟨e,[]⟩=pure (b.zip e):=Gb (λr=>bindArgs d ⟨r,[]⟩) (λr=>pure (b.zip (r))) e h λa r h=>len0 (λr=>bindArgs d ⟨a::r,[]⟩) (λr=>pure (b.zip (a::r))) r h (c a)
theorem fV{d:gZ}{e:t_ Str}(c:∀a b:Ev,bindArgs d ⟨[a,b],[]⟩=pure (e.zip [a,b]))(f:t_ Ev)(h:f.length=2):bindArgs d ⟨f,[]⟩=pure (e.zip f):=Gb (λr=>bindArgs d ⟨r,[]⟩) (λr=>pure (e.zip (r))) f h λa r h=>Gb (λr=>bindArgs d ⟨a::r,[]⟩) (λr=>pure (e.zip (a::r))) r h λb r h=>len0 (λr=>bindArgs d ⟨a::b::r,[]⟩) (λr=>pure (e.zip (a::b::r))) r h (c a b)
theorem fT{d:gZ}{e:t_ Str}(c:∀a b f:Ev,bindArgs d ⟨[a,b,f],[]⟩=pure (e.zip [a,b,f]))(g:t_ Ev)(h:g.length=3):bindArgs d ⟨g,[]⟩=pure (e.zip g):=Gb (λr=>bindArgs d ⟨r,[]⟩) (λr=>pure (e.zip (r))) g h λa r h=>Gb (λr=>bindArgs d ⟨a::r,[]⟩) (λr=>pure (e.zip (a::r))) r h λb r h=>Gb (λr=>bindArgs d ⟨a::b::r,[]⟩) (λr=>pure (e.zip (a::b::r))) r h λf r h=>len0 (λr=>bindArgs d ⟨a::b::f::r,[]⟩) (λr=>pure (e.zip (a::b::f::r))) r h (c a b f)
theorem fS{d:gZ}{f:t_ Str}(c:∀a b e g:Ev,bindArgs d ⟨[a,b,e,g],[]⟩=pure (f.zip [a,b,e,g]))(i:t_ Ev)(h:i.length=4):bindArgs d ⟨i,[]⟩=pure (f.zip i):=Gb (λr=>bindArgs d ⟨r,[]⟩) (λr=>pure (f.zip (r))) i h λa r h=>Gb (λr=>bindArgs d ⟨a::r,[]⟩) (λr=>pure (f.zip (a::r))) r h λb r h=>Gb (λr=>bindArgs d ⟨a::b::r,[]⟩) (λr=>pure (f.zip (a::b::r))) r h λe r h=>Gb (λr=>bindArgs d ⟨a::b::e::r,[]⟩) (λr=>pure (f.zip (a::b::e::r))) r h λg r h=>len0 (λr=>bindArgs d ⟨a::b::e::g::r,[]⟩) (λr=>pure (f.zip (a::b::e::g::r))) r h (c a b e g)
theorem fR{d:gZ}{f:t_ Str}(c:∀a b e g i:Ev,bindArgs d ⟨[a,b,e,g,i],[]⟩=pure (f.zip [a,b,e,g,i]))(j:t_ Ev)(h:j.length=5):bindArgs d ⟨j,[]⟩=pure (f.zip j):=Gb (λr=>bindArgs d ⟨r,[]⟩) (λr=>pure (f.zip (r))) j h λa r h=>Gb (λr=>bindArgs d ⟨a::r,[]⟩) (λr=>pure (f.zip (a::r))) r h λb r h=>Gb (λr=>bindArgs d ⟨a::b::r,[]⟩) (λr=>pure (f.zip (a::b::r))) r h λe r h=>Gb (λr=>bindArgs d ⟨a::b::e::r,[]⟩) (λr=>pure (f.zip (a::b::e::r))) r h λg r h=>Gb (λr=>bindArgs d ⟨a::b::e::g::r,[]⟩) (λr=>pure (f.zip (a::b::e::g::r))) r h λi r h=>len0 (λr=>bindArgs d ⟨a::b::e::g::i::r,[]⟩) (λr=>pure (f.zip (a::b::e::g::i::r))) r h (c a b e g i)
def Ht(K:Frag)(x:Str)(a:gG):Prop:=∃(f:Db) (c:Ev) (od d:u_ Db) (e:Array (u_ Ev)) (kV g h b i:Ev),nsIn K mainGlobals x=P3 (P3 (.ref f))/\K.lookup f=P3 ⟨c,od,.func (fnOf x x (Cy a) (Bh a) (AN a) .none kV g h d b i),e⟩/\codeIn K b x=r_/\keepIn K (.ref f)=r_
def Hn(K:Frag)(x:Str):Prop:=nsIn K mainGlobals x=P3 q_
def Hi(K:Frag)(x:Str)(i:Int):Prop:=∃t,nsIn K mainGlobals x=P3 (P3 (.int i t))
theorem Ht.mk{K:Frag}{x:Str}{b:gG}{f:Db}{e:Ev}{od g:u_ Db}{h:Array (u_ Ev)}{kV i j d m:Ev}(a:nsIn K mainGlobals x=P3 (P3 (.ref f)))(l:K.lookup f=P3 ⟨e,od,.func (fnOf x x (Cy b) (Bh b) (AN b) .none kV i j g d m),h⟩)(c:codeIn K d x=r_)(k:keepIn K (.ref f)=r_):Ht K x b:=⟨f,e,od,g,h,kV,i,j,d,m,a,l,c,k⟩
theorem Hi.mk{K:Frag}{x:Str}{i:Int}{t:Tok}(a:nsIn K mainGlobals x=P3 (P3 (.int i t))):Hi K x i:=⟨t,a⟩
theorem Hn.mk{K:Frag}{x:Str}(a:nsIn K mainGlobals x=P3 q_):Hn K x:=a
section
variable {P:Program}{w:World}{K:Frag}{mg:Str->u_ Value}{h base:Heap}{x:Str}{st:Stmt}
theorem Ht.fn(X:K.In h)(G:h.Ns mainGlobals mg)(H:Ht K x st):∃f fd,mg x=P3 (.ref f)/\Fun K x x st f fd:=by
 obtain⟨f,b,d,e,g,i,j,m,n,o,a,l,c,k⟩:=H;exact⟨f,_,mg_of X G a,Vl (st:=st) l c k⟩
theorem Ht.got{k:Nat}{a:t_ Str}{g:Kd}{W:W2}(X:K.In h)(G:h.Ns mainGlobals mg)(H:Ht K x st)(j:∀i n P,W i n P->i.length=a.length)
  (l:∀(kV c o:Ev) (p:u_ Db) (d q:Ev) (e:t_ Ev),e.length=a.length->bindArgs (fnOf x x (Cy st) (Bh st) (AN st) .none kV c o p d q) ⟨e,[]⟩=pure (a.zip e))
  (ok:∀{f:Db}{fd:gZ},Fun K x x st f fd->mg x=P3 (.ref f)->Binds K fd a []->A3 P w K mg base B1 k f fd a (Ck K g W a.length)):Got P w K mg base x k a g W:=by
 obtain⟨f,fd,m,F⟩:=H.fn X G;have b:=F.binds l;exact QM F m b j (ok F m b)
end
theorem xc_mk{K:Frag}{i q k:Str}{C U N l:Db}{bs c sub a:t_ Ev}{m d:t_ Str}{n e f:Bool}{g b:u_ Bool}{p h:u_ Db}{r s t v w x y z A B:u_ Ev}(at_:nsIn K mainGlobals i=P3 (P3 (.ref C)))(j:nsIn K mainGlobals "ThinError"=P3 (P3 (.ref U)))
  (o:K.lookup C=P3 (excClassObj i q C N bs (.ref U::[.type "ValueError",.type "Exception",.type "BaseException",.type "object"]) r_ m sub n g p r s t v w "ValueError.__new__"))
  (u:K.lookup U=P3 (excClassObj "ThinError" k U l c [.type "ValueError",.type "Exception",.type "BaseException",.type "object"] f d a e b h x y z A B "ValueError.__new__"))
  (D:keepIn K (.ref C)=r_) (E:PySem.W.findIn K (.ref C) "__getattribute__"=P3 (P3 (.builtin "BaseException.__getattribute__"))) (F:PySem.W.findIn K (.ref C) "__getattr__"=P3 q_) (G:PySem.W.findIn K (.ref C) "__setattr__"=P3 (P3 (.builtin "object.__setattr__"))) (H:PySem.W.findIn K (.ref C) "__class__"=P3 (P3 (.builtin "object.__class__")))
  (I:PySem.W.findIn K (.ref C) "word"=P3 q_) (J:PySem.W.findIn K (.ref C) "number"=P3 q_) (L:PySem.W.findIn K (.ref C) "row"=P3 q_):XC K i C U:=
 ⟨⟨q,N,bs,m,sub,n,g,p,r,s,t,v,w,o⟩,⟨k,l,c,d,a,e,b,h,x,y,z,A,B,f,u⟩,D,E,F,G,at_,j,H,I,J,L⟩
def H0(K:Frag)(a:Str):Prop:=∃C U,XC K a C U/\PySem.W.findIn K (.ref C) "__init__"=P3 (P3 (.builtin "ValueError.__init__"))
def H1(K:Frag)(a:Str):Prop:=∃C U,XC K a C U
theorem H0.mk{K:Frag}{a:Str}{C U:Db}(c:XC K a C U)(i:PySem.W.findIn K (.ref C) "__init__"=P3 (P3 (.builtin "ValueError.__init__"))):H0 K a:=⟨C,U,c,i⟩
theorem H1.mk{K:Frag}{a:Str}{C U:Db}(c:XC K a C U):H1 K a:=⟨C,U,c⟩
section
variable {P:Program}{w:World}{K:Frag}{mg:Str->u_ Value}{h base:Heap}{x:Str}{st:Stmt}
theorem H0.xm{a:Str}(X:K.In h)(G:h.Ns mainGlobals mg)(H:H0 K a):∃C U,XC K a C U/\mg a=P3 (.ref C):=let ⟨C,U,c,_⟩:=H; ⟨C,U,c,mg_of X G c.at_⟩
theorem H1.xm{a:Str}(X:K.In h)(G:h.Ns mainGlobals mg)(H:H1 K a):∃C U,XC K a C U/\mg a=P3 (.ref C):=let ⟨C,U,c⟩:=H; ⟨C,U,c,mg_of X G c.at_⟩
theorem H1.u{a:Str}(X:K.In h)(G:h.Ns mainGlobals mg)(H:H1 K a):∃U,bE K U/\mg "ThinError"=P3 (.ref U)/\nsIn K mainGlobals "ThinError"=P3 (P3 (.ref U)):=let ⟨C,U,c⟩:=H; ⟨U,c.isU,mg_of X G c.atU,c.atU⟩
theorem H0.g{a:Str}(X:K.In h)(G:h.Ns mainGlobals mg)(H:H0 K a):Rw K mg a:=let ⟨C,U,c,i⟩:=H; ⟨C,U,c,mg_of X G c.at_,i⟩
theorem Ht.gotR{k:Nat}{a:t_ Str}{e:Kd}{W:WX}(X:K.In h)(G:h.Ns mainGlobals mg)(H:Ht K x st)(i:∀g n P j,W g n P j->g.length=a.length)
  (l:∀(kV b o:Ev) (p:u_ Db) (c q:Ev) (d:t_ Ev),d.length=a.length->bindArgs (fnOf x x (Cy st) (Bh st) (AN st) .none kV b o p c q) ⟨d,[]⟩=pure (a.zip d))
  (ok:∀{f:Db}{fd:gZ},Fun K x x st f fd->A3 P w K mg base (Wb P w) k f fd a (dB K e W a.length)):a9 P w K mg base x k a e W:=by
 obtain⟨f,fd,m,F⟩:=H.fn X G;exact⟨f,fd,ok F,m,F.kp,F.binds l,i⟩
end
local macro_rules|`(tactic|walk_at "l")=>`(tactic|(intro _ _ _ h; repeat (first|(obtain⟨e,_⟩:=h; subst e; rfl)|(obtain⟨_,h⟩:=h))))
local macro_rules|`(tactic|walk_at "b")=>`(tactic|(intro _ _ _ _ _ _; first|exact fW rfl|exact et λ_=>rfl|exact fV λ_ _=>rfl|exact fT λ_ _ _=>rfl|exact fS λ_ _ _ _=>rfl|exact fR λ_ _ _ _ _=>rfl))
theorem all_mk{l:PySem.W.OpenLaw}{w:gK}{K:Frag}{h:fu}{d:Str->u_ Ev}{fa:Db}(X:K.In h)(G:h.Ns mainGlobals d)(n:d "law"=P3 (.ref fa))
  (h0:Ht K "rank_of" H_) (h1:Ht K "order_of" GQ) (h2:Ht K "steps_of" GP) (h3:Ht K "only" Pq) (h4:Ht K "without" Hz) (h5:Ht K "left_out" GS) (h6:Ht K "length_of" E6) (h7:Ht K "nearest_of" ER) (h8:Ht K "least_ways" ES) (h9:Ht K "way_of" J8) (o:Ht K "prices_from" Dk) (p:Ht K "is_within" E7) (q:Ht K "least_beyond" C5) (r:Ht K "near_way" GR) (x:Ht K "ways_paper" EQ) (y:Ht K "fewest_of" E8) (z:Ht K "lost_of" IA) (A:Ht K "case_of" IB) (j:Ht K "least_thin" Cu) (B:Ht K "_law_feed" FC) (C:Ht K "_law_next" DR) (D:Ht K "_law_names" EX) (E:Ht K "_law_places" Dl) (H:Ht K "_law_length" Dn) (I:Ht K "_law_ties" E9) (J:Ht K "_law_net" GU) (L:Ht K "_law_times" ET) (M:Ht K "_law_far" GV) (N:Ht K "_law_keeps" EY) (O:Ht K "_law_rank" E_) (Q:Ht K "_law_order" EW) (R:Ht K "_law_choices" C8) (S:Ht K "_law_is_thin" C7) (U:Ht K "_law_long" FA) (V:Ht K "_law_ways_right" B_) (Y:Ht K "_law_is_tie" Dq) (Z:Ht K "_law_is_far" Dr) (a0:Ht K "_law_shows" EU) (a1:Ht K "_law_read_case" CM) (a2:Ht K "_law_joined" Do) (a3:Ht K "_law_whole_net" CL) (a4:Ht K "_law_right" EV) (a5:Ht K "_law_refused" C6) (a6:Ht K "law" J9)
  (z0:Hn K "ValueError") (z1:Hn K "abs") (z2:Hn K "all") (z3:Hn K "bool") (z4:Hn K "dict") (z5:Hn K "int") (z6:Hn K "isinstance") (z7:Hn K "len") (z8:Hn K "list") (z9:Hn K "max") (a7:Hn K "min") (a8:Hn K "range") (a9:Hn K "repr") (b0:Hn K "reversed") (b1:Hn K "sorted") (b2:Hn K "str") (b3:Hn K "tuple") (b4:Hn K "zip") (v0:Hi K "MOST_TIES_OF_LEAST" 10)
  (y0:H1 K "NoPaper") (y1:H1 K "NoLine") (y2:H0 K "TooMany") (y3:H1 K "Twice") (y4:H1 K "NoPlace") (y5:H1 K "NoTie") (y6:H1 K "NoRow")
  :∃fd:gZ,(∀(s:On) (v:Ev),mB s fd ⟨[v],[]⟩ [("_law_script",v)])/\∀base:fu,K.In base->base.Ns mainGlobals d->A3 l.prog w K d base B1 20 fa fd ["_law_script"] (N3 K):=by
 have T:Txt K d:=⟨mg_none_of X G z0,mg_none_of X G z1,mg_none_of X G z2,mg_none_of X G z3,mg_none_of X G z4,mg_none_of X G z5,mg_none_of X G z6,mg_none_of X G z7,mg_none_of X G z8,mg_none_of X G z9,mg_none_of X G a7,mg_none_of X G a8,mg_none_of X G a9,mg_none_of X G b0,mg_none_of X G b1,mg_none_of X G b2,mg_none_of X G b3,mg_none_of X G b4,(let ⟨t,e⟩:=v0; ⟨t,mg_of X G e⟩),y0.xm X G,y1.xm X G,y2.xm X G,y3.xm X G,y4.xm X G,y5.xm X G,y6.xm X G,y0.u X G⟩;obtain⟨ff,b5,mf,Ff⟩:=B.fn X G;have bf:=Ff.binds (ps:=["_law_script"]) λ_ _ _ _ _ _=>et λ_=>rfl;obtain⟨f,oc,od,an,sl,kV,dc,pm,cd,ct,a,l',c,k⟩:=a6;have e:=n.symm.trans (mg_of X G a);cases e;refine⟨fnOf "law" "law" (Cy J9) (Bh J9) (AN J9) .none kV dc pm an cd ct,λs v=>.of_eq rfl,λbase _ _=>?_⟩;have GX_TooMany:Rw K d "TooMany":=y2.g X G;have oN:MH l.prog w K d base:=h0.got X G (by walk_at "l") (by walk_at "b") λF m b=>QC T F;have oQ:K8 l.prog w K d base:=h1.got X G (by walk_at "l") (by walk_at "b") λF m b=>OQ T oN F;have oS:Gm l.prog w K d base:=h2.got X G (by walk_at "l") (by walk_at "b") λF m b=>OP F;have oP:Qi l.prog w K d base:=h3.got X G (by walk_at "l") (by walk_at "b") λF m b=>Xa T F;have oq:Ic l.prog w K d base:=h4.got X G (by walk_at "l") (by walk_at "b") λF m b=>QB T oP F;have oj:K9 l.prog w K d base:=h5.got X G (by walk_at "l") (by walk_at "b") λF m b=>OS T oQ F;have og:Iw l.prog w K d base:=h6.got X G (by walk_at "l") (by walk_at "b") λF m b=>Ml T oS F;have oV:HU l.prog w K d base:=h7.got X G (by walk_at "l") (by walk_at "b") λF m b=>LQ T F;have oX:Em l.prog w K d base:=h8.got X G (by walk_at "l") (by walk_at "b") λF m b=>LR T oV oS F;have oh:PV l.prog w K d base:=h9.got X G (by walk_at "l") (by walk_at "b") λF m b=>Se T oX F;have o5:GH l.prog w K d base:=o.got X G (by walk_at "l") (by walk_at "b") λF m b=>Ka T oX F;have oa:Iy l.prog w K d base:=p.got X G (by walk_at "l") (by walk_at "b") λF m b=>Mm T F;have o0:Fc l.prog w K d base:=q.got X G (by walk_at "l") (by walk_at "b") λF m b=>JL T F;have om:Gn l.prog w K d base:=r.got X G (by walk_at "l") (by walk_at "b") λF m b=>OR T oa og oh F;have oo:El l.prog w K d base:=x.got X G (by walk_at "l") (by walk_at "b") λF m b=>LP T oj om F;have ou:Iz l.prog w K d base:=y.got X G (by walk_at "l") (by walk_at "b") λF m b=>Mn T oo oq F m b;have o4:MI l.prog w K d base:=z.got X G (by walk_at "l") (by walk_at "b") λF m b=>QD T om F;have o6:MJ l.prog w K d base:=A.got X G (by walk_at "l") (by walk_at "b") λF m b=>QE T o0 o4 o5 oq F m b;have qA:HV l.prog w K d base:=j.got X G (by walk_at "l") (by walk_at "b") λF m b=>LS T o6 ou oP oo F;have GR_least_thin:GJ l.prog w K d base:=j.gotR X G (λ_ _ _ _ h=>by obtain⟨_,_,_,e,_⟩:=h; rw[e]; rfl) (by walk_at "b") λF=>Kh T GX_TooMany F;have Gf:=Mr (P:=l.prog) (w:=w) (base:=base) T Ff;have i:Bb l.prog w K d base:=C.got X G (by walk_at "l") (by walk_at "b") λF m b=>Xb F T.Gab;have o_:Hc l.prog w K d base:=D.got X G (by walk_at "l") (by walk_at "b") λF m b=>LY T F;have pE:Dv l.prog w K d base:=E.got X G (by walk_at "l") (by walk_at "b") λF m b=>Kb T o_ i F;have pC:Dw l.prog w K d base:=H.got X G (by walk_at "l") (by walk_at "b") λF m b=>Kc T i F;have pF:I_ l.prog w K d base:=I.got X G (by walk_at "l") (by walk_at "b") λF m b=>Mo T pC i F;have p6:K_ l.prog w K d base:=J.got X G (by walk_at "l") (by walk_at "b") λF m b=>OT T i pE pF F;have p9:HW l.prog w K d base:=L.got X G (by walk_at "l") (by walk_at "b") λF m b=>LU T i F;have pJ:LA l.prog w K d base:=M.got X G (by walk_at "l") (by walk_at "b") λF m b=>OU T F;have pf:Hd l.prog w K d base:=N.got X G (by walk_at "l") (by walk_at "b") λF m b=>LZ T pJ F;have pK:JA l.prog w K d base:=O.got X G (by walk_at "l") (by walk_at "b") λF m b=>Mp T F;have pP:Hb l.prog w K d base:=Q.got X G (by walk_at "l") (by walk_at "b") λF m b=>LX T pK F;have pc:Fh l.prog w K d base:=R.got X G (by walk_at "l") (by walk_at "b") λF m b=>JO T F;have pd:Fg l.prog w K d base:=S.got X G (by walk_at "l") (by walk_at "b") λF m b=>JN T F;have pO:JB l.prog w K d base:=U.got X G (by walk_at "l") (by walk_at "b") λF m b=>Mq T F;have pi:Df l.prog w K d base:=V.got X G (by walk_at "l") (by walk_at "b") λF m b=>GZ T pO pP F;have pR:Dy l.prog w K d base:=Y.got X G (by walk_at "l") (by walk_at "b") λF m b=>Kf T F;have pU:GI l.prog w K d base:=Z.got X G (by walk_at "l") (by walk_at "b") λF m b=>Kg T pR F;have pV:HY l.prog w K d base:=a0.got X G (by walk_at "l") (by walk_at "b") λF m b=>LV T pU pR F m b;have ph:EJ l.prog w K d base:=a1.got X G (by walk_at "l") (by walk_at "b") λF m b=>G9 T pV F;have pY:Dx l.prog w K d base:=a2.got X G (by walk_at "l") (by walk_at "b") λF m b=>Ke T pE F;have p_:EH l.prog w K d base:=a3.got X G (by walk_at "l") (by walk_at "b") λF m b=>G8 T pY pC i F;have p8:HZ l.prog w K d base:=a4.got X G (by walk_at "l") (by walk_at "b") λF m b=>LW T pc pd pf ph pi F;have p7:Fe l.prog w K d base:=a5.got X G (by walk_at "l") (by walk_at "b") λF m b=>JM T GR_least_thin F;exact Zz T Gf mf Ff.kp bf pY p6 i p7 p8 p9 p_ qA (Vl (st:=J9) l' c k)
theorem walk{l:PySem.W.OpenLaw}{q:gD}{c:t_ Str}{j:(Str->u_ Ev)->fu->Prop}{i:gK->fu->Prop}{d:DefRec}{K:Params->Frag}(m:l.most=P3 63)(g:d.params.defaults=[])
  (o:∀(w:gK) (h:fu),i w h->(K w.params).In h)
  (F:∀(w:gK) (e:Str->u_ Ev) (fa:Db) (h:fu),(K w.params).In h->h.Ns mainGlobals e->e d.name=P3 (.ref fa)->
   ∃fd:gZ,(∀(s:On) (u:Ev),mB s fd ⟨[u],[]⟩ [("_law_script",u)])/\∀b:fu,(K w.params).In b->b.Ns mainGlobals e->A3 l.prog w (K w.params) e b B1 20 fa fd ["_law_script"] (N3 (K w.params))):
  PySem.W.WalkO q c j i l.row.toRowW d [] (λf p=>PySem.call f p):=
 L2.Qk (n:=63) (k:=20) (x:="_law_script") (CX:=λ_=>B1) (sp:=λw=>N3 (K w.params)) m (by decide) g ⟨rfl,by decide,by decide,rfl⟩ o F (λ_ _ a r t _ v=>⟨a,r,rfl,⟨t,v⟩,λ_=>rfl⟩) λ_ _ _ _ _ z=>z
end K60
end _p
namespace PySem.W.Fast
theorem tw11984907923871458127:True:=⟨⟩
theorem tw3038522333210978717:True:=⟨⟩
theorem tw11243231860743976589:True:=⟨⟩
theorem tw8825754930009104681:True:=⟨⟩
theorem tw2128600609143441034:True:=⟨⟩
theorem tw12904509610640297528:True:=⟨⟩
theorem tw12353470465474736407:True:=⟨⟩
theorem tw1065217571133573410:True:=⟨⟩
theorem tw11374247711361607061:True:=⟨⟩
theorem tw9081459660311303464:True:=⟨⟩
theorem tw17186239476961500518:True:=⟨⟩
theorem tw11716440444173116542:True:=⟨⟩
theorem tw1098333461099867179:True:=⟨⟩
theorem tw14784657992291977765:True:=⟨⟩
theorem tw15806566290669843482:True:=⟨⟩
theorem tw12536197484639618196:True:=⟨⟩
theorem tw11832331820940504578:True:=⟨⟩
theorem tw8956064238124059919:True:=⟨⟩
theorem tw5104165845442304674:True:=⟨⟩
theorem tw10739731560476290000:True:=⟨⟩
theorem tw8704156138421400898:True:=⟨⟩
theorem tw6425247007638174315:True:=⟨⟩
theorem tw13383933955246007917:True:=⟨⟩
theorem tw14354241152263780203:True:=⟨⟩
theorem tw279109132334893031:True:=⟨⟩
theorem tw16933730398000596911:True:=⟨⟩
theorem tw7628665799606280762:True:=⟨⟩
theorem tw6549488258709795322:True:=⟨⟩
theorem tw8208643779603291880:True:=⟨⟩
theorem tw7722485527656499986:True:=⟨⟩
theorem tw9632331504706491408:True:=⟨⟩
theorem tw15177747675501118846:True:=⟨⟩
theorem tw18299293325499019657:True:=⟨⟩
theorem tw16260289601969866:True:=⟨⟩
theorem tw14841001837674225832:True:=⟨⟩
theorem tw2290775731522505868:True:=⟨⟩
theorem tw10616465749641110103:True:=⟨⟩
theorem tw10470170576332507854:True:=⟨⟩
theorem tw15703765036299923438:True:=⟨⟩
theorem tw12697458538847092799:True:=⟨⟩
theorem tw12161382749552164188:True:=⟨⟩
theorem tw11246641950788126842:True:=⟨⟩
theorem tw13855547042804409274:True:=⟨⟩
theorem tw860057795885187202:True:=⟨⟩
theorem tw10858651877095883238:True:=⟨⟩
theorem tw11475009869281839252:True:=⟨⟩
theorem tw12210355248092573672:True:=⟨⟩
theorem tw4075331317965801801:True:=⟨⟩
theorem tw9057068606791516487:True:=⟨⟩
theorem tw8820123120816769368:True:=⟨⟩
theorem tw3453780313660568144:True:=⟨⟩
theorem tw11387403864024900368:True:=⟨⟩
theorem tw12318681093053434850:True:=⟨⟩
theorem tw6450331578379855389:True:=⟨⟩
theorem tw14051627158322409025:True:=⟨⟩
theorem tw15580127315226757939:True:=⟨⟩
theorem tw3782977567729908046:True:=⟨⟩
theorem tw15885259409274579319:True:=⟨⟩
theorem tw5014880258682773752:True:=⟨⟩
theorem tw16164984060596579683:True:=⟨⟩
theorem tw2940027017730807440:True:=⟨⟩
theorem tw1921900443950859739:True:=⟨⟩
theorem tw3209977893272790897:True:=⟨⟩
theorem tw10342735434596702390:True:=⟨⟩
theorem tw10523828491653095107:True:=⟨⟩
theorem tw12422412813284198678:True:=⟨⟩
theorem tw8342576455423364971:True:=⟨⟩
theorem tw16546876351027584646:True:=⟨⟩
theorem tw8750911286430969891:True:=⟨⟩
theorem tw15555269743006836350:True:=⟨⟩
theorem tw18407619223784664160:True:=⟨⟩
theorem tw3004781156475690929:True:=⟨⟩
theorem tw3883520217719758044:True:=⟨⟩
theorem tw12931925534412076734:True:=⟨⟩
theorem tw5938712610652436975:True:=⟨⟩
theorem tw17677485398209479806:True:=⟨⟩
theorem tw2861321179991433684:True:=⟨⟩
theorem tw7868811844545109227:True:=⟨⟩
theorem tw7570825687044972779:True:=⟨⟩
theorem tw8020131957420568063:True:=⟨⟩
theorem tw8171669220604685838:True:=⟨⟩
theorem tw11994182344034441216:True:=⟨⟩
theorem tw16069081177337877815:True:=⟨⟩
theorem tw10507928063454951934:True:=⟨⟩
theorem tw10618453598049321192:True:=⟨⟩
theorem tw145889587575760502:True:=⟨⟩
theorem tw8605690951856107937:True:=⟨⟩
theorem tw8550174488305381582:True:=⟨⟩
theorem tw17766922973761916081:True:=⟨⟩
theorem tw17031228671332538295:True:=⟨⟩
theorem tw12391042139349814948:True:=⟨⟩
theorem tw6055956334894708045:True:=⟨⟩
theorem tw10219701001879439960:True:=⟨⟩
theorem tw4769510183292132000:True:=⟨⟩
theorem tw2067943910552832086:True:=⟨⟩
theorem tw994284447310989744:True:=⟨⟩
theorem tw7195297137183063158:True:=⟨⟩
theorem tw14900263996545472113:True:=⟨⟩
theorem tw15006798893897486790:True:=⟨⟩
theorem tw4242091971629530591:True:=⟨⟩
theorem tw15877327791625176287:True:=⟨⟩
theorem tw9558452307069126342:True:=⟨⟩
theorem tw13663651125950152902:True:=⟨⟩
theorem tw2876562567568059837:True:=⟨⟩
theorem tw12853910388604045813:True:=⟨⟩
theorem tw12517653165078181586:True:=⟨⟩
theorem tw12034073998741249523:True:=⟨⟩
theorem tw866708533530969255:True:=⟨⟩
theorem tw7428660490197719397:True:=⟨⟩
theorem tw8888314285642884959:True:=⟨⟩
theorem tw214318324208380590:True:=⟨⟩
theorem tw3625061072931645794:True:=⟨⟩
theorem tw12849023080125929961:True:=⟨⟩
theorem tw6255213908671019901:True:=⟨⟩
theorem tw17636943281507262671:True:=⟨⟩
theorem tw7945528842962413199:True:=⟨⟩
theorem tw12740328968990934599:True:=⟨⟩
theorem tw16666115879146327673:True:=⟨⟩
theorem tw2389398373248358766:True:=⟨⟩
theorem tw13340949545136761479:True:=⟨⟩
theorem tw15941993770092777934:True:=⟨⟩
theorem tw18249647815439044471:True:=⟨⟩
theorem tw3110318571274682721:True:=⟨⟩
theorem tw16663083917105241518:True:=⟨⟩
theorem tw3005018041270670099:True:=⟨⟩
theorem tw264783141546777815:True:=⟨⟩
theorem tw14581037388516971083:True:=⟨⟩
theorem tw9819461072386920642:True:=⟨⟩
theorem tw11879869931642930050:True:=⟨⟩
theorem tw14261700607792146192:True:=⟨⟩
theorem tw10633224095816674210:True:=⟨⟩
theorem tw17819229849169934004:True:=⟨⟩
theorem tw17415783268429993191:True:=⟨⟩
theorem tw5107352830463891636:True:=⟨⟩
theorem tw15909352191312522305:True:=⟨⟩
theorem tw4225660955905115218:True:=⟨⟩
theorem tw7904494879790207697:True:=⟨⟩
theorem tw13593259187972746327:True:=⟨⟩
theorem tw10578595964293933943:True:=⟨⟩
theorem tw7419751102283262012:True:=⟨⟩
theorem tw6305218318862755758:True:=⟨⟩
theorem tw11721052540555221809:True:=⟨⟩
theorem tw17437449677773600808:True:=⟨⟩
theorem tw12551626150111495744:True:=⟨⟩
theorem tw429234096070216494:True:=⟨⟩
theorem tw1189048865398826347:True:=⟨⟩
theorem tw10416113596749030517:True:=⟨⟩
theorem tw2743763571354625095:True:=⟨⟩
theorem tw7927986059096318589:True:=⟨⟩
theorem tw16846626188030597217:True:=⟨⟩
theorem tw17724433382386378140:True:=⟨⟩
theorem tw7838746221975772800:True:=⟨⟩
theorem tw1808162107794444290:True:=⟨⟩
theorem tw3001718281518233658:True:=⟨⟩
theorem tw3058436615976421385:True:=⟨⟩
theorem tw12907217626072088086:True:=⟨⟩
theorem tw8544361695824391574:True:=⟨⟩
theorem tw5578305462473116143:True:=⟨⟩
theorem tw6084238838972006636:True:=⟨⟩
theorem tw16454757892510012695:True:=⟨⟩
theorem tw15920042320664909191:True:=⟨⟩
theorem tw11603319531955091448:True:=⟨⟩
theorem tw15836580930631548202:True:=⟨⟩
theorem tw4220335971229459722:True:=⟨⟩
theorem tw5456011222787235806:True:=⟨⟩
theorem tw8345007064587581519:True:=⟨⟩
theorem tw10252263136242875264:True:=⟨⟩
theorem tw11062679169683262739:True:=⟨⟩
theorem tw6000188298580165295:True:=⟨⟩
theorem tw6950993696914277699:True:=⟨⟩
theorem tw2054012294279735691:True:=⟨⟩
theorem tw15809819748572436297:True:=⟨⟩
theorem tw9180460765129535662:True:=⟨⟩
theorem tw12172729069167350868:True:=⟨⟩
theorem tw9370848116299440353:True:=⟨⟩
theorem tw200293849872891402:True:=⟨⟩
theorem tw3361777091827017973:True:=⟨⟩
theorem tw12858083969181990999:True:=⟨⟩
theorem tw7818997229435929527:True:=⟨⟩
theorem tw6402009855501362219:True:=⟨⟩
theorem tw12617472427528442952:True:=⟨⟩
theorem tw16519278197404187642:True:=⟨⟩
theorem tw15817850486977277622:True:=⟨⟩
theorem tw9371808389066161858:True:=⟨⟩
theorem tw14282801743076083059:True:=⟨⟩
theorem tw1530692532596180740:True:=⟨⟩
end PySem.W.Fast
open _p
open PySem.W
set_option maxRecDepth 100000 in
set_option maxHeartbeats 0 in
theorem PySem.Challenge.cw_thinnet_k60_least_by_all_choices_holds : PySem.Challenge.rw_thinnet_k60_least_by_all_choices.Holds := by
 w_on; o_law; k_head; (case hw=>w_witness2)
 k_fill
 refine K60.walk (l:=PySem.Challenge.rw_thinnet_k60_least_by_all_choices) rfl rfl (λw h Y=>PySem.W.kIn_of Y) ?F
 case F =>
  intro w mg fa h KX G hmg
  refine' K60.all_mk KX G hmg ?_ ?_ ?_ ?_ ?_ ?_ ?_ ?_ ?_ ?_ ?_ ?_ ?_ ?_ ?_ ?_ ?_ ?_ ?_ ?_ ?_ ?_ ?_ ?_ ?_ ?_ ?_ ?_ ?_ ?_ ?_ ?_ ?_ ?_ ?_ ?_ ?_ ?_ ?_ ?_ ?_ ?_ ?_ ?_ ?_ ?_ ?_ ?_ ?_ ?_ ?_ ?_ ?_ ?_ ?_ ?_ ?_ ?_ ?_ ?_ ?_ ?_ ?_ ?_ ?_ ?_ ?_ ?_ ?_ ?_
  all_goals first
   | (refine' K60.Ht.mk ?a ?l ?c ?k; (case a=>k_is); (case l=>k_is); (case c=>k_is); (case k=>k_is))
   | (refine' K60.Hi.mk ?a; (case a=>k_is))
   | (refine' K60.Hn.mk ?a; (case a=>k_is))
   | skip
  ·(refine' K60.H1.mk ?c; (case c=>(refine' K60.xc_mk ?at_ ?atU ?o ?u ?kp ?ga ?gt ?sa ?ca ?nw ?nn ?nr; (case at_=>k_is); (case atU=>k_is); (case o=>k_is); (case u=>k_is); (case kp=>k_is); (case ga=>k_is); (case gt=>k_is); (case sa=>k_is); (case ca=>k_is); (case nw=>k_is); (case nn=>k_is); (case nr=>k_is))))
  ·(refine' K60.H1.mk ?c; (case c=>(refine' K60.xc_mk ?at_ ?atU ?o ?u ?kp ?ga ?gt ?sa ?ca ?nw ?nn ?nr; (case at_=>k_is); (case atU=>k_is); (case o=>k_is); (case u=>k_is); (case kp=>k_is); (case ga=>k_is); (case gt=>k_is); (case sa=>k_is); (case ca=>k_is); (case nw=>k_is); (case nn=>k_is); (case nr=>k_is))))
  ·(refine' K60.H0.mk ?c ?i; (case c=>(refine' K60.xc_mk ?at_ ?atU ?o ?u ?kp ?ga ?gt ?sa ?ca ?nw ?nn ?nr; (case at_=>k_is); (case atU=>k_is); (case o=>k_is); (case u=>k_is); (case kp=>k_is); (case ga=>k_is); (case gt=>k_is); (case sa=>k_is); (case ca=>k_is); (case nw=>k_is); (case nn=>k_is); (case nr=>k_is))); (case i=>k_is))
  ·(refine' K60.H1.mk ?c; (case c=>(refine' K60.xc_mk ?at_ ?atU ?o ?u ?kp ?ga ?gt ?sa ?ca ?nw ?nn ?nr; (case at_=>k_is); (case atU=>k_is); (case o=>k_is); (case u=>k_is); (case kp=>k_is); (case ga=>k_is); (case gt=>k_is); (case sa=>k_is); (case ca=>k_is); (case nw=>k_is); (case nn=>k_is); (case nr=>k_is))))
  ·(refine' K60.H1.mk ?c; (case c=>(refine' K60.xc_mk ?at_ ?atU ?o ?u ?kp ?ga ?gt ?sa ?ca ?nw ?nn ?nr; (case at_=>k_is); (case atU=>k_is); (case o=>k_is); (case u=>k_is); (case kp=>k_is); (case ga=>k_is); (case gt=>k_is); (case sa=>k_is); (case ca=>k_is); (case nw=>k_is); (case nn=>k_is); (case nr=>k_is))))
  ·(refine' K60.H1.mk ?c; (case c=>(refine' K60.xc_mk ?at_ ?atU ?o ?u ?kp ?ga ?gt ?sa ?ca ?nw ?nn ?nr; (case at_=>k_is); (case atU=>k_is); (case o=>k_is); (case u=>k_is); (case kp=>k_is); (case ga=>k_is); (case gt=>k_is); (case sa=>k_is); (case ca=>k_is); (case nw=>k_is); (case nn=>k_is); (case nr=>k_is))))
  ·(refine' K60.H1.mk ?c; (case c=>(refine' K60.xc_mk ?at_ ?atU ?o ?u ?kp ?ga ?gt ?sa ?ca ?nw ?nn ?nr; (case at_=>k_is); (case atU=>k_is); (case o=>k_is); (case u=>k_is); (case kp=>k_is); (case ga=>k_is); (case gt=>k_is); (case sa=>k_is); (case ca=>k_is); (case nw=>k_is); (case nn=>k_is); (case nr=>k_is))))
#print axioms PySem.Challenge.cw_thinnet_k60_least_by_all_choices_holds

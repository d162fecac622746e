import PyProof.Rows.All
import Wide.All
import OpenK.AllK
import Wide.FinOn
import Lean
import PyProof.EqAt
import PyProof.EqKinds
import PyProof.TupleCall
import PyProof.StationsW
import PyProof.PassesOwn
import PyProof.RulesAs
import PyProof.ExcClass3
import PyProof.Rows.CatchOwn
import OpenK.KMake
import OpenK.KWalk
import PyProof.InstStoreFacts
import PyProof.ExcBaseAll.ValueError
import PyProof.RangeIter
import OpenK.KRaise
import PyProof.NsDelKeeps
import KE.KIsAll
import PyProof.P3In
import PyProof.NeData
import PyProof.ExcArgs
import KE.KSortTup
import PyProof.CompUse
import KE.KRevIter
import PyProof.TupleOfGen
import PyProof.CollectIter
import PyProof.ListMulRoad
import PyProof.Draws
import PyProof.EnumMake
import PyProof.ListNew
import PyProof.AttrMissHeap
import PyProof.FactsAll.dict
import KE.KEqDict
import PyProof.FactsAll.zip
import PyProof.StrBlockH
import PyProof.MeetsStr2
import KE.KIntText
import PyProof.Rows.FStr
import PyProof.ReprLen
import PyProof.SumAny
import PyProof.Rows.SeqCalls
import KE.KDictSum
import PyProof.ConsumeS
import PyProof.WalkInts
import PyProof.RulesTry
import PySem.Challenge.RW_thinnet_k63_answers_of_others
open PySem.W (Frag nsIn keepIn fnOf codeIn mg_of mg_none_of)
set_option Elab.async false
set_option compiler.extract_closed false
set_option linter.all false
set_option maxRecDepth 100000
open Array renaming length_toList->jb,getElem?_eq_getElem->lC,getElem?_toList->nP,getElem?_eq_none->pe,mem_toList_iff->p9
open Array.Perm renaming refl->pP
open Bool renaming and_eq_true->iE,false_ne_true->iI,eq_false_iff->iS,true_and->iY,false_eq_true->jR,eq_iff_iff->jW,and_true->lU,false_and->oE,and_false->p8
open Char renaming toNat->mw
open Classical renaming propDecidable->lR,byContradiction->o4
open False renaming elim->jj
open ForInStep renaming yield->kU
open Int renaming zero_add->ja,toNat_natCast->jg,eq_ofNat_of_zero_le->ju,mul_le_mul_of_nonneg_right->kZ,le_refl->kn,mul_le_mul_of_nonneg_left->ni,emod_lt_of_pos->oU,emod_nonneg->pQ
open List renaming length_map->FM,getElem?_eq_getElem->On,mem_map->Rs,mem_cons_self->Sc,mem_cons_of_mem->TM,mem_cons->TW,getElem?_map->T0,length_cons->UF,length_append->ZB,getElem?_eq_some_iff->f8,mem_singleton->h_,length_singleton->iB,not_mem_nil->iC,nil_append->iD,mem_append->iH,size_toArray->iK,mem_append_right->iL,range->iM,replicate->iN,map_cons->iQ,getD_eq_getElem?_getD->iT,nodup_cons->iV,toArray->ig,map_append->ij,append_nil->im,mem_of_getElem?->iu,append_assoc->i7,pairwise_cons->i9,map_map->i_,mem_append_left->jA,getElem_mem->jB,mem_range->jD,map_congr_left->jF,all_eq_true->jH,nodup_nil->jI,drop_eq_getElem_cons->jL,nodup_append->jh,getElem?_append_right->ji,length_nil->jm,length_take->jo,mem_filter->jt,mem_iff_getElem?->jz,take_append_drop->j7,length_filter_le->j8,lt_irrefl->j_,length_range->kC,length_set->kE,take_of_length_le->kG,mem_flatMap->kH,cons_append->kI,singleton_append->kM,pairwise_iff_getElem->kO,pairwise_map->ke,any_eq_true->kj,map_id->km,forIn_cons->kx,length_zip->kz,filter_congr->k_,getElem?_append_left->lA,pairwise_append->lE,mem_of_mem_take->lG,length_drop->lK,lookup_cons->lM,filterMap_cons->lN,length_eq_zero_iff->lP,all_cons->lS,of_mem_zip->lX,filter_map->lf,length->li,reverse_cons->l7,drop_length->mI,take_length->mJ,mem_iff_getElem->mL,cons_ne_nil->mM,mem_of_getLast?->mN,lookup->mR,filter_sublist->mT,getElem?_zip_eq_some->mU,mem_of_find?_eq_some->mV,getLast?_eq_some_iff->mW,zipWith->mh,idxOf_lt_length_iff->mn,getElem?_replicate->mz,pairwise_singleton->m6,flatMap_cons->m_,range_succ_eq_map->nA,ext_getElem->nJ,getElem?_eq_none->nR,getLast?_eq_some_getLast->nt,getElem?_range->n6,forIn_nil->n_,drop_zero->oB,mem_filterMap->oJ,filterMap_map->oM,zip_cons_cons->oO,forIn_toArray->oQ,find?_eq_none->oS,any_cons->oY,lt_trans->oa,perm_ext_iff_of_nodup->oi,take_sublist->om,getElem?_set->oq,take_add_one->oy,getElem_inj->o6,map_fst_zip->pH,map_nil->pI,perm_middle->pK,getElem?_cons_succ->pL,foldl_cons->pM,find?_some->pR,getElem?_set_self->pU,length_replicate->pf,getElem?_zipWith->ph,getElem?_toArray->pq,take_succ->p7,Nodup->qC
open List.Pairwise renaming imp_of_mem->mo,nil->m7
open List.Perm renaming append_left->kN,trans->kX,refl->oC
open List.Sublist renaming refl->qK
open List.cons renaming inj->iO
open Nat renaming le_refl->Re,zero_le->XV,ne_of_lt->iJ,le_trans->iU,lt_of_lt_of_le->ic,lt_irrefl->jN,le_succ->jT,succ_le_succ->jZ,ne_of_gt->kR,pow_succ->kY,lt_succ_of_lt->kc,lt_of_le_of_lt->kq,min_eq_left->k6,pow_le_pow_right->lH,two_pow_pos->lc,le_of_lt->l9,sub_self->mE,le_of_eq->mX,lt_trans->mY,sub_zero->mi,le_add_right->nI,not_lt->nW,le_succ_of_le->o0,lt_succ_self->o_,min_le_right->pB,toDigits->pJ,mod_lt->qB
open Nat.succ renaming inj->mj
open Ne renaming symm->iz
open Option renaming map_eq_some_iff->iX,some_beq_some->qA
open Option.some renaming inj->iA
open Or renaming inl->jK,inr->kJ
open PyProof.Rows renaming slot_tuple_getitem->ip,callWith_type1->jf,boot_all->k7,listUpdate_at->k9,get?_update_seq->lZ,AllBare->l8,boot_list->mq,listItems_at->ng,entry_tuple_getitem->nz,seqEpoch_at->oG,boot_sorted->oH,assignInOrder_cons->oI,args_tuple_getitem->oN,boot_repr->oV,lt_int->pV
open PyProof.Rows.KeyOrd renaming kle_refl->jx,kle_of_klt->m9,kle_trans->nH,kle_antisymm->qF
open PySem renaming wpAny_bind->Ch,Addr->Db,Value->Ev,Shared->No,wpAny_pure->Op,Heap->iG,Program->iP,Expr->iR,World->iZ,Around->ik,wpAny_field->io,wpAny_holding->i6,wpAny_mono->i8,wpAny_callSpecial?_slot->jC,FuncData->jG,sizeLine_eq->jJ,Stmt->jM,wpAny_loadPart_at->jP,IsPair->jS,wpAny_call_entry->jY,wpAny_isSubtype_exc->je,wpAny_pyIter_tuple->jk,wpAny_Call_Name_kw->jl,wpAny_newObj_type->jp,wpAny_seqItems->jr,wpAny_pyIter_list->jv,Builtin->j9,wpAny_loadPart'->kF,wpAny_setField_rec->kL,Scope->kP,wpAny_typeNameOfWhole_keyiter->kh,NameKind->ki,wpAny_typeOf->ko,wpAny_passesOwn->ku,codeAny_builtin->ky,IsZip->lD,wpAny_setField->lJ,wpAny_getItem_str_slice->lO,wpAny_attempt->lT,wpAny_execs_nil->lW,wpAny_truthy_bool->lv,codeAny_mono->l_,Keyword->mB,wpAny_rule->mG,wpAny_call->mH,wpAny_standAt->mO,ExceptHandler->mQ,tupleKind_room_in1->mZ,PyData->md,typeIs_str->mr,wpAny_onRaise->nC,plainId_quiet->nF,PassesOwn->nL,wpAny_notOrdered_dict->nQ,plainObj_wpAny_Assign_Attribute->nS,IsPart->nU,call_meets->nV,codeAny_call_builtin->nX,post_val_or_str->nZ,wpAny_updateSeq_pair->nc,BindsTo->n8,wpAny_newTuple->oA,wpAny_newList->og,wpAny_sequenceKey->on,slot_list_getitem->oo,wpAny_dictEntries->oz,wpAny_execs_cons->o7,noFill_tuple_add->o8,wpAny_madeBy_exc->pA,wpAny_isInstance->pD,wpAny_pyIter_zip->pE,DictEntry->pN,codeAny_of_tree->pO,wpAny_dictEpoch->pS,wpAny_of_eq->pX,wpAny_letGo->pZ
open PySem.Around renaming under_plainId->lF
open PySem.Builtin.Dict renaming updateFrom->lQ,pairItems->ln,addKeywords->pF,selfAndRest->pG,showsAll->p6
open PySem.Builtin.Dict_items renaming ownsTuple->oF
open PySem.Builtin.List renaming listTooLong->lL,listExtendWith->oR
open PySem.Builtin.ObjectAttr renaming storeInDict->nY
open PySem.Builtin.Slice renaming slicePlaces->jw,sliceAdjust->lB,sliceApplied->oX
open PySem.Builtin.SmallTypes renaming ownedTupleIsFree->iw,nextOf->jE,ownedTupleHandOut->me
open PySem.Builtin.Str renaming reprChar->jQ
open PySem.Builtin.Tuple renaming tupleItemsOf->mP,tupleIsExact->oZ,tupleExact->o9
open PySem.Calls renaming spliced_cons->oK,Name_function_global->oW,spliced_nil->oj,callWith_builtin->pW,evalArgs_plain->p_
open PySem.Code renaming quiet_builtin->lY
open PySem.EntryCells renaming newEntry->qD
open PySem.Expr renaming Call->qJ
open PySem.F renaming slot_dict_keyiterator_next->kA,slot_zip_next->kW,slot_tuple_iterator_next->k8,args_zip_next_1->m8,entry_zip_next->nG,args_dict_keyiterator_next_1->nh,entry_dict_keyiterator_next->nj,args_tuple_iterator_next_1->n9,entry_tuple_iterator_next->oP
open PySem.Heap renaming get?_push_of_some->Go,lt_size->Tk,get?_push_size->Uf,get?_update_other->ii,size_push->jV,get?_update_self->jy,SameBut->kQ,IsTuple->pC,ExtBut->pY,IsList->pc
open PySem.Heap.IsSliceOf renaming new->qI
open PySem.Heap.SameBut renaming update->mS
open PySem.Heap.UpToSlots renaming refl->qE
open PySem.NameKind renaming free->jO,cell->nB
open PySem.Obj renaming mapSeq->jd,mapFields->kg,data_mapFields->kr,isFreed_of_fields->nO
open PySem.PassesOwn renaming never->iW
open PySem.PyData renaming depthAll->jn,eqv->jq,canLayAll0->kd,shownAll->lg,hasDict->mC,eqvAll->oh,hasDictAll->ou,leavesShortAll->pi
open PySem.SeqAt.EqAt renaming int_str->qG,str_int->qH
open PySem.Shared renaming heap->lm
open PySem.Str renaming ofString->jX,ofString_eq_toList->pd
open PySem.Value renaming ref->iF,none->ie,str->lI,bool->lV,type->mF
open Std.Legacy.Range renaming size->pk
open Sum renaming inr->ir,inl->o5
open Sum.inr renaming inj->jU
open True renaming intro->kT
open PySem PySem.Spec PyProof.Rows
local macro_rules | `(tactic| walk_at "s")=>`(tactic| (constructor <;> first | rfl | decide +kernel))
namespace _p
set_option tactic.hygienic false

local macro_rules|`(tactic|let#[$x,*]:=$e)=>open Lean Parser Tactic in do
 let q k a:=mkNode ``rcasesPatLo #[mkNode ``rcasesPatMed #[mkNullNode #[mkNode k a]],mkNullNode]
 let p:Syntax:=(← `(term|⟨$x,*⟩)).raw.rewriteBottomUp fun s=>if s.isIdent then q ``rcasesPat.one #[s] else if s.getKind= ``Term.hole then q ``rcasesPat.ignore s.getArgs else if s.getKind= ``Term.anonymousCtor||s.getKind= `«term#[_,]» then q ``rcasesPat.tuple s.getArgs else s
 let m:TSyntax ``rcasesPatMed:=⟨p[0]⟩
 `(tactic|obtain $m:rcasesPatMed:=$e)
local macro_rules|`(tactic|exists $x,*)=>`(tactic|refine⟨$x,*, ?_⟩)
local macro_rules|`(tactic|lk)=>`(tactic|first|lia|omega)
local macro_rules|`(tactic|cbv)=>`(tactic|decide)
theorem e01{A B:Prop}{G:Prop}(h:A∧B)(g:A→B→G):G:=g h.1 h.2
theorem e02{A B C:Prop}{G:Prop}(h:A∧B∧C)(g:A→B→C→G):G:=g h.1 h.2.1 h.2.2
theorem e03{A B C D:Prop}{G:Prop}(h:A∧B∧C∧D)(g:A→B→C→D→G):G:=g h.1 h.2.1 h.2.2.1 h.2.2.2
theorem e04{A B C D E:Prop}{G:Prop}(h:A∧B∧C∧D∧E)(g:A→B→C→D→E→G):G:=g h.1 h.2.1 h.2.2.1 h.2.2.2.1 h.2.2.2.2
theorem e05{A B C D E F:Prop}{G:Prop}(h:A∧B∧C∧D∧E∧F)(g:A→B→C→D→E→F→G):G:=g h.1 h.2.1 h.2.2.1 h.2.2.2.1 h.2.2.2.2.1 h.2.2.2.2.2
theorem e10{A:α→Prop}{G:Prop}(h:∃x,A x)(g:∀x,A x→G):G:=h.elim λx h=>g x h
theorem e11{A B:α→Prop}{G:Prop}(h:∃x,A x∧B x)(g:∀x,A x→B x→G):G:=h.elim λx h=>g x h.1 h.2
theorem e12{A B C:α→Prop}{G:Prop}(h:∃x,A x∧B x∧C x)(g:∀x,A x→B x→C x→G):G:=h.elim λx h=>g x h.1 h.2.1 h.2.2
theorem e13{A B C D:α→Prop}{G:Prop}(h:∃x,A x∧B x∧C x∧D x)(g:∀x,A x→B x→C x→D x→G):G:=h.elim λx h=>g x h.1 h.2.1 h.2.2.1 h.2.2.2
theorem e14{A B C D E:α→Prop}{G:Prop}(h:∃x,A x∧B x∧C x∧D x∧E x)(g:∀x,A x→B x→C x→D x→E x→G):G:=h.elim λx h=>g x h.1 h.2.1 h.2.2.1 h.2.2.2.1 h.2.2.2.2
theorem e15{A B C D E F:α→Prop}{G:Prop}(h:∃x,A x∧B x∧C x∧D x∧E x∧F x)(g:∀x,A x→B x→C x→D x→E x→F x→G):G:=h.elim λx h=>g x h.1 h.2.1 h.2.2.1 h.2.2.2.1 h.2.2.2.2.1 h.2.2.2.2.2
theorem e20{A:α→β→Prop}{G:Prop}(h:∃x y,A x y)(g:∀x y,A x y→G):G:=h.elim λx h=>h.elim λy h=>g x y h
theorem e21{A B:α→β→Prop}{G:Prop}(h:∃x y,A x y∧B x y)(g:∀x y,A x y→B x y→G):G:=h.elim λx h=>h.elim λy h=>g x y h.1 h.2
theorem e22{A B C:α→β→Prop}{G:Prop}(h:∃x y,A x y∧B x y∧C x y)(g:∀x y,A x y→B x y→C x y→G):G:=h.elim λx h=>h.elim λy h=>g x y h.1 h.2.1 h.2.2
theorem e23{A B C D:α→β→Prop}{G:Prop}(h:∃x y,A x y∧B x y∧C x y∧D x y)(g:∀x y,A x y→B x y→C x y→D x y→G):G:=h.elim λx h=>h.elim λy h=>g x y h.1 h.2.1 h.2.2.1 h.2.2.2
theorem e24{A B C D E:α→β→Prop}{G:Prop}(h:∃x y,A x y∧B x y∧C x y∧D x y∧E x y)(g:∀x y,A x y→B x y→C x y→D x y→E x y→G):G:=h.elim λx h=>h.elim λy h=>g x y h.1 h.2.1 h.2.2.1 h.2.2.2.1 h.2.2.2.2
theorem e25{A B C D E F:α→β→Prop}{G:Prop}(h:∃x y,A x y∧B x y∧C x y∧D x y∧E x y∧F x y)(g:∀x y,A x y→B x y→C x y→D x y→E x y→F x y→G):G:=h.elim λx h=>h.elim λy h=>g x y h.1 h.2.1 h.2.2.1 h.2.2.2.1 h.2.2.2.2.1 h.2.2.2.2.2
theorem e26{A B C D E F H:α→β→Prop}{G:Prop}(h:∃x y,A x y∧B x y∧C x y∧D x y∧E x y∧F x y∧H x y)(g:∀x y,A x y→B x y→C x y→D x y→E x y→F x y→H x y→G):G:=h.elim λx h=>h.elim λy h=>g x y h.1 h.2.1 h.2.2.1 h.2.2.2.1 h.2.2.2.2.1 h.2.2.2.2.2.1 h.2.2.2.2.2.2
theorem e27{A B C D E F H I:α→β→Prop}{G:Prop}(h:∃x y,A x y∧B x y∧C x y∧D x y∧E x y∧F x y∧H x y∧I x y)(g:∀x y,A x y→B x y→C x y→D x y→E x y→F x y→H x y→I x y→G):G:=h.elim λx h=>h.elim λy h=>g x y h.1 h.2.1 h.2.2.1 h.2.2.2.1 h.2.2.2.2.1 h.2.2.2.2.2.1 h.2.2.2.2.2.2.1 h.2.2.2.2.2.2.2
theorem e30{A:α→β→γ→Prop}{G:Prop}(h:∃x y z,A x y z)(g:∀x y z,A x y z→G):G:=h.elim λx h=>h.elim λy h=>h.elim λz h=>g x y z h
theorem e31{A B:α→β→γ→Prop}{G:Prop}(h:∃x y z,A x y z∧B x y z)(g:∀x y z,A x y z→B x y z→G):G:=h.elim λx h=>h.elim λy h=>h.elim λz h=>g x y z h.1 h.2
theorem e32{A B C:α→β→γ→Prop}{G:Prop}(h:∃x y z,A x y z∧B x y z∧C x y z)(g:∀x y z,A x y z→B x y z→C x y z→G):G:=h.elim λx h=>h.elim λy h=>h.elim λz h=>g x y z h.1 h.2.1 h.2.2
theorem e33{A B C D:α→β→γ→Prop}{G:Prop}(h:∃x y z,A x y z∧B x y z∧C x y z∧D x y z)(g:∀x y z,A x y z→B x y z→C x y z→D x y z→G):G:=h.elim λx h=>h.elim λy h=>h.elim λz h=>g x y z h.1 h.2.1 h.2.2.1 h.2.2.2
theorem e34{A B C D E:α→β→γ→Prop}{G:Prop}(h:∃x y z,A x y z∧B x y z∧C x y z∧D x y z∧E x y z)(g:∀x y z,A x y z→B x y z→C x y z→D x y z→E x y z→G):G:=h.elim λx h=>h.elim λy h=>h.elim λz h=>g x y z h.1 h.2.1 h.2.2.1 h.2.2.2.1 h.2.2.2.2
theorem e35{A B C D E F:α→β→γ→Prop}{G:Prop}(h:∃x y z,A x y z∧B x y z∧C x y z∧D x y z∧E x y z∧F x y z)(g:∀x y z,A x y z→B x y z→C x y z→D x y z→E x y z→F x y z→G):G:=h.elim λx h=>h.elim λy h=>h.elim λz h=>g x y z h.1 h.2.1 h.2.2.1 h.2.2.2.1 h.2.2.2.2.1 h.2.2.2.2.2
theorem e36{A B C D E F H:α→β→γ→Prop}{G:Prop}(h:∃x y z,A x y z∧B x y z∧C x y z∧D x y z∧E x y z∧F x y z∧H x y z)(g:∀x y z,A x y z→B x y z→C x y z→D x y z→E x y z→F x y z→H x y z→G):G:=h.elim λx h=>h.elim λy h=>h.elim λz h=>g x y z h.1 h.2.1 h.2.2.1 h.2.2.2.1 h.2.2.2.2.1 h.2.2.2.2.2.1 h.2.2.2.2.2.2
theorem e37{A B C D E F H I:α→β→γ→Prop}{G:Prop}(h:∃x y z,A x y z∧B x y z∧C x y z∧D x y z∧E x y z∧F x y z∧H x y z∧I x y z)(g:∀x y z,A x y z→B x y z→C x y z→D x y z→E x y z→F x y z→H x y z→I x y z→G):G:=h.elim λx h=>h.elim λy h=>h.elim λz h=>g x y z h.1 h.2.1 h.2.2.1 h.2.2.2.1 h.2.2.2.2.1 h.2.2.2.2.2.1 h.2.2.2.2.2.2.1 h.2.2.2.2.2.2.2
theorem e41{A B:α→β→γ→δ→Prop}{G:Prop}(h:∃x y z u,A x y z u∧B x y z u)(g:∀x y z u,A x y z u→B x y z u→G):G:=h.elim λx h=>h.elim λy h=>h.elim λz h=>h.elim λu h=>g x y z u h.1 h.2
theorem e43{A B C D:α→β→γ→δ→Prop}{G:Prop}(h:∃x y z u,A x y z u∧B x y z u∧C x y z u∧D x y z u)(g:∀x y z u,A x y z u→B x y z u→C x y z u→D x y z u→G):G:=h.elim λx h=>h.elim λy h=>h.elim λz h=>h.elim λu h=>g x y z u h.1 h.2.1 h.2.2.1 h.2.2.2
theorem e44{A B C D E:α→β→γ→δ→Prop}{G:Prop}(h:∃x y z u,A x y z u∧B x y z u∧C x y z u∧D x y z u∧E x y z u)(g:∀x y z u,A x y z u→B x y z u→C x y z u→D x y z u→E x y z u→G):G:=h.elim λx h=>h.elim λy h=>h.elim λz h=>h.elim λu h=>g x y z u h.1 h.2.1 h.2.2.1 h.2.2.2.1 h.2.2.2.2
theorem e45{A B C D E F:α→β→γ→δ→Prop}{G:Prop}(h:∃x y z u,A x y z u∧B x y z u∧C x y z u∧D x y z u∧E x y z u∧F x y z u)(g:∀x y z u,A x y z u→B x y z u→C x y z u→D x y z u→E x y z u→F x y z u→G):G:=h.elim λx h=>h.elim λy h=>h.elim λz h=>h.elim λu h=>g x y z u h.1 h.2.1 h.2.2.1 h.2.2.2.1 h.2.2.2.2.1 h.2.2.2.2.2
theorem e46{A B C D E F H:α→β→γ→δ→Prop}{G:Prop}(h:∃x y z u,A x y z u∧B x y z u∧C x y z u∧D x y z u∧E x y z u∧F x y z u∧H x y z u)(g:∀x y z u,A x y z u→B x y z u→C x y z u→D x y z u→E x y z u→F x y z u→H x y z u→G):G:=h.elim λx h=>h.elim λy h=>h.elim λz h=>h.elim λu h=>g x y z u h.1 h.2.1 h.2.2.1 h.2.2.2.1 h.2.2.2.2.1 h.2.2.2.2.2.1 h.2.2.2.2.2.2
theorem e47{A B C D E F H I:α→β→γ→δ→Prop}{G:Prop}(h:∃x y z u,A x y z u∧B x y z u∧C x y z u∧D x y z u∧E x y z u∧F x y z u∧H x y z u∧I x y z u)(g:∀x y z u,A x y z u→B x y z u→C x y z u→D x y z u→E x y z u→F x y z u→H x y z u→I x y z u→G):G:=h.elim λx h=>h.elim λy h=>h.elim λz h=>h.elim λu h=>g x y z u h.1 h.2.1 h.2.2.1 h.2.2.2.1 h.2.2.2.2.1 h.2.2.2.2.2.1 h.2.2.2.2.2.2.1 h.2.2.2.2.2.2.2
theorem e51{A B:α→β→γ→δ→ε→Prop}{G:Prop}(h:∃x y z u v,A x y z u v∧B x y z u v)(g:∀x y z u v,A x y z u v→B x y z u v→G):G:=h.elim λx h=>h.elim λy h=>h.elim λz h=>h.elim λu h=>h.elim λv h=>g x y z u v h.1 h.2
theorem e54{A B C D E:α→β→γ→δ→ε→Prop}{G:Prop}(h:∃x y z u v,A x y z u v∧B x y z u v∧C x y z u v∧D x y z u v∧E x y z u v)(g:∀x y z u v,A x y z u v→B x y z u v→C x y z u v→D x y z u v→E x y z u v→G):G:=h.elim λx h=>h.elim λy h=>h.elim λz h=>h.elim λu h=>h.elim λv h=>g x y z u v h.1 h.2.1 h.2.2.1 h.2.2.2.1 h.2.2.2.2
theorem e55{A B C D E F:α→β→γ→δ→ε→Prop}{G:Prop}(h:∃x y z u v,A x y z u v∧B x y z u v∧C x y z u v∧D x y z u v∧E x y z u v∧F x y z u v)(g:∀x y z u v,A x y z u v→B x y z u v→C x y z u v→D x y z u v→E x y z u v→F x y z u v→G):G:=h.elim λx h=>h.elim λy h=>h.elim λz h=>h.elim λu h=>h.elim λv h=>g x y z u v h.1 h.2.1 h.2.2.1 h.2.2.2.1 h.2.2.2.2.1 h.2.2.2.2.2
theorem e56{A B C D E F H:α→β→γ→δ→ε→Prop}{G:Prop}(h:∃x y z u v,A x y z u v∧B x y z u v∧C x y z u v∧D x y z u v∧E x y z u v∧F x y z u v∧H x y z u v)(g:∀x y z u v,A x y z u v→B x y z u v→C x y z u v→D x y z u v→E x y z u v→F x y z u v→H x y z u v→G):G:=h.elim λx h=>h.elim λy h=>h.elim λz h=>h.elim λu h=>h.elim λv h=>g x y z u v h.1 h.2.1 h.2.2.1 h.2.2.2.1 h.2.2.2.2.1 h.2.2.2.2.2.1 h.2.2.2.2.2.2
theorem e63{A B C D:α→β→γ→δ→ε→ζ→Prop}{G:Prop}(h:∃x y z u v w,A x y z u v w∧B x y z u v w∧C x y z u v w∧D x y z u v w)(g:∀x y z u v w,A x y z u v w→B x y z u v w→C x y z u v w→D x y z u v w→G):G:=h.elim λx h=>h.elim λy h=>h.elim λz h=>h.elim λu h=>h.elim λv h=>h.elim λw h=>g x y z u v w h.1 h.2.1 h.2.2.1 h.2.2.2
theorem e72{A B C:α→β→γ→δ→ε→ζ→η→Prop}{G:Prop}(h:∃x y z u v w p,A x y z u v w p∧B x y z u v w p∧C x y z u v w p)(g:∀x y z u v w p,A x y z u v w p→B x y z u v w p→C x y z u v w p→G):G:=h.elim λx h=>h.elim λy h=>h.elim λz h=>h.elim λu h=>h.elim λv h=>h.elim λw h=>h.elim λp h=>g x y z u v w p h.1 h.2.1 h.2.2
theorem e76{A B C D E F H:α→β→γ→δ→ε→ζ→η→Prop}{G:Prop}(h:∃x y z u v w p,A x y z u v w p∧B x y z u v w p∧C x y z u v w p∧D x y z u v w p∧E x y z u v w p∧F x y z u v w p∧H x y z u v w p)(g:∀x y z u v w p,A x y z u v w p→B x y z u v w p→C x y z u v w p→D x y z u v w p→E x y z u v w p→F x y z u v w p→H x y z u v w p→G):G:=h.elim λx h=>h.elim λy h=>h.elim λz h=>h.elim λu h=>h.elim λv h=>h.elim λw h=>h.elim λp h=>g x y z u v w p h.1 h.2.1 h.2.2.1 h.2.2.2.1 h.2.2.2.2.1 h.2.2.2.2.2.1 h.2.2.2.2.2.2
theorem e83{A B C D:α→β→γ→δ→ε→ζ→η→θ→Prop}{G:Prop}(h:∃x y z u v w p q,A x y z u v w p q∧B x y z u v w p q∧C x y z u v w p q∧D x y z u v w p q)(g:∀x y z u v w p q,A x y z u v w p q→B x y z u v w p q→C x y z u v w p q→D x y z u v w p q→G):G:=h.elim λx h=>h.elim λy h=>h.elim λz h=>h.elim λu h=>h.elim λv h=>h.elim λw h=>h.elim λp h=>h.elim λq h=>g x y z u v w p q h.1 h.2.1 h.2.2.1 h.2.2.2
local macro_rules|`(tactic|let#[%$t $x,*]:=$e)=>open Lean Macro in do
 let a:=x.elemsAndSeps
 let mut g:Array (Array Syntax):=Array.replicate (if t.getTrailingSize>0 then 2 else 1) {}
 for i in [:a.size] do
  if i%2=0 then g:=g.modify (g.size-1) (·.push a[i]!) else if a[i]!.getTrailingSize>0 then g:=g.push {}
 if g.size=1 then throwUnsupported
 let mut u:=e
 let mut o:Array (TSyntax `tactic):={}
 let mut w:=o
 for j in [:g.size/2] do
  let k:=g[2*j]!
  let m:=g[2*j+1]!
  let mut n:Array Term:={}
  let q i:=do return mkIdent (← addMacroScope (.mkSimple s!"h{j}{i}"))
  for s in k++m do
   if (s.isIdent&&s.getId != `rfl)||s.getKind== ``Parser.Term.hole then n:=n.push ⟨s⟩ else
    let f ← q n.size
    n:=n.push f
    w:=w.push (← if s.isIdent then `(tactic|obtain $(⟨s⟩):ident:=$f) else `(tactic|let $(⟨s⟩):term:=$f))
  let v:=u
  let mut z:=m.size-1
  if 2*j+2<g.size then
   let f ← q 99
   n:=n.push f
   u:=f
   z:=z+1
  o:=o.push (← `(tactic|refine $(mkIdent (.mkSimple s!"e{k.size}{z}")) $v fun $n* => ?_))
 o:=o++w
 `(tactic|($o;*))
local macro_rules|`($f^$x)=>if f.raw.getTrailingSize>0 then Lean.Macro.throwUnsupported else match f with|`($g $a*)=>`($g $a* $x)|_=>`($f $x)
local macro_rules|`(#[%$t $y,*])=>if t.getTrailingSize>0||y.getElems.size=0 then Lean.Macro.throwUnsupported else `(⟨$y,*⟩)
open Option renaming some->P3,none->q_
open Bool renaming true->r_,false->s_
abbrev t_(a:Type u):=List a
abbrev u_(a:Type u):=Option a
namespace L2
abbrev Key:=Sum Int Str
def Kh:Key->Ev->Bool
 |.inl k,v=>Value.isInt k v
 |.inr x,v=>Value.isStrOf x v
def fb(w:iZ):Key->Int
 |.inl k=>hashInt k
 |.inr x=>hashStr w x
theorem BV:∀{k:Key}{v:Ev},Kh k v=r_->(∃i t,k=o5 i/\v=Value.int i t)\/(∃x t,k=ir x/\v=lI x t)
 |.inl i,v,h=>by
  let#[t, e]:=Value.isInt_shape h;exact .inl #[i,t,rfl,e]
 |.inr x,v,h=>by
  let#[t, e]:=Value.isStrOf_shape h;exact .inr #[x,t,rfl,e]
theorem Ry(i:Int)(t:Tok):Kh (.inl i)^.int i t=r_:=by simp[Kh,Value.isInt]
theorem Rx(x:Str)(t:Tok):Kh (.inr x)^.str x t=r_:=by simp[Kh,Value.isStrOf]
theorem Z_(a b:Int):decide ((o5 a:Key)=o5 b)=(a==b):=by
 grind
theorem Z7(a b:Str):decide ((ir a:Key)=ir b)=decide (a=b):=by
 simp_all
theorem Z9(a:Int)(b:Str):decide ((o5 a:Key)=ir b)=s_:=decide_eq_false λq=>nomatch q
theorem Z8(a:Str)(b:Int):decide ((ir a:Key)=o5 b)=s_:=decide_eq_false λq=>nomatch q
def Al(c:iP)(w:iZ):PySem.KeyKind c w Key where
 is:=Kh
 hash:=fb w
 inj:=λv a b l g=>by
  rcases BV l with⟨i,t,rfl,rfl⟩|⟨x,t,rfl,rfl⟩
  .rcases BV g with⟨j,u,rfl,e⟩|⟨y,u,rfl,e⟩
   .injection e with d _; rw[d]
   .exact nomatch e
  .rcases BV g with⟨j,u,rfl,e⟩|⟨y,u,rfl,e⟩
   .exact nomatch e
   .injection e with d _; rw[d]
 byValue:=λk v h=>by
  rcases BV h with⟨i,t,rfl,rfl⟩|⟨x,t,rfl,rfl⟩ <;>rfl
 pyHash:=λf h=>by
  rcases BV f with⟨i,t,rfl,rfl⟩|⟨x,t,rfl,rfl⟩
  .exact wpAny_pyHash_int h
  .exact wpAny_pyHash_str h
 eqBool:=λm f h=>by
  rcases BV m with⟨i,t,rfl,rfl⟩|⟨x,t,rfl,rfl⟩
  .rcases BV f with⟨j,u,rfl,rfl⟩|⟨y,u,rfl,rfl⟩
   .rw[Z_]at h; exact wpAny_eqBool_int h
   .rw[Z9]at h; exact qG i t y u _ _ _ _ h
  .rcases BV f with⟨j,u,rfl,rfl⟩|⟨y,u,rfl,rfl⟩
   .rw[Z8]at h; exact qH x t j u _ _ _ _ h
   .rw[Z7]at h; exact wpAny_eqBool_str h
 «strs»:=λk x t v h=>by
  rcases BV h with⟨i,u,rfl,e⟩|⟨y,u,rfl,e⟩
  .exact nomatch e
  .injection e with d _
   subst d
   cases v <;>rfl
theorem NJ(a:iP)(w:iZ)(i:Int)(t:Tok):(Al a w).is (.inl i)^.int i t=r_:=Ry i t
theorem NI(a:iP)(w:iZ)(x:Str)(t:Tok):(Al a w).is (.inr x)^.str x t=r_:=Rx x t
inductive V where
 |non|bl (b:Bool)|int (i:Int)|str (x:Str)|byt (b:Array UInt8)|flt (b:UInt64)|ref (a:Db)|ty (n:String)
 deriving DecidableEq
def RelV:V->Ev->Prop
 |.non,u=>u=ie
 |.bl b,u=>u=lV b
 |.int i,u=>∃t,u=Value.int i t
 |.str x,u=>∃t,u=lI x t
 |.byt b,u=>∃t,u=Value.bytes b t
 |.flt b,u=>∃t,u=Value.float b t
 |.ref a,u=>u=iF a
 |.ty n,u=>u=mF n
abbrev qz:t_ V->t_ Ev->Prop:=Paired RelV
theorem qz.length(r:qz a b):a.length=b.length:=Paired.length r
theorem qz.get:∀{a:t_ V}{b:t_ Ev}{i:Nat}{x:V},qz a b->a[i]?=P3 x->∃u,b[i]?=P3 u/\RelV x u
 |_,_,_,_,.nil,e=>by simp at e
 |_,_,0,_,.cons r _,e=>by simp_all
 |_,_,i+1,x,.cons _ t,e=>by
  let#[u, c,d]:=qz.get t^by simpa using e
  simp_all
theorem qz.set(r:RelV x u):∀{a:t_ V}{b:t_ Ev} (i:Nat),qz a b->qz (a.set i x)^b.set i u
 |_,_,_,.nil=>.nil
 |_,_,0,.cons _ t=>.cons r t
 |_,_,i+1,.cons q t=>.cons q^qz.set r i t
theorem qz.append:∀{a b:t_ V}{c d:t_ Ev},qz a c->qz b d->qz (a++b) (c++d)
 |_,_,_,_,.nil,s=>s
 |_,_,_,_,.cons r t,s=>.cons r^qz.append t s
theorem qz.take:∀{a:t_ V}{b:t_ Ev} (n:Nat),qz a b->qz (a.take n)^b.take n
 |_,_,0,_=>.nil
 |_,_,_+1,.nil=>.nil
 |_,_,n+1,.cons r t=>.cons r^qz.take n t
theorem qz.drop:∀{a:t_ V}{b:t_ Ev} (n:Nat),qz a b->qz (a.drop n)^b.drop n
 |_,_,0,r=>r
 |_,_,_+1,.nil=>.nil
 |_,_,n+1,.cons _ t=>qz.drop n t
def vS:u_ V->u_ Ev->Prop
 |some v,P3 u=>RelV v u
 |none,q_=>True
 |_,_=>False
def KV:t_ (a×V)->t_ (a×Ev)->Prop:=Paired fun(p:a×V) (q:a×Ev)=>p.1=q.1/\RelV p.2 q.2
def kV:Key->V
 |.inl i=>.int i
 |.inr x=>.str x
inductive HO where
 |lst (xs:List V)
 |tup (xs:List V)
 |dK (kvs:List (Key×V))|dT (kvs:List (List Key×V))
 |set (S:Int->Bool) (n:Nat)
 |ins (C dx:Db) (fs:List (Str×V))
 |own (x:Db)
 |xd (fs:List (Str×V))
 |met (f x:Db)
 |rng (lo hi:Int)
 |frz (o:Obj) (u:HO)
 |tbl (ps:Array Ev)
 |ext (φ:iG->Prop)
abbrev Hp:=Db->u_ HO
def An(H:Hp)(a:Db)(o:HO):Hp:=λb=>if b=a then P3 o else H b
theorem AQ:An H a o a=P3 o:=by unfold An; simp_all
theorem AH(h:b≠a):An H a o b=H b:=by unfold An; rw[if_neg h]
theorem cq{H:Hp}(h:H a=P3 o)(c:H b=P3 u)(d:o≠u):a≠b:=by
 lia
theorem Af{H:Hp}(h:H a=P3 o)(c:H b=q_):a≠b:=by
 lia
def zG(h:iG)(a:Db)(b:Array Ev):Prop:=∃o,h.get? a=P3 o/\o.cls=.type "tuple"/\∃n,o.data=.seq b n/\o.dict=q_/\o.slots=#[]
theorem zG.tup{h:iG}{a:Db}{b:Array Ev}(x:zG h a b):IsTup h a b:=let #[o,c,d,n,e,_]:=x; #[o,c,d,n,e]
theorem zG.new(h:iG)(a:Array Ev):zG (h.push {cls:=.type "tuple",data:=.seq a}) h.objs.size a:=#[_,Uf _ rfl,rfl,_,rfl,rfl,rfl]
section
variable (P:Program)(w:World)
def qU(H:Hp)(h:iG)(a:Db):HO->Prop
 |.lst d=>d.length<=sizeLine/\∃(b:t_ Ev) (n:Nat),qz d b/\h.get? a=P3 {cls:=.type "list",data:=.seq b.toArray n}
 |.tup d=>d.length<=sizeLine/\∃b:t_ Ev,qz d b/\zG h a b.toArray
 |.dK c=>c.length<=sizeLine/\(a==sysModules)=s_/\∃k,KV c k/\h.DictOf (Al P w) a k
 | .dT c=>c.length<=sizeLine/\(a==sysModules)=s_/\∃d:t_ (t_ Key×Db×Ev),
   Paired (fun(p:t_ Key×V) (q:t_ Key×Db×Ev)=>p.1=q.1/\H q.2.1=P3^.tup^p.1.map kV/\RelV p.2 q.2.2) c d /\
   ∃o l y,h.get? a=P3 o/\o.ExactDict/\o.data=.dict l y/\l.toList=d.map^entryOfKey^tupleKind^Al P w/\(d.map (·.1)).Nodup
 |.set S n=>h.SetOf (intKind P w) a S n
 | .ins C i g=>H i=P3^.own a/\g.length<=1000/\i≠a/\h.get? a=P3^PySem.W.instObj C i /\
   ∃e,h.Ns1 i e/\(∀f,vS (g.lookup f)^e f)/\PySem.Within e (g.map (·.1))
 |.own _=>∃o,h.get? a=P3 o
 |.xd g=>∃e,h.Ns1 a e/\∀f,vS (g.lookup f)^e f
 |.rng z A=>∃t u v,h.get? a=P3 {cls:=.type "range",data:=.fields #[ .int z t,.int A u,.int 1 v]}
 |.frz o u=>h.get? a=P3 o/\qU H h a u
 |.tbl B=>h.get? a=P3 {cls:=.none,data:=.fields B}
 |.met f x=>h.get? a=P3^PySem.W.methodObj (.ref f)^.ref x
 |.ext j=>j h/\(∃o,h.get? a=P3 o)/\∀m r:iG,j m->(∀o,m.get? a=P3 o->r.get? a=P3 o)->j r
def HOk(H:Hp)(h:iG):Prop:=∀a o,H a=P3 o->qU P w H h a o
end
section

theorem qU.lt(x:qU P w H h a o):a<h.objs.size:=by
 cases o with
 |lst c=>let#[ _, _,_, _,e]:=x; exact Tk e
 |tup c=>let#[ _, _, _,p]:=x; exact p.tup.lt
 |dK b=>let#[ _,_, _, _, o,_,_, e,_]:=x; exact Tk e
 |dT b=>let#[ _,_, _, _, o,_,_, e,_]:=x; exact Tk e
 |set S n=>let#[o,_,_,_, e,_]:=x; exact Tk e
 |ins C g d=>let#[ _,_,_,e,_]:=x; exact Tk e
 |own y=>let#[_, e]:=x; exact Tk e
 |xd d=>let#[_, #[_,_,_, e,_],_]:=x; exact Tk e
 |rng i j=>let#[_,_,_, e]:=x; exact Tk e
 |frz k u=>let#[ e,_]:=x; exact Tk e
 |tbl l=>exact Tk (show h.get? a=P3 _ from x)
 |met f y=>exact Tk (show h.get? a=P3 _ from x)
 |ext m=>let#[ _,#[_, e],_]:=x; exact Tk e
theorem Paired.mapP:∀{c:t_ e}{d:t_ g},Paired F c d->(∀a b,F a b->G a b)->Paired G c d
 |_,_,.nil,_=>.nil
 |_,_,.cons r t,f=>.cons (f _ _ r)^Paired.mapP t f
theorem qU.vL(x:qU P w H h a o)(k:∀b u,(b=a\/H b=P3^.own a)->h.get? b=P3 u->h'.get? b=P3 u)
  (F:∀b,H b=P3^.own a->H' b=P3^.own a) (G:∀b m,H b=P3^.tup m->H' b=P3^.tup m):qU P w H' h' a o:=by
 induction o with
 |lst m=>let#[ z, l,n, r,e]:=x; exact#[z,l,n,r,k _ _ (.inl rfl) e]
 |tup m=>let#[ z, l, r, g, e,c]:=x; exact#[z,l,r,g,k _ _ (.inl rfl) e,c]
 |dK s=>let#[ z,y, I, r, g,i,j, e,c]:=x; exact#[z,y,I,r,g,i,j,k _ _ (.inl rfl) e,c]
 |dT s=>
  let#[ z,y, m, r, g,i,j, e,c]:=x;exact#[z,y,m,Paired.mapP r λp q z=>#[z.1,G _ _ z.2.1,z.2.2],g,i,j,k _ _ (.inl rfl) e,c]
 |set S n=>let#[g,i,j,t, e,c]:=x; exact#[g,i,j,t,k _ _ (.inl rfl) e,c]
 |ins C N J=>
  let#[ d,z,K,e, A, #[B,i,j, L,c],r]:=x;exact#[F _ d,z,K,k _ _ (.inl rfl) e,A,#[B,i,j,k _ _ (.inr d) L,c],r]
 |own y=>let#[g, e]:=x; exact#[g,k _ _ (.inl rfl) e]
 |xd J=>let#[A, #[B,i,j, e,c],r]:=x; exact#[A,#[B,i,j,k _ _ (.inl rfl) e,c],r]
 |rng O Q=>let#[t,u,v, e]:=x; exact#[t,u,v,k _ _ (.inl rfl) e]
 |frz g u M=>let#[ e,q]:=x; exact#[k _ _ (.inl rfl) e,M q]
 |tbl D=>
  have e:h.get? a=P3 {cls:=.none,data:=.fields D}:=x;show h'.get? a=P3 {cls:=.none,data:=.fields D};exact k a _ (.inl rfl) e
 |met f y=>
  have e:h.get? a=P3^PySem.W.methodObj (.ref f)^.ref y:=x;show h'.get? a=P3^PySem.W.methodObj (.ref f)^.ref y;exact k a _ (.inl rfl) e
 |ext R=>let#[ p,#[o, e],E]:=x; exact#[E _ _ p λo q=>k _ _ (.inl rfl) q,#[o,k _ _ (.inl rfl) e],E]
theorem HOk.lt(x:HOk P w H h)(e:H a=P3 o):a<h.objs.size:=(x a o e).lt
theorem HOk.fresh(x:HOk P w H h)(e:h.objs.size<=a):H a=q_:=by
 cases q:H a with
 |none=>rfl
 |some u=>exact absurd (ic (x.lt q) e)^jN _
theorem HOk.kept(x:HOk P w H h)(k:∀b u,h.get? b=P3 u->h'.get? b=P3 u):HOk P w H h':=λa o e=>
 (x a o e).vL (λb u _ q=>k b u q) (λ_ q=>q) λ_ _ q=>q
theorem HOk.laid(x:HOk P w H h)(k:∀b u,h.get? b=P3 u->h'.get? b=P3 u)(g:h.objs.size<=a)(new:qU P w (An H a o) h' a o):HOk P w (An H a o) h':=λb u e=>by
 have d:=x.fresh g
 by_cases f:b=a
 .subst f; rw[AQ]at e; simp_all
 .rw[AH f]at e
  exact(x b u e).vL (λc v _ q=>k c v q) (λc q=>by rw[AH^Af q d]; exact q) λc i q=>by rw[AH^Af q d]; exact q
end
def Rd(H:Hp)(a:Db)(u:HO):Prop:=H a=P3 u\/∃o,H a=P3^.frz o u
theorem Rd.ok(r:Rd H a u)(x:HOk P w H h):qU P w H h a u:=by
 rcases r with r|⟨o,r⟩
 .exact x a u r
 .let#[_,q]:=x a _ r
  exact q
def d_:u_ HO->Prop
 |some (.lst _)=>True
 |some (.dK _)=>True
 |some (.dT _)=>True
 |some (.set _ _)=>True
 |some (.ins _ _ _)=>True
 |some (.ext _)=>True
 |_=>False
section

theorem HOk.write(ok:HOk P w H h)(f:d_^H x)(o:e=x\/H e=P3^.own x)(k:∀b u,b≠e->h.get? b=P3 u->h'.get? b=P3 u)(i:∃u,h'.get? e=P3 u)
  (new:qU P w (An H x o') h' x o'):HOk P w (An H x o') h':=λb u q=>by
 have a:∀c y,H c=P3^.own y->c≠x:=λc y r z=>by subst z; rw[r]at f; exact f
 have d:∀c g,H c=P3^.tup g->c≠x:=λc g r z=>by subst z; rw[r]at f; exact f
 by_cases l:b=x
 .subst l; rw[AQ]at q; injection q with q;subst q; exact new
 .rw[AH l]at q
  by_cases j:b=e
  .have m:H b=P3^.own x:=by
    lia
   rw[q]at m; injection m with m;subst m
   let#[v,n]:=i;exact#[v,by rw[j]; exact n]
  .refine(ok b u q).vL (λc v p r=>k c v ?_ r) (λc r=>by rw[AH^a c b r]; exact r) λc g r=>by rw[AH^d c g r]; exact r
   grind
end
structure Un (fs ex:List Db) (H H':Hp) (h h':iG):Prop where
 keep:∀b o,h.get? b=P3 o->H b=q_->b∉fs->b∉ex->h'.get? b=P3 o
 slot:∀b o,h.get? b=P3 o->H b=q_->b∈fs->b∉ex->∃sl,h'.get? b=P3 {o with slots:=sl}
 free:∀b o,h.get? b=P3 o->H b=q_->b∉ex->H' b=q_
 there:∀b o,h.get? b=P3 o->b∉ex->∃o',h'.get? b=P3 o'
 vj:∀b xs,H b=P3^.tup xs->H' b=P3 (.tup xs)
 vF:∀b o u,H b=P3^.frz o u->H' b=P3 (.frz o u)
 vR:∀b ps,H b=P3^.tbl ps->∃more,H' b=P3^.tbl (ps++more)
section

theorem Un.any(u:Un fs ex H H1 h h1)(q:h.get? b=P3 c)(n:H b=q_)(hx:b∉ex):∃e,h1.get? b=P3 {c with slots:=e}:=by
 by_cases d:b∈fs
 .exact u.slot b c q n d hx
 .exact#[_,u.keep b c q n d hx]
theorem Un.trans(a:Un fs ex H H1 h h1)(b:Un fs ex H1 H2 h1 h2):Un fs ex H H2 h h2 where
 keep:=λc d q n g e=>b.keep c d (a.keep c d q n g e) (a.free c d q n e) g e
 slot:=λc d q n g e=>by
  let#[p, f]:=a.slot c d q n g e;let#[l, k]:=b.slot c _ f (a.free c d q n e) g e;exact#[_,k]
 free:=λc d q n e=>by
  let#[j, f]:=a.there c d q e;exact b.free c j f (a.free c d q n e) e
 there:=λc d q e=>by
  let#[j, f]:=a.there c d q e;exact b.there c j f e
 vj:=λc i q=>b.vj c i (a.vj c i q)
 vF:=λc d i q=>b.vF c d i (a.vF c d i q)
 vR:=λc m q=>by
  let#[r, f]:=a.vR c m q;let#[s, k]:=b.vR c _ f
  grind
theorem Un.kept(k:∀b u,h.get? b=P3 u->h'.get? b=P3 u):Un fs ex H H h h':=
 #[λb c q _ _ _=>k b c q,λb c q _ _ _=>#[_,k b c q],λ_ _ _ n _=>n,λb c q _=>#[c,k b c q],λ_ _ q=>q,λ_ _ _ q=>q,λ_ d q=>#[#[],by rw[q]; rfl]]
theorem Un.refl:Un fs ex H H h h:=Un.kept λ_ _ q=>q
theorem Un.laid(k:∀b u,h.get? b=P3 u->h'.get? b=P3 u)(d:h.objs.size<=a)(c:H a=q_):Un fs ex H (An H a o) h h' where
 keep:=λb u q _ _ _=>k b u q
 slot:=λb u q _ _ _=>#[_,k b u q]
 free:=λb u q n _=>by rw[AH^iJ^ic (Tk q) d]; exact n
 there:=λb u q _=>#[u,k b u q]
 vj:=λb e q=>by rw[AH^Af q c]; exact q
 vF:=λb u e q=>by rw[AH^Af q c]; exact q
 vR:=λb f q=>#[#[],by rw[AH^Af q c,q]; rfl]
theorem Un.write(f:d_^H x)(m:e=x\/H e=P3^.own x)(k:∀b u,b≠e->h.get? b=P3 u->h'.get? b=P3 u)(i:∃u,h'.get? e=P3 u):Un fs ex H (An H x o) h h':=by
 have j:∀b,H b=q_->b≠x:=λb n z=>by subst z; simp only[n]at f; exact f
 have g:∀b,H b=q_->b≠e:=λb n z=>by
  simp_all
 have c:∀b u,H b=P3 u->¬d_^P3 u->b≠x:=λb u q p z=>by simp_all
 refine#[λb u q n _ _=>k b u (g b n) q,λb u q n _ _=>#[u.slots,k b u (g b n) q],λb u q n _=>by rw[AH^j b n]; exact n,λb u q _=>?_,
  λb l q=>by rw[AH^c b _ q λz=>z]; exact q,λb u l q=>by rw[AH^c b _ q λz=>z]; exact q,λb r q=>#[#[],by rw[AH^c b _ q λz=>z,q]; rfl]]
 by_cases d:b=e
 .simp_all
 .exact#[u,k b u d q]
end
def gi(h:iG)(H:Hp):t_ Db:=(iM h.objs.size).filter λa=>(H a).isSome
def Ls(h:iG)(H:Hp):iG:=PySem.W.hideAll h^gi h H
theorem R_(h:iG)(H:Hp):(Ls h H).objs.size=h.objs.size:=PySem.W.hideAll_size _ _
theorem U7(e:h.get? b=P3 o)(n:H b=q_):(Ls h H).get? b=P3 o:=
 PySem.W.hideAll_get _ e λa=>by
  have q:=(jt.mp a).2
  simp_all
theorem Wz(e:(Ls h H).get? b=P3 o):h.get? b=P3 o/\H b=q_:=by
 have a:=PySem.W.of_hideAll _ e;exists a;cases q:H b with
 |none=>rfl
 |some x=>
  have z:(Ls h H).get? b=q_:=PySem.W.hideAll_none _^jt.mpr #[jD.mpr^Tk a,by simp[q]]
  simp_all
structure Mod (K:Frag) (mg:Str->Option Ev) (base:iG):Prop where
 kin:K.In base
 glob:base.Ns mainGlobals mg
 blt:∃mb,base.Ns builtinsNs mb/\∀x:Str,x ≠ "__name__"->mb x=bootBuiltins x
 nolimit:base.NoLimit
/-- the context:a def's body (or a comprehension's block) running. base:fixed through the whole law; s₀,H₀:the entry; outer:the frames whose slots others may change (a def's callers); stack:all frames that run;
   ex:iterators that were made ahead of the entry and are walked here^a comprehension's; fn:the names whose cells were made at the entry (a def:all; a comprehension's block:its own); calm:not within an except suite; pn:zH that every state bears; xe:what is wanted of an exception that leaves the code -/
structure Cx where
 prog:iP
 w:iZ
 K:Frag
 mg:Str->Option Ev
 base:iG
 A:ik
 N:List Str
 s₀:No
 H₀:Hp
 env:Env
 outer:List Env
 stack:List Env
 ex:List Db
 fn:Str->Bool
 calm:Bool
 pn:List (Db×Obj)
 xe:Ev->No->Prop
def Kl(l:t_ Env):t_ Db:=l.filterMap (·.frame)
abbrev Cx.fs(X:Cx):t_ Db:=Kl X.outer
def YH(a:kP)(x:Str):Prop:=a.names.lookup x=P3 .local\/a.names.lookup x=P3 .cell\/a.names.lookup x=P3 .free
def Loc(a:kP)(x:Str):Prop:=a.names.lookup x=P3 .local\/a.names.lookup x=P3 .cell
def Look(a:Env)(h:iG)(m:Str->u_ Ev)(x:Str)(u:Ev):Prop:=
 (a.kindOf x=P3 .local/\m x=P3 u)\/((a.kindOf x=P3 .cell\/a.kindOf x=P3 .free)/\∃c,a.cells.lookup x=P3 c/\h.IsCell c^P3 u)
structure Cx.Ok (X:Cx):Prop where
 mod:Mod X.K X.mg X.base
 kind:X.env.scope.kind=.function
 glob:X.env.globals=mainGlobals
 blt:X.env.builtins=builtinsNs
 above:X.s₀.heap.objs.size<=X.env.locals
 inj:∀x y c,X.env.cells.lookup x=P3 c->X.env.cells.lookup y=P3 c->x=y
 has:∀x,(X.env.kindOf x=P3 .cell\/X.env.kindOf x=P3 .free)->∃c,X.env.cells.lookup x=P3 c
 cab:∀x c,X.fn x=r_->X.env.cells.lookup x=P3 c->X.s₀.heap.objs.size<=c
 hd:X.calm=r_->X.A.handled=q_
 frames:X.A.frames=P3 X.stack
 stk:X.stack=X.outer\/(X.stack=X.env::X.outer/\X.env.frame=P3 X.env.locals)
 exf:∀b∈X.ex,b≠X.env.locals/\∀x c,X.env.cells.lookup x=P3 c->c≠b
 bs:∀b o,X.base.get? b=P3 o->X.s₀.heap.get? b=P3 o/\X.H₀ b=q_
 bsz:X.base.objs.size<=X.s₀.heap.objs.size
 noex:∀b o,X.base.get? b=P3 o->b∉X.ex
 exfs:∀b∈X.ex,b∉X.fs
 vH:X.s₀.heap.FunFrames X.base X.outer
 frf:∀b∈X.fs,X.H₀ b=q_
structure Inv (X:Cx) (zH:List (Db×Obj)) (Z:List^Option V) (H:Hp) (s:No):Prop where
 ok:X.Ok
 os:s.os=X.s₀.os
 bare:l8 s.gens
 base:Un X.fs X.ex X.H₀ H X.s₀.heap s.heap
 loc:∃m,s.heap.Ns X.env.locals m/\∀(i:Nat) (x:Str) (v:V),X.N[i]?=P3 x->Z[i]?=P3^P3 v->YH X.env.scope x->∃u,RelV v u/\Look X.env s.heap m x u
 cell:∀x c,X.env.cells.lookup x=P3 c->∃v,s.heap.IsCell c v
 free:H X.env.locals=q_
 vz:∀x c,X.env.cells.lookup x=P3 c->H c=q_
 pin:∀p∈X.pn++zH,s.heap.get? p.1=P3 p.2/\H p.1=q_/\p.1≠X.env.locals/\p.1∉X.fs/\∀v,p.2.data≠.cell v
 hok:HOk X.prog X.w H s.heap
 len:Z.length=X.N.length
section
variable {X:Cx}
theorem Cx.Ok.nofr(ok:X.Ok)(e:X.base.get? b=P3 o):b∉X.fs:=λa=>by
 have:=(ok.vH.mem a).1
 simp_all
theorem Inv.bs(I:Inv X zH Z H s):∀b o,X.base.get? b=P3 o->s.heap.get? b=P3 o/\H b=q_:=λb o e=>
 #[I.base.keep b o (I.ok.bs b o e).1 (I.ok.bs b o e).2 (I.ok.nofr e)^I.ok.noex b o e,I.base.free b o (I.ok.bs b o e).1 (I.ok.bs b o e).2 (I.ok.noex b o e)]
theorem Inv.bk(I:Inv X zH Z H s):∀b o,X.base.get? b=P3 o->s.heap.get? b=P3 o:=λb o e=>(I.bs b o e).1
theorem Inv.mod(I:Inv X zH Z H s):Mod X.K X.mg X.base:=I.ok.mod
theorem Inv.kIn(I:Inv X zH Z H s):X.K.In s.heap:=I.ok.mod.kin.keeps I.bk
theorem Inv.lt(I:Inv X zH Z H s):X.env.locals<s.heap.objs.size:=let #[_,a,_]:=I.loc; a.lt
theorem Inv.sz(I:Inv X zH Z H s):X.s₀.heap.objs.size<=s.heap.objs.size:=iU I.ok.above^l9 I.lt
theorem Inv.nofs(I:Inv X zH Z H s)(h:s.heap.objs.size<=a):a∉X.fs:=λb=>by
 let#[ _, o, c,_]:=I.ok.vH.mem b;exact absurd (ic (Tk c)^iU I.sz h)^jN _
theorem Inv.cne(I:Inv X zH Z H s):∀x c,X.env.cells.lookup x=P3 c->c≠X.env.locals:=λx c e z=>by
 let#[v,o, d,f]:=I.cell x c e;let#[m, #[g,h,i, a,b,_],_]:=I.loc
 simp_all
theorem Inv.vH(I:Inv X zH Z H s):s.heap.FunFrames X.base X.outer:=by
 have all:∀(l:t_ _),(∀b∈Kl l,b∈X.fs)->X.s₀.heap.FunFrames X.base l->s.heap.FunFrames X.base l:=by
  intro l
  induction l with
  |nil=>intro _ _; trivial
  |cons g r h=>
   intro d i;let#[ j,#[L,o, f,k,m,n],p]:=i;have a:=d L (by unfold Kl; simp_all);let#[q, e]:=I.base.slot L o m (I.ok.frf L a) a λz=>I.ok.exfs L z a;exact#[j,#[L,_,f,k,e,n],h (λb c=>d b^by unfold Kl; simp only[lN,f]; exact TM _ c) p]
 exact all _ (λ_ c=>c) I.ok.vH
theorem Inv.stack(I:Inv X zH Z H s):s.heap.FunFrames X.base X.stack:=by
 rcases I.ok.stk with e|⟨e,a⟩
 .rw[e]; exact I.vH
 .rw[e]
  let#[m, b,_]:=I.loc;exact .cons (by rw[I.ok.kind]; decide) a b (Heap.get?_none_of_le^iU I.ok.bsz I.ok.above) I.vH
theorem Inv.vA(I:Inv X zH Z H s):∀b∈Kl X.stack,b∈X.env.locals::X.fs:=λb a=>by
 rcases I.ok.stk with e|⟨e,c⟩
 .grind
 .rw[e]at a
  unfold Kl at a;simp only[lN,c]at a;exact a
theorem Inv.kS(I:Inv X zH Z H s):∀b∈Kl X.stack,H b=q_:=λb a=>by
 rcases TW.mp^I.vA b a with e|a
 .rw[e]; exact I.free
 .let#[_,o,c,_]:=I.ok.vH.mem a
  exact I.base.free b o c (I.ok.frf b a) λz=>I.ok.exfs b z a
theorem Inv.step{ch:t_ Db}(I:Inv X zH Z H s)
  (f:∀b∈ch,(b∈X.ex\/X.s₀.heap.objs.size<=b)/\b≠X.env.locals/\(∀x c,X.env.cells.lookup x=P3 c->c≠b)/\∀p∈X.pn++zH,p.1≠b)
  (keep:∀b o,b≠X.env.locals->b∉X.fs->b∉ch->s.heap.get? b=P3 o->H b=q_->h'.get? b=P3 o)
  (y:∀b o,b≠X.env.locals->b∈X.fs->b∉ch->s.heap.get? b=P3 o->H b=q_->∃N,h'.get? b=P3 {o with slots:=N}) (free:∀b o,b∉ch->s.heap.get? b=P3 o->H b=q_->H' b=q_)
  (B:∀b o,b∉ch->s.heap.get? b=P3 o->∃E,h'.get? b=P3 E)
  (vj:∀b A,H b=P3^.tup A->H' b=P3^.tup A) (F:∀b o u,H b=P3^.frz o u->H' b=P3^.frz o u) (G:∀b M,H b=P3^.tbl M->∃J,H' b=P3^.tbl (M++J))
  (V:∀m,s.heap.Ns X.env.locals m->h'.Ns X.env.locals m) (O:HOk X.prog X.w H' h') (W:l8 g'):
  Inv X zH Z H' {s with heap:=h',gens:=g',drawn:=d',toks:=t'}:=by
 have K:∀b o,X.s₀.heap.get? b=P3 o->b≠X.env.locals:=λb o e=>iJ^ic (Tk e) I.ok.above
 have j:∀b o,X.s₀.heap.get? b=P3 o->b∉X.ex->b∉ch:=λb o e a C=>by
  rcases(f b C).1 with z|z
  .exact a z
  .exact absurd (ic (Tk e) z)^jN _
 have g:∀x c,X.env.cells.lookup x=P3 c->∀v,s.heap.IsCell c v->h'.IsCell c v:=λx c e v #[o,D,P]=>by
  have h:c∉ch:=λz=>(f c z).2.2.1 x c e rfl
  by_cases R:c∈X.fs
  .let#[N,q]:=y c o (I.cne x c e) R h D^I.vz x c e
   exact#[_,q,P]
  .exact#[o,keep c o (I.cne x c e) R h D^I.vz x c e,P]
 refine#[I.ok,I.os,W,#[λb o e n C a=>?_,λb o e n C a=>?_,λb o e n a=>?_,λb o e a=>?_,λb A e=>vj b A^I.base.vj b A e,λb o A e=>F b o A^I.base.vF b o A e,λb M e=>?_],?_,λx c e=>?_,?_,λx c e=>?_,λp S=>?_,O,I.len]
 .exact keep b o (K b o e) C (j b o e a) (I.base.keep b o e n C a)^I.base.free b o e n a
 .let#[N,t]:=I.base.slot b o e n C a
  let#[Q, L]:=y b _ (K b o e) C (j b o e a) t^I.base.free b o e n a;exact#[Q,L]
 .let#[E,t]:=I.base.there b o e a
  exact free b E (j b o e a) t^I.base.free b o e n a
 .let#[E,t]:=I.base.there b o e a
  exact B b E (j b o e a) t
 .let#[Y,t]:=I.base.vR b M e
  let#[m2, L]:=G b _ t;exact#[Y++m2,by rw[L,Array.append_assoc]]
 .let#[m,hn,hl]:=I.loc
  refine#[m,V m hn,λi x v t L e3=>?_];let#[u, r,l]:=hl i x v t L e3;exists u,r
  rcases l with l|⟨k,c,e,z⟩
  .exact .inl l
  .exact .inr #[k,c,e,g x c e _ z]
 .let#[v,z]:=I.cell x c e
  exact#[v,g x c e v z]
 .let#[m,#[o,_,_,D,_],_]:=I.loc
  exact free _ o (λz=>(f _ z).2.1 rfl) D I.free
 .let#[v,o,D,P]:=I.cell x c e
  exact free c o (λz=>(f c z).2.2.1 x c e rfl) D^I.vz x c e
 .let#[e,n,T,U,d]:=I.pin p S
  have h:p.1∉ch:=λz=>(f p.1 z).2.2.2 p S rfl;exact#[keep p.1 p.2 T U h e n,free p.1 p.2 h e n,T,U,d]
theorem Inv.un(I:Inv X zH Z H s)(u:Un X.fs [] H H' s.heap h')(c:HOk X.prog X.w H' h'):Inv X zH Z H' {s with heap:=h',toks:=t'}:=by
 let#[m, #[o,l,p, f,r],_]:=id I.loc;let#[q, g]:=u.any f I.free^by simp
 exact I.step (ch:=[]) (λ_ z=>nomatch z) (λb o _ d _ e n=>u.keep b o e n d^by simp) (λb o _ d _ e n=>u.slot b o e n d^by simp) (λb o _ e n=>u.free b o e n^by simp) (λb o _ e=>u.there b o e^by simp) u.vj u.vF u.vR (λt h=>by
  let#[v,i,j, a,k]:=h;rw[f]at a; injection a with a;subst a
  exact#[_,_,_,g,k]) c I.bare
theorem Inv.call(I:Inv X zH Z H s)(u:Un (Kl X.stack) j H H' s.heap h')(g:HOk X.prog X.w H' h')(t:l8 i)
  (d:∀b∈j,(b∈X.ex\/X.s₀.heap.objs.size<=b)/\b≠X.env.locals/\(∀x c,X.env.cells.lookup x=P3 c->c≠b)/\∀p∈X.pn++zH,p.1≠b):
  Inv X zH Z H' {s with heap:=h',gens:=i,drawn:=q,toks:=l}:=by
 let#[m, #[o,D,E, k,r],_]:=id I.loc;let#[F, h]:=u.any k I.free λz=>(d _ z).2.1 rfl
 exact I.step d (λb o h v a e n=>u.keep b o e n (λz=>(TW.mp^I.vA b z).elim h v) a) (λb o _ _ a e n=>u.any e n a) (λb o a e n=>u.free b o e n a) (λb o a e=>u.there b o e a) u.vj u.vF u.vR (λG y=>by
  let#[J,A,B, f,C]:=y;rw[k]at f; injection f with f;subst f
  exact#[_,_,_,h,C]) g t
theorem Inv.turned(I:Inv X zH Z H s)(k:∀b o,b≠it->s.heap.get? b=P3 o->h'.get? b=P3 o)(A:H it=q_)(d:it≠X.env.locals)
  (f:it∈X.ex\/X.s₀.heap.objs.size<=it) (g:∀x c,X.env.cells.lookup x=P3 c->c≠it) (h:∀p∈X.pn++zH,p.1≠it):Inv X zH Z H {s with heap:=h',toks:=t'}:=by
 have i:∀b u,H b=P3 u->b≠it:=λb u e z=>by simp_all
 refine I.step (g':=s.gens) (d':=s.drawn) (ch:=[it]) (λb j=>?_) (λb o _ _ a e _=>k b o (λz=>a^by simp[z]) e) (λb o _ _ a e _=>#[o.slots,k b o (λz=>a^by simp[z]) e]) (λ_ _ _ _ n=>n)
  (λb o a e=>#[o,k b o (λz=>a^by simp[z]) e]) (λ_ _ e=>e) (λ_ _ _ e=>e) (λb B e=>#[#[],by rw[e]; rfl]) (λm l=>?_) (λb u e=>?_) I.bare
 .have e:b=it:=by simpa using j
  subst e;exact#[f,d,g,h]
 .let#[o,t,w,y,r]:=l
  exact#[o,t,w,k _ o (iz d) y,r]
 .refine(I.hok b u e).vL (λc v a q=>k c v ?_ q) (λ_ q=>q) λ_ _ q=>q
  lia
theorem Inv.tok(I:Inv X zH Z H s)(t:Nat):Inv X zH Z H {s with toks:=t}:=I.un Un.refl I.hok
theorem Inv.kept(I:Inv X zH Z H s)(k:∀b u,s.heap.get? b=P3 u->h'.get? b=P3 u):Inv X zH Z H {s with heap:=h',toks:=t'}:=I.un (Un.kept k)^I.hok.kept k
theorem Inv.laid(I:Inv X zH Z H s)(k:∀b u,s.heap.get? b=P3 u->h'.get? b=P3 u)(c:s.heap.objs.size<=a)(d:qU X.prog X.w (An H a o) h' a o):
  Inv X zH Z (An H a o) {s with heap:=h',toks:=t'}:=I.un (Un.laid k c^I.hok.fresh c)^I.hok.laid k c d
theorem Inv.write(I:Inv X zH Z H s)(d:d_^H x)(f:e=x\/H e=P3^.own x)(k:∀b u,b≠e->s.heap.get? b=P3 u->h'.get? b=P3 u)(a:∃u,h'.get? e=P3 u)
  (c:qU X.prog X.w (An H x o) h' x o):Inv X zH Z (An H x o) {s with heap:=h',toks:=g}:=I.un (Un.write d f k a)^I.hok.write d f k a c
theorem Inv.pins_of(I:Inv X zH Z H s)(h:∀p∈a,s.heap.get? p.1=P3 p.2/\H p.1=q_/\p.1≠X.env.locals/\p.1∉X.fs/\∀v,p.2.data≠.cell v):Inv X a Z H s:=
 #[I.ok,I.os,I.bare,I.base,I.loc,I.cell,I.free,I.vz,λp b=>(iH.mp b).elim (λz=>I.pin p^jA _ z)^h p,I.hok,I.len]
theorem GL{N:t_ Str}(c:N.Nodup){i j:Nat}(a:N[i]?=P3 x)(b:N[j]?=P3 x):i=j:=by
 let#[f, d]:=f8.mp a;let#[g, e]:=f8.mp b;exact(o6 c).mp^d.trans e.symm
theorem KG(I:Inv X zH Z H s)(hN:X.N.Nodup)(P:X.N[i]?=P3 x)(B:Loc X.env.scope x)(r:RelV v u)
  (h:∀s',Inv X zH (Z.set i^P3 v) H s'->(∃a,kQ a s.heap s'.heap/\(a=X.env.locals\/X.env.cells.lookup x=P3 a))->Q () s') (hf:X.fn x=r_\/X.env.scope.names.lookup x=P3 .local:=by first|exact .inl rfl|exact .inr rfl|assumption):wpAny M A (storeName X.env x u) Q E s:=by
 let#[m, hn,hl]:=id I.loc;have R:(X.env.scope.kind==.class||(X.env.scope.kind==.module&&X.env.locals !=X.env.globals))=s_:=by rw[I.ok.kind]; rfl
 have F:i<Z.length:=by rw[I.len]; exact(f8.mp P).1
 have J:=I.cne
 have g:∀{a:Db}{h':iG},(∃o,s.heap.get? a=P3 o/\H a=q_)->kQ a s.heap h'->HOk X.prog X.w H h':=λ{a h'} ha f b ob e=>by
  let#[_,_,C]:=ha;refine(I.hok b ob e).vL (λc Y t q=>(f.2 c ?_).trans q) (λ_ q=>q) λ_ _ q=>q;rintro rfl
  rcases t with rfl|t
  .rw[C]at e; cases e
  .rw[C]at t; cases t
 rcases B with G|G
 .refine wpAny_storeName_local G hn (λh' a0 f=>?_) R
  let#[oL,_,_,a1,_]:=id hn;refine h _ #[I.ok,I.os,I.bare,#[λb o e n K B=>?_,λb o e n K B=>?_,I.base.free,λb o e B=>?_,I.base.vj,I.base.vF,I.base.vR],#[_,a0,λj y v' l D e3=>?_],λy c e=>?_,I.free,I.vz,λp hp=>?_,g #[oL,a1,I.free] f,by simpa using I.len] #[_,f,.inl rfl]
  .exact(f.2 b^iJ^ic (Tk e) I.ok.above).trans^I.base.keep b o e n K B
  .let#[sl,l]:=I.base.slot b o e n K B
   exact#[sl,(f.2 b^iJ^ic (Tk e) I.ok.above).trans l]
  .let#[o',l]:=I.base.there b o e B
   exact#[o',(f.2 b^iJ^ic (Tk e) I.ok.above).trans l]
  .by_cases L:j=i
   .subst L
    rw[P]at l; cases l
    rw[pU F]at D;cases D;exact#[u,r,.inl #[G,by simp]]
   .rw[List.getElem?_set_ne^iz L]at D
    let#[u', r',q]:=hl j y v' l D e3;exists u',r'
    rcases q with⟨k,e⟩|⟨k,c,e,z⟩
    .refine .inl #[k,?_]
     have:y≠x:=λe=>L^GL hN l (e▸P)
     simp[this,e]
    .exact .inr #[k,c,e,z.sameBut f^J y c e]
  .let#[Y,z]:=I.cell y c e
   exact#[Y,z.sameBut f^J y c e]
  .let#[e,n,ne,nf,d]:=I.pin p hp
   exact#[(f.2 p.1 ne).trans e,n,ne,nf,d]
 .have O:X.fn x=r_:=by
   rcases hf with z|z
   .exact z
   .rw[z]at G; cases G
  let#[c, t]:=I.ok.has x^.inl G;let#[Y, z]:=I.cell x c t;refine wpAny_storeName_cell I.ok.kind G t z λh' S f=>?_;let#[oc, T,U]:=id z;refine h {s with heap:=h'} #[I.ok,I.os,I.bare,#[λb o e n K B=>?_,λb o e n K B=>?_,I.base.free,λb o e B=>?_,I.base.vj,I.base.vF,I.base.vR],#[m,hn.sameBut f^iz^J x c t,λj y v' l D e3=>?_],λy c' e=>?_,I.free,I.vz,λp hp=>?_,g #[oc,T,I.vz x c t] f,by simpa using I.len] #[c,f,.inr t]
  .exact(f.2 b^iJ^ic (Tk e)^I.ok.cab x c O t).trans^I.base.keep b o e n K B
  .let#[sl,l]:=I.base.slot b o e n K B
   exact#[sl,(f.2 b^iJ^ic (Tk e)^I.ok.cab x c O t).trans l]
  .let#[o',l]:=I.base.there b o e B
   exact#[o',(f.2 b^iJ^ic (Tk e)^I.ok.cab x c O t).trans l]
  .by_cases L:j=i
   .subst L
    rw[P]at l; cases l
    rw[pU F]at D;cases D;exact#[u,r,.inr #[.inl G,c,t,S]]
   .rw[List.getElem?_set_ne^iz L]at D
    let#[u', r',q]:=hl j y v' l D e3;exists u',r'
    rcases q with q|⟨k,c',e,z'⟩
    .exact .inl q
    .refine .inr #[k,c',e,z'.sameBut f ?_]
     rintro rfl;exact L^GL hN l (I.ok.inj _ _ _ e t▸P)
  .by_cases W:c'=c
   .subst W; exact#[_,S]
   .let#[w2,z2]:=I.cell y c' e
    exact#[w2,z2.sameBut f W]
  .let#[e,n,ne,nf,d]:=I.pin p hp
   refine#[(f.2 p.1 ?_).trans e,n,ne,nf,d];intro q;rw[q,T]at e;have q':oc=p.2:=iA e;exact d Y^by rw[←q']; exact U
theorem Ej(I:Inv X zH Z H s)(b:X.N.Nodup)(c:X.N[i]?=P3 x)(hx:Loc X.env.scope x)(r:RelV v u)
  (h:∀a,Inv X zH (Z.set i^P3 v) H a->Q () a) (d:X.fn x=r_\/X.env.scope.names.lookup x=P3 .local:=by first|exact .inl rfl|exact .inr rfl|assumption):wpAny M A (storeName X.env x u) Q E s:=
 KG I b c hx r (λa e _=>h a e) d
theorem Inv.call'(I:Inv X zH Z H s)(g:a.os=s.os)(u:Un (Kl X.stack) f H H' s.heap a.heap)(d:HOk X.prog X.w H' a.heap)(h:l8 a.gens)
  (e:∀b∈f,(b∈X.ex\/X.s₀.heap.objs.size<=b)/\b≠X.env.locals/\(∀x c,X.env.cells.lookup x=P3 c->c≠b)/\∀p∈X.pn++zH,p.1≠b):Inv X zH Z H' a:=by
 let#[h',i,j,k,l]:=a;subst g;exact I.call u d h e
end
abbrev XK:=Ev->u_ Db->Hp->Prop
abbrev St:=t_^u_ V
abbrev VK:=V->Hp->Prop
abbrev TE:=St->Hp->VK->Prop
abbrev TT:=St->Hp->(Bool->Hp->Prop)->Prop
abbrev TA:=St->Hp->(t_ V->Hp->Prop)->Prop
structure Ends where
 nx:St->Hp->Prop
 rt:VK
 bk:St->Hp->Prop:=λ_ _=>False
 ct:St->Hp->Prop:=λ_ _=>False
abbrev TS:=Ends->St->Hp->Prop
def EP(X:Cx)(b:t_ (Db×Obj))(Z:St)(Q:VK)(u:Ev)(c:No):Prop:=∃v a,Inv X b Z a c/\RelV v u/\Q v a
def TP(X:Cx)(c:t_ (Db×Obj))(Z:St)(Q:Bool->Hp->Prop)(b:Bool)(d:No):Prop:=∃a,Inv X c Z a d/\Q b a
def AP(X:Cx)(c:t_ (Db×Obj))(Z:St)(Q:t_ V->Hp->Prop)(d:t_ Ev)(e:No):Prop:=∃a b,Inv X c Z b e/\qz a d/\Q a b
def SP(X:Cx)(c:t_ (Db×Obj))(D:Ends)(f:Flow)(d:No):Prop:=
 match f with
 |.next=>∃b a,Inv X c b a d/\D.nx b a
 |.brk=>∃b a,Inv X c b a d/\D.bk b a
 |.cont=>∃b a,Inv X c b a d/\D.ct b a
 |.ret u=>∃v b a,Inv X c b a d/\RelV v u/\D.rt v a
def PE(X:Cx)(e:iR)(t:TE):Prop:=
 ∀(a:t_ (Db×Obj)) (s:No) (Z:St) (H:Hp) (Q:VK),Inv X a Z H s->t Z H Q->wpAny (model X.prog X.w) X.A (eval e X.env) (EP X a Z Q) X.xe s
def PT(X:Cx)(e:iR)(t:TT):Prop:=
 ∀(a:t_ (Db×Obj)) (s:No) (Z:St) (H:Hp) (Q:Bool->Hp->Prop),Inv X a Z H s->t Z H Q->wpAny (model X.prog X.w) X.A (isTrue e X.env^eval e X.env) (TP X a Z Q) X.xe s
def PW(X:Cx)(e:iR)(t:TT):Prop:=
 ∀(a:Sem Ev) (b:t_ (Db×Obj)) (s:No) (Z:St) (H:Hp) (Q:Bool->Hp->Prop),Inv X b Z H s->t Z H Q->wpAny (model X.prog X.w) X.A (isTrue e X.env a) (TP X b Z Q) X.xe s
theorem PW.pt(h:PW X e t):PT X e t:=h _
def PA(X:Cx)(b:t_ iR)(t:TA):Prop:=
 ∀(pos:Pos) (a:t_ (Db×Obj)) (s:No) (Z:St) (H:Hp) (Q:t_ V->Hp->Prop),Inv X a Z H s->t Z H Q->wpAny (model X.prog X.w) X.A (spliced^backTo pos^starEach b X.env) (AP X a Z Q) X.xe s
def PS(X:Cx)(b:jM)(t:TS):Prop:=
 ∀(a:t_ (Db×Obj)) (s:No) (Z:St) (H:Hp) (D:Ends),Inv X a Z H s->t D Z H->wpAny (model X.prog X.w) X.A (exec b X.env) (SP X a D) X.xe s
def PSs(X:Cx)(b:t_ jM)(t:TS):Prop:=
 ∀(a:t_ (Db×Obj)) (s:No) (Z:St) (H:Hp) (D:Ends),Inv X a Z H s->t D Z H->wpAny (model X.prog X.w) X.A (execs b X.env) (SP X a D) X.xe s
theorem thn(h:wpAny M A t Q E s)(d:∀a s,Q a s->c a s):wpAny M A t c E s:=i8 h d λ_ _ x=>x
section

def BN(i:Nat):TE:=λZ H Q=>∃v,Z[i]?=P3^P3 v/\Q v H
def tC(v:V):TE:=λ_ H Q=>Q v H
theorem Io(j:X.N[i]?=P3 x)(k:YH X.env.scope x)(hd:(x==("__debug__":Str))=s_:=by decide)(f:(x==("__classdict__":Str))=s_:=by decide):PE X (.Name x pos)^BN i:=by
 intro q s Z H Q I h;let#[v, e,h]:=h;let#[m, n,o]:=I.loc;let#[u, r,l]:=o i x v j e k;have b:EP X _ Z Q u s:=#[v,H,I,r,h]
 rcases l with⟨d,p⟩|⟨d,c,g,a⟩
 .exact wpAny_Name (wpAny_loadName_local I.ok.kind d n p b) hd
 .rcases d with d|d
  .exact wpAny_Name (wpAny_loadName_cell I.ok.kind d g a b) hd
  .exact wpAny_Name (wpAny_loadName_free I.ok.kind d g a b f) hd
theorem Au{i j pos}:PE X (.Constant (.int i) j pos)^tC^.int i:=λ_ _ _ H _ I h=>wpAny_Constant_int #[.int i,H,I.tok _,#[_,rfl],h]
theorem ci{b j pos}:PE X (.Constant (.bool b) j pos)^tC^.bl b:=λ_ _ _ H _ I h=>Constant_bool #[.bl b,H,I,rfl,h]
theorem Iq{j pos}:PE X (.Constant .none j pos)^tC .non:=λ_ _ _ H _ I h=>Constant_none #[.non,H,I,rfl,h]
theorem Dx{x j pos}:PE X (.Constant (.str x) j pos)^tC^.str x:=λ_ _ _ H _ I h=>Calls.Constant_str #[.str x,H,I.tok _,#[_,rfl],h]
def Gl(X:Cx)(x:Str):Prop:=X.env.kindOf x=P3 .globalImplicit
theorem Dk(I:Inv X a Z H s)(b:Gl X x)(c:X.mg x=P3 u)(h:Q u s)
  (hd:(x==("__debug__":Str))=s_:=by decide):wpAny (model X.prog X.w) X.A (eval (.Name x pos) X.env) Q E s:=
 oW I.ok.kind b (Calls.loadGlobal_global (by rw[I.ok.glob]; exact I.mod.glob.keeps I.bk) c h) hd
theorem Dz(I:Inv X a Z H s)(b:Gl X x)(c:X.mg x=q_)(d:bootBuiltins x=P3 u)(h:Q u s)
  (e:x ≠ "__name__":=by decide) (hd:(x==("__debug__":Str))=s_:=by decide):wpAny (model X.prog X.w) X.A (eval (.Name x pos) X.env) Q E s:=by
 let#[i, f,g]:=I.mod.blt;exact oW I.ok.kind b (Calls.loadGlobal_builtin (by rw[I.ok.glob]; exact I.mod.glob.keeps I.bk) c (by rw[I.ok.blt]; exact f.keeps I.bk) ((g x e).trans d) h) hd
theorem Wn(a:Gl X x)(b:X.mg x=P3 u)(r:RelV v u)(hd:(x==("__debug__":Str))=s_:=by decide):PE X (.Name x pos)^tC v:=
 λ_ _ _ H _ I h=>Dk I a b #[v,H,I,r,h] hd
theorem Wq(a:Gl X x)(b:X.mg x=q_)(c:bootBuiltins x=P3 u)(r:RelV v u)(d:x ≠ "__name__":=by decide)(hd:(x==("__debug__":Str))=s_:=by decide):PE X (.Name x pos)^tC v:=
 λ_ _ _ H _ I h=>Dz I a b c #[v,H,I,r,h] d hd

def tB(t:TE):TT:=λZ H Q=>t Z H λx d=>∃c,x=.bl c/\Q c d
theorem Zm(h:PE X e t)(f:∀c,isTrue e X.env c=(do let v ←c; standAt e.pos; holding [v]^truthy v):=by intro _; rfl):PT X e^tB t:=by
 intro m s Z H Q I g;refine isTrue_plain (thn (h _ s Z H _ I g) λv n zz=>?_)^f _;let#[x,i, j,k,l]:=zz;let#[d, rfl,q]:=l;subst k;exact lv #[i,j,q]

def cF(t u:TT):TT:=λZ H Q=>t Z H λc d=>if c=r_ then u Z d Q else Q s_ d
def gm(t u:TT):TT:=λZ H Q=>t Z H λc d=>if c=r_ then Q r_ d else u Z d Q
def fM(t:TT):TT:=λZ H Q=>t Z H λc d=>Q (!c) d
theorem LM(d:PT X a tA):PW X (.BoolOp .And [a] pos) tA:=by
 intro f g s Z H Q I h;refine isTrue_and^thn (d _ s Z H Q I h) λc i e=>?_;cases c with
 |true=>exact isTrue_and_nil e
 |false=>exact e
theorem UC(d:PT X a tA):PW X (.BoolOp .Or [a] pos) tA:=by
 intro f g s Z H Q I h;refine isTrue_or^thn (d _ s Z H Q I h) λc i e=>?_;cases c with
 |false=>exact isTrue_or_nil e
 |true=>exact e
theorem OZ(d:PT X a tA)(e:PW X (.BoolOp .And (b::rest) pos) tB'):PW X (.BoolOp .And (a::b::rest) pos)^cF tA tB':=by
 intro f l s Z H Q I h;refine isTrue_and^thn (d _ s Z H _ I h) λc g #[i,j,k]=>?_;cases c with
 |true=>exact e f _ g Z i Q j k
 |false=>assumption
theorem Yi(d:PT X a tA)(e:PW X (.BoolOp .Or (b::rest) pos) tB'):PW X (.BoolOp .Or (a::b::rest) pos)^gm tA tB':=by
 intro f l s Z H Q I h;refine isTrue_or^thn (d _ s Z H _ I h) λc g #[i,j,k]=>?_;cases c with
 |true=>assumption
 |false=>exact e f _ g Z i Q j k
theorem Zn(c:PT X a tA):PT X (.UnaryOp .Not a pos)^fM tA:=λd s Z H Q I h=>isTrue_not^c _ s Z H _ I h
def cE(ta tb:TE):TE:=λZ H Q=>ta Z H λx d=>∃c,x=.bl c/\if c=r_ then tb Z d Q else Q (.bl s_) d
def b9(ta:TE):TE:=λZ H Q=>ta Z H λx d=>∃c,x=.bl c/\Q (.bl (!c)) d
theorem Zw(g:PE X a ta)(i:PE X (.BoolOp .And (b::rest) pos) tb):PE X (.BoolOp .And (a::b::rest) pos)^cE ta tb:=by
 intro l s Z H Q I h;refine BoolOp_and^thn (g _ s Z H _ I h) λv j zz=>?_;let#[x,e, f,k,d]:=zz;let#[c,rfl,d]:=d;subst k;refine lv ?_;cases c with
 |true=>exact i _ j Z e Q f d
 |false=>exact#[.bl _,e,f,rfl,d]
theorem Zu(e:PE X a ta):PE X (.UnaryOp .Not a pos)^b9 ta:=by
 intro j s Z H Q I h;refine UnaryOp_^thn (e _ s Z H _ I h) λv k zz=>?_;let#[x,f, g,i,d]:=zz;let#[c,rfl,d]:=d;subst i;exact not_of^lv #[.bl _,f,g,rfl,d]
def gn(t:TT)(ta tb:TE):TE:=λZ H Q=>t Z H λc d=>if c=r_ then ta Z d Q else tb Z d Q
theorem Mu(j:PT X c tA)(k:PE X a ta)(l:PE X b tb):PE X (.IfExp c a b pos)^gn tA ta tb:=by
 intro m s Z H Q I h;refine wpAny_IfExp^thn (j _ s Z H _ I h) λd e zz=>?_;let#[f, g,i]:=zz;cases d with
 |true=>exact k _ e Z f Q g i
 |false=>exact l _ e Z f Q g i
end
def SqL(K:Frag)(H:Hp)(a:Db)(c:t_ V):Prop:=
 Rd H a (.lst c) \/
  ∃(o:Obj) (b:Array Ev) (n:Nat),K.lookup a=P3 o/\o.cls=.type "list"/\o.dict=q_/\o.data=.seq b n/\b.size<=sizeLine/\qz c b.toList
def SqT(K:Frag)(H:Hp)(a:Db)(c:t_ V):Prop:=
 Rd H a (.tup c) \/
  ∃(o:Obj) (b:Array Ev) (n:Nat),K.lookup a=P3 o/\o.cls=.type "tuple"/\o.data=.seq b n/\b.size<=sizeLine/\qz c b.toList
def f7:Ev->u_ V
 |.none=>P3 .non
 |.bool b=>P3^.bl b
 |.int i _=>P3^.int i
 |.str x _=>P3^.str x
 |.bytes b _=>P3^.byt b
 |.float b _=>P3^.flt b
 |.ref a=>P3^.ref a
 |.type n=>P3^.ty n
 |_=>q_
theorem RelV.abs(r:RelV x u):f7 u=P3 x:=by
 cases x with
 |non=>subst r; rfl
 |bl _=>subst r; rfl
 |int _=>let#[t,rfl]:=r; rfl
 |str _=>let#[t,rfl]:=r; rfl
 |byt _=>let#[t,rfl]:=r; rfl
 |flt _=>let#[t,rfl]:=r; rfl
 |ref _=>subst r; rfl
 |ty _=>subst r; rfl
theorem RelV.inj(r:RelV x u)(q:RelV y u):x=y:=iA^r.abs.symm.trans q.abs
theorem qz.inj:∀{a b:t_ V}{c:t_ Ev},qz a c->qz b c->a=b
 |_,_,_,.nil,.nil=>rfl
 |_,_,_,.cons r t,.cons d e=>by rw[r.inj d,qz.inj t e]
section

theorem SqL.of{K:Frag}(h:H a=P3^.lst xs):SqL K H a xs:=.inl^.inl h
theorem SqT.of{K:Frag}(h:H a=P3^.tup xs):SqT K H a xs:=.inl^.inl h
theorem Inv.list(I:Inv X zH Z H s)(h:SqL X.K H a xs):∃b:t_ Ev,qz xs b/\PlainL s.heap a b.toArray/\xs.length<=sizeLine:=by
 rcases h with h|⟨o,b,n,c,d,f,g,i,r⟩
 .let#[z,b,n,r,e]:=h.ok I.hok
  exact#[_,r,#[_,n,e,rfl,rfl,rfl],z]
 .exists _,r,#[o,n,I.kIn a o c,d,f,by lk]
  have e:=r.length
  simp_all
theorem Inv.tuple(I:Inv X zH Z H s)(h:SqT X.K H a xs):∃b:t_ Ev,qz xs b/\IsTup s.heap a b.toArray/\xs.length<=sizeLine:=by
 rcases h with h|⟨o,b,n,c,d,f,g,r⟩
 .let#[z,b,r,p]:=h.ok I.hok
  exact#[_,r,p.tup,z]
 .exists _,r,#[o,I.kIn a o c,d,n,by lk]
  have e:=r.length
  simp_all
theorem Inv.list_inj(I:Inv X zH Z H s)(h:SqL X.K H a xs)(f:SqL X.K H a ys):xs=ys:=by
 let#[c, r,#[o,n, e,_,_,d],_]:=I.list h;let#[b, g,#[i,j, k,_,_,l],_]:=I.list f
 have:c=b:=by simp_all
 subst this;exact r.inj g
theorem Inv.tuple_inj(I:Inv X zH Z H s)(h:SqT X.K H a xs)(f:SqT X.K H a ys):xs=ys:=by
 let#[c, r,#[o, e,_, n, d],_]:=I.tuple h;let#[b, g,#[i, j,_, k, l],_]:=I.tuple f
 have:c=b:=by grind
 subst this;exact r.inj g
end
abbrev Cx.v5(X:Cx)(E:Ev->No->Prop):Cx:={X with xe:=E}
abbrev Cx.nox(X:Cx):Cx:=X.v5 λ_ _=>False
theorem Cx.Ok.v5{X:Cx}(ok:X.Ok)(E:Ev->No->Prop):(X.v5 E).Ok:=
 #[ok.mod,ok.kind,ok.glob,ok.blt,ok.above,ok.inj,ok.has,ok.cab,ok.hd,ok.frames,ok.stk,ok.exf,ok.bs,ok.bsz,ok.noex,ok.exfs,ok.vH,ok.frf]
theorem Cx.Ok.vv{X:Cx}(ok:(X.v5 E).Ok):X.Ok:=
 #[ok.mod,ok.kind,ok.glob,ok.blt,ok.above,ok.inj,ok.has,ok.cab,ok.hd,ok.frames,ok.stk,ok.exf,ok.bs,ok.bsz,ok.noex,ok.exfs,ok.vH,ok.frf]
section

theorem Inv.v5(I:Inv X zH Z H s)(E:Ev->No->Prop):Inv (X.v5 E) zH Z H s:=#[I.ok.v5 E,I.os,I.bare,I.base,I.loc,I.cell,I.free,I.vz,I.pin,I.hok,I.len]
theorem Inv.vv(I:Inv (X.v5 E) zH Z H s):Inv X zH Z H s:=#[I.ok.vv,I.os,I.bare,I.base,I.loc,I.cell,I.free,I.vz,I.pin,I.hok,I.len]
theorem SP.vv(h:SP (X.v5 E) zH D f c):SP X zH D f c:=by
 cases f with
 |next=>let#[b,a, I,q]:=h; exact#[_,a,I.vv,q]
 |brk=>let#[b,a, I,q]:=h; exact#[_,a,I.vv,q]
 |cont=>let#[b,a, I,q]:=h; exact#[_,a,I.vv,q]
 |ret u=>let#[v,b,a, I,r,q]:=h; exact#[v,_,a,I.vv,r,q]
theorem PSs.nox(h:PSs X.nox a t):PSs X a t:=λzH s Z H D I b=>
 i8 (h _ s Z H D (I.v5 _) b) (λ_ _ q=>q.vv) λ_ _ z=>jj z
end
section
variable {st:Stmt}
def YT:TS:=λD Z H=>D.nx Z H
def ON(t u:TS):TS:=λD Z H=>t {D with nx:=u D} Z H
theorem GC:PSs X [] YT:=λ_ _ Z H _ I h=>lW #[Z,H,I,h]
theorem Ao(a:PS X st t)(b:PSs X rest u):PSs X (st::rest)^ON t u:=by
 intro g s Z H D I h;refine o7^thn (a _ s Z H _ I h) λf c q=>?_;cases f with
 |next=>
  let#[i,d, e,q]:=q;exact b _ c _ d D e q
 |ret v=>exact q
 |brk=>exact q
 |cont=>exact q
theorem BR(a:PS X st t):PSs X [st] t:=by
 intro b s Z H D I h;refine o7^thn (a _ s Z H D I h) λf c q=>?_;cases f with
 |next=>exact lW q
 |ret v=>exact q
 |brk=>exact q
 |cont=>exact q
theorem Inv.quiet(I:Inv X a Z H s):interactive X.env=s_:=by simp[interactive,I.ok.kind]
def cB(te:TE):TS:=λD Z H=>te Z H λ_ a=>D.nx Z a
theorem Wh(a:PE X e te)(b:swapsWith e q_ pos.line X.env=pure s_:=by rfl):PS X (.Expr e pos)^cB te:=λg s Z H D I h=>wpAny_Expr_any (thn (a _ s Z H _ I h) λv i #[x,c,d,j,f]=>#[Z,c,d,f]) I.quiet b
def WO(te:TE):TS:=λD Z H=>te Z H D.rt
theorem Fi(a:PE X e te):PS X (.Return (P3 e) pos)^WO te:=λg s Z H D I h=>wpAny_Return_some^thn (a _ s Z H _ I h) λv i #[x,b,c,d,f]=>#[x,Z,b,c,d,f]
def b_(c:TT)(t u:TS):TS:=λD Z H=>c Z H λb a=>if b=r_ then t D Z a else u D Z a
theorem KQ(k:PT X c tc)(l:PSs X a t)(m:PSs X b u):PS X (.If c a b pos)^b_ tc t u:=by
 intro n s Z H D I h;refine wpAny_If^thn (k _ s Z H _ I h) λd f zz=>?_;let#[g, i,j]:=zz;cases d with
 |true=>exact l _ f Z g D i j
 |false=>exact m _ f Z g D i j
end
abbrev TG:=V->St->Hp->(St->Hp->Prop)->Prop
abbrev bL:=t_ V->St->Hp->(St->Hp->Prop)->Prop
def PG(X:Cx)(a:iR)(t:TG):Prop:=
 ∀(b:t_ (Db×Obj)) (s:No) (Z:St) (H:Hp) (v:V) (u:Ev) (Q:St->Hp->Prop),Inv X b Z H s->RelV v u->t v Z H Q->
  wpAny (model X.prog X.w) X.A (assign a X.env u) (λ_ e=>∃c d,Inv X b c d e/\Q c d) X.xe s
def d8(X:Cx)(f:t_ iR)(t:bL):Prop:=
 ∀(a:t_ (Db×Obj)) (s:No) (Z:St) (H:Hp) (b:t_ V) (c:t_ Ev) (Q:St->Hp->Prop),Inv X a Z H s->qz b c->t b Z H Q->
  wpAny (model X.prog X.w) X.A (assignInOrder ((assignEach f X.env).map (·.2)) c) (λ_ g=>∃d e,Inv X a d e g/\Q d e) X.xe s
abbrev bK:=V->V->V->Hp->(Hp->Prop)->Prop
def d6(X:Cx)(t:bK):Prop:=
 ∀(a:t_ (Db×Obj)) (s:No) (Z:St) (H:Hp) (o i v:V) (ov b u:Ev) (Q:Hp->Prop),Inv X a Z H s->RelV o ov->RelV i b->RelV v u->t o i v H Q->
  wpAny (model X.prog X.w) X.A (setItem ov b u) (λ_ d=>∃c,Inv X a Z c d/\Q c) X.xe s
abbrev eY:=V->V->Hp->VK->Prop
def gW(X:Cx)(b:Operator)(t:eY):Prop:=
 ∀(a:t_ (Db×Obj)) (s:No) (Z:St) (H:Hp) (x y:V) (v u:Ev) (Q:VK),Inv X a Z H s->RelV x v->RelV y u->t x y H Q->
  wpAny (model X.prog X.w) X.A (inplaceOp b v u) (EP X a Z Q) X.xe s
section

def HS(i:Nat):TG:=λv Z H Q=>Q (Z.set i^P3 v) H
theorem B1(a:X.N.Nodup)(b:X.N[i]?=P3 x)(hx:Loc X.env.scope x)(c:X.fn x=r_\/X.env.scope.names.lookup x=P3 .local:=by first|exact .inl rfl|exact .inr rfl|assumption):PG X (.Name x pos)^HS i:=λe s Z H v u Q I r h=>wpAny_assign_Name^Ej I a b hx r (λf d=>#[_,H,d,h]) c
def fi:bL:=λa Z H Q=>a=[]/\Q Z H
def c_(t:TG)(u:bL):bL:=λa Z H Q=>∃v r,a=v::r/\t v Z H λb c=>u r b c Q
theorem LO:d8 X [] fi:=by
 intro a s Z H b c Q I r h;let#[ e,h]:=h;exact assignInOrder_nil #[Z,H,I,h]
theorem DL(b:PG X e t)(c:d8 X a u)
  (d:(assignEach (e::a) X.env).map (·.2)=assign e X.env::(assignEach a X.env).map (·.2):=by rfl):d8 X (e::a)^c_ t u:=by
 intro m s Z H n o Q I r h;let#[v,p,f,h]:=h;subst f;cases r with
 |cons r g=>
  rw[d];refine oI^thn (b _ s Z H _ _ _ I r h) λ_ i zz=>?_;let#[_,j, k,l]:=zz;exact c _ i _ j _ _ Q k g l
def fh(K:Frag)(n:Nat)(t:bL):TG:=λv Z H Q=>∃a b,v=.ref a/\SqT K H a b/\b.length=n/\t b Z H Q
theorem Oh(g:X.calm=r_)(h:d8 X c t)
  (i:(assignEach c X.env).length=n:=by rfl) (d:(assignEach c X.env).findIdx? (·.1)=q_:=by rfl):PG X (.Tuple c k pos)^fh X.K n t:=by
 intro z s Z H v u Q I r f;let#[a,j,l,m,p,f]:=f;subst l;subst r;let#[q, w,x,A]:=I.tuple m;exact assign_Tuple_tuple (I.ok.hd g) x (by simp[i,←p,w.length]) d λB y=>h _ _ Z H j _ Q (I.kept λb o e=>y b o (iJ^Tk e) e) (by omega) f
def aG(to a:TE)(t:bK):TG:=λv Z H Q=>to Z H λo b=>a Z b λi H2=>t o i v H2 λc=>Q Z c
theorem Fj(d:PE X o to)(e:PE X i c)(f:d6 X t)
  (C:∀v,assign (.Subscript o i pos) X.env v=(do
   let a ←holding [v]^eval o X.env
   let b ←holding [v,a] (eval i X.env)
   standAt pos
   holding [v,a,b] (setItem a b v)
   release [v,a,b] []):=by intro _; rfl):PG X (.Subscript o i pos)^aG to c t:=λD s Z H v u Q I r h=>Ch^i6^thn (d _ s Z H _ I h) λa g #[x,j,k,l,m]=>Ch^i6^thn (e _ g Z j _ k m) λb n #[y,H2,p,q,w]=>Ch^mO^Ch^i6^thn (f _ n Z H2 x y v a b u _ p l q r w) λ_ E #[z,A,B]=>wpAny_release #[Z,z,A,B]
def Me(a:TE)(g:TG):TS:=λD Z H=>a Z H λx b=>g x Z b D.nx
theorem Er(c:PE X e b)(d:PG X a g)(f:swapsWithSole [a] e pos.line X.env=pure s_:=by rfl)(i:swappedStores [a] e X.env=pure q_:=by rfl)
  (j:(assignEach [a] X.env).map (·.2)=[assign a X.env]:=by rfl):PS X (.Assign [a] e pos)^Me b g:=by
 intro p s Z H D I h;refine wpAny_Assign_stores (thn (c _ s Z H _ I h) λv k #[x,l,m,n,o]=>?_) f i;rw[j];exact thn (d _ k Z l x v _ m n o) λ_ r q=>q
theorem Dv(c:X.N.Nodup)(d:X.N[i]?=P3 x)(hx:Loc X.env.scope x)(f:PE X e b)(g:swapsWith e (P3^.Name x a) pos.line X.env=pure s_:=by rfl)(j:X.fn x=r_\/X.env.scope.names.lookup x=P3 .local:=by first|exact .inl rfl|exact .inr rfl|assumption):
  PS X (.Assign [.Name x a] e pos) (Me b^HS i):=λp s Z H D I h=>wpAny_Assign_Name (thn (f _ s Z H _ I h) λv q #[y,k,l,m,n]=>Ej l c d hx m (λr o=>#[_,k,o,n]) j) g
def fL(i j:Nat)(a:TA):TS:=λD Z H=>a Z H λb c=>∃v w,b=[v,w]/\D.nx ((Z.set i^P3 v).set j^P3 w) c
theorem Zp{kt k2 pt2}(F:X.calm=r_)(u:X.N.Nodup)(G:X.N[i]?=P3 x)(J:X.N[j]?=P3 y)(l:i≠j)
  (hx:X.env.scope.names.lookup x=P3 .local) (z:X.env.scope.names.lookup y=P3 .local) (K:PA X [a,b] t)
  (L:swappedStores [.Tuple [.Name x g,.Name y k] kt pt] (.Tuple [a,b] k2 pt2) X.env=pure^P3 [x,y])
  (M:swapsWithSole [.Tuple [.Name x g,.Name y k] kt pt] (.Tuple [a,b] k2 pt2) pos.line X.env=pure s_:=by rfl):
  PS X (.Assign [.Tuple [.Name x g,.Name y k] kt pt] (.Tuple [a,b] k2 pt2) pos) (fL i j t):=by
 intro B s Z H D I h;simp only[exec_Assign_arm];refine Ch^mO ?_;rw[M];refine Ch^Op ?_;rw[if_neg^by cbv];refine Ch^Tuple_^thn (K _ B s Z H _ I h) λO c zz=>?_;let#[vs,C, P,Q,m]:=zz;let#[v,w,R,m]:=m;subst R
 obtain⟨d,f,rfl,S,n⟩:∃d f,O=[d,f]/\RelV v d/\RelV w f:=by
  cases Q with
  | cons p q=>
   cases q with
   |cons T U=>
    cases U;exact#[_,_,rfl,p,T]
 refine jp ?_ (by show 2<=sizeLine; decide);have V:Inv X B Z C {c with heap:=c.heap.push {cls:=.type "tuple",data:=.seq [d,f].toArray}}:=P.kept (t':=c.toks) λb o e=>Go _ e;rw[L];refine Ch^Op ?_;show wpAny (model X.prog X.w) X.A (do rule "assign.swapped-stores"; let items ←unpackItems (.ref c.heap.objs.size) 2 q_; assignInOrder [λv=>bindName X.env y v,λv=>bindName X.env x v] items.reverse; pure Flow.next) _ _ _;refine Ch^mG^Ch^unpackItems_tuple (items:=#[ d,f]) (I.ok.hd F) (IsTup.new c.heap _) λh' r=>?_;have W:=V.kept (h':=h') (t':=c.toks) λb o e=>r b o (iJ^Tk e) e;show wpAny _ _ (assignInOrder [λv=>bindName X.env y v,λv=>bindName X.env x v] [f,d] >>=λ_=>pure Flow.next) _ _ _;refine Ch^oI^wpAny_bindName^Ej W u J (.inl z) n (λs2 Y=>?_)^.inr z;refine oI^wpAny_bindName^Ej Y u G (.inl hx) S (λs3 E=>assignInOrder_nil^Op ?_)^.inr hx;rw[List.set_comm _ _^iz l]at E;exact#[_,C,E,m]
def fP(i:Nat)(a:TE)(b:eY):TS:=λD Z H=>∃x,Z[i]?=P3^P3 x/\a Z H λy c=>b x y c λz H2=>D.nx (Z.set i^P3 z) H2
theorem Zq(C:X.N.Nodup)(t:X.N[i]?=P3 x)(hx:Loc X.env.scope x)(E:PE X e p)(F:gW X j q)(G:X.fn x=r_\/X.env.scope.names.lookup x=P3 .local:=by first|exact .inl rfl|exact .inr rfl|assumption):
  PS X (.AugAssign (.Name x d) j e pos) (fP i p q):=by
 intro n s Z H D I h;let#[v, J,h]:=h;let#[m, K,L]:=I.loc;have o:YH X.env.scope x:=by rcases hx with k|k; exact .inl k; exact .inr^.inl k
 let#[u, r,l]:=L i x v t J o;refine wpAny_AugAssign_Name ?_
 have B:wpAny (model X.prog X.w) X.A (eval e X.env) (λw f=>wpAny (model X.prog X.w) X.A (inplaceOp j u w) (λr g=>wpAny (model X.prog X.w) X.A (storeName X.env x r) (λ_=>SP X n D .next) X.xe g) X.xe f) X.xe s:=by
  refine thn (E n s Z H _ I h) λw M zz=>?_;let#[y,O, P,Q,R]:=zz;refine thn (F n M Z O v y u w _ P r Q R) λz s2 zz=>?_;let#[zv,H2, S,T,U]:=zz;exact Ej S C t hx T (λs3 V=>#[_,H2,V,U]) G
 rcases l with⟨a,W⟩|⟨a,c,Y,b⟩
 .exact wpAny_loadName_local I.ok.kind a K W B
 .rcases a with a|a
  .exact wpAny_loadName_cell I.ok.kind a Y b B
  .rcases hx with k|k
   .have:X.env.scope.names.lookup x=P3 .free:=a
    rw[k]at this; cases this
   .have:X.env.scope.names.lookup x=P3 .free:=a
    rw[k]at this; cases this
def gw(f:Int->Int->Int):eY:=λx y H Q=>∃i j,x=.int i/\y=.int j/\Q (.int^f i j) H
theorem aF:gW X .Add (gw λi j=>i+j):=by
 intro e s Z H x y v u Q I a b h;let#[i,j, c,d,q]:=h;subst c; subst d
 let#[t,rfl]:=a;let#[f,rfl]:=b;exact iadd_int #[.int _,H,I.tok _,#[_,rfl],q]
end
section

def ZW(c:TT)(g:TS):TS:=λD Z H=>∃W:Nat->St->Hp->Prop,(∃m,W m Z H)/\∀m Z H,W m Z H->
 c Z H λb a=>if b=r_ then ∃N:St->Hp->Prop,(∀d e,N d e->∃f,f<m/\W f d e)/\g {D with nx:=N,ct:=N,bk:=D.nx} Z a else D.nx Z a
theorem UH(x:nL (model X.prog X.w) X.A X.env X.xe)(F:PT X c t)(G:PSs X a u):PS X (.While c a [] pos)^ZW t u:=by
 intro l s Z H D I h;let#[W, #[J, K],d]:=h;refine wpAny_While^codeAny_whileLoop (λn L=>∃y z,Inv X l y z L/\W n y z) ?_ J #[Z,H,I,K];rintro n M ⟨i,B,O,P⟩;refine ku x^thn (F l M i B _ O^d n i B P) λb Q zz=>?_;let#[H2, C,j]:=zz;cases b with
 | true=>
  let#[N, E,j]:=j;rw[if_pos rfl];refine ku x^thn (G l Q i H2 _ C j) λf R k=>?_;cases f with
  |next=>
   let#[e,g, m,o]:=k;let#[p, q,r]:=E e g o;exact#[p,q,e,g,m,r]
  |cont=>
   let#[e,g, m,o]:=k;let#[p, q,r]:=E e g o;exact#[p,q,e,g,m,r]
  |brk=>exact k
  |ret v=>exact k
 |false=>
  rw[if_neg iI];exact lW #[i,H2,C,j]
end
structure It where
 go:Nat->Hp->Prop
 yld:Nat->Hp->V->Hp->Prop
 stop:Nat->Hp->Prop
def F2(X:Cx)(a:t_ (Db×Obj))(H:Hp)(b:Db):Prop:=
 H b=q_/\b≠X.env.locals/\b∉X.fs/\(b∈X.ex\/X.s₀.heap.objs.size<=b)/\(∀x c,X.env.cells.lookup x=P3 c->c≠b)/\∀p∈X.pn++a,p.1≠b
theorem Inv.fpOk(I:Inv X d Z H s)(a:s.heap.objs.size<=b)(g:f b=q_):F2 X d f b:=by
 refine#[g,kR^ic I.lt a,I.nofs a,.inr^iU I.sz a,λx c e z=>?_,λp h z=>?_]
 .let#[v,q]:=I.cell x c e
  exact absurd (ic q.lt^by simp only[z]; exact a)^jN _
 .exact absurd (ic (Tk (I.pin p h).1)^by simp only[z]; exact a)^jN _
structure Turn (P:iP) (w:iZ) (K:Frag) (tg:iR) (J:It) (fp:List Db) (it:Db) (tn:Nat->iG->Prop):Prop where
 mem:it∈fp
 obj:∀i h,tn i h->∀b∈fp,∃o,h.get? b=P3 o/\∀v,o.data≠.cell v
 keep:∀i h h',tn i h->(∀b∈fp,∀o,h.get? b=P3 o->h'.get? b=P3 o)->tn i h'
 item:∀(X:Cx),X.prog=P->X.w=w->X.K=K->X.calm=r_->∀(i:Nat) (zH:List (Db×Obj)) (s:No) (Z:St) (H:Hp) (E:Ev->No->Prop),Inv X zH Z H s->(∀b∈fp,F2 X zH H b)->tn i s.heap->J.go i H->
  wpAny (model P w) X.A (pyNext^.ref it) (λr s1=>∃u,r=P3 u /\
   wpAny (model P w) X.A (letOwnedTupleGo tg (.ref it) u) (λ_ s2=>∃x H',Inv X zH Z H' s2/\RelV x u/\J.yld i H x H'/\tn (i+1) s2.heap/\∀b∈fp,H' b=q_) E s1) E s
 done:∀(X:Cx),X.prog=P->X.w=w->X.K=K->X.calm=r_->∀(i:Nat) (zH:List (Db×Obj)) (s:No) (Z:St) (H:Hp) (E:Ev->No->Prop),Inv X zH Z H s->(∀b∈fp,F2 X zH H b)->tn i s.heap->J.stop i H->
  wpAny (model P w) X.A (pyNext^.ref it) (λr s1=>r=q_/\Inv X zH Z H s1) E s
 self:∀(A:ik) (i:Nat) (s:No) (Q:Ev->No->Prop) (E:Ev->No->Prop),tn i s.heap->Q (.ref it) s->wpAny (model P w) A (pyIter^.ref it) Q E s
abbrev TI:=St->Hp->(It->Hp->Prop)->Prop
def gX(X:Cx)(d:t_ (Db×Obj))(Z:St)(i:iR)(R:It->Hp->Prop)(a:Ev)(e:No):Prop:=
 ∃(f:Db) (g:t_ Db) (h:Nat->iG->Prop) (J:It) (c:Hp),a=.ref f/\Inv X d Z c e/\Turn X.prog X.w X.K i J g f h/\h 0 e.heap/\(∀b∈g,F2 X d c b)/\R J c
def PI(X:Cx)(c a:iR)(wi:TI):Prop:=
 ∀(b:t_ (Db×Obj)) (s:No) (Z:St) (H:Hp) (R:It->Hp->Prop),Inv X b Z H s->wi Z H R->
  wpAny (model X.prog X.w) X.A (eval a X.env) (λv d=>wpAny (model X.prog X.w) X.A (pyIter v) (gX X b Z c R) X.xe d) X.xe s
theorem QO  (e:s.heap.get? c=P3 o) (f:o.cls=.type n) (hd:o.data=.fields d)
    (g:["enumerate","zip","dict_itemiterator","dict_reverseitemiterator","odict_iterator","itertools.zip_longest","itertools.pairwise"].contains n=s_) (a:Q () s):wpAny M A (letOwnedTupleGo b (.ref c) u) Q E s:=by
  unfold letOwnedTupleGo
  cases b <;>first
    |exact Op a
    |(cases u <;>first
        |exact Op a
        | (refine Ch^wpAny_load e ?_
           simp only[f,hd];show wpAny M A (if(["enumerate","zip","dict_itemiterator","dict_reverseitemiterator","odict_iterator","itertools.zip_longest","itertools.pairwise"].contains n && d[0]?==P3^rawInt _)=r_ then _ else _) Q E s;rw[if_neg^by grind];exact Op a))
def WA(K:Frag)(a:Db):It:=
 #[λi H=>∃b x,SqL K H a b/\b[i]?=P3 x,λi H x c=>c=H/\∀b,SqL K H a b->b[i]?=P3 x,λi H=>∃b,SqL K H a b/\b.length<=i]
def Sm(K:Frag)(a:Db):It:=
 #[λi H=>∃b x,SqT K H a b/\b[i]?=P3 x,λi H x c=>c=H/\∀b,SqT K H a b->b[i]?=P3 x,λi H=>∃b,SqT K H a b/\b.length<=i]
def ZA(a:Int)(n:Nat):It:=#[λi _=>i<n,λi H x b=>b=H/\x=.int (a+i),λi _=>n<=i]
theorem Q6{K:Frag}(a g:Db):Turn P w K Q (WA K a) [g] g (λi h=>h.IsListIter g a i) where
 mem:=by simp
 obj:=λi h f b j=>by
  have e:b=g:=by simpa using j
  subst e;let#[o, e,c,d]:=f;exact#[o,e,λv z=>by rw[d]at z; cases z]
 keep:=λi h m f k=>f.at λo e=>k g (by simp) o e
 item:=by
  intro X r t y N i O s Z H E I n f A;subst r t y;let#[R,x, q,B]:=A;let#[C, D,p,S]:=I.list q;let#[u, T,U]:=D.get B;let#[ F,G,V,J,L,M]:=n g (by simp);refine wpAny_pyNext_list_item f p.isList (x:=u) (by simpa using T) λm l W=>?_;have Y:Inv X O Z H {s with heap:=m}:=I.turned (t':=s.toks) (λb o j e=>(W.2 b j).trans e) F G J L M;let#[o, e,c,d]:=id l;exact#[u,rfl,QO (s:={s with heap:=m}) e c d (by cbv) #[x,H,Y,U,#[rfl,λys hy=>by rw[I.list_inj hy q]; exact B],l,λb j=>(n b j).1]]
 done:=by
  intro X r t y N i O s Z H E I n f A;subst r t y;let#[R, q,B]:=A;let#[C, D,p,S]:=I.list q;let#[ F,G,V,J,L,M]:=n g (by simp);have hl:=D.length;exact wpAny_pyNext_list_end (I.ok.hd N) f p.isList (by simp; lk) λm eb=>#[rfl,I.turned (t':=s.toks) (λb o j e=>eb b o j e) F G J L M]
 self:=λ_ _ _ _ _ f h=>wpAny_pyIter_listiter f h
theorem IU{K:Frag}(a g:Db):Turn P w K Q (Sm K a) [g] g (λi h=>h.IsTupleIter g a i) where
 mem:=by simp
 obj:=λi h f b j=>by
  have e:b=g:=by simpa using j
  subst e;let#[o, e,c,d]:=f;exact#[o,e,λv z=>by rw[d]at z; cases z]
 keep:=λi h n f k=>f.at λo e=>k g (by simp) o e
 item:=by
  intro X t y A N i O s Z H E I q f B;subst t y A;let#[R,x, r,C]:=B;let#[l, D,p,S]:=I.tuple r;let#[u, T,U]:=D.get C;let#[ F,G,V,J,L,M]:=q g (by simp);refine wpAny_pyNext_tuple_item f (show s.heap.IsTuple a l.toArray from p) (x:=u) (by simpa using T) λn m W=>?_;have Y:Inv X O Z H {s with heap:=n}:=I.turned (t':=s.toks) (λb o j e=>(W.2 b j).trans e) F G J L M;let#[o, e,c,d]:=id m;exact#[u,rfl,QO (s:={s with heap:=n}) e c d (by cbv) #[x,H,Y,U,#[rfl,λys hy=>by rw[I.tuple_inj hy r]; exact C],m,λb j=>(q b j).1]]
 done:=by
  intro X t y A N i O s Z H E I q f B;subst t y A;let#[R, r,C]:=B;let#[l, D,p,S]:=I.tuple r;let#[ F,G,V,J,L,M]:=q g (by simp);have hl:=D.length;exact wpAny_pyNext_tuple_end (I.ok.hd N) f (show s.heap.IsTuple a l.toArray from p) (by simp; lk) λn eb=>#[rfl,I.turned (t':=s.toks) (λb o j e=>eb b o j e) F G J L M]
 self:=λ_ _ _ _ _ f h=>wpAny_pyIter_tupleiter f h
theorem OL{K:Frag}(c:Db)(g:Int)(n:Nat):Turn P w K F (ZA g n) [c] c (λi h=>IsRangeIter h c (g+(i:Nat)*1) ((n:Int) - (i:Nat)) 1) where
 mem:=by simp
 obj:=λi h a b d=>by
  simp_all
 keep:=λi h j a k=>k c (by simp) _ a
 item:=by
  intro X m p q r i C s Z H E I l a u;subst m p q;let#[ x,y,G,z,A,B]:=l c (by simp);have W:=Walks.range (prog:=X.prog) (w:=X.w) (I.ok.hd r) c g 1 n;refine W.item i s _ _ u a λv j D J f L=>?_;let#[t,rfl]:=J;have M:Inv X C Z H {s with heap:=j,toks:=D}:=I.turned (λb o d e=>L b o (by simpa using d) e) x y z A B;refine#[_,rfl,QO (s:={s with heap:=j,toks:=D}) (n:="range_iterator") f rfl rfl (by cbv) #[.int (g+i),H,M,#[t,?_],#[rfl,rfl],f,λb d=>(l b d).1]];rw[Int.mul_one]
 done:=by
  intro X m p q r i C s Z H E I l a u;subst m p q;let#[ x,y,G,z,A,B]:=l c (by simp);exact wpAny_pyNext_range_end (I.ok.hd r) a (by have:n<=i:=u; lk) λj N=>#[rfl,I.turned (t':=s.toks) (λb o d e=>N b o d e) x y z A B]
 self:=λ_ _ _ _ _ a h=>wpAny_pyIter_rangeiter a h
section

def fg(K:Frag)(c:TE):TI:=λZ H R=>c Z H λx b=>∃a,x=.ref a/\(∃d,SqT K b a d)/\R (Sm K a) b
theorem UO(f:PE X l d):PI X tg l^fg X.K d:=by
 intro r s Z H R I h;refine thn (f _ s Z H _ I h) λv g zz=>?_;let#[x,i, c,j,k]:=zz;let#[a, e,#[t, m],q]:=k;subst e;subst j;let#[n, u,p,w]:=c.tuple m;refine jk (p) ?_;refine#[_,_,_,_,i,rfl,c.kept λb o e=>Go _ e,IU a _,#[_,Uf _ rfl,rfl,rfl],λb y=>?_,q];have e:b=g.heap.objs.size:=by simp_all
 subst e;exact c.fpOk (Re _)^c.hok.fresh^Re _
theorem Mp(I:Inv X d Z H s)(h:-(2 ^ 62)<=a)(i:a<2 ^ 62)(j:-(2 ^ 62)<=c)(k:c<2 ^ 62)
  (q:R (ZA a (c - a).toNat) H):wpAny (model X.prog X.w) X.A (pyIter^.ref s.heap.objs.size) (gX X d Z tg R) E {s with heap:=s.heap.push {cls:=.type "range",data:=.fields #[ .int a t,.int c u,.int 1 v]},toks:=f}:=by
 refine wpAny_pyIter_range (IsRange.new ..) (small_one h i j k) ?_;have g:Inv X d Z H {s with heap:=s.heap.push {cls:=.type "range",data:=.fields #[ .int a t,.int c u,.int 1 v]},toks:=f}:=I.kept λb o e=>Go _ e
 refine#[(s.heap.push {cls:=.type "range",data:=.fields #[ .int a t,.int c u,.int 1 v]}).objs.size,[(s.heap.push {cls:=.type "range",data:=.fields #[ .int a t,.int c u,.int 1 v]}).objs.size],_,_,H,rfl,
  g.kept (t':=f) λb o e=>Go _ e,OL _ a (c - a).toNat,?_,λb l=>?_,q]
 .have m:a+((0:Nat):Int)*1=a:=by simp
  have n:(((c - a).toNat:Nat):Int) - ((0:Nat):Int)=Builtin.Range.rangeSize a c 1:=by rw[rangeSize_one]; grind
  show IsRangeIter _ _ (a+((0:Nat):Int)*1) ((((c - a).toNat:Nat):Int) - ((0:Nat):Int)) 1;rw[m,n];exact Uf _ rfl
 .have e:b=(s.heap.push {cls:=.type "range",data:=.fields #[ .int a t,.int c u,.int 1 v]}).objs.size:=by simpa using l
  subst e;exact g.fpOk (Re _)^g.hok.fresh^Re _
def cy(a:TA):TI:=λZ H R=>a Z H λb c=>∃j:Int,b=[.int j]/\-(2 ^ 62)<=j/\j<2 ^ 62/\R (ZA 0 j.toNat) c
def cx(a:TA):TI:=λZ H R=>a Z H λb c=>∃i j:Int,b=[.int i,.int j]/\(-(2 ^ 62)<=i/\i<2 ^ 62/\-(2 ^ 62)<=j/\j<2 ^ 62)/\R (ZA i (j - i).toNat) c
theorem DB(d:Gl X "range")(f:X.mg "range"=q_)(g:PA X [a] c)(i:starEach [a] X.env=[(s_,eval a X.env)]:=by rfl):PI X tg (.Call (.Name "range" p) [a] [] pos)^cy c:=by
 intro o s Z H R I h;refine Call_^Dz I d f boot_range (jf (thn (g _ _ s Z H _ I h) λu v zz=>?_) i rfl);let#[w,x, k,l,b]:=zz;let#[j,e,b,m,q]:=b;subst e;cases l with
 |cons r n=>
  cases n;let#[t,rfl]:=r;exact call_range_1^Mp k (by lk) (by lk) b m^by simpa using q
theorem RT(k:Gl X "range")(l:X.mg "range"=q_)(m:PA X [a,b] g)(n:starEach [a,b] X.env=[(s_,eval a X.env),(s_,eval b X.env)]:=by rfl)(c:starEach [b] X.env=[(s_,eval b X.env)]:=by rfl):
  PI X tg (.Call (.Name "range" p) [a,b] [] pos) (cx g):=by
 intro z s Z H R I h;refine Call_ (Dz I k l boot_range^jf (thn (m _ _ s Z H _ I h) λA B zz=>?_) (by simp only[n,c])^by rw[c]; rfl);let#[C,D,o,u,d]:=zz;let#[i,j,e,#[d,v,w,x],q]:=d;subst e;cases u with
 | cons r f=>
  cases f with
  |cons y f=>
   cases f;let#[t,rfl]:=r;let#[E,rfl]:=y;exact call_range_2^Mp o d v w x q
def cA(wi:TI)(g:TG)(d:TS):TS:=λD Z H=>wi Z H λJ e=>∃W:Nat->Nat->St->Hp->Prop,(∃m,W 0 m Z e)/\∀i m Z H,W i m Z H->
 (J.stop i H/\D.nx Z H)\/(J.go i H/\∃N:St->Hp->Prop,(∀b a,N b a->∃c,c<m/\W (i+1) c b a)/\∀x a,J.yld i H x a->g x Z a λf H2=>d {D with nx:=N,ct:=N,bk:=D.nx} f H2)
def Il(a:t_ Db)(h:iG):t_ (Db×Obj):=a.filterMap λb=>(h.get? b).map λo=>(b,o)
theorem EQ(c:b∈a)(e:h.get? b=P3 o):(b,o)∈Il a h:=oJ.mpr #[b,c,by rw[e]; rfl]
theorem Rb(c:p∈Il a h):p.1∈a/\h.get? p.1=P3 p.2:=by
 let#[b, f,e]:=oJ.mp c;cases q:h.get? b with
 |none=>simp_all
 |some o=>
  rw[q]at e;have d:=iA e;subst d
  simp_all
theorem Inv.pinned(I:Inv X a Z H s)(g:∀b∈c,F2 X a H b)(h:∀b∈c,∃o,s.heap.get? b=P3 o/\∀v,o.data≠.cell v):Inv X (a++Il c s.heap) Z H s:=
 I.pins_of λp i=>(iH.mp i).elim (λz=>I.pin p^iL _ z) λz=>by
  let#[ f,e]:=Rb z;let#[ j,k,l,_]:=g _ f;let#[o, m,d]:=h _ f
  simp_all
theorem Inv.vh(I:Inv X (a++b) Z H s):Inv X a Z H s:=I.pins_of λp c=>I.pin p^iL _^jA _ c
theorem Dw(C:nL (model X.prog X.w) X.A X.env X.xe)(hc:X.calm=r_)(hi:PI X tg a wi)(hg:PG X tg g)(c:PSs X t tb)
  (hs:∀x,foldedSetIterable a X.env x=pure x:=by intro _; rfl):PS X (.For tg a t [] pos)^cA wi g tb:=by
 intro z s Z H D I h;refine wpAny_For (thn (hi z s Z H _ I h) λv s1 h1=>thn h1 λa0 s2 h2=>?_) hs;let#[it,E,tn,J,H2, e,I2,T,R,f2, W, #[m0, w0],F]:=h2;subst e;have j:∀{q:Hp},(∀b∈E,q b=q_)->∀b∈E,F2 X z q b:=λhn b c=>#[hn b c,(f2 b c).2];refine codeAny_forLoop_any (λn s'=>∃i G q,Inv X z G q s'/\tn i s'.heap/\(∀b∈E,q b=q_)/\W i n G q) ?_ m0 #[0,Z,H2,I2,R,λb c=>(f2 b c).1,w0];rintro n s3 ⟨i,K,Q,I3,L,M,w3⟩
 rcases F i n K Q w3 with⟨O,qn⟩|⟨go,N,hN,step⟩
 .refine ku C^thn (T.done X rfl rfl rfl hc i z s3 K Q X.xe I3 (j M) L O) λr s4 zz=>?_;let#[ S,I4]:=zz
  subst S;exact lW #[K,Q,I4,qn]
 .refine ku C^thn (T.item X rfl rfl rfl hc i z s3 K Q X.xe I3 (j M) L go) λr s4 zz=>?_;let#[u, S,h4]:=zz
  subst S;refine ku C^thn h4 λ_ s5 zz=>?_;let#[x,H5, I5,r5,y5,B,U]:=zz;have V:=I5.pinned (j U)^T.obj _ _ B;refine ku C^thn (hg _ s5 K H5 x u _ V r5^step x H5 y5) λ_ s6 zz=>?_;let#[Y,H6, I6,q6]:=zz;refine ku C^thn (c _ s6 Y H6 _ I6 q6) λf s7 y=>?_
  have again:∀{k:St}{l:Hp},Inv X (z++Il E s5.heap) k l s7->N k l->∃m,m<n/\∃i G q,Inv X z G q s7/\tn i s7.heap/\(∀b∈E,q b=q_)/\W i m G q:=λ{k l} p P=>by
   let#[m', hm,w7]:=hN k l P;refine#[m',hm,i+1,k,l,p.vh,T.keep _ _ _ B λb c o e=>(p.pin (b,o)^iL _^iL _^EQ c e).1,λb c=>?_,w7];let#[o, e,d]:=T.obj _ _ B b c;exact(p.pin (b,o)^iL _^iL _^EQ c e).2.1
  cases f with
  |next=>let#[k,l, p,P]:=y; exact again p P
  |cont=>let#[k,l, p,P]:=y; exact again p P
  |brk=>let#[k,l, p,y]:=y; exact#[k,l,p.vh,y]
  |ret v=>let#[x7,k,l, p,r7,y]:=y; exact#[x7,k,l,p.vh,r7,y]
end
theorem U9{K:Frag}{g:TG}{k:TS}{D:Ends}(c:Nat->St->Hp->Prop)(n:c 0 Z H)(o:∀i Z H,i<=b.length->c i Z H->SqL K H a b)
  (u:∀i x Z H,b[i]?=P3 x->c i Z H->g x Z H λh H2=>k {D with nx:=c (i+1),ct:=c (i+1),bk:=D.nx} h H2) (r:∀Z H,c b.length Z H->D.nx Z H):
  ∃W:Nat->Nat->St->Hp->Prop,(∃m,W 0 m Z H)/\∀i m Z H,W i m Z H->
   ((WA K a).stop i H/\D.nx Z H)\/((WA K a).go i H/\∃N:St->Hp->Prop,(∀j d,N j d->∃l,l<m/\W (i+1) l j d)/\∀x d,(WA K a).yld i H x d->g x Z d λh H2=>k {D with nx:=N,ct:=N,bk:=D.nx} h H2):=by
 exists λi m Z H=>m=b.length - i/\i<=b.length/\c i Z H,#[b.length,by rfl,XV _,n];rintro i m Z H ⟨rfl,s,p⟩;have q:=o i Z H s p
 by_cases f:i<b.length
 .refine .inr #[#[b,b[i],q,by simp[f]],c (i+1),λj d t=>#[_,by omega,rfl,f,t],λx d y=>?_]
  let#[ e,y]:=y
  grind
 .have e:i=b.length:=by lk
  subst e;exact .inl #[#[b,q,Re _],r Z H p]
theorem Lu{K:Frag}{g:TG}{j:TS}{D:Ends}(b:Nat->St->Hp->Prop)(l:b 0 Z H)(n:∀i Z H,i<=xs.length->b i Z H->SqT K H a xs)
  (o:∀i x Z H,xs[i]?=P3 x->b i Z H->g x Z H λd H2=>j {D with nx:=b (i+1),ct:=b (i+1),bk:=D.nx} d H2) (r:∀Z H,b xs.length Z H->D.nx Z H):
  ∃W:Nat->Nat->St->Hp->Prop,(∃m,W 0 m Z H)/\∀i m Z H,W i m Z H->
   ((Sm K a).stop i H/\D.nx Z H)\/((Sm K a).go i H/\∃N:St->Hp->Prop,(∀f c,N f c->∃k,k<m/\W (i+1) k f c)/\∀x c,(Sm K a).yld i H x c->g x Z c λd H2=>j {D with nx:=N,ct:=N,bk:=D.nx} d H2):=by
 exists λi m Z H=>m=xs.length - i/\i<=xs.length/\b i Z H,#[xs.length,by rfl,XV _,l];rintro i m Z H ⟨rfl,s,p⟩;have q:=n i Z H s p
 by_cases h:i<xs.length
 .refine .inr #[#[xs,xs[i],q,by simp],_,λf c t=>#[_,by omega,rfl,h,t],λx c y=>?_]
  let#[ e,y]:=y;subst e;exact o i x Z _ (y xs q) p
 .have e:i=xs.length:=by lk
  subst e;exact .inl #[#[xs,q,Re _],r Z H p]
theorem FI{lo:Int}{g:TG}{h:TS}{D:Ends}(a:Nat->St->Hp->Prop)(k:a 0 Z H)
  (q:∀i Z H,i<n->a i Z H->g (.int (lo+i)) Z H λd H2=>h {D with nx:=a (i+1),ct:=a (i+1),bk:=D.nx} d H2) (l:∀Z H,a n Z H->D.nx Z H):
  ∃W:Nat->Nat->St->Hp->Prop,(∃m,W 0 m Z H)/\∀i m Z H,W i m Z H->
   ((ZA lo n).stop i H/\D.nx Z H)\/((ZA lo n).go i H/\∃N:St->Hp->Prop,(∀f b,N f b->∃j,j<m/\W (i+1) j f b)/\∀x b,(ZA lo n).yld i H x b->g x Z b λd H2=>h {D with nx:=N,ct:=N,bk:=D.nx} d H2):=by
 exists λi m Z H=>m=n - i/\i<=n/\a i Z H,#[n,by rfl,XV _,k];rintro i m Z H ⟨rfl,r,p⟩
 by_cases c:i<n
 .refine .inr #[c,a (i+1),λf b o=>#[n - (i+1),by lk,rfl,c,o],λx b y=>?_]
  let#[ e,y]:=y
  simp_all
 .have e:i=n:=by lk
  subst e;exact .inl #[Re _,l Z H p]
abbrev R2:=V->V->Hp->VK->Prop
def OpR(X:Cx)(f:Ev->Ev->Sem Ev)(r:R2):Prop:=
 ∀(a:t_ (Db×Obj)) (s:No) (Z:St) (H:Hp) (x y:V) (v u:Ev) (Q:VK),Inv X a Z H s->RelV x v->RelV y u->r x y H Q->
  wpAny (model X.prog X.w) X.A (f v u) (EP X a Z Q) X.xe s
def gB(X:Cx)(f:Ev->Sem Ev)(r:V->Hp->VK->Prop):Prop:=
 ∀(a:t_ (Db×Obj)) (s:No) (Z:St) (H:Hp) (x:V) (v:Ev) (Q:VK),Inv X a Z H s->RelV x v->r x H Q->
  wpAny (model X.prog X.w) X.A (f v) (EP X a Z Q) X.xe s
def B5(X:Cx)(f:Ev)(r:t_ V->Hp->VK->Prop):Prop:=
 ∀(a:t_ (Db×Obj)) (s:No) (Z:St) (H:Hp) (b:t_ V) (c:t_ Ev) (Q:VK),Inv X a Z H s->qz b c->r b H Q->
  wpAny (model X.prog X.w) X.A (call f c) (EP X a Z Q) X.xe s
def DY(r:R2)(a b:TE):TE:=λZ H Q=>a Z H λx c=>b Z c λy H2=>r x y H2 Q
def gj(r:V->Hp->VK->Prop)(a:TE):TE:=λZ H Q=>a Z H λx b=>r x b Q
def rI(C:Int->Int->Prop)(g:Int->Int->V):R2:=λx y H Q=>∃i j,x=.int i/\y=.int j/\C i j/\Q (g i j) H
def HI(g:Int->Int->V):R2:=λx y H Q=>∃i j,x=.int i/\y=.int j/\Q (g i j) H
def rU(g:Int->V):V->Hp->VK->Prop:=λx H Q=>∃i,x=.int i/\Q (g i) H
section

theorem av(j:PE X a ta)(k:PE X b tb){R:V->V->Hp->Prop}(I:Inv X i Z H s)
  (h:ta Z H λx g=>tb Z g λy H2=>R x y H2) {f:Ev->Ev->Sem Ev}
  (l:∀v u e x y H2,Inv X i Z H2 e->RelV x v->RelV y u->R x y H2->wpAny (model X.prog X.w) X.A (f v u) Q X.xe e):
  wpAny (model X.prog X.w) X.A (eval a X.env) (λv c=>wpAny (model X.prog X.w) X.A (eval b X.env) (λu d=>wpAny (model X.prog X.w) X.A (f v u) Q X.xe d) X.xe c) X.xe s:=thn (j _ s Z H _ I h) λv m #[x,g,n,o,p]=>thn (k _ m Z g _ n p) λu e #[y,H2,q,r,t]=>l v u e x y H2 q o r t
theorem Bk(d:OpR X (binaryOp c) r)(e:PE X a ta)(f:PE X b tb):PE X (.BinOp a c b pos)^DY r ta tb:=λl s Z H Q I h=>wpAny_BinOp^av e f I h λv u g x y H2 i j k q=>d _ g Z H2 x y v u Q i j k q
theorem ce(d:gB X (unaryOp c) r)(e:PE X a ta):PE X (.UnaryOp c a pos)^gj r ta:=λl s Z H Q I h=>UnaryOp_^thn (e _ s Z H _ I h) λv f #[x,g,i,j,k]=>d _ f Z g x v Q i j k
theorem eT{g:Int->Int->Int}
  (c:∀(i j:Int) (t u:Tok) (s:No) (Q:Ev->No->Prop) (E:Ev->No->Prop),C i j->Q (.int (g i j) s.toks) {s with toks:=s.toks+1}->wpAny (model X.prog X.w) X.A (f (.int i t)^.int j u) Q E s):
  OpR X f (rI C λi j=>.int^g i j):=by
 intro m s Z H x y v u Q I d e h;let#[i,j, rfl,rfl,k,q]:=h;let#[t,rfl]:=d;let#[l,rfl]:=e;exact c i j t l s _ _ k #[.int _,H,I.tok _,#[_,rfl],q]
theorem cj{g:Int->Int->Int}
  (c:∀(i j:Int) (t u:Tok) (s:No) (Q:Ev->No->Prop) (E:Ev->No->Prop),Q (.int (g i j) s.toks) {s with toks:=s.toks+1}->wpAny (model X.prog X.w) X.A (f (.int i t)^.int j u) Q E s):
  OpR X f (HI λi j=>.int^g i j):=by
 intro l s Z H x y v u Q I d e h;let#[i,j, rfl,rfl,q]:=h;let#[t,rfl]:=d;let#[k,rfl]:=e;exact c i j t k s _ _ #[.int _,H,I.tok _,#[_,rfl],q]
theorem Wv{g:Int->Int->Bool}
  (c:∀(i j:Int) (t u:Tok) (s:No) (Q:Ev->No->Prop) (E:Ev->No->Prop),Q (.bool^g i j) s->wpAny (model X.prog X.w) X.A (f (.int i t)^.int j u) Q E s):
  OpR X f (HI λi j=>.bl^g i j):=by
 intro l s Z H x y v u Q I d e h;let#[i,j, rfl,rfl,q]:=h;let#[t,rfl]:=d;let#[k,rfl]:=e;exact c i j t k s _ _ #[.bl _,H,I,rfl,q]
def YL(i j:Int):Prop:=0<j/\j<1073741824
def YK(i j:Int):Prop:=0<=j/\j<=1000000/\i.natAbs<2 ^ 64
def zh(i j:Int):Prop:=(-(2 ^ 64)<i/\i<2 ^ 64)\/(-(2 ^ 64)<j/\j<2 ^ 64)
theorem zh.ok(h:zh i j):IntMulOk i j:=by
 rcases h with⟨c,d⟩|⟨c,d⟩
 .exact .of_left^intBits_le_64 c d
 .exact .of_right^intBits_le_64 c d
theorem vW:OpR X (binaryOp .Add) (HI λi j=>.int (i+j)):=cj λ_ _ _ _ _ _ _ q=>add_int q
theorem op_sub:OpR X (binaryOp .Sub) (HI λi j=>.int (i - j)):=cj λ_ _ _ _ _ _ _ q=>sub_int q
theorem vV:OpR X (binaryOp .Mult) (rI zh λi j=>.int (i*j)):=eT λ_ _ _ _ _ _ _ c q=>mul_int q c.ok
theorem GF:OpR X (binaryOp .FloorDiv) (rI YL λi j=>.int (i / j)):=eT λi j _ _ _ _ _ c q=>by
 have d:=c.1;have e:=c.2;exact floordiv_int (by lk) (by grind)^.inl^PyProof.noPylong_small^by omega
theorem DM:OpR X (binaryOp .Mod) (rI (λ_ j=>0<j) λi j=>.int (i % j)):=eT λi j _ _ _ _ _ c q=>mod_int' (by lk)^by rw[Int.fmod_eq_emod_of_nonneg i^by lk]; exact q
theorem Gw:OpR X (binaryOp .Pow) (rI YK λi j=>.int (i ^ j.toNat)):=eT λ_ _ _ _ _ _ _ c q=>pow_int_small c.1 c.2.1 c.2.2 q
theorem gh{g:Int->Int}
  (c:∀(i:Int) (t:Tok) (s:No) (Q:Ev->No->Prop) (E:Ev->No->Prop),Q (.int (g i) s.toks) {s with toks:=s.toks+1}->wpAny (model X.prog X.w) X.A (f^.int i t) Q E s):
  gB X f (rU λi=>.int^g i):=by
 intro e s Z H x v Q I d h;let#[i, rfl,q]:=h;let#[t,rfl]:=d;exact c i t s _ _ #[.int _,H,I.tok _,#[_,rfl],q]
theorem ZR:gB X (unaryOp .USub) (rU λi=>.int (-i)):=gh λ_ _ _ _ _ q=>neg_int q
end
def cH:V->V->Bool
 |.non,.non=>r_|.non,.int _=>r_|.int _,.non=>r_|.non,.bl _=>r_|.bl _,.non=>r_|.non,.str _=>r_|.str _,.non=>r_
 |.int _,.int _=>r_|.bl _,.bl _=>r_|.str _,.str _=>r_|.byt _,.byt _=>r_
 |.int _,.str _=>r_|.str _,.int _=>r_|.bl _,.str _=>r_|.str _,.bl _=>r_
 |_,_=>s_
def gL:R2:=λx y H Q=>cH x y=r_/\Q (.bl (decide (x=y))) H
def gI:R2:=λx y H Q=>cH x y=r_/\Q (.bl (!decide (x=y))) H
theorem IK:decide (V.int i=V.int j)=(i==j):=by
 rw[jW];simp
theorem L1:decide (V.bl i=V.bl j)=(i==j):=by
 rw[jW];simp
theorem IJ:decide (V.str i=V.str j)=(i==j):=by
 rw[jW];simp
theorem Qf:decide (V.byt i=V.byt j)=(i.toList==j.toList):=by
 rw[jW]
 simp_all
section

theorem Ay(I:Inv X c Z H s)(q:Q (.bl k) H)(e:k=d):EP X c Z Q (.bool d) s:=by
 subst e;exact#[.bl k,H,I,rfl,q]
theorem De:OpR X (compareOp .Eq) gL:=by
 intro g s Z H x y v u Q I f c h;let#[e,q]:=h;cases x with
 |non=>
  cases f;cases y with
  |non=>subst c; exact PySem.EqNone.eq_none_none^Ay I q^by rfl
  |bl j=>subst c; exact PySem.EqNone.eq_none_bool^Ay I q^by rfl
  |int j=>let#[d,rfl]:=c; exact PySem.EqNone.eq_none_int^Ay I q^by rfl
  |str j=>let#[d,rfl]:=c; exact PySem.EqNone.eq_none_str^Ay I q^by rfl
  |_=>exact absurd (show s_=r_ from e) iI
 |bl i=>
  subst f;cases y with
  |non=>subst c; exact PySem.EqNone.eq_bool_none^Ay I q^by rfl
  |bl j=>subst c; exact eq_bool^Ay I q L1
  |str j=>let#[d,rfl]:=c; exact PySem.EqMixed.eq_bool_str^Ay I q^by rfl
  |_=>exact absurd (show s_=r_ from e) iI
 |int i=>
  let#[t,rfl]:=f;cases y with
  |non=>subst c; exact PySem.EqNone.eq_int_none^Ay I q^by rfl
  |int j=>let#[d,rfl]:=c; exact eq_int^Ay I q IK
  |str j=>let#[d,rfl]:=c; exact PySem.EqMixed.eq_int_str^Ay I q^by rfl
  |_=>exact absurd (show s_=r_ from e) iI
 |str i=>
  let#[t,rfl]:=f;cases y with
  |non=>subst c; exact PySem.EqNone.eq_str_none^Ay I q^by rfl
  |bl j=>subst c; exact PySem.EqMixed.eq_str_bool^Ay I q^by rfl
  |int j=>let#[d,rfl]:=c; exact PySem.EqMixed.eq_str_int^Ay I q^by rfl
  |str j=>let#[d,rfl]:=c; exact eq_str^Ay I q IJ
  |_=>exact absurd (show s_=r_ from e) iI
 |byt i=>
  let#[t,rfl]:=f;cases y with
  |byt j=>let#[d,rfl]:=c; exact PySem.W.eq_bytes^Ay I q Qf
  |_=>exact absurd (show s_=r_ from e) iI
 |_=>cases y <;>exact absurd (show s_=r_ from e) iI
theorem FQ:OpR X (compareOp .NotEq) gI:=by
 intro g s Z H x y v u Q I f c h;let#[e,q]:=h;cases x with
 |non=>
  cases f;cases y with
  |non=>subst c; exact PySem.EqNone.ne_none_none^Ay I q^by rfl
  |bl j=>subst c; exact PySem.EqNone.ne_none_bool^Ay I q^by rfl
  |int j=>let#[d,rfl]:=c; exact PySem.EqNone.ne_none_int^Ay I q^by rfl
  |str j=>let#[d,rfl]:=c; exact PySem.EqNone.ne_none_str^Ay I q^by rfl
  |_=>exact absurd (show s_=r_ from e) iI
 |bl i=>
  subst f;cases y with
  |non=>subst c; exact PySem.EqNone.ne_bool_none^Ay I q^by rfl
  |bl j=>subst c; exact ne_bool^Ay I q^congrArg not L1
  |str j=>let#[d,rfl]:=c; exact PySem.EqMixed.ne_bool_str^Ay I q^by rfl
  |_=>exact absurd (show s_=r_ from e) iI
 |int i=>
  let#[t,rfl]:=f;cases y with
  |non=>subst c; exact PySem.EqNone.ne_int_none^Ay I q^by rfl
  |int j=>let#[d,rfl]:=c; exact ne_int^Ay I q^congrArg not IK
  |str j=>let#[d,rfl]:=c; exact PySem.EqMixed.ne_int_str^Ay I q^by rfl
  |_=>exact absurd (show s_=r_ from e) iI
 |str i=>
  let#[t,rfl]:=f;cases y with
  |non=>subst c; exact PySem.EqNone.ne_str_none^Ay I q^by rfl
  |bl j=>subst c; exact PySem.EqMixed.ne_str_bool^Ay I q^by rfl
  |int j=>let#[d,rfl]:=c; exact PySem.EqMixed.ne_str_int^Ay I q^by rfl
  |str j=>let#[d,rfl]:=c; exact ne_str^Ay I q^congrArg not IJ
  |_=>exact absurd (show s_=r_ from e) iI
 |byt i=>
  let#[t,rfl]:=f;cases y with
  |byt j=>let#[d,rfl]:=c; exact PySem.W.ne_bytes^Ay I q^congrArg not Qf
  |_=>exact absurd (show s_=r_ from e) iI
 |_=>cases y <;>exact absurd (show s_=r_ from e) iI
theorem op_lt:OpR X (compareOp .Lt) (HI λi j=>.bl (decide (i<j))):=Wv λ_ _ _ _ _ _ _ q=>pV q
theorem op_le:OpR X (compareOp .LtE) (HI λi j=>.bl (decide (i<=j))):=Wv λ_ _ _ _ _ _ _ q=>le_int q
theorem Yl:OpR X (compareOp .Gt) (HI λi j=>.bl (decide (j<i))):=Wv λ_ _ _ _ _ _ _ q=>gt_int q
theorem Ym:OpR X (compareOp .GtE) (HI λi j=>.bl (decide (j<=i))):=Wv λ_ _ _ _ _ _ _ q=>ge_int q
theorem RZ:OpR X (compareOp .Lt) (λx y H Q=>∃i j,x=.str i/\y=.str j/\Q (.bl (decide (i.cps.toList<j.cps.toList))) H):=by
 intro e s Z H x y v u Q I c d h;let#[i,j, rfl,rfl,q]:=h;let#[t,rfl]:=c;let#[f,rfl]:=d;exact lt_str (Ay I q rfl)
theorem Fk:OpR X (compareOp .Is) (λx y H Q=>y=.non/\Q (.bl (decide (x=.non))) H):=by
 intro e s Z H x y v u Q I c d h;let#[rfl,q]:=h;subst d;refine is_none_gen^Ay I q ?_
 cases x <;>first
  |omega
  |(let#[t,rfl]:=c; rfl)
theorem FF:OpR X (compareOp .IsNot) (λx y H Q=>y=.non/\Q (.bl (!decide (x=.non))) H):=by
 intro e s Z H x y v u Q I c d h;let#[rfl,q]:=h;subst d;refine isnot_none_gen^Ay I q ?_
 cases x <;>first
  |omega
  |(let#[t,rfl]:=c; rfl)
theorem OpR.or(h:OpR X f r)(g:OpR X f c):OpR X f (λx y H Q=>r x y H Q\/c x y H Q):=by
 intro i s Z H x y v u Q I d e q
 rcases q with q|q
 .exact h _ s Z H x y v u Q I d e q
 .exact g _ s Z H x y v u Q I d e q
theorem BI(b:iR)(h:c≠.In:=by decide)(f:c≠.NotIn:=by decide):behindInMarks c b=s_:=by
 have d:(c==CmpOp.In)=s_:=by simp_all
 have e:(c==CmpOp.NotIn)=s_:=by simp_all
 cases b <;>simp[behindInMarks,d,e]
theorem Wp(d:OpR X (compareOp c) r)(e:PE X a ta)(f:PE X b tb)(g:behindInMarks c b=s_):PE X (.Compare a [c] [b] pos)^DY r ta tb:=λm s Z H Q I h=>wpAny_Compare1 (av e f I h λv u i x y H2 j k l q=>d _ i Z H2 x y v u Q j k l q) g
def TV(t:TE):TT:=λZ H Q=>t Z H λx c=>∃k,x=.bl k/\Q k c
theorem C7(f:OpR X (compareOp d) r)(g:PE X a ta)(i:PE X b tb)(j:behindInMarks d b=s_):PT X (.Compare a [d] [b] pos)^TV^DY r ta tb:=by
 intro F s Z H Q I h
 refine wpAny_isTrue_Compare1 (thn (g _ s Z H _ I h) λv l #[x,m,n,o,p]=>thn (i _ l Z m _ n p) λu q #[y,H2,t,w,A]=>
  thn (f _ q Z H2 x y v u _ t o w A) λc G #[z,B,C,D,k,e,E]=>?_) j
 subst e;subst D;exact lv #[B,C,E]
theorem JE:(sizeLine:Nat)<2 ^ 63:=by cbv
theorem Oj:OpR X (binaryOp .Add) (λx y H Q=>∃i j,x=.str i/\y=.str j/\i.length+j.length<=sizeLine/\Q (.str (i++j)) H):=by
 intro g s Z H x y v u Q I c d h;let#[i,j, rfl,rfl,e,q]:=h;let#[t,rfl]:=c;let#[f,rfl]:=d;exact add_str (λf k=>#[.str _,H,I.tok _,#[_,rfl],q]) e
theorem vals1(r:qz [x] c):∃u,c=[u]/\RelV x u:=by
 cases r with
 |cons e d=>cases d; simp_all
theorem vals2(r:qz [x,y] c):∃u d,c=[u,d]/\RelV x u/\RelV y d:=by
 cases r with
 |cons e f=>
  cases f with
  |cons g h=>cases h; exact#[_,_,rfl,e,g]
theorem Jd:B5 X (.builtin "abs") (λc H Q=>∃i,c=[.int i]/\Q (.int (if i<0 then -i else i)) H):=by
 intro d s Z H c e Q I r h;let#[i, rfl,q]:=h;let#[u, rfl, t, rfl]:=vals1 r;exact call_abs_int λu f=>#[.int _,H,I.tok _,#[_,rfl],q]
theorem Kw(e:X.calm=r_):B5 X (.builtin "max") (λd H Q=>∃i j,d=[.int i,.int j]/\Q (.int (if j > i then j else i)) H):=by
 intro f s Z H d g Q I r h;let#[i,j, rfl,q]:=h;let#[u,l, rfl,#[t, rfl],#[m, rfl]]:=vals2 r;refine max_two_ints (I.ok.hd e) λn o k=>#[_,H,I.kept k,?_,q]
 by_cases c:j > i
 .rw[if_pos c,if_pos c]; exact#[_,rfl]
 .rw[if_neg c,if_neg c]; exact#[_,rfl]
theorem Kv(e:X.calm=r_):B5 X (.builtin "min") (λd H Q=>∃i j,d=[.int i,.int j]/\Q (.int (if j<i then j else i)) H):=by
 intro f s Z H d g Q I r h;let#[i,j, rfl,q]:=h;let#[u,l, rfl,#[t, rfl],#[m, rfl]]:=vals2 r;refine min_two_ints (I.ok.hd e) λn o k=>#[_,H,I.kept k,?_,q]
 by_cases c:j<i
 .rw[if_pos c,if_pos c]; exact#[_,rfl]
 .rw[if_neg c,if_neg c]; exact#[_,rfl]
theorem SX:B5 X (.type "int") (λc H Q=>(∃i,c=[.int i]/\Q (.int i) H)\/∃k,c=[.bl k]/\Q (.int (if k then 1 else 0)) H):=by
 intro e s Z H c f Q I r h
 rcases h with⟨i,rfl,q⟩|⟨k,rfl,q⟩
 .let#[u,rfl,t,rfl]:=vals1 r
  exact call_int_int #[.int i,H,I,#[_,rfl],q]
 .let#[u,rfl,d]:=vals1 r
  subst d;exact call_int_bool #[.int _,H,I.tok _,#[_,rfl],q]
theorem L7:B5 X (.type "str") (λc H Q=>∃i,c=[.int i]/\i.natAbs.log2<1920/\Q (.str^toString i) H):=by
 intro e s Z H c f Q I r h;let#[i, rfl,d,q]:=h;let#[u, rfl, t, rfl]:=vals1 r;exact PySem.P.str_of_int d #[.str _,H,I.tok _,#[_,rfl],q]
def bR(K:Frag)(x:V)(H:Hp)(n:Nat):Prop:=
 match x with
 |.str y=>y.length<=sizeLine/\n=y.length
 |.byt y=>y.size<=sizeLine/\n=y.size
 |.ref p=>(∃c,SqL K H p c/\n=c.length)\/∃c,SqT K H p c/\n=c.length
 |_=>False
theorem Gb:B5 X (.builtin "len") (λc H Q=>∃x n,c=[x]/\bR X.K x H n/\Q (.int n) H):=by
 intro v s Z H c w Q I r h;let#[x,n,rfl,e,q]:=h;let#[u, rfl,g]:=vals1 r;have z:=JE;have A:sizeLine=16777216:=jJ;cases x with
 |str y=>
  let#[t, rfl]:=g;obtain⟨m,f⟩:y.length<=sizeLine/\n=y.length:=e;subst f;exact len_str (by lk) #[.int _,H,I.tok _,#[_,rfl],q]
 |byt y=>
  let#[t, rfl]:=g;obtain⟨m,f⟩:y.size<=sizeLine/\n=y.size:=e;subst f;exact PySem.W.len_bytes (by lk) #[.int _,H,I.tok _,#[_,rfl],q]
 | ref p=>
  subst g;have f:(∃c,SqL X.K H p c/\n=c.length)\/∃c,SqT X.K H p c/\n=c.length:=e
  rcases f with⟨c,i,f⟩|⟨c,i,f⟩
  .subst f
   let#[j, k,l,o]:=I.list i;have d:=k.length;exact Calls.call_len_list l.isList (by simp only[iK]; omega) #[.int c.length,H,I.tok _,#[_,by simp only[iK]; rw[d]],q]
  .subst f
   let#[j, k,l,o]:=I.tuple i;have d:=k.length;exact len_tuple l (by simp only[iK]; omega) #[.int c.length,H,I.tok _,#[_,by simp only[iK]; rw[d]],q]
 |_=>exact(show False from e).elim
end
structure ObjM (h:iG) (x dx C:Db) (mA:Str->Option Ev):Prop where
 obj:h.get? x=P3 (PySem.W.instObj C dx)
 ns:h.Ns1 dx mA
 ne:dx≠x
theorem Rp{h:iG}(n:h.Ns1 d f):∃g,h.get? d=P3 g/\∀b,PySem.W.lookIn b g=P3^f b:=by
 let#[o,i,q, j,k,l,_,m]:=n;refine#[o,j,λb=>?_];have e:=m b;unfold nsFind findBy at e;unfold PySem.W.lookIn;rw[k]
 dsimp only
 split
 .simp_all
 .have a:i.toList.any (·.refKey)=s_:=by
   rw[List.any_eq_false];intro y p;let#[z,t, c]:=l y^p9.mp p;simp[DictEntry.refKey,c]
  grind
theorem ObjM.look(I:ObjM h x c C d):∃b,PySem.W.InstAt h x (PySem.W.instObj C c) C^P3 b/\∀a,PySem.W.lookIn a b=P3^d a:=
 let #[b,e,f]:=Rp I.ns
 #[b,#[I.obj,rfl,rfl,e],f]
def Ec(f:Str)(v:V):t_ (Str×V)->t_ (Str×V)
 |[]=>[(f,v)]
 |(g,x)::r=>if g=f then(g,v)::r else(g,x)::Ec f v r
theorem HL(f g:Str)(v:V):∀c:t_ (Str×V),(Ec f v c).lookup g=if g=f then P3 v else c.lookup g
 |[]=>by
  show mR g [(f,v)]=_
  by_cases h:g=f
  .simp_all
  simp_all
 | (k,x)::r=>by
  have d:=HL f g v r;rw[show Ec f v ((k,x)::r)=(if k=f then(k,v)::r else(k,x)::Ec f v r)from rfl]
  by_cases a:k=f
  .rw[if_pos a]
   by_cases h:g=k
   .simp_all
   .have b:(g==k)=s_:=beq_eq_false_iff_ne.mpr h
    simp only[mR,b,if_neg λe:g=f=>h^e.trans a.symm]
  .rw[if_neg a]
   by_cases h:g=k
   .simp_all
   .have b:(g==k)=s_:=beq_eq_false_iff_ne.mpr h
    simp only[mR,b];exact d
theorem G3(f:Str)(v:V):∀a:t_ (Str×V),f∈(Ec f v a).map (·.1)/\∀g,g∈a.map (·.1)->g∈(Ec f v a).map (·.1)
 |[]=>#[by simp[Ec],λg h=>by simp at h]
 |(k,x)::r=>by
  let#[ b,c]:=G3 f v r;rw[show Ec f v _=(if k=f then(k,v)::r else(k,x)::Ec f v r)from rfl]
  grind
theorem HM(f:Str)(v:V):∀a:t_ (Str×V),(Ec f v a).length<=a.length+1
 |[]=>by simp[Ec]
 |(k,x)::r=>by
  have b:=HM f v r;rw[show Ec f v _=(if k=f then(k,v)::r else(k,x)::Ec f v r)from rfl]
  grind
theorem vS.some_of(r:vS (P3 v) o):∃u,o=P3 u/\RelV v u:=by
 cases o with
 |none=>exact(r).elim
 |some u=>exact#[u,rfl,r]
section

theorem XB(c:HOk P w H h)(e:H a=P3^.ins C dx fs):∃b,ObjM h a dx C b/\(∀f,vS (fs.lookup f)^b f)/\PySem.Within b (fs.map (·.1))/\fs.length<=1000/\H dx=P3^.own a:=by
 let#[ d,z,g,i, b, n,r,q]:=(c a _ e);exact#[b,#[i,n,g],r,q,z,d]
end
structure Cls (K:Frag) (C:Db):Prop where
 pg:PySem.W.plainGet K C Str.empty=r_
 hd:PySem.W.hasDictIn K C=r_
 po:PySem.W.plainOver K C=r_
 sa:PySem.W.findIn K (.ref C) "__setattr__"=P3^P3^.builtin "object.__setattr__"
theorem Cls.get{K:Frag}(c:Cls K C)(f:Str):PySem.W.plainGet K C f=r_:=c.pg
def MJ(K:Frag)(C:Db)(f:Str):Prop:=PySem.W.findIn K (.ref C) f=P3 q_
structure h8 (K:Frag) (C:Db) (f:Str) (v:V) (u:Ev):Prop where
 at_:PySem.W.findIn K (.ref C) f=P3 (P3 u)
 rel:RelV v u
 get:PySem.W.specialIn K u "__get__"=P3 q_
 cp:PySem.W.copiedNames.contains f=s_
structure hX (K:Frag) (C:Db) (m:Str) (f:Db):Prop where
 at_:PySem.W.findIn K (.ref C) m=P3 (P3^.ref f)
 fn:PySem.W.isFn K^.ref f=r_
 kp:keepIn K^.ref f=r_
section

inductive Fz (K:Frag) (H:Hp):V->Ev->Prop where
 |non:Fz K H .non^.type "NoneType"
 |bl (x:Bool):Fz K H (.bl x)^.type "bool"
 |int (i:Int):Fz K H (.int i)^.type "int"
 |str (x:Str):Fz K H (.str x)^.type "str"
 |flt (x:UInt64):Fz K H (.flt x)^.type "float"
 |lst {a:Db}{xs:List V} (e:H a=P3^.lst xs):Fz K H (.ref a)^.type "list"
 |frz {a:Db}{o:Obj}{xs:List V} (e:H a=P3^.frz o^.lst xs):Fz K H (.ref a)^.type "list"
 |tup {a:Db}{xs:List V} (e:H a=P3^.tup xs):Fz K H (.ref a)^.type "tuple"
 |dF {a:Db}{o:Obj}{kvs:List (Key×V)} (e:H a=P3^.frz o^.dK kvs):Fz K H (.ref a)^.type "dict"
 |dK {a:Db}{kvs:List (Key×V)} (e:H a=P3^.dK kvs):Fz K H (.ref a)^.type "dict"
 |dT {a:Db}{kvs:List (List Key×V)} (e:H a=P3^.dT kvs):Fz K H (.ref a)^.type "dict"
 | ins {a C dx:Db}{fs:List (Str×V)} (e:H a=P3^.ins C dx fs) (cl:Cls K C) (ha:PySem.W.findIn K (.ref C) "__class__"=P3^P3^.builtin "object.__class__")
   (hn:PySem.W.specialIn K (.builtin "object.__class__") "__get__"=P3^P3^.builtin "getset_descriptor.__get__") (htk:PySem.W.takesIn K^.builtin "object.__class__"=P3 r_)
   (hm:PySem.W.mroIn K C^.type "object"=P3 r_):Fz K H (.ref a)^.ref C
theorem Rz(I:Inv X zH Z H s)(f:RelV x u)(ty:Fz X.K H x t)(e:PySem.W.kitOne X.K t c=P3 b)(h:∀F,Q (.bool b) {s with toks:=F}):
  wpAny (model X.prog X.w) A (call (.builtin "isinstance") [u,c]) Q E s:=by
 cases ty with
 |non=>cases(show u=ie from f); exact PySem.W.kia_one PySem.W.kitx_none I.kIn kT e (λz=>nomatch z) h
 |bl y=>cases(show u=lV y from f); exact PySem.W.kia_one PySem.W.kitx_bool I.kIn kT e (λz=>nomatch z) h
 |int i=>let#[t, q]:=(show ∃t,u=Value.int i t from f); subst q; exact PySem.W.kia_one PySem.W.kitx_int I.kIn kT e (λz=>nomatch z) h
 |str y=>let#[t, q]:=(show ∃t,u=lI y t from f); subst q; exact PySem.W.kia_one PySem.W.kitx_str I.kIn kT e (λz=>nomatch z) h
 |flt y=>let#[t, q]:=(show ∃t,u=Value.float y t from f); subst q; exact PySem.W.kia_one PySem.W.kitx_float I.kIn kT e (λz=>nomatch z) h
 |@lst a l d=>
  cases(show u=iF a from f);let#[ _, _,n, _,g]:=(show qU X.prog X.w H s.heap a^.lst l from I.hok a _ d);exact PySem.W.kia_one PySem.W.kitx_list I.kIn #[_,g,rfl] e (λz=>nomatch z) h
 |@frz a m l d=>
  cases(show u=iF a from f);let#[ _,_, _,n, _,g]:=(show qU X.prog X.w H s.heap a^.frz m^.lst l from I.hok a _ d);exact PySem.W.kia_one PySem.W.kitx_list I.kIn #[_,g,rfl] e (λz=>nomatch z) h
 |@tup a l d=>
  cases(show u=iF a from f);let#[ _, _, _,p]:=(show qU X.prog X.w H s.heap a^.tup l from I.hok a _ d);let#[o, g,k,_]:=p;exact PySem.W.kia_one PySem.W.kitx_tuple I.kIn #[o,g,k] e (λz=>nomatch z) h
 |@dF a m j d=>
  cases(show u=iF a from f);let#[ _,_,_, G, _,p]:=(show qU X.prog X.w H s.heap a^.frz m^.dK j from I.hok a _ d);let#[o,v,B, g,k,_]:=p;exact PySem.W.kia_one PySem.W.kitx_dict I.kIn #[o,g,k.1] e (λz=>nomatch z) h
 |@dK a j d=>
  cases(show u=iF a from f);let#[ _,_, G, _,p]:=(show qU X.prog X.w H s.heap a^.dK j from I.hok a _ d);let#[o,v,B, g,k,_]:=p;exact PySem.W.kia_one PySem.W.kitx_dict I.kIn #[o,g,k.1] e (λz=>nomatch z) h
 |@dT a j d=>
  cases(show u=iF a from f);let#[ _,_, l, _, o,v,B, g,k,_]:=(show qU X.prog X.w H s.heap a^.dT j from I.hok a _ d);exact PySem.W.kia_one PySem.W.kitx_dict I.kIn #[o,g,k.1] e (λz=>nomatch z) h
 |@ins a C P R d D L M r N=>
  cases(show u=iF a from f);let#[S, O,_]:=XB I.hok d;let#[T, J,_]:=O.look;exact PySem.W.kia_one (PySem.W.kitx_own (D.get _) D.hd L M r N) I.kIn J e (λz=>nomatch z) h
end
structure qk (k:Nat) (A:ik):Prop where
 hd:A.handled=q_
 dp:A.depth+3*k+5<recursionLimit
 un:A.units+16*k+200<cLine
 gd:A.guards=P3 []
theorem qk.mono(r:qk k A)(h:j<=k):qk j A:=#[r.hd,by have:=r.dp; lk,by have:=r.un; lk,by first|exact r.gd|grind|grind]
theorem qk.deeper(r:qk (k+1) A)(a:Env):qk k^A.deeper a:=
 #[r.hd,by have:=r.dp; show A.depth+1+3*k+5<_; lk,by have:=r.un; show A.units+3+16*k+200<_; lk,by first|exact r.gd|omega|grind]
theorem qk.in1(r:qk (k+1) A):qk k A.in1:=
 #[r.hd,by have:=r.dp; grind,by have:=r.un; grind,by first|exact r.gd|omega|grind]
theorem Oy{A:ik}:(A.under^.builtin "type.__call__" #[.ref C::a,b]).depth=A.depth+1:=by
 first|rfl|omega
theorem Ox{A:ik}:(A.under^.builtin "type.__call__" #[.ref C::a,b]).units=A.units+1:=by
 first|rfl|omega
theorem qk.make(r:qk (k+1) A)(C:Db)(a:t_ Ev)(b:t_ (Str×Ev)):qk k^A.under^.builtin "type.__call__" #[.ref C::a,b]:=
 #[r.hd,by have:=r.dp; rw[Oy]; lk,by have:=r.un; rw[Ox]; lk,by first|exact r.gd|omega|grind]
theorem qk.depth(r:qk k A):A.depth<recursionLimit:=by have:=r.dp; lk
theorem qk.units(r:qk k A):A.units+64<cLine:=by have:=r.un; lk
theorem qk.units0(r:qk k A):A.units<cLine:=by have:=r.un; lk
def RB:TA:=λ_ H Q=>Q [] H
def Md(a:TE)(b:TA):TA:=λZ H Q=>a Z H λx c=>b Z c λd H2=>Q (x::d) H2
section

theorem BH:PA X [] RB:=λ_ _ _ _ H Q I h=>oj #[[],H,I,.nil,h]
theorem Ap(a:PE X e te)(b:PA X es t)(c:starEach (e::es) X.env=(s_,eval e X.env)::starEach es X.env:=by rfl):PA X (e::es)^Md te t:=by
 intro d o s Z H Q I h;rw[c];refine oK^thn (a _ s Z H _ I h) λu f zz=>?_;let#[x,g, i,j,k]:=zz;refine thn (b _ _ f Z g _ i k) λp q zz=>?_;let#[r,H2, l,m,n]:=zz;exact #[_,H2,l,.cons j m,n]
def fI(t:TA):TE:=λZ H Q=>t Z H λa b=>a.length<=sizeLine/\∀p,b p=q_->Q (.ref p)^An b p^.tup a
def fN(t:TA):TE:=λZ H Q=>t Z H λa b=>a.length<=sizeLine/\∀p,b p=q_->Q (.ref p)^An b p^.lst a
theorem Zs{x1}(h:PA X es t):PE X (.Tuple es x1 pos)^fI t:=by
 intro f s Z H Q I g;refine wpAny_Tuple_spliced^thn (h pos f s Z H _ I g) λi a zz=>?_;let#[j,c, d,r,z,q]:=zz;refine #[by rw[←r.length]; exact z,?_];have k:c a.heap.objs.size=q_:=d.hok.fresh^Re _;refine#[.ref a.heap.objs.size,An c a.heap.objs.size^.tup j,d.laid (t':=a.toks) (λb u e=>Go _ e) (Re _) ?_,rfl,q _ k];exact#[z,i,r,zG.new _ _]
theorem Gv(h:PA X es t):PE X (.List es pos)^fN t:=by
 intro f s Z H Q I g;refine wpAny_List_spliced^thn (h pos f s Z H _ I g) λi a zz=>?_;let#[j,c, d,r,z,q]:=zz;refine #[by rw[←r.length]; exact z,?_];have k:c a.heap.objs.size=q_:=d.hok.fresh^Re _;refine#[.ref a.heap.objs.size,An c a.heap.objs.size^.lst j,d.laid (t':=a.toks) (λb u e=>Go _ e) (Re _) ?_,rfl,q _ k];exact#[z,i,0,r,Uf _ rfl]
end
abbrev Sp:=t_ V->Hp->VK->XK->Prop
abbrev Sn:=t_ Env->Hp->No->XK->Ev->No->Prop
structure vN (P:iP) (w:iZ) (K:Frag) (mg:Str->Option Ev) (base:iG) (A:ik) (outer:List Env) (s:No) (H:Hp):Prop where
 frames:A.frames=P3 outer
 mod:Mod K mg base
 bs:∀b o,base.get? b=P3 o->s.heap.get? b=P3 o/\H b=q_
 bsz:base.objs.size<=s.heap.objs.size
 vH:s.heap.FunFrames base outer
 frf:∀b∈Kl outer,H b=q_
 hok:HOk P w H s.heap
 bare:l8 s.gens
def CE(a:t_ Env)(P:iP)(w:iZ)(H:Hp)(s:No)(Q:VK)(u:Ev)(b:No):Prop:=
 ∃v c,b.os=s.os/\l8 b.gens/\Un (Kl a) [] H c s.heap b.heap/\HOk P w c b.heap/\RelV v u/\Q v c
def CR(c:Sn)(a:t_ Env)(P:iP)(w:iZ)(H:Hp)(s:No)(Q:VK)(E:XK)(r:Result)(b:No):Prop:=
 match r with
 |.ok (.ret u)=>CE a P w H s Q u b
 |.ok _=>False
 |.error e=>c a H s E e b
structure B_ (P:iP) (w:iZ) (K:Frag) (mg:Str->Option Ev) (base:iG) (CX:Sn) (k:Nat) (f:Db) (fd:jG) (ps:List Str) (sp:Sp):Prop where
 len:∀vs H Q E,sp vs H Q E->vs.length=ps.length
 run:∀(A:ik) (outer:List Env) (s:No) (H:Hp) (args:Args) (us:List Ev) (vs:List V) (Q:VK) (E:XK),qk k A->vN P w K mg base A outer s H->n8 s fd args^ps.zip us->qz vs us->sp vs H Q E->
  codeAny (model P w) A (.call (.ref f) args) (CR CX outer P w H s Q E) s
theorem vN.make{K:Frag}(e:vN P w K c b A a s H)(C:Db)(d:t_ Ev)(f:t_ (Str×Ev)):
  vN P w K c b (A.under^.builtin "type.__call__" #[.ref C::d,f]) a s H:=#[by first|exact e.frames|grind,e.mod,e.bs,e.bsz,e.vH,e.frf,e.hok,e.bare]
theorem vN.in1{K:Frag}(e:vN P w K c b A a s H):
  vN P w K c b A.in1 a s H:=#[e.frames,e.mod,e.bs,e.bsz,e.vH,e.frf,e.hok,e.bare]
section

theorem Inv.env0(I:Inv X zH Z H s):vN X.prog X.w X.K X.mg X.base X.A X.stack s H:=
 #[I.ok.frames,I.ok.mod,I.bs,iU I.ok.bsz I.sz,I.stack,I.kS,I.hok,I.bare]
theorem Inv.after(I:Inv X zH Z H s)(h:CE X.stack X.prog X.w H s Q u s'):EP X zH Z Q u s':=by
 let#[v,f, i,a,j,c,r,q]:=h;let#[k,g,d,t,e]:=s';obtain rfl:e=s.os:=i;exact#[v,f,I.call j c a λb z=>absurd z^by simp,r,q]
end
def Pq(sp:Sp)(a:t_ V)(E:XK)(t:TA):TE:=λZ H Q=>t Z H λb c=>sp (b++a) c Q E
def Binds(K:Frag)(fd:jG)(b:t_ Str)(c:t_ Ev):Prop:=
 ∀(s:No) (a:t_ Ev),K.In s.heap->(a++c).length=b.length->n8 s fd #[a,[]]^b.zip (a++c)
theorem Binds.all{K:Frag}(h:∀a:t_ Ev,a.length=b.length->bindArgs fd #[a,[]]=pure^b.zip a):Binds K fd b []:=λs a _ c=>by
 rw[im]at c ⊢;exact .of_eq^h a c
def F1(b:Sn)(X:Cx)(E:XK):Prop:=∀(c:t_ (Db×Obj)) (Z:St) (H:Hp) (s:No) (e:Ev) (a:No),Inv X c Z H s->b X.stack H s E e a->X.xe e a
section

theorem Tl(F:B_ X.prog X.w X.K X.mg X.base CX k f fd ps sp)(i:qk k X.A)(j:Binds X.K fd ps ds)(hd:qz dvs ds)(hx:F1 CX X E)
  (I:Inv X d Z H s) (r:qz c a) (h:sp (c++dvs) H Q E):wpAny (model X.prog X.w) X.A (call (.ref f) a) (EP X d Z Q) X.xe s:=by
 have g:qz (c++dvs) (a++ds):=r.append hd;have l:(a++ds).length=ps.length:=by rw[←g.length]; exact F.len _ _ _ _ h
 refine mH^l_ (F.run X.A X.stack s H #[a,[]] (a++ds) (c++dvs) Q E i I.env0 (j s a I.kIn l) g h) λr m b=>?_;cases r with
 |error e=>exact hx d Z H s e m I b
 |ok n=>
  cases n with
  |ret u=>exact I.after b
  |next=>exact jj b
  |brk=>exact jj b
  |cont=>exact jj b
theorem LQ(F:B_ X.prog X.w X.K X.mg X.base CX k f fd ps sp)(d:qk k X.A)(g:Gl X x)(i:X.mg x=P3^.ref f)(j:keepIn X.K^.ref f=r_)(l:Binds X.K fd ps ds)(hd:qz dvs ds)(hx:F1 CX X E)
  (m:PA X (e::es) t) (a:(x==("__debug__":Str))=s_:=by decide) (n:starEach (e::es) X.env=(s_,eval e X.env)::starEach es X.env:=by rfl) (b:(backTo pos^starEach es X.env).any (·.1)=s_:=by rfl):
  PE X (.Call (.Name x p) (e::es) [] pos) (Pq sp dvs E t):=λo s Z H Q I h=>jl^Dk I g i (PySem.W.callWith_K I.ok.mod.kin j (thn (m _ _ s Z H _ I h) λu v #[y,z,c,r,q]=>#[c.kIn,Tl F d l hd hx c r q]) n b) a
theorem UT(F:B_ X.prog X.w X.K X.mg X.base CX k f fd ps sp)(b:qk k X.A)(c:Gl X x)(d:X.mg x=P3^.ref f)(e:keepIn X.K^.ref f=r_)(g:Binds X.K fd ps ds)(hd:qz dvs ds)(hx:F1 CX X E)
  (a:(x==("__debug__":Str))=s_:=by decide):PE X (.Call (.Name x p) [] [] pos)^Pq sp dvs E RB:=λi s Z H Q I h=>jl^Dk I c d (PySem.W.callWith_K0 I.kIn e^Tl F b g hd hx I .nil h) a
structure Mk (K:Frag) (C f:Db):Prop where
 makes:PySem.W.makesIn K C=r_
 init:PySem.W.findIn K (.ref C) "__init__"=P3 (P3^.ref f)
 fn:PySem.W.isFn K^.ref f=r_
 kp:keepIn K^.ref C=r_
end
section

structure gD (K:Frag) (fd:jG) (ps ks:List Str) (g:List Ev->List Ev->List Ev) (gV:List V->List V->List V):Prop where
 to:∀(s:No) (us ws:List Ev),K.In s.heap->(g us ws).length=ps.length->n8 s fd #[us,ks.zip ws] (ps.zip^g us ws)
 rel:∀{vs:List V}{us:List Ev}{zs:List V}{ws:List Ev},qz vs us->qz zs ws->qz (gV vs zs)^g us ws
end
structure A7 (N P:List Str) (sc:kP):Prop where
 kind:sc.kind=.function
 co:sc.isCoroutine=s_
 gen:sc.isGenerator=s_
 nd:N.Nodup
 pre:N.take P.length=P
 par:∀x∈P,sc.names.lookup x=P3 .local\/sc.names.lookup x=P3 .cell
 nofree:∀y∈sc.names,y.2≠.free
theorem Kx:∀{binds:t_ (Str×Ev)}{m:Str->u_ Ev},(∀v,(x,v)∉binds)->bindL a binds m x=m x
 |[],_,_=>rfl
 |(n,v)::r,m,h=>by
  unfold bindL;rw[Kx λw b=>h w^TM _ b]
  split
  .grind
  .rfl
theorem Kz:∀{binds:t_ (Str×Ev)}{m:Str->u_ Ev},(∀v,(x,v)∉binds)->bindC a binds m x=m x
 |[],_,_=>rfl
 |(n,v)::r,m,h=>by
  unfold bindC;rw[Kz λw b=>h w^TM _ b]
  split
  .rfl
  grind
theorem Ky:∀{P:t_ Str}{b:t_ Ev}{i:Nat}{m:Str->u_ Ev},P.Nodup->P[i]?=P3 x->b[i]?=P3 v->a x=P3 .local->
  bindL a (P.zip b) m x=P3 v
 |[],_,_,_,_,h,_,_=>by simp at h
 |_::_,[],_,_,_,_,h,_=>by simp at h
 |p::P,w::b,0,m,c,d,e,f=>by
  simp at d e; subst d; subst e
  show bindL a ((p,w)::P.zip b) m p=_;unfold bindL;rw[Kx λv g=>(iV.mp c).1 (lX g).1,if_pos f];simp
 |p::P,w::b,i+1,m,c,d,e,f=>by
  unfold bindL;exact Ky (i:=i) (iV.mp c).2 (by simp_all) (by simp_all) f
theorem K0:∀{P:t_ Str}{b:t_ Ev}{i:Nat}{m:Str->u_ Ev},P.Nodup->P[i]?=P3 x->b[i]?=P3 v->a x≠P3 .local->
  bindC a (P.zip b) m x=P3 v
 |[],_,_,_,_,h,_,_=>by simp at h
 |_::_,[],_,_,_,_,h,_=>by simp at h
 |p::P,w::b,0,m,c,d,e,f=>by
  simp at d e; subst d; subst e
  show bindC a ((p,w)::P.zip b) m p=_;unfold bindC;rw[Kz λv g=>(iV.mp c).1 (lX g).1,if_neg f];simp
 |p::P,w::b,i+1,m,c,d,e,f=>by
  unfold bindC;exact K0 (i:=i) (iV.mp c).2 (by simp_all) (by simp_all) f
def start(N:t_ Str)(a:t_ V):St:=a.map P3++iN (N.length - a.length) q_
def Ef(i:Sn)(P:iP)(w:iZ)(K:Frag)(mg:Str->u_ Ev)(base:iG)(N:t_ Str)(c:Str)(a:kP)(f:Db)(h:Ev)(A:ik)(outer:t_ Env)(s:No)(H:Hp)(E:XK):Cx where
 prog:=P
 w:=w
 K:=K
 mg:=mg
 base:=base
 A:=A.deeper (envOfC c a s.heap.objs.size f h)
 N:=N
 s₀:=s
 H₀:=H
 env:=envOfC c a s.heap.objs.size f h
 outer:=outer
 stack:=envOfC c a s.heap.objs.size f h::outer
 ex:=[]
 calm:=r_
 fn:=λ_=>r_
 pn:=[]
 xe:=λe k=>wpAny (model P w) (A.deeper^envOfC c a s.heap.objs.size f h) (leaving (envOfC c a s.heap.objs.size f h) e) (λ_ g=>i outer H s E e g) (λl g=>i outer H s E l g) k
theorem Nw{a:kP}(h:a.names.lookup x=P3 .cell):∃c,(cellsFrom n a.names []).lookup x=P3 c:=by
 have q:=PySem.W.cellsFrom_some a.names n []^.inl h;exact Option.isSome_iff_exists.mp q
theorem R7{K:Frag}
  (S:A7 N t d) (hd:A.handled=q_) (o:vN P w K M m A g s H) (Z:B.length=t.length) (r:qz B O)
  (x:InCallC s s.heap.objs.size (bindL (envOfC j d s.heap.objs.size f I).kindOf (t.zip O) λ_=>q_) (cellsFrom (s.heap.objs.size+1) d.names []) (bindC (envOfC j d s.heap.objs.size f I).kindOf (t.zip O) λ_=>q_) R):
  Inv (Ef Q P w K M m N j d f I A g s H E) [] (start N B) H R:=by
 have W:t.length<=N.length:=by have:=congrArg li S.pre; rw[jo]at this; lk
 let#[J,tk, rfl,T]:=x.done;have C:∀b:Db,b∉(Ef Q P w K M m N j d f I A g s H E).ex:=λb z=>absurd (show b∈([]:t_ Db)from z)^by simp
 exists#[o.mod,S.kind,rfl,rfl,Re _,λy z c J l=>?_,λy D=>?_,λy c _ h=>?_,λ_=>hd,Around.frames_deeper o.frames,.inr #[rfl,rfl],λb z=>absurd z^C b,o.bs,o.bsz,λb _ _=>C b,λb z=>absurd z^C b,o.vH,o.frf],
  rfl,o.bare,Un.kept T,#[_,x.toInCall.ns,λi y v J l h3=>?_],λy c h=>#[_,x.cell y c h],o.hok.fresh^Re _,λy c h=>?_,λp F=>absurd (show p∈([]:t_ (Db×Obj))from F)^by simp,o.hok.kept T
 .exact name_of_addr x.apart (PySem.mem_of_lookup J)^PySem.mem_of_lookup l
 .have D:d.names.lookup y=P3 .cell\/d.names.lookup y=P3 .free:=D
  rcases D with D|D
  .exact Nw D
  .exact absurd rfl (S.nofree _^PySem.mem_of_lookup D)
 .exact l9^x.above y c^PySem.mem_of_lookup h
 .have L:i<B.length:=by
   unfold start at l
   by_cases L:i<B.length
   .exact L
   .rw[ji^by simpa using L]at l
    rw[mz]at l
    split at l <;>cases l
  have X:B[i]?=P3 v:=by
   unfold start at l;rw[lA (by simpa using L),T0]at l;cases e:B[i]? with
   |none=>rw[e]at l; cases l
   |some a=>rw[e]at l; cases l; rfl
  let#[u, U,Y]:=r.get X
  have F:t[i]?=P3 y:=by
   rw[←S.pre,List.getElem?_take_of_lt^by lk]; exact J
  have G:t.Nodup:=by rw[←S.pre]; exact S.nd.sublist^om _ _
  exists u,Y
  rcases S.par y^iu F with k|k
  .exact .inl #[k,Ky G F U k]
  .let#[c,e]:=Nw (n:=s.heap.objs.size+1) k
   refine .inr #[.inl k,c,e,?_];have q:=x.cell y c e;rw[K0 G F U^by show d.names.lookup y≠_; rw[k]; decide]at q;exact q
 .exact o.hok.fresh^l9^x.above y c^PySem.mem_of_lookup h
 .unfold start
  show _=N.length;simp only[ZB,FM,pf];lk
theorem Yq{K:Frag}{dV kV C pm g ct oc:Ev}
   (lk:K.lookup f=P3 #[oc,od,.func^fnOf name d i j a dV kV C pm an g ct,T]) (U:codeIn K g d=r_) (S:A7 N O a)
  (len:∀l H Q E,sp l H Q E->l.length=O.length)
  (p:∀(A:ik) (c:t_ Env) (s:No) (H:Hp) (l:t_ V) (Q:VK) (E:XK),qk k^A.deeper^envOfC d a s.heap.objs.size f g->sp l H Q E->
   ∃t,PSs (Ef L P w K M h N d a f g A c s H E) j t/\t {nx:=λ_ m=>Q .non m,rt:=Q} (start N l) H):
  B_ P w K M h L (k+1) f (fnOf name d i j a dV kV C pm an g ct) O sp:=by
 refine#[len,λA c s H a0 us l Q E X D hb r F=>?_];have hl:=len _ _ _ _ F;have KX:K.In s.heap:=D.mod.kin.keeps λb o e=>(D.bs b o e).1;have Y:s.heap.NoLimit:=D.mod.nolimit.keeps λb o e=>(D.bs b o e).1
 have z:∀y∈O.zip us,a.names.lookup y.1=P3 .local\/(a.names.lookup y.1=P3 .cell/\((cellsFrom (s.heap.objs.size+1) a.names []).lookup y.1).isSome=r_):=fun#[n,v] hy=>by
  rcases S.par n (lX hy).1 with q|q
  .exact .inl q
  .exact .inr #[q,PySem.W.cellsFrom_some _ _ _^.inl q]
 refine codeAny_call_function X.depth (KX _ _ lk) rfl S.co S.gen rfl (PySem.W.codeRec_of KX U) (hb _ _ _ _ ?_);refine wpAny_newFunctionEnv_cells S.kind z λa1 he s1 x=>?_;subst he;refine#[Y.keeps x.toInCall.keep,codeAny_func ?_];let#[t, ht,hq]:=p A c s H l Q E (X.deeper _) F;have I:Inv (Ef L P w K M h N d a f g A c s H E) [] (start N l) H s1:=R7 S X.hd D hl r x;refine i8 (ht [] s1 (start N l) H _ I hq) (λfl Z B=>?_) λe Z B=>B
 have G:∀{R:St}{m:Hp}{v:V}{u:Ev},Inv (Ef L P w K M h N d a f g A c s H E) [] R m Z->RelV v u->Q v m->CE c P w H s Q u Z:=
  λ{R m v u} J rv q=>#[v,m,J.os,J.bare,J.base,J.hok,rv,q]
 cases fl with
 |ret u=>
  let#[v,R,m, J,rv,q]:=B;exact G J rv q
 |next=>
  let#[R,m, J,q]:=B;exact G (v:=V.non) (u:=ie) J rfl q
 |brk=>
  let#[_,_, _,q]:=B;exact jj q
 |cont=>
  let#[_,_, _,q]:=B;exact jj q
section
variable {id T:String}
def eO(r:t_ V->Hp->VK->Prop)(t:TA):TE:=λZ H Q=>t Z H λa b=>r a b Q
theorem Es(c:B5 X (.builtin id) r)(d:Gl X x)(f:X.mg x=q_)(g:bootBuiltins x=P3^.builtin id)(i:PA X (e::es) t)(j:x ≠ "__name__":=by decide)(a:(x==("__debug__":Str))=s_:=by decide)
  (k:starEach (e::es) X.env=(s_,eval e X.env)::starEach es X.env:=by rfl) (b:(backTo pos^starEach es X.env).any (·.1)=s_:=by rfl):PE X (.Call (.Name x p) (e::es) [] pos)^eO r t:=λw s Z H Q I h=>jl^Dz I d f g (PyProof.Rows.callWith_builtin1 (thn (i _ _ s Z H _ I h) λl m #[n,o,q,u,v]=>c _ m Z o n l Q q u v) k b) j a
theorem KS(c:B5 X (.type T) r)(d:Gl X x)(f:X.mg x=q_)(g:bootBuiltins x=P3^.type T)(i:PA X (e::es) t)(j:x ≠ "__name__":=by decide)(a:(x==("__debug__":Str))=s_:=by decide)
  (k:starEach (e::es) X.env=(s_,eval e X.env)::starEach es X.env:=by rfl) (b:(backTo pos^starEach es X.env).any (·.1)=s_:=by rfl):PE X (.Call (.Name x p) (e::es) [] pos)^eO r t:=λw s Z H Q I h=>jl^Dz I d f g (jf (thn (i _ _ s Z H _ I h) λl m #[n,o,q,u,v]=>c _ m Z o n l Q q u v) k b) j a
end
end L2
namespace HT
section

theorem cat_tup(u:IsTup s.heap t d.toArray)(v:IsTup s.heap b c.toArray)(z:d≠[])
  (x:c=[]->Q (.ref t) s) (B:c≠[]->Q (.ref s.heap.objs.size) {s with heap:=s.heap.push {cls:=.type "tuple",data:=.seq (d++c).toArray}})
  (y:d.length+c.length<=sizeLine):wpAny (model prog w) A (binaryOp .Add (.ref t)^.ref b) Q E s:=by
 let#[#[cls,k,data,l], i,m, n, o]:=id u;let#[#[p,e,j,f], a,g, q, h]:=id v;simp only at m o g h;subst m o g h
 by_cases r:c=[]
 .exact concat_meets #[_,i,rfl] #[_,a,rfl] o8 seq_tuple_add PySem.F.slot_tuple_add PySem.F.entry_tuple_add (PySem.F.args_tuple_add_2 _ _)
   (tuple_addW1 t b d.toArray c.toArray n q k e l f (by simp_all)^by simp[r]) #[i,a,x r]
 .refine concat_meets #[_,i,rfl] #[_,a,rfl] o8 seq_tuple_add PySem.F.slot_tuple_add PySem.F.entry_tuple_add (PySem.F.args_tuple_add_2 _ _)
   (tuple_addW2 t b d.toArray c.toArray n q k e l f (by simp_all) (by grind)^by lk) #[i,a,?_]
  simp_all
def sIx(n d:Nat):u_ Int->Nat
 |none=>d
 |some v=>if v<0 then(v+(n:Int)).toNat else min v.toNat n
theorem zy(n d:Nat):sIx n d q_=d:=rfl
theorem zF(n d k:Nat):sIx n d^P3 (k:Int)=min k n:=by
 show(if k<0 then((k:Int)+n).toNat else min _ n)=min k n;rw[if_neg^by lk,jg]
theorem Zf(n d:Nat)(hd:d<=n)(o:u_ Int):sIx n d o<=n:=by
 cases o with
 |none=>exact hd
 |some v=>
  show(if v<0 then(v+n).toNat else min _ n)<=n
  lia
theorem Ql(v:Int)(n d:Nat):(if v<0 then max (v+(n:Int)) 0 else min v (n:Int))=((sIx n d^P3 v:Nat):Int):=by
 show(if v<0 then max _ 0 else min v _)=(if v<0 then(v+n).toNat else min _ n)
 grind
theorem PZ(a b:u_ Int)(n:Nat):lB a b 1 (n:Int)=(((sIx n 0 a:Nat):Int),((sIx n n b:Nat):Int)):=by
 refine Prod.ext ?_ ?_
 .cases a with
  |none=>rfl
  |some v=>exact Ql v n 0
 .cases b with
  |none=>rfl
  |some v=>exact Ql v n n
theorem Od(i j:Nat):jw (i:Int) (j:Int) 1=j - i:=by
 unfold jw
 lia
theorem vU(p:nU v o)(h:Q o s):wpAny (model prog w) A (Builtin.Slice.slicePartIndex v) Q E s:=by
 cases p with
 |none=>exact slicePart_none h
 |int i t=>exact slicePart_int h
theorem zw{a d:u_ Int}{Q:Int×Int×Nat->No->Prop}(i:s.heap.IsSliceOf g e f .none)(j:nU e a)(k:nU f d)
  (h:Q (((sIx n 0 a:Nat):Int),1,sIx n n d - sIx n 0 a) s):wpAny (model prog w) A (oX (.ref g)^pure (n:Int)) Q E s:=by
 let#[m, b,l,c]:=id i;refine Ch^Ch (io b c (x:=e) rfl (Ch (io b c (x:=f) rfl (Ch (io b c (x:=.none) rfl (Op ?_))))));refine Ch^slicePart_none ?_;refine Ch^vU j^Ch^vU k^Ch^Op ?_;show wpAny _ _ (match lB a d 1 (n:Int)with|(a,d)=>pure (a,(1:Int),jw a d 1)) _ _ s;rw[PZ a d n];show wpAny _ _ (pure _) _ _ s;rw[Od];exact Op h
theorem UM(a:Array Ev)(i k:Nat):((iM k).filterMap fun(m:Nat)=>a[((i:Int)+(m:Int)*1).toNat]?).toArray=((a.toList.drop i).take k).toArray:=by
 have e:(fun(m:Nat)=>a[((i:Int)+(m:Int)*1).toNat]?)=λm=>a[i+m]?:=by
  grind
 rw[e]
 have:=pick_run a i k
 simp only[oM]at this;have b:((λx=>a[x]?)∘λx=>i+x)=λm=>a[i+m]?:=rfl
 simp_all
theorem getItem_tuple_cut{c d:u_ Int}(f:IsTup s.heap t a)(p:s.heap.IsSliceOf g n o .none)(q:nU n c)(r:nU o d)
  (y:¬(sIx a.size 0 c=0/\sIx a.size a.size d=a.size))
  (h:Q (.ref s.heap.objs.size) {s with heap:=s.heap.push {cls:=.type "tuple",data:=.seq ((a.toList.drop^sIx a.size 0 c).take (sIx a.size a.size d - sIx a.size 0 c)).toArray}})
  (u:a.size<=sizeLine):wpAny (model prog w) A (getItem (.ref t)^.ref g) Q E s:=by
 have e:sizeOk^.seq ((a.toList.drop^sIx a.size 0 c).take (sIx a.size a.size d - sIx a.size 0 c)).toArray:=by
  show((a.toList.drop^sIx a.size 0 c).take (sIx a.size a.size d - sIx a.size 0 c)).toArray.size<=sizeLine;simp only[iK,jo,lK,jb];omega
 have z:sIx a.size a.size d<=a.size:=Zf _ _ (Re _) d;let#[v, i,j,x]:=id p;have k:s.TypeIs (.ref g) "slice":=#[v,i,j];unfold getItem
 try with_reducible refine i6 ?_
 first|refine Ch^Op ?_|skip
 refine Ch^on f.typeIs (by cbv) ?_
 refine Ch (jC (name:=jX "__getitem__") f.typeIs ip
  (jY ip f.typeIs nz ?_^oN _ _))
 show wpAny _ _ (mP^.ref t >>=_) _ _ s;refine Ch^tupleItemsOf_ f ?_;refine Ch^ko k ?_;rw[if_pos^by cbv];refine Ch^zw p q r ?_
 have l:¬((((sIx a.size 0 c:Nat):Int)==0&&(1:Int)==1&&(sIx a.size a.size d - sIx a.size 0 c)==a.size)=r_):=by
  simp_all
 show wpAny _ _ (if(((sIx a.size 0 c:Nat):Int)==0&&(1:Int)==1&&(sIx a.size a.size d - sIx a.size 0 c)==a.size)=r_ then _ else _) _ _ s;rw[if_neg l,UM]
 first
  |exact Ch (m:=o9 _)^jp (Op #[_,rfl,Op h]) e
  |grind
  |grind
  |grind
end
end HT
namespace L2
abbrev TO:=St->Hp->(u_ Int->Hp->Prop)->Prop
def PO(X:Cx)(e:u_ iR)(t:TO):Prop:=
 ∀(a:t_ (Db×Obj)) (s:No) (Z:St) (H:Hp) (Q:u_ Int->Hp->Prop),Inv X a Z H s->t Z H Q->
  wpAny (model X.prog X.w) X.A (evalPart e X.env) (λu c=>∃o b,Inv X a Z b c/\nU u o/\Q o b) X.xe s
def WR:TO:=λ_ H Q=>Q q_ H
def b8(t:TE):TO:=λZ H Q=>t Z H λx a=>∃i,x=.int i/\Q (P3 i) a
section
variable {lo hi:u_ Expr}
theorem QA:PO X q_ WR:=λa s Z H Q I h=>Op #[_,H,I,.none,h]
theorem P_(h:PE X e te):PO X (P3 e)^b8 te:=by
 intro g s Z H Q I a;refine thn (h _ s Z H _ I a) λu j zz=>?_;let#[x,b, c,d,f]:=zz;let#[i, rfl,q]:=f;let#[t,rfl]:=d;exact#[_,b,c,.int i t,q]
def SlR(X:Cx)(r:V->u_ Int->u_ Int->Hp->VK->Prop):Prop:=
 ∀(a:t_ (Db×Obj)) (s:No) (Z:St) (H:Hp) (x:V) (v b c:Ev) (lo hi:u_ Int) (d:Db) (Q:VK),Inv X a Z H s->RelV x v->s.heap.IsSliceOf d b c .none->nU b lo->nU c hi->r x lo hi H Q->
  ∃T e,typeLookup (.type T) "__getitem__"=pure^P3^.builtin e/\s.TypeIs v T/\wpAny (model X.prog X.w) X.A (getItem v^.ref d) (EP X a Z Q) X.xe s
theorem SlR.or(h:SlR X r)(j:SlR X a):SlR X (λx lo hi H Q=>r x lo hi H Q\/a x lo hi H Q):=by
 intro k s Z H x v b c lo hi d Q I e f g i q
 rcases q with q|q
 .exact h _ s Z H x v b c lo hi d Q I e f g i q
 .exact j _ s Z H x v b c lo hi d Q I e f g i q
def gl(r:V->u_ Int->u_ Int->Hp->VK->Prop)(te:TE)(tl th:TO):TE:=λZ H Q=>te Z H λx a=>tl Z a λl H2=>th Z H2 λu b=>r x l u b Q
theorem Mt(i:SlR X r)(j:PE X e te)(k:PO X lo tl)(m:PO X hi th):PE X (.Subscript e (.Slice lo hi q_ p2) pos)^gl r te tl th:=by
 intro c s Z H Q I h;refine Subscript_^thn (j c s Z H _ I h) λv n zz=>?_;let#[x,o, p,t,y]:=zz;refine wpAny_Slice^thn (k c n Z o _ p y) λd z zz=>?_;let#[l,H2, B,C,D]:=zz;refine thn (m c z Z H2 _ B D) λf a zz=>?_;let#[u,g, E,F,G]:=zz;simp only[evalPart_none];refine Op ?_;have J:Inv X c Z g {a with heap:=a.heap.push {cls:=.type "slice",data:=.fields #[ d,f,.none]}}:=E.kept (t':=a.toks) λb N q=>Go _ q;let#[T,O, K,L,M]:=i c {a with heap:=a.heap.push {cls:=.type "slice",data:=.fields #[ d,f,.none]}} Z g x v d f l u a.heap.objs.size Q J t (qI ..) C F G;show wpAny (model X.prog X.w) X.A (subscriptTail e (.Slice lo hi q_ p2) v^.ref a.heap.objs.size) (EP X c Z Q) X.xe {a with heap:=a.heap.push {cls:=.type "slice",data:=.fields #[ d,f,.none]}};exact tail_any (ops:=[.ref a.heap.objs.size,v]) L K M^by with_unfolding_all rfl
def Nm(a:t_ V)(lo hi:u_ Int):t_ V:=(a.drop^HT.sIx a.length 0 lo).take (HT.sIx a.length a.length hi - HT.sIx a.length 0 lo)
theorem Hc(a:t_ V)(lo hi:u_ Int):(Nm a lo hi).length<=a.length:=by
 unfold Nm
 grind
def cK(K:Frag):V->u_ Int->u_ Int->Hp->VK->Prop:=λx lo hi H Q=>∃a b,x=.ref a/\SqT K H a b /\
 ¬(HT.sIx b.length 0 lo=0/\HT.sIx b.length b.length hi=b.length)/\∀p,H p=q_->Q (.ref p)^An H p^.tup^Nm b lo hi
theorem sl_tup:SlR X^cK X.K:=by
 intro n s Z H x v o p lo hi t Q I g i j k h;let#[a,e, rfl,l,u,q]:=h;subst g;let#[d, r,f,m]:=I.tuple l;have c:d.toArray.size=e.length:=by exact r.length.symm
 exists _,_,ip.lookup,f.typeIs;refine HT.getItem_tuple_cut f i j k (by simp_all) ?_ (by simp_all);rw[c];refine#[.ref _,_,I.laid (λb w q=>Go _ q) (Re _) ?_,rfl,q _^I.hok.fresh^Re _];exact#[iU (Hc e lo hi) m,_,(r.drop _).take _,zG.new _ _]
def UA(K:Frag):R2:=λx y H Q=>∃a b d c,x=.ref a/\y=.ref b/\SqT K H a d/\SqT K H b c/\d≠[]/\d.length+c.length<=sizeLine /\
 (c=[]->Q (.ref a) H)/\(c≠[]->∀p,H p=q_->Q (.ref p)^An H p^.tup (d++c))
theorem qz.XP(r:qz a b):b=[]↔a=[]:=by
 cases r with
 |nil=>simp
 |cons _ _=>simp
theorem op_catT:OpR X (binaryOp .Add)^UA X.K:=by
 intro r s Z H x y v u Q I f g h;let#[a,b,t,A, rfl,rfl,i,j,k,l,m,n]:=h;subst f;subst g;let#[o, d,p,_]:=I.tuple i;let#[e, c,p2,_]:=I.tuple j;refine HT.cat_tup p p2 (λz=>k^d.XP.mp z) (λz=>#[.ref a,H,I,rfl,m^c.XP.mp z]) (λz=>?_) (by simp only[←d.length,←c.length]; exact l);refine#[.ref _,_,I.laid (λb B q=>Go _ q) (Re _) ?_,rfl,n (λw=>z^c.XP.mpr w) _^I.hok.fresh^Re _];exact#[by simp_all,_,d.append c,zG.new _ _]
end
def Sj(n:Nat)(i:Int):u_ Nat:=if 0<=i then(if i<n then P3 i.toNat else q_)else if -(n:Int)<=i then P3 (i+n).toNat else q_
def atI{a:Type}(b:t_ a)(i:Int):u_ a:=(Sj b.length i).bind λj=>b[j]?
theorem QM(h:Sj n i=P3 j):seqIndex? i n=P3 j/\j<n/\-(n:Int)<=i/\i<n:=by
 unfold Sj at h
 by_cases b:0<=i
 .rw[if_pos b]at h
  by_cases a:i<n
  .rw[if_pos a]at h
   have e:i.toNat=j:=iA h;exact#[by rw[seqIndex_of b a,e],by lk,by lk,a]
  simp_all
 .rw[if_neg b]at h
  by_cases a:-(n:Int)<=i
  .rw[if_pos a]at h
   have e:(i+n).toNat=j:=iA h;exact#[by rw[seqIndex_neg (by lk) a,e],by lk,a,by lk]
  simp_all
theorem MA(h:atI a i=P3 v):∃j,seqIndex? i a.length=P3 j/\a[j]?=P3 v/\j<a.length/\-(a.length:Int)<=i/\i<a.length:=by
 unfold atI at h;cases e:Sj a.length i with
 |none=>simp_all
 |some j=>
  let#[ c,d,f,g]:=QM e
  simp_all
theorem AD{j:Nat}(h:xs[j]?=P3 v):atI xs (j:Int)=P3 v:=by
 have b:=(f8.mp h).1
 have e:Sj xs.length j=P3 j:=by
  unfold Sj
  simp_all
 unfold atI; simp_all
theorem N3(a:t_ b)(v:b):atI (a++[v]) (-1)=P3 v:=by
 have e:Sj (a++[v]).length (-1)=P3 a.length:=by
  unfold Sj
  grind
 unfold atI
 simp_all
def MI(b:iR):Prop:=∀o i,subscripted b s_ o i=operate [o,i]^getItem o i
def IxR(X:Cx)(r:R2):Prop:=
 ∀(b a:iR) (c:t_ (Db×Obj)) (s:No) (Z:St) (H:Hp) (x y:V) (v u:Ev) (Q:VK),Inv X c Z H s->RelV x v->RelV y u->r x y H Q->
  subscripted a s_ v u=operate [v,u]^getItem v u->wpAny (model X.prog X.w) X.A (subscriptTail b a v u) (EP X c Z Q) X.xe s
def eh(X:Cx)(d:String)(r:V->t_ V->Hp->VK->Prop):Prop:=
 ∀(a:t_ (Db×Obj)) (s:No) (Z:St) (H:Hp) (x:V) (b:t_ V) (v:Ev) (c:t_ Ev) (Q:VK),Inv X a Z H s->RelV x v->qz b c->r x b H Q->
  wpAny (model X.prog X.w) X.A (call (.builtin d) (v::c)) (EP X a Z Q) X.xe s
section

theorem IxR.or(h:IxR X r)(j:IxR X e):IxR X (λx y H Q=>r x y H Q\/e x y H Q):=by
 intro c d k s Z H x y v u Q I f g q i
 rcases q with q|q
 .exact h _ _ _ s Z H x y v u Q I f g q i
 .exact j _ _ _ s Z H x y v u Q I f g q i
theorem BZ(c:IxR X r)(d:PE X a ta)(e:PE X b tb)(f:MI b):PE X (.Subscript a b pos)^DY r ta tb:=λl s Z H Q I h=>Subscript_^av d e I h λv u g x y H2 i j k q=>c a b _ g Z H2 x y v u Q i j k q^f _ _
def RL(K:Frag):R2:=λx y H Q=>∃p c i v,x=.ref p/\y=.int i/\SqL K H p c/\atI c i=P3 v/\Q v H
def cR(K:Frag):R2:=λx y H Q=>∃p c i v,x=.ref p/\y=.int i/\SqT K H p c/\atI c i=P3 v/\Q v H
def cS:R2:=λx y H Q=>∃z i c,x=.str z/\y=.int i/\z.length<=sizeLine/\atI z.cps.toList i=P3 c/\Q (.str #[#[ c]]) H
theorem qj:IxR X^RL X.K:=by
 intro d e l s Z H x y v u Q I B C h m;let#[p,N,i,z, rfl,rfl,D,E,q]:=h;subst B;let#[t,rfl]:=C;let#[f, r,g,O]:=I.list D;let#[j, n,F,P,G,J]:=MA E;let#[w, L,k]:=r.get F;have R:=r.length;have S:=JE;have c:EP X l Z Q w s:=#[z,H,I,k,q]
 by_cases o:0<=i
 .have A:i.toNat=j:=by
   rw[seqIndex_of o J]at n
   simp_all
  exact item_listR g.isList o (by lk) (by rw[A]; simpa using L) c m
 .have A:(i+(f.toArray.size:Int)).toNat=j:=by
   rw[seqIndex_neg (by lk) G]at n
   simp_all
  exact subscriptTail_builtinR (x:=w) g.isList.typeIs oo.lookup
   (wpAny_getItem_list_neg (Q:=λr M=>r=w/\EP X l Z Q r M) g.isList (by lk) (by simp_all) (by lk) (by simp_all) #[rfl,c]) m
theorem ix_tup:IxR X^cR X.K:=by
 intro c d B s Z H x y v u Q I g k h l;let#[p,C,i,z, rfl,rfl,m,n,q]:=h;subst g;let#[t,rfl]:=k;let#[o, r,f,D]:=I.tuple m;let#[j, E,A,F,G,J]:=MA n;let#[w, L,e]:=r.get A;have M:=r.length;have N:=JE
 exact subscriptTail_builtinR f.typeIs ip.lookup
  (getItem_tuple (j:=j) f (by lk) (by lk) (by simp_all) (by grind) #[rfl,#[z,H,I,e,q]]) l
theorem aA:IxR X cS:=by
 intro d e m s Z H x y v u Q I f g h k;let#[z,i,c, rfl,rfl,n,l,q]:=h;let#[t,rfl]:=f;let#[o,rfl]:=g;let#[j, p,r,w,A,B]:=MA l;have C:z.cps.toList.length=z.length:=by simp[Str.length]
 have D:=JE
 exact tail_any (mr s z t) slot_str_getitem.lookup (getItem_str (by
  lia) (by simp_all) #[.str _,H,I.tok _,#[_,rfl],q]) k
def gJ(K:Frag):R2:=λx y H Q=>RL K x y H Q\/cR K x y H Q\/cS x y H Q
theorem aB:IxR X^gJ X.K:=qj.or^ix_tup.or aA
theorem Ow(c:t_ Ev)(n j:Nat)(u:Ev):jd (·.setIfInBounds j u) {cls:=.type "list",data:=.seq c.toArray n}={cls:=.type "list",data:=.seq (c.set j u).toArray n}:=by
 simp[jd]
theorem Inv.lst{f:t_ (Db×Obj)}{Z:St}{H:Hp}{s:No}{p:Db}{d:t_ V}(I:Inv X f Z H s)(h:H p=P3^.lst d):
  ∃(c:t_ Ev) (n:Nat),qz d c/\s.heap.get? p=P3 {cls:=.type "list",data:=.seq c.toArray n}/\d.length<=sizeLine:=by
 let#[ z, c,n, r,e]:=I.hok p _ h;exact#[_,n,r,e,z]
theorem Inv.lstUpd{d c:t_ Ev}(I:Inv X j Z H s)(h:H p=P3^.lst l)
  (m:s.heap.get? p=P3 {cls:=.type "list",data:=.seq d.toArray n}) (k:f {cls:=.type "list",data:=.seq d.toArray n}={cls:=.type "list",data:=.seq c.toArray i}) (r:qz g c) (o:g.length<=sizeLine) (t:Nat):
  Inv X j Z (An H p^.lst g) {s with heap:=s.heap.update p f,toks:=t}:=by
 have e:(s.heap.update p f).get? p=P3 {cls:=.type "list",data:=.seq c.toArray i}:=by
  rw[jy f m (by rw[k] <;>rfl),k]
 exact I.write (by rw[h]; trivial) (.inl rfl) (λb u v q=>(ii _ _^iz v).trans q) #[_,e] #[o,_,i,r,e]
def T7:V->V->V->Hp->(Hp->Prop)->Prop:=λo i v H Q=>∃p c k j,o=.ref p/\i=.int k/\H p=P3^.lst c/\Sj c.length k=P3 j/\Q^An H p^.lst^c.set j v
theorem set_list:d6 X T7:=by
 intro w s Z H o i v E F u Q I x y z h;let#[p,A,k,j, rfl,rfl,f,B,q]:=h;subst x;let#[t,rfl]:=y;let#[c,n, r,d,G]:=I.lst f;let#[ g,J,C,D]:=QM B;have K:=r.length;have L:=JE
 have l:Inv X w Z (An H p^.lst^A.set j v) {s with heap:=s.heap.update p (jd (·.setIfInBounds j u))}:=
  I.lstUpd f d (Ow c n j u) (r.set z j) (by simp_all) s.toks
 by_cases m:0<=k
 .have e:k.toNat=j:=by
   rw[seqIndex_of m D]at g
   simp_all
  exact PySem.W.ki_setAt d m (by lk) (by simp_all)^by rw[e]; exact#[_,l,q]
 .have e:(k+(c.toArray.size:Int)).toNat=j:=by
   rw[seqIndex_neg (by lk) C]at g
   simp_all
  exact PySem.W.ki_setBack d (by lk) (by simp_all) (by lk)^by rw[e]; exact#[_,l,q]
theorem LG(c d:u_ Int)(n:Nat):(sliceBounds c d q_ n).1=((HT.sIx n 0 c:Nat):Int)/\(sliceBounds c d q_ n).2.1=((HT.sIx n n d:Nat):Int)/\(sliceBounds c d q_ n).2.2=1:=by
 refine#[?_,?_,rfl]
 .cases c with
  |none=>simp[sliceBounds,HT.sIx]
  |some i=>
   simp only[sliceBounds,HT.sIx,Option.getD_none,show(1:Int) > 0 by cbv,if_true]
   by_cases h:i<0
   .grind
   .simp only[h,if_false] <;>lk
 .cases d with
  |none=>simp[sliceBounds,HT.sIx]
  |some i=>
   simp only[sliceBounds,HT.sIx,Option.getD_none,show(1:Int) > 0 by cbv,if_true]
   by_cases h:i<0
   .grind
   .simp only[h,if_false] <;>lk
theorem Jq(c:t_ Ev)(d e:u_ Int):slicePick c.toArray d e q_=((c.drop^HT.sIx c.length 0 d).take (HT.sIx c.length c.length e - HT.sIx c.length 0 d)).toArray:=by
 let#[f,g,h]:=LG d e _;unfold slicePick;rw[f,g,h];simp only[sliceRange_one,pick_run] <;>rfl
def cL(K:Frag):V->u_ Int->u_ Int->Hp->VK->Prop:=λx d e H Q=>∃a c,x=.ref a/\SqL K H a c/\∀p,H p=q_->Q (.ref p)^An H p^.lst^Nm c d e
theorem sl_list:SlR X^cL X.K:=by
 intro p s Z H x v t u e f w Q I g i j k h;let#[a,l, rfl,m,q]:=h;subst g;let#[n, r,d,o]:=I.list m;have c:=r.length;exists _,_,oo.lookup,d.isList.typeIs;refine wpAny_getItem_list_slice d.isList i j k .none (by decide) ?_ (by simp_all);rw[Jq,←c];refine#[.ref _,_,I.laid (λb y q=>Go _ q) (Re _) ?_,rfl,q _^I.hok.fresh^Re _];exact#[iU (Hc l e f) o,_,0,(r.drop _).take _,Uf _ rfl]
def Yr:V->Bool
 |.non=>r_
 |.bl _=>r_
 |.int _=>r_
 |.str _=>r_
 |_=>s_
def dN:V->V->Bool
 |.non,.non=>r_
 |.bl a,.bl b=>a==b
 |.bl a,.int b=>(if a then 1 else 0)==b
 |.int a,.bl b=>a==(if b then 1 else 0)
 |.int a,.int b=>a==b
 |.str a,.str b=>a==b
 |_,_=>s_
theorem Lx(e:RelV y u)(c:RelV x v)(g:Yr y=r_)(f:Yr x=r_):SeqAt.EqAt A s u v^dN y x:=by
 cases y with
 |non=>
  subst e;cases x with
  |non=>subst c; exact SeqAt.EqAt.same _
  |bl b=>subst c; exact SeqAt.EqAt.none_bool b
  |int b=>let#[t,rfl]:=c; exact SeqAt.EqAt.none_int b t
  |str b=>let#[t,rfl]:=c; exact SeqAt.EqAt.none_str b t
  |_=>exact absurd (show s_=r_ from f) iI
 |bl a=>
  subst e;cases x with
  |non=>subst c; exact SeqAt.EqAt.bool_none a
  |bl b=>subst c; exact SeqAt.EqAt.bool_bool a b
  |int b=>let#[t,rfl]:=c; exact SeqAt.EqAt.bool_int a b t
  |str b=>let#[t,rfl]:=c; exact SeqAt.EqAt.bool_str a b t
  |_=>exact absurd (show s_=r_ from f) iI
 |int a=>
  let#[d,rfl]:=e;cases x with
  |non=>subst c; exact SeqAt.EqAt.int_none a d
  |bl b=>subst c; exact SeqAt.EqAt.int_bool a d b
  |int b=>let#[t,rfl]:=c; exact SeqAt.EqAt.int_int a d b t
  |str b=>let#[t,rfl]:=c; exact qG a d b t
  |_=>exact absurd (show s_=r_ from f) iI
 |str a=>
  let#[d,rfl]:=e;cases x with
  |non=>subst c; exact SeqAt.EqAt.str_none a d
  |bl b=>subst c; exact SeqAt.EqAt.str_bool a d b
  |int b=>let#[t,rfl]:=c; exact qH a d b t
  |str b=>let#[t,rfl]:=c; exact SeqAt.EqAt.str_str a d b t
  |_=>exact absurd (show s_=r_ from f) iI
 |_=>exact absurd (show s_=r_ from g) iI
theorem BX:B5 X (.type "list") (λB H Q=>∃p f,B=[.ref p]/\(SqL X.K H p f\/SqT X.K H p f)/\∀l,H l=q_->Q (.ref l)^An H l^.lst f):=by
 intro D s Z H B F Q I r h;let#[p,f, rfl,j,q]:=h;let#[u, rfl,E]:=vals1 r;subst E
 have k:∀(c:t_ Ev),qz f c->f.length<=sizeLine->∀(d:iG) (i:Nat),(∀b C,s.heap.get? b=P3 C->d.get? b=P3 C)->
   d.get? s.heap.objs.size=P3 _->EP X D Z Q (.ref s.heap.objs.size) {s with heap:=d}:=λc g m d i t e=>
  #[.ref s.heap.objs.size,_,I.laid (t':=s.toks) t (Re _) (show qU X.prog X.w _ d _^.lst f from#[m,c,i,g,e]),rfl,q _^I.hok.fresh^Re _]
 rcases j with j|j
 .let#[c,g,x,m]:=I.list j
  have v:=g.length;let#[o, y,z, n, A]:=x.isList;exact call_list_seq p (.inl rfl) y z A (λd i t e=>k c g m d i t e)^by grind
 .let#[c,g,x,m]:=I.tuple j
  have v:=g.length;let#[o, y,z, n, A]:=x;exact call_list_seq p (.inr rfl) y z A (λd i t e=>k c g m d i t e)^by grind
theorem Jz:B5 X (.type "tuple") (λj H Q=>∃p c,j=[.ref p]/\((SqL X.K H p c/\∀l,H l=q_->Q (.ref l)^An H l^.tup c)\/(SqT X.K H p c/\Q (.ref p) H))):=by
 intro w s Z H j x Q I r h;let#[p,c,rfl,h]:=h;let#[u, rfl,t]:=vals1 r;subst t
 rcases h with⟨d,q⟩|⟨d,q⟩
 .let#[f,g,i,k]:=I.list d
  have m:=g.length;refine call_tuple_list i.isList (λy v=>?_) (by simp_all);have n:=I.kept (t':=s.toks) v;exact#[.ref _,_,n.laid (t':=s.toks) (λb o e=>Go _ e) (Re _) (show qU _ _ _ _ _^.tup c from#[k,_,g,zG.new _ _]),rfl,q _^n.hok.fresh^Re _]
 .let#[f,g,i,k]:=I.tuple d
  exact call_tuple_same i #[.ref p,H,I,rfl,q]
def fE(K:Frag)(T:String)(x:V)(H:Hp):Prop:=match x with
 |.str _=>T="str"
 |.int _=>T="int"
 | .ref p=>(T="list"/\∃d,SqL K H p d)\/(T="tuple"/\∃o,K.lookup p=P3 o/\o.cls=.type "tuple"/\o.dict=q_) \/
   (T="dict"/\((∃c,H p=P3^.dK c)\/∃c,H p=P3^.dT c))\/(T="set"/\∃S n,H p=P3^.set S n)
 |_=>False
theorem ZT(I:Inv X l Z H s)(r:RelV x v)(ty:fE X.K T x H):
  s.TypeIs v T/\∀a,v=.ref a->∃j,s.heap.get? a=P3 j/\j.dict=q_:=by
 cases x with
 |str z=>
  let#[t, rfl]:=r;cases(show T="str" from ty);exact#[mr s z t,λ_ e=>nomatch e]
 |int i=>
  let#[t, rfl]:=r;cases(show T="int" from ty);exact#[typeIs_int s i t,λ_ e=>nomatch e]
 | ref p=>
  subst r
  rcases ty with⟨rfl,w,m⟩|⟨rfl,o,d,q,f⟩|⟨rfl,d⟩|⟨rfl,S,n,d⟩
  .let#[u,_,k,_]:=I.list m
   refine#[k.isList.typeIs,λa e=>?_];injection e with e;subst e;let#[o,n, e,c,f,_]:=k;exact#[o,e,f]
  .refine#[#[o,I.kIn p o d,q],λa e=>?_]
   cases e;exact#[o,I.kIn _ o d,f]
  .have z:∃o,s.heap.get? p=P3 o/\o.ExactDict:=by
    rcases d with⟨g,d⟩|⟨g,d⟩
    .let#[_,_,_,_,o,_,_,e,ex,_]:=I.hok p _ d
     exact#[o,e,ex]
    .let#[_,_,_,_,o,_,_,e,ex,_]:=I.hok p _ d
     exact#[o,e,ex]
   let#[o,e,ex]:=z;refine#[#[o,e,ex.1],λa h=>?_];cases h;exact#[o,e,ex.2.1]
  .let#[o,_,_,_,e,ex,_]:=I.hok p _ d
   refine#[#[o,e,ex.1],λa h=>?_];injection h with h;subst h;exact#[o,e,ex.2.1]
 |_=>exact jj ty
def gp(K:Frag)(T:String)(r:V->t_ V->Hp->VK->Prop)(to:TE)(t:TA):TE:=λZ H Q=>to Z H λx c=>fE K T x c/\t Z c λd H2=>r x d H2 Q
variable {T id:String}
theorem cf(n:PlainAttrs T)(f:Slot T name id)(j:typeOf^.builtin id=pure^.type "method_descriptor")(p:eh X id r)(q:PE X o to)(u:PA X (e::es) t)
  (c:attributeBase o name X.env^eval o X.env=eval o X.env:=by rfl)
  (g:((backTo cpos^starEach (e::es) X.env).all (λx=>!x.1)&&(backToKw cpos^keywordEach [] X.env).all (λx=>x.1.isSome)
   && decide ((e::es).length+([]:t_ mB).length+(if([]:t_ mB).isEmpty then 0 else 1)<30))=r_:=by rfl)
  (d:(apos.endLine==cpos.line)=r_:=by rfl) (w:starEach (e::es) X.env=(s_,eval e X.env)::starEach es X.env:=by rfl) (i:(backTo cpos^starEach es X.env).any (·.1)=s_:=by rfl):
  PE X (.Call (.Attribute o name apos) (e::es) [] cpos) (gp X.K T r to t):=by
 intro M s Z H Q I h;refine wpAny_Call_method_late c g d rfl (thn (q _ s Z H _ I h) λv y zz=>?_);let#[x,z, k,l,ty,A]:=zz;let#[ B,C]:=ZT k l ty;exists T,id,n,f,j,B,C;have m:=u cpos _ y Z z _ k A;rw[w]at m ⊢;refine pW (by grind)^p_ ?_;refine thn m λD E zz=>?_;let#[F,H2, G,J,L]:=zz;exact p _ E Z H2 x F v D Q G l J L
end
def gY(X:Cx)(d:String)(r:V->t_ V->Hp->VK->Prop):Prop:=
 ∀(a:t_ (Db×Obj)) (s:No) (Z:St) (H:Hp) (x:V) (b:t_ V) (v:Ev) (c:t_ Ev) (Q:VK),Inv X a Z H s->RelV x v->qz b c->r x b H Q->
  wpAny (model X.prog X.w) X.A (call (.builtin d) (v::c)) (EP X a Z Q) X.xe s
theorem qz.one:∀{x:V}{a:t_ Ev},qz [x] a->∃u,a=[u]/\RelV x u
 |_,_,.cons r .nil=>#[_,rfl,r]
theorem qz.reverse(h:qz a b):qz a.reverse b.reverse:=by
 induction h with
 |nil=>exact .nil
 |cons r t c=>simp only[l7,l7]; exact qz.append c^.cons r .nil
theorem qz.rep(h:qz a b):∀k:Nat,qz (iN k a).flatten (iN k b).flatten
 |0=>.nil
 |k+1=>qz.append h^qz.rep h k
theorem foldl_rep(b:t_ Ev):∀(k:Nat) (a:t_ Ev),
  List.foldl (λc d=>c++d) a.toArray (iN k b.toArray)=(a++(iN k b).flatten).toArray
 |0,a=>by simp
 | k+1,a=>by
  have e:a.toArray++b.toArray=(a++b).toArray:=by simp
  have f:(a++b)++(iN k b).flatten=a++(iN (k+1) b).flatten:=by
   grind
  rw[←f,←foldl_rep _ k _,←e,List.replicate_succ,pM]
section

theorem Inv.lset{b a:t_ Ev}(I:Inv X zH Z H s)(d:H l=P3^.lst xs)
  (e:s.heap.get? l=P3 {cls:=.type "list",data:=.seq b.toArray n}) (g:f b.toArray=a.toArray) (h:qz ys a) (i:ys.length<=sizeLine):
  Inv X zH Z (An H l^.lst ys) {s with heap:=s.heap.update l^jd f,toks:=c}:=by
 have q:=PySem.IsL.update e f;rw[g]at q;exact I.write (by rw[d]; exact trivial) (.inl rfl) (λo u j k=>(ii _ _^iz j).trans k) #[_,q] #[i,_,_,h,q]
theorem Inv.lnew(I:Inv X zH Z H s)(b:qz ys a)(c:ys.length<=sizeLine):
  Inv X zH Z (An H s.heap.objs.size^.lst ys) {s with heap:=s.heap.push {cls:=.type "list",data:=.seq a.toArray},toks:=t'}:=
 I.laid (λ_ _ q=>Go _ q) (Re _) #[c,_,0,b,Uf _ rfl]
theorem Inv.fresh(I:Inv X zH Z H s):H s.heap.objs.size=q_:=I.hok.fresh^Re _
theorem Inv.lstM(I:Inv X zH Z H s)(b:H l=P3^.lst xs):xs.length<=sizeLine/\∃(a:t_ Ev) (n:Nat),qz xs a/\xs.length=a.length/\s.heap.get? l=P3 {cls:=.type "list",data:=.seq a.toArray n}:=by
 let#[ z, a,n, r,e]:=I.hok l _ b;exact#[z,_,n,r,r.length,e]
theorem NG(h:n<=sizeLine):lL n=s_:=by
 unfold lL
 simp_all
end
section

def P2:V->t_ V->Hp->VK->Prop:=λx b H Q=>∃l a y,x=.ref l/\b=[y]/\H l=P3^.lst a/\a.length<sizeLine/\Q .non^An H l^.lst (a++[y])
theorem EA:gY X "list.append" P2:=by
 intro g s Z H x i v j Q I b c h;let#[l,k,y, rfl,rfl,a,m,q]:=h;subst b;let#[u, rfl,d]:=c.one;let#[ z, f,n, r,o,e]:=I.lstM a;refine nV F.slot_list_append #[_,e,rfl] F.entry_list_append (F.args_list_append_2 _ _) (PySem.list_append l _ n u^by simp_all) #[e,?_];refine#[.non,_,I.lset a e (by simp) (r.append^.cons d .nil) ?_,rfl,q]
 grind
def P1:V->t_ V->Hp->VK->Prop:=λx d H Q=>∃l b a c,x=.ref l/\d=[.ref b]/\H l=P3^.lst a/\H b=P3^.lst c/\a.length+c.length<=sizeLine/\Q .non^An H l^.lst (a++c)
theorem Ri:gY X "list.extend" P1:=by
 intro y s Z H x A v B Q I i j h;let#[l,b,C,D, rfl,rfl,g,k,E,q]:=h;subst i;let#[u, rfl,m]:=j.one;subst m;let#[ z, a,n, r,G,e]:=I.lstM g;let#[ J, c,o, p,t,w]:=I.lstM k;have f:a.toArray.size+c.toArray.size<=sizeLine:=by simp_all
 have d:¬(!a.toArray.isEmpty&&lL (a.toArray.size+c.toArray.size))=r_:=by
  rw[NG f]
  simp_all
 refine nV F.slot_list_extend #[_,e,rfl] F.entry_list_extend (F.args_list_extend_2 _ _)
  (AutoSeq1.list_extend_list_list_0 l a.toArray n b _ o d (by simp_all)^by lk) #[e,w,?_]
 refine#[.non,_,I.lset g e (by simp) (r.append p) ?_,rfl,q]
 simp_all
def fS:R2:=λx y H Q=>∃l k a,x=.ref l/\y=.int k/\H l=P3^.lst a/\-(2 ^ 63)<=k/\k<2 ^ 63/\a.length*k.toNat<=sizeLine /\
 ∀p,H p=q_->Q (.ref p)^An H p^.lst (iN k.toNat a).flatten
theorem len_rep{b:Type}(a:t_ b)(k:Nat):(iN k a).flatten.length=k*a.length:=by
 simp_all
theorem Zy:OpR X (binaryOp .Mult) fS:=by
 intro K s Z H x y v u Q I w A h;let#[l,k,L, rfl,rfl,B,C,D,p,q]:=h;subst w;let#[t,rfl]:=A;let#[ z, b,n, r,E,e]:=I.lstM B;have d:b.toArray.size*k.toNat<=sizeLine:=by rw[iK,←E]; exact p
 have f:¬b.toArray.size*k.toNat > (2 ^ 63 - 1) / 8:=by
  have:(sizeLine:Nat)<=(2 ^ 63 - 1) / 8:=by cbv
  lk
 have g:¬(!Builtin.List.listFitsIndex k)=r_:=by
  rw[fitsIndex_both C D];exact iI
 have c:¬lL (b.toArray.size*k.toNat)=r_:=by
  rw[NG d];exact iI
 have i:List.foldl (λj o=>j++o) #[]^iN (if b.toArray.isEmpty=r_ then 0 else k.toNat) b.toArray=(iN k.toNat b).flatten.toArray:=by
  have G:∀m:Nat,List.foldl (λj o=>j++o) #[]^iN m b.toArray=(iN m b).flatten.toArray:=λm=>by
   have:=foldl_rep b m []
   simp_all
  rw[G];cases b with
  |nil=>simp
  |cons a M=>rw[if_neg^by simp]
 refine wpAny_binaryOp_repeat_ref (T:="list") (U:="int") (by cbv) #[_,e,rfl] (λJ=>typeIs_int J k t) noFill_list_mul F.fills_int_mul F.slot_int_rmul repeat_list F.slot_int_index.lookup
  (nV F.slot_int_rmul (typeIs_int s k t) F.entry_int_rmul (F.args_int_rmul_2 _ _) (int___rmul___int_list k t l b.toArray n)
   #[e,rfl,#[_,e,rfl],nV F.slot_list_mul #[_,e,rfl] F.entry_list_mul (F.args_list_mul_2 _ _) (AutoListH.list___mul___list_int_3 l b.toArray n k t g f c) #[e,?_]])
 rw[i];exact#[.ref _,_,I.lnew (t':=s.toks) (r.rep k.toNat) (by rw[len_rep,Nat.mul_comm]; exact p),rfl,q _ I.fresh]
end
end L2
namespace Att
open PySem.W PySem.Calls
theorem Hq:∀(c:t_ Int) (d:t_ Ev),WellAll P h d^c.map WData.int->IntsAre d c:=by
 intro c
 induction c with
 |nil=>
  intro d w;cases w;exact .nil
 | cons n c e=>
  intro d w;cases w with
  |cons a b=>
   cases a;exact .cons _ _^e _ b
theorem RE{l:OpenLaw}(w:l.most=P3 n)
  (c:l.row.toRowW.claim.pre args=r_) (i:WellAll P h b args):
  ∃a k e,b=[iF a]/\args=[WData.list^e.map WData.int]/\h.get? a=P3 {cls:=.type "list",data:=.seq k.toArray}/\IntsAre k e/\e.length<=n:=by
 have j:WShape.hasAll [] args [.list .int]=r_:=(pre_splitW c).1;have m:l.pre.holds [] {args:=args}=r_:=(pre_splitW c).2;let#[d,r, rfl,p,q]:=hasAllW_cons j;obtain rfl:=hasAllW_nil q;let#[x, rfl,s]:=hasW_list p;let#[e,rfl]:=items_int s
 have f:e.length<=n:=by
  unfold OpenLaw.pre at m
  have o:(WTm.not^.lt (.lit^.int (n:Int))^.len^.arg 0).holds [] {args:=[.list^e.map .int]}=r_:=by
   have o:=(holds_andW m).1
   simp_all
  have y:=condW_of o^w_not^w_lt w_lit^w_len_list (w_arg rfl)
  simp_all
 cases i with
 |cons t u=>
  cases u;cases t with
  |list v g=>exact#[_,_,e,rfl,rfl,v,Hq e _ g,f]
theorem RS(l:OpenLaw)(a:t_ WData):l.row.toRowW.claim.post a (.bool r_) a=r_:=
 postW_of
  (show WShape.has [] _ _=r_ by first|rfl|decide|omega)
  (w_eq_bool (w_res rfl) w_lit) rfl
theorem attach_call{l:OpenLaw}
  (J:l.most=P3 n) (v:d.params.defaults=[])
  (call:∀(w:iZ) (e b:No) (p x:Str->u_ Ev) (fa:Db) (o:Obj) (y s g:Ev) (a:Db) (i:t_ Ev) (t:t_ Int),
   Ground q c [] C w e p x b.heap->D w b.heap->
   b.heap.get? fa=P3 o->o.data=.func^docDef d.name d.params d.body d.scope y s g->b.heap.CodeRec s d.name->p d.name=P3^.ref fa->
   b.heap.get? a=P3 {cls:=.type "list",data:=.seq i.toArray}->IntsAre i t->t.length<=n->b.gens=#[]->
   codeAny (model l.prog w) callerA (.call (.ref fa) #[[.ref a],[]]) (λr u=>r=.ok^.ret^.bool r_/\OldK b.heap u.heap/\u.os=b.os/\l8 u.gens) b):
  WalkO q c C D l.row.toRowW d [] (λf i=>PySem.call f i):=by
 intro w e b p x G Y fa o y s g K L M N z E A O F H W j I P B Q;obtain rfl:K=.none:=Dflts.none E v;obtain rfl:L=.none:=Dflts.noKw E;let#[a,i,t, rfl,rfl,k,h,m]:=RE J j B;refine enter_call^l_ (call w e b p x fa o y s g a i t G Y M (fd_plain N) z A k h m O) λr u R=>?_;let#[ rfl,S,T,U]:=R;exact#[.inl #[.bool r_,.bool r_,[],rfl,λ_=>rfl,.bool r_,RS l _,λ_=>#[m7,λ_ V=>(nomatch V)]],S,T,U]
end Att
namespace L2
theorem J9:∀{a:t_ Ev}{b:t_ Int},IntsAre a b->qz (b.map V.int) a
 |_,_,.nil=>.nil
 |_,_,.cons n t h=>.cons #[t,rfl]^J9 h
def bP(H:Hp):Prop:=∀b,H b=q_\/∃o a,H b=P3^.frz o^.lst a
theorem Ut{K:Frag}
  (KX:K.In c.heap) (C:c.heap.Ns mainGlobals A) (g:c.heap.Ns builtinsNs R) (S:∀x:Str,x ≠ "__name__"->R x=bootBuiltins x) (D:c.heap.NoLimit) (hg:c.gens=#[])
  (Q:c.heap.get? a=P3 {cls:=.type "list",data:=.seq t.toArray}) (hi:IntsAre t B) (hl:B.length<=sizeLine) (hr:qk k callerA)
  (F:∀i:iG,K.In i->i.Ns mainGlobals A->B_ P w K A i Z k fa fd [x] sp) (y:∀(s:No) (u:Ev),n8 s fd #[[u],[]] [(x,u)])
  (T:∀H:Hp,bP H->SqL K H a^B.map V.int->sp [.ref a] H (λv _=>v=.bl r_) λ_ _ _=>False)
  (U:∀H e j,Z [] H c (λ_ _ _=>False) e j->False):
  codeAny (model P w) callerA (.call (.ref fa) #[[.ref a],[]]) (λr j=>r=.ok^.ret^.bool r_/\OldK c.heap j.heap/\j.os=c.os/\l8 j.gens) c:=by
 have rv:=J9 hi;have E:=hi.length
 have p:∀H:Hp,bP H->SqL K H a^B.map V.int->HOk P w H c.heap->(∀b,H b≠q_->b=a)->(H a≠q_->K.lookup a=q_)->
   codeAny (model P w) callerA (.call (.ref fa) #[[.ref a],[]]) (λr j=>r=.ok^.ret^.bool r_/\OldK c.heap j.heap/\j.os=c.os/\l8 j.gens) c:=by
  intro H hO hS G hA hK;have f:∀{b:Db}{o:Obj},c.heap.get? b=P3 o->H b=q_->(Ls c.heap H).get? b=P3 o:=λe n=>U7 e n
  have W:∀{b:Db}{o:Obj}{I:Array pN}{J:Nat},c.heap.get? b=P3 o->o.data=.dict I J->H b=q_:=λ{b o I J} e d=>by
   cases q:H b with
   |none=>rfl
   |some u=>
    have X:b=a:=hA b (by rw[q]; simp);subst X;rw[Q]at e; injection e with e;subst e
    have d':Data.seq t.toArray _=Data.dict I J:=d;cases d'
  have l:∀{b:Db}{m:Str->u_ Ev},c.heap.Ns b m->(Ls c.heap H).Ns b m:=λ{b m} #[o,I,J,e,d,r]=>#[o,I,J,f e^W e d,d,r]
  have L:K.In^Ls c.heap H:=λb o e=>f (KX b o e) (by
   cases q:H b with
   |none=>rfl
   |some u=>
    have X:b=a:=hA b (by rw[q]; simp);subst X;rw[hK^by rw[q]; simp]at e; cases e)
  have hM:Mod K A^Ls c.heap H:=#[L,l C,#[R,l g,S],let #[mc,h1,h2]:=D; #[mc,l h1,h2]];have e0:vN P w K A (Ls c.heap H) callerA [] c H:=#[rfl,hM,λb o e=>Wz e,mX^R_ _ _,trivial,λb g=>absurd (show b∈([]:t_ Db)from g)^by simp,G,.of_eq hg];refine l_ ((F _ L^l C).run callerA [] c H #[[.ref a],[]] [.ref a] [.ref a] _ _ hr e0 (y c^.ref a) (.cons rfl .nil)^T H hO hS) λr j h=>?_;cases r with
  |error e=>exact(U H e j h).elim
  | ok fl=>
   cases fl with
   |next=>exact jj h
   |brk=>exact jj h
   |cont=>exact jj h
   | ret u=>
    let#[v,H', os,M,un,N,r',q]:=h;have q':v=.bl r_:=q;subst q';obtain rfl:u=lV r_:=r';refine#[rfl,OldK.of_keep λb o e=>?_,os,M];cases q:H b with
    |none=>exact un.keep b o e q (by intro z; exact absurd (show b∈([]:t_ Db)from z)^by simp)^by simp
    | some u=>
     rcases hO b with z|⟨ob,xs,z⟩
     .rw[q]at z; cases z
     .have z2:=un.vF b ob _ z
      let#[ e1,_]:=G b _ z;let#[ e2,_]:=N b _ z2;rw[e]at e1; injection e1 with e1;subst e1
      exact e2
 cases Y:K.lookup a with
 |some o=>
  have e:=KX a o Y;rw[Q]at e;injection e with e;subst e;refine p (λ_=>q_) (λ_=>.inl rfl) (.inr #[_,t.toArray,_,Y,rfl,rfl,rfl,by rw[iK,E]; exact hl,by simpa using rv]) (λb u z=>by have O:(q_:u_ HO)=P3 u:=z; cases O) (λb z=>absurd rfl z) λz=>absurd rfl z
 | none=>
  refine p (λb=>if b=a then P3^.frz {cls:=.type "list",data:=.seq t.toArray}^.lst^B.map V.int else q_) (λb=>?_) (.inl^.inr #[{cls:=.type "list",data:=.seq t.toArray},if_pos rfl]) (λb u z=>?_) (λb z=>?_) λ_=>Y
  .by_cases g:b=a
   .exact .inr #[_,_,if_pos g]
   .exact .inl^if_neg g
  .by_cases g:b=a
   .have O:=(if_pos g).symm.trans z
    injection O with O;subst O;subst g;exact#[Q,by rw[FM]; exact hl,t,_,rv,Q]
   .have O:=(if_neg g).symm.trans z
    cases O
  .by_cases g:b=a
   .exact g
   .exact absurd (if_neg g) z
theorem Ph{l:PySem.W.OpenLaw}{K:Params->Frag}{CX:iZ->Sn}{sp:iZ->Sp}
  (O:l.most=P3 n) (y:n<=sizeLine) (z:d.params.defaults=[]) (P:qk k callerA)
  (Q:∀(w:iZ) (h:iG),E w h->(K w.params).In h)
  (F:∀(w:iZ) (p:Str->u_ Ev) (fa:Db) (h:iG),(K w.params).In h->h.Ns mainGlobals p->p d.name=P3^.ref fa->
   ∃fd:jG,(∀(s:No) (u:Ev),n8 s fd #[[u],[]] [(x,u)]) /\
    ∀c:iG,(K w.params).In c->c.Ns mainGlobals p->B_ l.prog w (K w.params) p c (CX w) k fa fd [x]^sp w)
  (A:∀(w:iZ) (H:Hp) (a:Db) (t:t_ Int),t.length<=n->bP H->SqL (K w.params) H a^t.map V.int->sp w [.ref a] H (λv _=>v=.bl r_) λ_ _ _=>False)
  (B:∀(w:iZ) (H:Hp) (s:No) (e:Ev) (C:No),CX w [] H s (λ_ _ _=>False) e C->False):
  PySem.W.WalkO q j N E l.row.toRowW d [] (λf I=>PySem.call f I):=by
 refine Att.attach_call O z λw J L p mb fa o pm cd R a I t G Y ho hd S D r m i U=>?_;have M:=Q w _ Y;let#[fd, X,Z]:=F w p fa _ M G.T.g D;exact Ut M G.T.g G.T.b G.T.builtins G.T.nolimit U r m (iU i y) P Z X (λH hO hS=>A w H a t i hO hS) λH e C=>B w H _ e C
end L2
/- THE LAST THEOREM (shape; LID,My.* are yours):
   My.Adr:a structure of the addresses that your layer names (classes,functions); My.Txt K t:a structure (Prop) of the equations over K;
   My.txt_mk:{K}{implicit addresses ..} (e1:nsIn K mainGlobals "law"=P3^P3^.ref f) (e2:K.lookup f=P3 #[oc,od,.func^fnOf "law" "law" params body scope dV kV doc pm an cdv ct,sl]) (e3:codeIn K cdv "law"=r_) ..:∃ t,My.Txt K t
set_option maxRecDepth 100000 in
set_option maxHeartbeats 0 in
theorem PySem.Challenge.cw_LID_holds:PySem.Challenge.rw_LID.Holds:=by
 w_on; o_law; k_head; (case hw=>w_witness2)
 k_fill
 refine L2.Ph (l:=PySem.Challenge.rw_LID) (n:=63) (k:=40) (x:="script") (CX:=λw=>..) (sp:=λ_=>My.sp_law) rfl (by cbv) rfl #[rfl,by cbv,by cbv] (λw h Y=>PySem.W.kIn_of Y) ?F ?S ?C
 case F=>
  intro w mg fa h KX G hmg
  have T:∃t,My.Txt (L2.KOf KX) t:=by
   dsimp only[L2.KOf] -- K must stand as «<heap const> w.params» for k_is
   refine' My.txt_mk ?e1 ?e2 ?e3 ..
   (case e1=>PySem.W.k_is) -- in the order:a name->its address->its object->its parts
   (case e2=>PySem.W.k_is)
   ..
  let#[t,T]:=T;have e0:=hmg.symm.trans^mg_of KX G T.law;cases e0 -- fa is the law's own address;exact#[_,λs u=>.of_eq rfl,λbase kb nb=>My.law_fn T kb nb] -- if «.of_eq rfl» comes too early:refine' #[_,?b,λbase kb nb=>My.law_fn T kb nb]; exact λs u=>.of_eq rfl
 case S=>exact λw H a ns hl hO hS=>..
 case C=>exact ..
(the tactic k_is has no namespace:write k_is) -/
namespace L2
def CI(s:jM):Arguments:=match s with
 |.FunctionDef _ a _ _ _ _ _ _ _ _=>a
 |_=>{posonlyargs:=[],args:=[],vararg:=q_,kwonlyargs:=[],kw_defaults:=[],kwarg:=q_,defaults:=[]}
def BG(s:jM):t_ jM:=match s with
 |.FunctionDef _ _ b _ _ _ _ _ _ _=>b
 |_=>[]
def AR(s:jM):kP:=match s with
 |.FunctionDef _ _ _ _ _ _ a _ _ _=>a
 |_=>{kind:=.function,names:=[],isGenerator:=s_,isCoroutine:=s_}
abbrev FO:Sn:=λ_ _ _ _ _ _=>False
abbrev E0:XK:=λ_ _ _=>False
theorem QD:F1 FO X E0:=λ_ _ _ _ _ _ _ h=>h.elim
structure Fun (K:Frag) (x qual:Str) (st:jM) (f:Db) (fd:jG):Prop where
 ex:∃(oc:Ev) (od:Option Db) (kV doc pm:Ev) (an:Option Db) (cdv ct:Ev) (osl:Array^Option Ev),
  fd=fnOf x qual (CI st) (BG st) (AR st) .none kV doc pm an cdv ct/\K.lookup f=P3 #[oc,od,.func fd,osl]/\codeIn K cdv qual=r_
 kp:keepIn K^.ref f=r_
section
variable {K:Frag}
theorem Fun.ok{g:jM}(F:Fun K x a g f fd)(S:A7 N i^AR g)(len:∀c H Q E,sp c H Q E->c.length=i.length)
  (d:∀(e:Ev) (A:ik) (b:t_ Env) (s:No) (H:Hp) (c:t_ V) (Q:VK) (E:XK),qk k^A.deeper^envOfC a (AR g) s.heap.objs.size f e->sp c H Q E->
   ∃t,PSs (Ef FO P w K mg base N a (AR g) f e A b s H E).nox (BG g) t/\t {nx:=λ_ m=>Q .non m,rt:=Q} (start N c) H):B_ P w K mg base FO (k+1) f fd i sp:=by
 let#[u,v,y,n,z,B,e,C,o,rfl,p,j]:=F.ex;refine Yq p j S len λA b s H c Q E r l=>?_;let#[t,h,q]:=d _ A _ s H c Q E r l;exact#[t,h.nox,q]
theorem Fun.binds(F:Fun K x a d f fd)
  (h:∀(e b g:Ev) (i:u_ Db) (c j:Ev) (k:t_ Ev),k.length=ps.length->bindArgs (fnOf x a (CI d) (BG d) (AR d) .none e b g i c j) #[k,[]]=pure^ps.zip k):Binds K fd ps []:=by
 let#[n,o,e,b,g,i,c,j,l,rfl,p,m]:=F.ex;exact .all^h e _ g i _ j
theorem O6{st:jM}{kV d h b i:Ev}(l:K.lookup f=P3 #[j,od,.func^fnOf x a (CI st) (BG st) (AR st) .none kV d h e b i,g])
  (c:codeIn K b a=r_) (k:keepIn K^.ref f=r_):Fun K x a st f^fnOf x a (CI st) (BG st) (AR st) .none kV d h e b i:=#[#[j,od,kV,_,h,e,_,i,_,rfl,l,c],k]
end
theorem HR(a:qk k A):A.units+1<cLine:=kq (Nat.add_le_add_left (by cbv) _) a.units
section

theorem pv(i:Nat)(b:X.N[i]?=P3 x:=by rfl)(c:YH X.env.scope x:=by first|exact jK rfl|exact kJ (jK rfl)|exact kJ (kJ rfl))(hd:(x==("__debug__":Str))=s_:=by decide)
  (a:(x==("__classdict__":Str))=s_:=by decide):PE X (.Name x pos)^BN i:=Io b c hd a
end
theorem As{A B:Prop}(h:B):if s_=r_ then A else B:=by
 simp_all
theorem Ar{A B:Prop}(h:A):if r_=r_ then A else B:=by
 simp_all
theorem CQ{c A B:Prop}[Decidable c](a:c->A)(b:¬c->B):if c then A else B:=by
 simp_all
section
variable {κ:Type}[DecidableEq κ]
def CV(a:t_ (κ×V))(k:κ):u_ V:=(a.find? λb=>decide (b.1=k)).map (·.2)
def putK(a:t_ (κ×V))(k:κ)(v:V):t_ (κ×V):=
 if(a.any λb=>decide (b.1=k))=r_ then a.map (λb=>if b.1=k then(b.1,v)else b)else a++[(k,v)]
theorem D9{k:κ}(e:p.1=k):CV (p::r) k=P3 p.2:=by simp[CV,e]
theorem D_{k:κ}(e:¬p.1=k):CV (p::r) k=CV r k:=by simp[CV,e]
theorem MS(k:κ):∀a:t_ (κ×V),(a.any λb=>decide (b.1=k))=(CV a k).isSome
 |[]=>rfl
 |p::r=>by
  simp only[oY]
  by_cases e:p.1=k
  .simp[D9 e,decide_eq_true e,Bool.true_or]
  .rw[D_ e,decide_eq_false e]; exact MS k r
theorem Ex(a:t_ (κ×V))(k:κ)(v:V):(putK a k v).length<=a.length+1:=by
 unfold putK
 grind
theorem vS.vB(r:vS o u):o.isSome=u.isSome:=by
 cases o with
 |none=>cases u with
  |none=>rfl
  |some _=>exact(r).elim
 |some _=>cases u with
  |none=>exact(r).elim
  |some _=>rfl
theorem KV.val(r:KV a f)(k:κ):vS (CV a k)^valueAt f k:=by
 induction r with
 |nil=>exact kT
 | @cons p q l c h t i=>
  let#[ g,j]:=h
  by_cases e:p.1=k
  .have d:=g.symm.trans e
   have b:valueAt (q::c) k=P3 q.2:=by simp[valueAt,d]
   rw[D9 e,b]; exact j
  .have d:¬q.1=k:=λz=>e^g.trans z
   have b:valueAt (q::c) k=valueAt c k:=by simp[valueAt,d]
   rw[D_ e,b]; exact i
theorem KV.any(r:KV a c)(k:κ):(a.any λb=>decide (b.1=k))=c.any λb=>decide (b.1=k):=by
 induction r with
 |nil=>rfl
 |cons h t d=>simp_all
theorem KV.repl(r:KV b c)(k:κ)(f:RelV y u):
  KV (b.map λa=>if a.1=k then(a.1,y)else a) (c.map λa=>if a.1=k then(a.1,u)else a):=by
 induction r with
 |nil=>exact .nil
 |@cons p q g i h t d=>
  refine .cons ?_ d
  by_cases e:p.1=k
  .simp_all
  simp_all
theorem KV.put(r:KV kvs a)(k:κ)(b:RelV y u):KV (putK kvs k y)^stored a k u:=by
 delta putK stored;rw[r.any k]
 by_cases e:(a.any λc=>decide (c.1=k))=r_
 .rw[if_pos e,if_pos e]; exact r.repl k b
 .rw[if_neg e,if_neg e]; exact Paired.snoc r #[rfl,b]
theorem KV.length{b:t_ (κ×Ev)}(r:KV a b):a.length=b.length:=Paired.length r
end
theorem Ki(r:RelV (kV k) u):(Al P w).is k u=r_:=by
 cases k with
 |inl i=>let#[t,e]:=(r); subst e; exact NJ P w i t
 |inr x=>let#[t,e]:=(r); subst e; exact NI P w x t
theorem Kj:∀{a:t_ Key}{b:t_ Ev},qz (a.map kV) b->ItemsAre (Al P w) a b
 |[],_,r=>by cases r; exact .nil
 |k::a,_,r=>by
  cases r with
  |cons h t=>exact .cons (Ki h)^Kj t
abbrev KT(H:Hp):t_ (t_ Key×V)->t_ (t_ Key×Db×Ev)->Prop:=Paired λp q=>p.1=q.1/\H q.2.1=P3^.tup^p.1.map kV/\RelV p.2 q.2.2
theorem KT.val(r:KT H a f)(k:t_ Key):vS (CV a k) ((atKey f k).map (·.2)):=by
 induction r with
 |nil=>exact kT
 | @cons p q l c h t i=>
  let#[ g,_,j]:=h
  by_cases e:p.1=k
  .have d:=g.symm.trans e
   have b:atKey (q::c) k=P3 q.2:=by simp[atKey,d]
   rw[D9 e,b]; exact j
  .have d:¬q.1=k:=λz=>e^g.trans z
   have b:atKey (q::c) k=atKey c k:=by simp[atKey,d]
   rw[D_ e,b]; exact i
theorem KT.repl(r:KT H a c)(k:t_ Key)(f:RelV y u):
  KT H (a.map λb=>if b.1=k then(b.1,y)else b) (c.map^putAt k u):=by
 induction r with
 |nil=>exact .nil
 |@cons p q g i h t d=>
  refine .cons ?_ d;unfold putAt
  by_cases e:p.1=k
  .simp_all
  simp_all
theorem KT.put(r:KT H kvs a)(k:t_ Key)(d:H b=P3^.tup^k.map kV)(c:RelV y u):
  KT H (putK kvs k y) (storedH a k b u):=by
 have e:(kvs.any λf=>decide (f.1=k))=(atKey a k).isSome:=by
  simp only[MS,(r.val k).vB,Option.isSome_map]
 delta putK storedH;rw[e]
 by_cases q:(atKey a k).isSome=r_
 .rw[if_pos q,if_pos q]; exact r.repl k c
 .rw[if_neg q,if_neg q]; exact Paired.snoc r #[rfl,d,c]
theorem KT.keeps(r:KT H a d)(f:∀b e,H b=P3^.tup e->c b=P3^.tup e):KT c a d:=
 Paired.mapP r λ_ _ z=>#[z.1,f _ _ z.2.1,z.2.2]
section

theorem YV(ok:HOk P w H h)(e:Rd H a u):qU P w H h a u:=e.ok ok
theorem Qb(ok:HOk P w H h)(e:Rd H a^.dK b):b.length<=sizeLine/\(a==sysModules)=s_/\∃c,KV b c/\h.DictOf (Al P w) a c:=
 YV ok e
theorem Y2(ok:HOk P w H h)(e:H a=P3^.dK b):b.length<=sizeLine/\(a==sysModules)=s_/\∃c,KV b c/\h.DictOf (Al P w) a c:=Qb ok^.inl e
theorem JG(ok:HOk P w H h)(e:H a=P3^.tup^b.map kV):(tupleKind^Al P w).is h b a:=by
 let#[ _, c, r, o, d,f, n, g,_]:=(ok a _ e);exact#[o,_,n,d,f,g,by simpa using Kj r]
theorem Ks(ok:HOk P w H h)(e:Rd H a^.dT b):b.length<=sizeLine/\(a==sysModules)=s_ /\
  ∃d,KT H b d/\h.DictOfH (tupleKind^Al P w) a d:=by
 let#[ z,y, d, r, o,f,g, i,j,k,n,s]:=(YV ok e);refine#[z,y,d,r,o,f,g,i,j,k,n,λx c=>?_,s]
 have all:∀{l:t_ _}{m:t_ _},KT H l m->∀x∈m,(tupleKind^Al P w).is h x.1 x.2.1:=by
  intro l m q
  induction q with
  |nil=>simp_all
  |@cons p q v A B t u=>
   intro x c
   rcases TW.mp c with e|c
   .exact JG ok^by simp_all
   .exact u x c
 exact all r x c
theorem dQ(ok:HOk P w H h)(e:H a=P3^.dT b):b.length<=sizeLine/\(a==sysModules)=s_ /\
  ∃c,KT H b c/\h.DictOfH (tupleKind^Al P w) a c:=Ks ok^.inl e
end
def vK(H:Hp)(a:Db)(y:V)(r:u_ V):Prop:=
 (∃c k,Rd H a^.dK c/\y=kV k/\r=CV c k)\/∃c k b,Rd H a^.dT c/\y=.ref b/\H b=P3^.tup^k.map kV/\r=CV c k
def v3(H:Hp)(a:Db)(y v:V)(d:Hp):Prop:=
 (∃c k,H a=P3^.dK c/\y=kV k/\c.length<sizeLine/\d=An H a^.dK^putK c k v) \/
 ∃c k b,H a=P3^.dT c/\y=.ref b/\H b=P3^.tup^k.map kV/\c.length<sizeLine/\d=An H a^.dT^putK c k v
theorem vK.k{k:Key}(e:H a=P3^.dK b):vK H a (kV k)^CV b k:=.inl #[_,k,.inl e,rfl,rfl]
theorem v3.k{k:Key}(e:H a=P3^.dK b)(c:b.length<sizeLine):v3 H a (kV k) v^An H a^.dK^putK b k v:=.inl #[_,k,e,rfl,c,rfl]
theorem v3.t{H:Hp}{a b:Db}{c:t_ (t_ Key×V)}{k:t_ Key}{v:V}(e:H a=P3^.dT c)(eb:H b=P3^.tup^k.map kV)(d:c.length<sizeLine):
  v3 H a (.ref b) v (An H a^.dT^putK c k v):=.inr #[_,k,b,e,rfl,eb,d,rfl]
section

theorem Inv.big(I:Inv X zH Z H s):sysModules<s.heap.objs.size:=mY (by cbv) (I.mod.glob.keeps I.bk).lt
theorem SQ(B:A.units+1<cLine)(I:Inv X zH Z H s)(g:vK H a y^P3 v)(t:RelV y u)(h:∀f x,Inv X zH Z H x->RelV v f->Q f x):
  wpAny (model X.prog X.w) A (getItem (.ref a) u) Q E s:=by
 rcases g with⟨i,k,e,j,l⟩|⟨i,k,b,e,j,C,l⟩
 .subst j
  let#[ z,D, F, c,m]:=Qb I.hok e;let#[f, n,d]:=vS.some_of (v:=v) (o:=valueAt F k) (by rw[l]; exact c.val k);exact wpAny_getItem_of (Ki t) m.mapOf n^h f _ (I.tok _) d
 .subst j
  cases(show u=iF b from t);let#[ z,D, G, c,m]:=Ks I.hok e;let#[f, n,d]:=vS.some_of (v:=v) (o:=(atKey G k).map (·.2)) (by rw[l]; exact c.val k);let#[p, J,q]:=iX.mp n;refine wpAny_getItem_heap (mZ B) (JG I.hok C) m J ?_;simp only[q];exact h f _ (I.tok _) d
theorem X1(p:A.units+1<cLine)(I:Inv X zH Z H s)(g:vK H a y o)(m:RelV y u)(h:∀n,Inv X zH Z H n->Q (.bool (!o.isSome)) n):
  wpAny (model X.prog X.w) A (compareOp .NotIn u^.ref a) Q E s:=by
 rcases g with⟨d,k,e,f,l⟩|⟨d,k,b,e,f,t,l⟩
 .subst f
  let#[ z,i, x, c,j]:=Qb I.hok e;refine wpAny_notIn_of (Ki m) i j.mapOf ?_;rw[←(c.val k).vB,←l];exact h _^I.tok _
 .subst f
  cases(show u=iF b from m);let#[ z,i, B, c,j]:=Ks I.hok e;refine wpAny_notIn_heap (mZ p) (JG I.hok t) i j ?_;have q:=(c.val k).vB;simp only[Option.isSome_map]at q;simp only[←q,←l];exact h _^I.tok _
theorem L4(I:Inv X zH Z H s)(f:d_^H a)(g:kQ a s.heap c)(h:∃q,c.get? a=P3 q)(new:qU X.prog X.w (An H a d) c a d):
  Inv X zH Z (An H a d) {s with heap:=c,toks:=e}:=
 I.write f (.inl rfl) (λb q i z=>(g.2 b i).trans z) h new
theorem PF(z:b.length<=sizeLine)(hd:(a==sysModules)=s_)(d:KV b c)(g:e.DictOf (Al P w) a c):
  qU P w f e a (.dK b):=#[z,hd,c,d,g]
theorem SO(M:A.units+1<cLine)(I:Inv X zH Z H s)(g:v3 H a y v D)(F:RelV y u)(rv:RelV v r)(h:∀G,Inv X zH Z D G->Q () G):
  wpAny (model X.prog X.w) A (setItem (.ref a) u r) Q E s:=by
 rcases g with⟨d,k,e,m,l,n⟩|⟨d,k,b,e,m,J,l,n⟩
 .subst m n
  let#[ z,p, N, f,t]:=Y2 I.hok e;have x:N.length<=sizeLine:=by rw[←f.length]; exact z
  have B:(putK d k v).length<=sizeLine:=by have:=Ex d k v; lk
  refine wpAny_setItem_pairs (hsz:=x) (Ki F) t λK i C=>h _ ?_;have O:∃q,K.get? a=P3 q:=let #[q,_,_,j,_]:=i; #[q,j]
  exact L4 I (by rw[e]; exact kT) C O^PF B p (f.put k rv) i
 .subst m n
  cases(show u=iF b from F);let#[ z,p, P, f,t]:=dQ I.hok e;have x:P.length<=sizeLine:=by rw[←Paired.length f]; exact z
  have B:(putK d k v).length<=sizeLine:=by have:=Ex d k v; omega
  refine wpAny_setItem_heap (hsz:=x) (mZ M) (JG I.hok J) t λK i C=>h _ ?_;let#[q,R,S, j,T,U,V,_,W]:=i;refine L4 I (by rw[e]; exact kT) C #[q,j] #[B,p,_,(f.put k J rv).keeps λc Y L=>?_,q,R,S,j,T,U,V,W];rw[AH^cq L e λz=>nomatch z];exact L
end
def Sg(i:iR):Prop:=∀a b,subscripted i s_ a b=operate [a,b]^getItem a b
theorem WT
  (n:typeLookup (.type T) "__getitem__"=pure^P3^.builtin m) (p:Sg a)
  (h:wpAny (model b w) A (eval c g) (λo f=>wpAny (model b w) A (eval a g) (λi d=>d.TypeIs o T/\wpAny (model b w) A (getItem o i) Q E d) E f) E s):
  wpAny (model b w) A (eval (.Subscript c a pos) g) Q E s:=by
 refine Subscript_^i8 h (λo f j=>i8 j (λi d e=>?_) λ_ _ x=>x) λ_ _ x=>x;let#[ q,e]:=e;refine Ch ?_;refine Ch^wpAny_specialOf q n ?_
 first
  |exact Op (Ch (by
  rw[p o i];exact wpAny_operating^i8 e (λr l k=>Ch^wpAny_letTemporaryGo^Op k) λ_ _ x=>x))
  |grind
  |grind
theorem Nj(I:Inv X f Z H s)(g:vK H a y o):s.TypeIs (.ref a) "dict":=by
 rcases g with⟨c,k,e,_,_⟩|⟨c,k,b,e,_,_,_⟩
 .let#[_,_,h,_,d]:=Qb I.hok e
  exact d.typeIs
 .let#[_,_,i,_,d]:=Ks I.hok e
  exact d.typeIs
def cD(b ty:TE):TE:=λZ H Q=>b Z H λx c=>ty Z c λy H2=>∃a v,x=.ref a/\vK H2 a y^P3 v/\Q v H2
def cI(c ty d:TE):TS:=λD Z H=>d Z H λv e=>c Z e λx H2=>ty Z H2 λy f=>∃a b,x=.ref a/\v3 f a y v b/\D.nx Z b
section

theorem FE(d:X.A.units+1<cLine)(e:PE X o td)(f:PE X i ty)(j:Sg i):PE X (.Subscript o i pos)^cD td ty:=by
 intro w s Z H Q I h;refine WT PySem.F.slot_dict_getitem.lookup j^thn (e _ s Z H _ I h) λu k zz=>?_;let#[x,l, m,n,p]:=zz;refine thn (f _ k Z l _ m p) λz B zz=>?_;let#[y,H2, c,q, a,v, ex,g,r]:=zz;subst ex;obtain rfl:u=iF a:=n;exact#[Nj c g,SQ d c g q λC D t b=>#[v,H2,t,b,r]]
theorem GD(b:X.A.units+1<cLine)(c:PE X o td)(d:PE X i ty)(e:PE X value tv)(f:swapsWith value (P3^.Subscript o i pos') pos.line X.env=pure s_):
  PS X (.Assign [.Subscript o i pos'] value pos) (cI td ty tv):=by
 intro G s Z H D I h;refine wpAny_Assign_Subscript (thn (e _ s Z H _ I h) λr j zz=>?_) f;let#[v,k, l,m,n]:=zz;refine thn (c _ j Z k _ l n) λu p zz=>?_;let#[x,H2, q,t,w]:=zz;refine thn (d _ p Z H2 _ q w) λJ K zz=>?_;let#[y,L, z,B, a,C, ex,g,E]:=zz;subst ex;obtain rfl:u=iF a:=t;exact SO b z g B m λM F=>#[Z,C,F,E]
end
theorem Ni(h:iG)(a:sysModules<h.objs.size):qU P w H (h.push {cls:=.type "dict",data:=.dict #[]}) h.objs.size^.dK []:=
 #[XV _,beq_eq_false_iff_ne.mpr^iz^iJ a,[],.nil,Heap.DictOf.new h]
theorem VO(h:iG)(a:sysModules<h.objs.size):qU P w H (h.push {cls:=.type "dict",data:=.dict #[]}) h.objs.size^.dT []:=
 #[XV _,beq_eq_false_iff_ne.mpr^iz^iJ a,[],.nil,_,_,0,Uf _ rfl,#[rfl,rfl,rfl],rfl,rfl,jI]
def Zb:TE:=λ_ H Q=>∀p,H p=q_->Q (.ref p)^An H p^.dK []
def Za:TE:=λ_ H Q=>∀p,H p=q_->Q (.ref p)^An H p^.dT []
section
variable {X:Cx}{pos:Pos}
theorem Mv:PE X (.Dict [] [] pos) Zb:=λa s Z H Q I h=>
 wpAny_Dict_empty #[.ref _,_,I.laid (λ_ _ q=>Go _ q) (Re _)^Ni _ I.big,rfl,h _^I.hok.fresh^Re _]
theorem US:PE X (.Dict [] [] pos) Za:=λa s Z H Q I h=>
 wpAny_Dict_empty #[.ref _,_,I.laid (λ_ _ q=>Go _ q) (Re _)^VO _ I.big,rfl,h _^I.hok.fresh^Re _]
end
def OO:t_ (TE×TE)->St->Hp->(t_ (V×V)->Hp->Prop)->Prop
 |[],_,H,Q=>Q [] H
 |(a,b)::r,Z,H,Q=>a Z H λx c=>b Z c λy H2=>OO r Z H2 λd e=>Q ((x,y)::d) e
abbrev VV:t_ (V×V)->t_ (Ev×Ev)->Prop:=Paired λp q=>RelV p.1 q.1/\RelV p.2 q.2
def eZ(X:Cx)(pos:Pos)(b:t_^u_ iR)(a:t_ iR)(c:t_ (TE×TE)):Prop:=
 ∀(d:t_ (Db×Obj)) (s:No) (Z:St) (H:Hp) (Q:t_ (V×V)->Hp->Prop),Inv X d Z H s->OO c Z H Q->
  wpAny (model X.prog X.w) X.A (evalPairs^pairTrees b a X.env pos) (λg h=>∃e f,Inv X d Z f h/\VV e g/\Q e f) X.xe s
theorem P9:eZ X pos [] [] []:=λa s Z H Q I h=>pairTrees_nil_walk #[[],H,I,.nil,h]
theorem DK(g:PE X k e)(i:PE X v f)(j:eZ X pos c d a):
  eZ X pos (P3 k::c) (v::d) ((e,f)::a):=λC s Z H Q I h=>
 pairTrees_cons_walk (thn (g _ s Z H _ I h) λu l #[x,m,n,o,p]=>thn (i _ l Z m _ n p) λD q #[y,H2,r,t,w]=>
  thn (j _ q Z H2 _ r w) λE F #[G,z,A,b,B]=>#[_,z,A,.cons #[o,t] b,B])
def EO(a more:t_ (Key×V)):t_ (Key×V):=more.foldl (λb c=>putK b c.1 c.2) a
theorem KV.merge:∀{a:t_ (Key×V)}{d:t_ (Key×Ev)}{b:t_ (Key×V)}{c:t_ (Key×Ev)},KV a d->KV b c->KV (EO b a)^merged c d:=by
 intro a d b c r
 induction r generalizing b c with
 |nil=>intro q; exact q
 | @cons p q g i h t e=>
  intro f
  exact e (by
   have:=f.put p.1 h.2
   simp_all)
theorem FW:∀(more a:t_ (Key×V)),(EO a more).length<=a.length+more.length
 |[],a=>by show a.length<=a.length+0; lk
 |p::r,a=>by
  have b:=FW r^putK a p.1 p.2;have c:=Ex a p.1 p.2;show(EO _ r).length<=_
  grind
theorem Ja:∀{d:t_ (Key×V)}{f:t_ (Ev×Ev)},VV (d.map λg=>(kV g.1,g.2)) f->∃e,Carries (Al P w) f e/\KV d e
 |[],_,r=>by cases r; exact#[[],kT,.nil]
 | p::d,_,r=>by
  cases r with
  |@cons a b j k h t=>
   let#[e,c,q]:=Ja t;let#[l,i]:=b;exact#[(p.1,i)::e,#[Ki h.1,rfl,c],.cons #[rfl,h.2] q]
def cC(b:t_ (TE×TE)):TE:=λZ H Q=>∀p,H p=q_->OO b Z (An H p^.dK []) λd H2=>H2 p=P3^.dK []/\∃a:t_ (Key×V),d=a.map (λc=>(kV c.1,c.2))/\a.length<=15/\Q (.ref p)^An H2 p^.dK^EO [] a
theorem QC(h:eZ X pos b d f)(g:b.all (·.isSome)=r_)(n:b.length=d.length)(p:b≠[])
  (k:b.length<=15):PE X (.Dict b d pos)^cC f:=by
 intro r s Z H Q I q;have t:=I.hok.fresh^Re s.heap.objs.size;have u:=I.laid (a:=s.heap.objs.size) (o:=.dK []) (h':=s.heap.push {cls:=.type "dict",data:=.dict #[]}) (t':=s.toks) (λ_ _ q=>Go _ q) (Re _)^Ni s.heap I.big;refine wpAny_Dict_walk (knd:=Al X.prog X.w) g n p k^thn (h r _ Z _ _ u^q _ t) λM N zz=>?_;let#[O,H2, m,l,e, i, v,R,x]:=zz;subst v;let#[y, c,A]:=Ja (P:=X.prog) (w:=X.w) l;let#[ z,B, C, D,E]:=Y2 m.hok e;cases D;refine#[y,c,E,λh' j F=>#[.ref s.heap.objs.size,_,?_,rfl,x]]
 have G:(EO [] i).length<=sizeLine:=by
  have J:=FW i [];simp only[jm]at J;simp only[jJ]; lk
 have K:∃q,h'.get? s.heap.objs.size=P3 q:=let #[q,_,_,L,_]:=j; #[q,L]
 exact L4 m (by simp only[e]; exact kT) F K^PF G B (A.merge .nil) j
structure M1 (X:Cx) (o:iR) (m:Str) (apos:Pos) (e:iR) (cpos:Pos):Prop where
 base:attributeBase o m X.env^eval o X.env=eval o X.env
 few:((backTo cpos^starEach [e] X.env).all (λx=>!x.1)&&(backToKw cpos^keywordEach [] X.env).all (λx=>x.1.isSome)
  && decide (([e]:List iR).length+([]:List mB).length+(if([]:List mB).isEmpty then 0 else 1)<30))=r_
 line:(apos.endLine==cpos.line)=r_
 trees:backTo cpos^starEach [e] X.env=[(s_,eval e X.env)]
structure M2 (X:Cx) (o:iR) (m:Str) (apos:Pos) (e f:iR) (cpos:Pos):Prop where
 base:attributeBase o m X.env^eval o X.env=eval o X.env
 few:((backTo cpos^starEach [e,f] X.env).all (λx=>!x.1)&&(backToKw cpos^keywordEach [] X.env).all (λx=>x.1.isSome)
  && decide (([e,f]:List iR).length+([]:List mB).length+(if([]:List mB).isEmpty then 0 else 1)<30))=r_
 line:(apos.endLine==cpos.line)=r_
 trees:backTo cpos^starEach [e,f] X.env=[(s_,eval e X.env),(s_,eval f X.env)]
end L2
set_option maxHeartbeats 4000000
namespace L2
section
theorem PL:∀(f:t_ (Str×ki)) (h:t_ (Str×Db)),(∀x,(x,jO)∈f->∃c,g.cells.lookup x=P3 c)->(∀x c,h.lookup x=P3 c->g.cells.lookup x=P3 c)->
  ∃i,(forIn f h fun(x:Str×ki) (r:t_ (Str×Db))=>(if(x.2==jO)=r_ then do let a ←cellOf g x.1; pure^kU ((x.1,a)::r) else pure^kU r:Sem^ForInStep^t_ (Str×Db)))=(pure i:Sem _) /\
   (∀x c,i.lookup x=P3 c->g.cells.lookup x=P3 c)/\(∀x,((x,jO)∈f\/∃c,h.lookup x=P3 c)->∃c,i.lookup x=P3 c):=by
 intro f
 induction f with
 |nil=>
  intro h _ m;exact#[h,rfl,m,λx d=>d.elim (λz=>absurd z^by simp) λz=>z]
 | cons p r w=>
  intro h q m;let#[n,k]:=p
  by_cases s:k=jO
  .subst s
   let#[c, y]:=q n Sc;have j:cellOf g n=pure c:=by simp only[cellOf,y]
   let#[i, e,a,b]:=w ((n,c)::h) (λx d=>q x^TM _ d) (λx o d=>by
    rw[lM]at d;cases t:x==n with
    |true=>
     rw[t]at d;have u:P3 c=P3 o:=d;injection u with u;subst u
     have:x=n:=by simpa using t
     rw[this]; exact y
    |false=>rw[t]at d; exact m x o d)
   refine#[i,?_,a,λx d=>b x ?_]
   .rw[kx]
    simp only[beq_self_eq_true,if_true,j,pure_bind];exact e
   .by_cases l:x=n
    .subst l
     exact .inr #[c,by simp[lM]]
    .rcases d with d|⟨o,d⟩
     .rcases TW.mp d with d|d
      .cases d; exact absurd rfl l
      .exact .inl d
     .refine .inr #[o,?_]
      have:(x==n)=s_:=by simpa using l
      simp only[lM,this];exact d
  .have v:(k==jO)=s_:=by simpa using s
   let#[i, e,a,b]:=w h (λx d=>q x^TM _ d) m;refine#[i,?_,a,λx d=>b x ?_]
   .rw[kx]
    simp only[v,jR,if_false,pure_bind];exact e
   .rcases d with d|d
    .rcases TW.mp d with d|d
     .cases d; exact absurd rfl s
     .exact .inl d
    .exact .inr d
theorem JZ(h:∀x,(x,jO)∈scope.names->∃c,env.cells.lookup x=P3 c):
  ∃d,closureFor scope env=pure d/\(∀x c,d.lookup x=P3 c->env.cells.lookup x=P3 c)/\(∀x,(x,jO)∈scope.names->∃c,d.lookup x=P3 c):=by
 let#[d, e,a,b]:=PL _ [] h (λx c f=>by simp at f);refine#[d,?_,a,λx f=>b x^.inl f];simp[closureFor]
 simp_all
variable {prog:Program}{w:World}{A:Around}{R:Result->Shared->Prop}{s:Shared}
theorem L5(I:Nat->No->Prop)
  (B:∀n s,I n s->wpAny (model prog w) A (pyNext F) (λr d=>match r with
   |none=>R (.ok .next) d
   | some v=>wpAny (model prog w) A (letOwnedTupleGo a F v) (λ_ e=>wpAny (model prog w) A (assign a b v) (λ_ i=>
     wpAny (model prog w) A (forIn y r_ λc r=>if r=r_ then do let ok ←isTrue c b^eval c b; pure^kU ok else pure^kU r) (λok f=>
      if ok=r_ then wpAny (model prog w) A (eval t b) (λx j=>
       wpAny (model prog w) A (call (.builtin "list.append") [z,x]) (λ_ k=>∃m,m<n/\I m k) (λ_ _=>False) j) (λ_ _=>False) f
      else ∃m,m<n/\I m f) (λ_ _=>False) i) (λ_ _=>False) e) (λ_ _=>False) d) (λ_ _=>False) s)
  (n:Nat) (h:I n s):
  codeAny (model prog w) A (.compLoop (.ListComp t [#[a,u,y,0]] p pos) 0 F z b) R s:=by
 refine codeAny_loop rfl I (λn s G=>?_) n h;refine wpAny_noted ?_;refine Ch^mO^Ch^i8 (B n s G) (λr d l=>?_) λ_ _ g=>g.elim;cases r with
 |none=>exact Op l
 | some v=>
  refine Ch^i8 l (λ_ e q=>?_) λ_ _ g=>g.elim;refine Ch^i8 q (λ_ i C=>Ch^i8 C (λok f o=>?_) λ_ _ g=>g.elim) λ_ _ g=>g.elim;cases ok with
  |false=>exact Op #[rfl,o]
  |true=>
   exact Ch^Ch^i8 o (λx j D=>Ch^i8 D (λ_ k E=>Op^Op #[rfl,E]) λ_ _ g=>g.elim) λ_ _ g=>g.elim
end
def Av(X:Cx)(a:kP)(b:t_ Str)(c:t_ (Str×Db))(C:Db)(s:No)(H:Hp)(ex:t_ Db):Cx where
 prog:=X.prog
 w:=X.w
 K:=X.K
 mg:=X.mg
 base:=X.base
 A:=X.A
 N:=b
 s₀:=s
 H₀:=H
 env:=compEnvC a c C X.env
 outer:=X.stack
 stack:=X.stack
 ex:=ex
 fn:=λ_=>s_
 calm:=r_
 pn:=[]
 xe:=λ_ _=>False
def Cs(a:t_^u_ Nat)(Z:St):St:=a.map λo=>match o with
 |some i=>(Z[i]?).getD q_
 |none=>q_
def XA(o:u_ ki):Bool:=match o with
 |some .cell=>r_
 |some .free=>r_
 |_=>s_
theorem QN(h:XA o=r_):o=P3 .cell\/o=P3 .free:=by
 unfold XA at h
 split at h
 .grind
 .grind
 .cases h
def isFree(o:u_ ki):Bool:=match o with
 |some .free=>r_
 |_=>s_
theorem R6(h:isFree o=r_):o=P3 .free:=by
 unfold isFree at h
 split at h
 .rfl
 .cases h
def U3(o:u_ ki):Bool:=match o with
 |some .local=>r_
 |_=>s_
theorem U2(h:U3 o=r_):o=P3 .local:=by
 unfold U3 at h
 split at h
 .rfl
 .cases h
def U5(k:ScopeKind):Bool:=match k with
 |.function=>r_
 |_=>s_
theorem U4(h:U5 k=r_):k=.function:=by
 unfold U5 at h
 split at h
 .rfl
 .cases h
def fX(b a:kP)(p:Str×ki):Bool:=match p.2 with
 |.cell=>s_
 |.free=>XA^a.names.lookup p.1
 |.local=>U3^b.names.lookup p.1
 |_=>r_
def ft(x:u_ Str)(y:Str):Bool:=match x with
 |some z=>z==y
 |none=>s_
theorem aO(h:ft x y=r_):x=P3 y:=by
 unfold ft at h
 split at h
 .grind
 .cases h
def Jb(b a:kP)(N:t_ Str):t_ Str->t_^u_ Nat->Bool
 |[],[]=>r_
 |x::c,P3 j::d=>isFree^b.names.lookup x&&ft (N[j]?) x&&XA^a.names.lookup x&&Jb b a N c d
 |_::c,q_::d=>Jb b a N c d
 |_,_=>s_
def GZ(b a:kP)(N c:t_ Str)(d:t_^u_ Nat):Bool:=U5 b.kind&&b.names.all^fX b a&&Jb b a N c d
theorem E9:∀{c:t_ Str}{a:t_^u_ Nat},Jb d b N c a=r_->a.length=c.length
 |[],[],_=>rfl
 |x::e,P3 j::a,h=>by
  unfold Jb at h;rw[iE]at h;simp only[UF,UF,E9 h.2]
 |x::e,q_::a,h=>by
  unfold Jb at h;simp only[UF,UF,E9 h]
 |[],P3 _::_,h=>by cases h
 |[],q_::_,h=>by cases h
 |_::_,[],h=>by cases h
theorem L6:∀{f:t_ Str}{d:t_^u_ Nat},Jb e a N f d=r_->∀{k:Nat}{x:Str}{j:Nat},f[k]?=P3 x->d[k]?=P3^P3 j->
  e.names.lookup x=P3 .free/\N[j]?=P3 x/\(a.names.lookup x=P3 .cell\/a.names.lookup x=P3 .free)
 |[],_,_,k,x,j,b,_=>by simp at b
 |_::_,[],h,_,_,_,_,_=>by delta Jb at h; cases h
 | y::g,P3 i::d,h,k,x,j,b,c=>by
  unfold Jb at h;simp only[iE,iE,iE]at h;cases k with
  |zero=>
   simp at b c;subst b c;exact#[R6 h.1.1.1,aO h.1.1.2,QN h.1.2]
  |succ k=>exact L6 h.2 (k:=k) (by simpa using b)^by simpa using c
 |y::g,q_::d,h,k,x,j,b,c=>by
  unfold Jb at h;cases k with
  |zero=>simp at c
  |succ k=>exact L6 h (k:=k) (by simpa using b)^by simpa using c
theorem Rt{k:Nat}(h:(Cs a Z)[k]?=P3^P3 v):∃j,a[k]?=P3^P3 j/\Z[j]?=P3^P3 v:=by
 unfold Cs at h;rw[T0]at h;cases e:a[k]? with
 |none=>simp_all
 | some o=>
  rw[e]at h;cases o with
  |none=>cases h
  |some j=>
   cases q:Z[j]? with
   |none=>simp_all
   |some w=>simp_all
theorem C5{a:Env}:∀{b:t_ (Str×ki)}{x:Str},b.lookup x=P3 .free->
  (b.map fun(n,k)=>if(k==jO&&a.scope.kind==.function&&a.kindOf n==P3 .cell)then(n,nB)else(n,k)).lookup x=P3 .cell \/
  (b.map fun(n,k)=>if(k==jO&&a.scope.kind==.function&&a.kindOf n==P3 .cell)then(n,nB)else(n,k)).lookup x=P3 .free
 |[],_,h=>by simp at h
 | (n,k)::r,x,h=>by
  have d:=@C5 a r x;show mR x ((if(k==jO&&a.scope.kind==.function&&a.kindOf n==P3 .cell)=r_ then(n,nB)else(n,k))::_)=_\/mR x ((if(k==jO&&a.scope.kind==.function&&a.kindOf n==P3 .cell)=r_ then(n,nB)else(n,k))::_)=_
  by_cases e:(k==jO&&a.scope.kind==.function&&a.kindOf n==P3 .cell)=r_
  .rw[if_pos e]
   cases c:x==n with
   |true=>exact .inl^by simp only[lM,c]
   |false=>
    simp only[lM,c]at h ⊢;exact d h
  .rw[if_neg e]
   cases c:x==n with
   |true=>
    simp_all
   |false=>
    simp only[lM,c]at h ⊢;exact d h
theorem OU(c:∀y∈a.names,y.2≠.cell)(h:(relabel a env).names.lookup x=P3 .cell\/(relabel a env).names.lookup x=P3 .free):(x,jO)∈a.names:=by
 have e:(x,nB)∈(relabel a _).names\/(x,jO)∈(relabel a _).names:=h.elim (λz=>.inl^PySem.mem_of_lookup z) λz=>.inr^PySem.mem_of_lookup z
 have d:∀k,(k=.cell\/k=.free)->(x,k)∈(relabel a env).names->(x,jO)∈a.names:=by
  intro k f b;unfold relabel at b
  grind
 exact e.elim (d _ (.inl rfl))^d _ (.inr rfl)
section
variable {X:Cx}{zH:t_ (Addr×Obj)}{Z:St}{H:Hp}{s:Shared}
structure vq (X:Cx) (sc:kP) (N':List Str) (js:List^Option Nat):Prop where
 kind:sc.kind=.function
 cell:∀y∈sc.names,y.2≠.cell
 free:∀x,(x,jO)∈sc.names->X.env.scope.names.lookup x=P3 .cell\/X.env.scope.names.lookup x=P3 .free
 names:∀y∈sc.names,y.2=.local->sc.names.lookup y.1=P3 .local
 cap:Jb sc X.env.scope X.N N' js=r_
theorem vq.of(h:GZ c X.env.scope X.N d f=r_):vq X c d f:=by
 unfold GZ at h;rw[iE,iE,jH]at h;let#[ #[ g,a],i]:=h;refine#[U4 g,λy b e=>?_,λx j=>?_,λy b e=>?_,i]
 .have q:=a y b
  unfold fX at q
  simp_all
 .have q:=a _ j
  exact QN q
 .have q:=a y b
  unfold fX at q;rw[e]at q;exact U2 q
theorem NX(I:Inv X zH Z H s)(W:X.calm=r_)(O:vq X D E js)
  (d:∀x c,B.lookup x=P3 c->X.env.cells.lookup x=P3 c) (k:∀x,(x,jO)∈D.names->∃c,B.lookup x=P3 c)
  (G:∀b∈F,F2 X zH H b) (Y:∀b∈F,∃o,s.heap.get? b=P3 o)
  (L:f.Ns (s.heap.objs.size+1) λ_=>q_) (J:∀b o,s.heap.get? b=P3 o->f.get? b=P3 o) (hD:∃n,f.get? s.heap.objs.size=P3 {cls:=.type "list",data:=.seq #[] n}):
  Inv (Av X D E B (s.heap.objs.size+1) s H F) [] (Cs js Z) (An H s.heap.objs.size^.lst []) {s with heap:=f,toks:=tk}:=by
 have fr:∀a,s.heap.objs.size<=a->H a=q_:=λa ha=>I.hok.fresh ha
 have h:∀x c,B.lookup x=P3 c->c<s.heap.objs.size:=λx c e=>by
  let#[v, q]:=I.cell x c^d x c e;exact q.lt
 have ok:(Av X D E B (s.heap.objs.size+1) s H F).Ok:=by
  refine#[I.ok.mod,O.kind,I.ok.glob,I.ok.blt,jT _,λx y c C M=>I.ok.inj x y c (d x c C)^d y c M,λx N=>?_,λx c N=>?_,λ_=>I.ok.hd W,I.ok.frames,.inl rfl,λb t=>#[?_,λx c e=>?_],I.bs,iU I.ok.bsz I.sz,λb o e t=>?_,λb t P=>?_,I.stack,I.kS]
  .exact k x^OU (env:=X.env) O.cell N
  .exact absurd (show s_=r_ from N) iI
  .let#[o,e]:=Y b t
   exact iJ^kc^Tk e
  .exact(G b t).2.2.2.2.1 x c^d x c e
  .rcases(G b t).2.2.2.1 with z|z
   .exact I.ok.noex b o e z
   .have C:b<X.base.objs.size:=Tk e
    exact absurd (ic C^iU I.ok.bsz z)^jN _
  .rcases TW.mp^I.vA b P with z|z
   .exact(G b t).2.1 z
   .exact(G b t).2.2.1 z
 exists ok,rfl,I.bare,?_,#[_,L,λi x v C M h3=>?_],λx c e=>?_,?_,λx c e=>?_,λp hp=>absurd (show p∈([]:t_ (Db×Obj))from hp)^by simp,?_
 .exact Un.laid J (Re _)^fr _^Re _
 .let#[j,e1,e2]:=Rt M
  let#[ T,c2,A]:=L6 O.cap C e1;let#[m, _,hl]:=I.loc;let#[u, r,l]:=hl j x v c2 e2^.inr A;refine#[u,r,.inr #[C5 T,?_]]
  rcases l with⟨l1,_⟩|⟨_,c,l2,l3⟩
  .have Q:X.env.scope.names.lookup x=P3 .local:=l1
   rcases A with A|A <;>(rw[Q]at A; cases A)
  .let#[R,U]:=k x^PySem.mem_of_lookup T
   have:R=c:=iA^(d x R U).symm.trans l2
   subst this;let#[S,w,g]:=id l3;exact#[R,U,S,J _ _ w,g]
 .let#[v,S,w,g]:=I.cell x c^d x c e
  exact#[v,S,J _ _ w,g]
 .show An H s.heap.objs.size (.lst []) (s.heap.objs.size+1)=q_
  rw[AH^Nat.succ_ne_self _];exact fr _^jT _
 .show An H s.heap.objs.size (.lst []) c=q_
  rw[AH^iJ^h x c e];exact I.vz x c^d x c e
 .refine I.hok.laid J (Re _) ?_
  let#[n, e]:=hD;exact#[XV _,[],n,.nil,e]
 .unfold Cs
  show(js.map _).length=E.length;rw[FM];exact E9 O.cap
theorem Un.but(u:Un fs ex H d h a)(k:h.get? C=q_)(g:∀b,b≠C->f.get? b=a.get? b):Un fs ex H d h f:=by
 have i:∀{b:Db}{o:Obj},h.get? b=P3 o->b≠C:=λ{b o} e z=>by simp_all
 refine#[λb o e n a c=>(g b^i e).trans^u.keep b o e n a c,λb o e n a c=>?_,u.free,λb o e a=>?_,u.vj,u.vF,u.vR]
 .let#[j,q]:=u.slot b o e n a c
  exact#[j,(g b^i e).trans q]
 .let#[l,q]:=u.there b o e a
  simp_all
theorem JJ(I:Inv X zH Z H s)(n:∀b∈g,F2 X zH H b)(p:s.heap.objs.size<=C)
  (J:Inv (Av X j k l C s H g) c m d f) (h:∀b,b≠C->h'.get? b=f.heap.get? b):Inv X zH Z d {f with heap:=h'}:=by
 have r:d C=q_:=J.free
 refine I.call' J.os (Un.but J.base (by
  cases e:s.heap.get? C with
  |none=>rfl
  |some o=>exact absurd (Tk e)^nW.mpr p) h) (λa o e=>(J.hok a o e).vL (λb u i q=>(h b (λz=>by
   simp_all)).trans q) (λ_ q=>q) λ_ _ q=>q) J.bare λb i=>?_
 .let#[y,t,A,v,w,x]:=n b i
  exact#[v,t,w,x]
end
def d7(X:Cx)(a:t_ iR)(t:TT):Prop:=
 ∀(b:t_ (Db×Obj)) (s:No) (Z:St) (H:Hp) (Q:Bool->Hp->Prop),Inv X b Z H s->t Z H Q->
  wpAny (model X.prog X.w) X.A (forIn a r_ λc r=>if r=r_ then do let ok ←isTrue c X.env^eval c X.env; pure^kU ok else pure^kU r) (TP X b Z Q) X.xe s
def fH:TT:=λ_ H Q=>Q r_ H
theorem QB:d7 X [] fH:=λa s Z H Q I h=>wpAny_tests_nil #[H,I,h]
theorem Wl(h:PT X c t):d7 X [c] t:=λa s Z H Q I q=>wpAny_tests_one^h _ s Z H Q I q
def TY(X:Cx)(e:kP)(f:t_ Str)(z:t_^u_ Nat)(A h:iR)(j:t_ iR)(wi:TI):TE:=λZ H Q=>wi Z H λJ q=>∀l,q l=q_->X.K.lookup l=q_->∀k C s n o,∃(g:TG) (r:TT) (t:TE) (W:Nat->Nat->St->Hp->Prop),
 PG (Av X e f k C s n o) A g/\d7 (Av X e f k C s n o) j r/\PE (Av X e f k C s n o) h t/\(∃m,W 0 m (Cs z Z)^An q l^.lst [])/\∀i m u a,W i m u a->
 (J.stop i a/\Q (.ref l) a)\/(J.go i a/\∀x H2,J.yld i a x H2->g x u H2 λd B=>r d B λb v=>if b=r_ then t d v λy w=>∃p,w l=P3^.lst p/\p.length<sizeLine/\∃c,c<m/\W (i+1) c d^An w l^.lst (p++[y]) else ∃c,c<m/\W (i+1) c d v)
section
variable {X:Cx}{tg elt iter:Expr}{ifs:t_ Expr}{sc:Scope}{pos:Pos}{N':t_ Str}{js:t_^u_ Nat}{wi:TI}{g:TG}{tt:TT}{te:TE}
theorem Ku{Q:VK}{W:Nat->Nat->St->Hp->Prop}
  (I:Inv X zH Z H s) (hf:∀b∈a,F2 X zH H b) (a3:∀b∈a,b<s.heap.objs.size) (hC:s.heap.objs.size<=C)
  (T:Turn X.prog X.w X.K tg J a it U)
  (hg:PG (Av X sc N' h C s H a) tg g) (ht:d7 (Av X sc N' h C s H a) ifs tt) (he:PE (Av X sc N' h C s H a) elt te)
  (hW:∀i m k c,W i m k c->
   (J.stop i c/\Q (.ref l) c)\/(J.go i c/\∀x H2,J.yld i c x H2->g x k H2 λY H3=>tt Y H3 λb z=>if b=r_ then te Y z λy H5=>∃E,H5 l=P3^.lst E/\E.length<sizeLine/\∃f,f<m/\W (i+1) f Y^An H5 l^.lst (E++[y]) else ∃f,f<m/\W (i+1) f Y z))
  (hR:∀k c G,Inv (Av X sc N' h C s H a) [] k c G->Q (.ref l) c->R (.ok .next) G)
  (I3:Inv (Av X sc N' h C s H a) [] zI H0 s3) (t3:U 0 s3.heap) (f3:∀b∈a,H0 b=q_) (w0:W 0 m0 zI H0):
  codeAny (model X.prog X.w) X.A (.compLoop (.ListComp elt [#[tg,iter,ifs,0]] sc pos) 0 (.ref it) (.ref l)^compEnvC sc h C X.env) R s3:=by
 have j:∀{c:Hp},(∀b∈a,c b=q_)->∀b∈a,F2 (Av X sc N' h C s H a) [] c b:=λhn b t=>by
  have q:=I3.ok.exf b t;refine#[hn b t,q.1,I3.ok.exfs b t,.inl t,q.2,λp hp=>absurd (show p∈([]:t_ (Db×Obj))from hp)^by simp]
 refine L5 (λn G=>∃i k c,Inv (Av X sc N' h C s H a) [] k c G/\U i G.heap/\(∀b∈a,c b=q_)/\W i n k c) ?_ m0 #[0,zI,H0,I3,t3,f3,w0];rintro n s4 ⟨i,L,z,I4,M,N,w4⟩
 rcases hW i n L z w4 with⟨O,qn⟩|⟨go,step⟩
 .refine thn (T.done (Av X sc N' h C s H a) rfl rfl rfl rfl i [] s4 L z (λ_ _=>False) I4 (j N) M O) λr s5 zz=>?_;let#[ hr,I5]:=zz
  subst hr;exact hR L z s5 I5 qn
 .refine thn (T.item (Av X sc N' h C s H a) rfl rfl rfl rfl i [] s4 L z (λ_ _=>False) I4 (j N) M go) λr s5 zz=>?_;let#[u, hr,h5]:=zz
  subst hr;refine thn h5 λ_ s6 zz=>?_;let#[x,H6, I6,r6,y6,B,a0]:=zz;have a1:=I6.pinned (j a0)^T.obj _ _ B;refine thn (hg _ s6 L H6 x u _ a1 r6^step x H6 y6) λ_ s7 zz=>?_;let#[zM,H7, I7,q7]:=zz
  have again:∀{zJ:St}{D:Hp}{F:No}{f:Nat},Inv (Av X sc N' h C s H a) ([]++Il a s6.heap) zJ D F->f<n->W (i+1) f zJ D->∃m,m<n/\∃i k c,Inv (Av X sc N' h C s H a) [] k c F/\U i F.heap/\(∀b∈a,c b=q_)/\W i m k c:=λ{zJ D F f} P S w9=>by
   refine#[f,S,i+1,zJ,D,P.vh,T.keep _ _ _ B λb t o e=>(P.pin (b,o)^iL _^iL _^EQ t e).1,λb t=>?_,w9];let#[o, e,d]:=T.obj _ _ B b t;exact(P.pin (b,o)^iL _^iL _^EQ t e).2.1
  refine thn (ht _ s7 zM H7 _ I7 q7) λok s8 zz=>?_;let#[H8, I8,q8]:=zz;cases ok with
  |false=>
   have a2:∃f,f<n/\W (i+1) f zM H8:=q8;let#[f, S,w8]:=a2;show ∃m,m<n/\_;exact again I8 S w8
  |true=>
   refine thn (he _ s8 zM H8 _ I8 q8) λy F zz=>?_;let#[yv,D, P,ry,q9]:=zz;let#[E, hl,hz, f, S,w9]:=q9;refine thn (EA (X:=Av X sc N' h C s H a) _ F zM D (.ref l) [yv] (.ref l) [y] (λv c=>v=.non/\c=An D l^.lst (E++[yv])) P rfl (.cons ry .nil) #[l,E,yv,rfl,rfl,hl,hz,rfl,rfl]) λ_ sa zz=>?_;let#[v,Ha, Ia,_,_,eH]:=zz;subst eH;exact again Ia S w9
theorem Wo(Y:X.calm=r_)(N':t_ Str)(js:t_^u_ Nat)(hi:PI X tg iter wi)
  (hB:GZ sc X.env.scope X.N N' js=r_)
  (hs:∀x,foldedSetIterable iter X.env x=pure x:=by intro _; rfl):
  PE X (.ListComp elt [#[tg,iter,ifs,0]] sc pos) (TY X sc N' js tg elt ifs wi):=by
 intro S s Z H Q I h;have O:vq X sc N' js:=vq.of hB;let#[z, l,M,B]:=JZ (scope:=sc) (env:=X.env) λx hx=>I.ok.has x^O.free x hx;simp only[eval_ListComp];refine wpAny_comprehension_free (use:=q_) rfl hs l O.kind O.names (thn (hi S s Z H _ I h) λv s1 h1=>thn h1 λa0 c h2=>?_);let#[U,G,tn,J,H2, e,C,T,p,L,hq]:=h2;subst e
 have r:X.K.lookup c.heap.objs.size=q_:=by
  cases q:X.K.lookup c.heap.objs.size with
  |none=>rfl
  |some o=>exact absurd (Tk^C.kIn _ _ q)^jN _
 let#[g,tt,te,W, hg,ht,he,#[m0, w0],hW]:=hq c.heap.objs.size (C.hok.fresh^Re _) r z (c.heap.objs.size+1) c H2 G;refine jp^wpAny_newFunctionEnv O.cell (by intro y hy; simp at hy) (λf d a=>?_) O.kind
 dsimp only at d a ⊢
 generalize t:c.heap.push {cls:=.type "list",dict:=q_,data:=.seq ([]:t_ Ev).toArray}=Hh at d a ⊢;have i:Hh.objs.size=c.heap.objs.size+1:=by rw[←t,jV]
 have D:∀b∈G,b<c.heap.objs.size:=λb j=>by
  let#[o, e,_]:=T.obj _ _ p b j;exact Tk e
 have E:∀b o,c.heap.get? b=P3 o->f.get? b=P3 o:=λb o e=>a.extBut b o (by simp only[i]; exact iJ^kc^Tk e)^Go _ (t▸Go _ e);have hD:∃n,f.get? c.heap.objs.size=P3 {cls:=.type "list",data:=.seq #[] n}:=#[_,a.extBut _ _ (by simp only[i]; exact iJ^o_ _)^Go _ (t▸Uf _ rfl)]
 have I3:∀u,Inv (Av X sc N' z (c.heap.objs.size+1) c H2 G) [] (Cs js Z) (An H2 c.heap.objs.size^.lst []) {c with heap:=f,toks:=u}:=λu=>
  NX C Y O M B L (λb j=>let #[o,e,_]:=T.obj _ _ p b j; #[o,e]) (by rw[←i]; exact d) E hD
 have F:tn 0 f:=T.keep _ _ _ p λb j o e=>E b o e
 have P:∀b∈G,An H2 c.heap.objs.size (.lst []) b=q_:=λb j=>by
  rw[AH^iJ^D b j];exact(L b j).1
 have k:∀u,codeAny (model X.prog X.w) X.A (.compLoop (.ListComp elt [#[tg,iter,ifs,0]] sc pos) 0 (.ref U) (.ref c.heap.objs.size)^compEnvC sc z (c.heap.objs.size+1) X.env)
   (compPost (model X.prog X.w) X.A X.xe q_ (EP X S Z Q) (.ref c.heap.objs.size) (c.heap.objs.size+1)) {c with heap:=f,toks:=u}:=λu=>by
  refine Ku (W:=W) (m0:=m0) (Q:=Q) C L D (jT _) T hg ht he hW (λzZ H' s' V q'=>?_) (I3 u) F P w0;let#[m, hn,_]:=V.loc;exact#[m,hn,λh' R=>#[.ref _,H',JJ C L (jT _) V λb j=>R.2 b j,rfl,q']]
 rw[show(newEnv sc Hh.objs.size X.env.globals z X.env.qual q_ .none (P3 X.env) builtinsNs).locals=c.heap.objs.size+1 from i];show codeAny (model X.prog X.w) X.A (.compStart (.ListComp elt [#[tg,iter,ifs,0]] sc pos) 0 (.ref U) (.ref c.heap.objs.size)^compEnvC sc z (c.heap.objs.size+1) X.env) _ _;exact codeAny_compStart_list (k _)^T.self _ 0 _ _ _ F^k _
end
structure Fly (B:iG) (l:List Env) (a C:Db) (dx:Option Db) (h:iG):Prop where
 stays:B.StaysIn h
 new:B.get? a=q_
 frames:h.FunFrames B l
 obj:∃vs sl tb,h.get? a=P3 #[.ref C,dx,.fields vs,sl]/\vs[2]?=P3 .none/\vs[1]?=P3 tb/\(tb=.none\/∃T oT ts,tb=.ref T/\B.get? T=q_/\T≠a/\h.get? T=P3 oT/\oT.data=.fields ts/\3<ts.size)
section
variable {M:Model}{A:Around}{E:Value->Shared->Prop}{s:Shared}{B:Heap}{env:Env}{outer l:t_ Env}{L a C:Addr}{dx:u_ Addr}{Q:Unit->Shared->Prop}
theorem size_of{b:Array Ev}(h:b[i]?=P3 x):i<b.size:=(Array.getElem?_eq_some_iff.mp h).1
theorem Ko(t:A.frames=P3 (env::outer))(R:env.frame=P3 L)(m:s.heap.FunFrames B (env::outer))(S:B.StaysIn s.heap)(y:B.get? a=q_)
  (u:s.heap.get? a=P3 #[.ref C,dx,.fields d,r]) (T:d[1]?=P3 O) (D:d[2]?=P3 .none)
  (h:∀v,Fly B (env::outer) a C dx v->s.heap.UpToSlots v->Q () {s with heap:=v}):
  wpAny M A (do let f ←frameOf env; let n ←entryPlaceOf L P; let b ←qD g f .none (rawInt L) .none n; setField (.ref a) 1 b) Q E s:=by
 have F:=size_of T;have Y:=size_of D
 have U:a∉(env::outer).filterMap (·.frame):=λq=>by
  let#[ _, o, G,c]:=m.mem q;rw[u]at G;injection G with G;subst G;exact c d rfl
 refine Ch^wpAny_frameOf_fun t m R λk p=>?_;refine Ch^wpAny_entryPlaceOf λn w=>?_;delta qD newFields;refine Ch^jp ?_^w.sizeOk5 _ _ _ _ _;have H:k.get? a=P3 #[.ref C,dx,.fields d,r]:=(p.2.1 a U).trans u;have I:B.StaysIn k:=λb o q=>(p.2.1 b λz=>by rw[(m.mem z).1]at q; cases q).trans^S b o q;generalize i:({cls:=.type "traceback",dict:=q_,data:=.fields ([g,.ref L,.none,rawInt L,.none]++(if n.isEmpty then iN 6 ie else n)).toArray}:Obj)=ob;have J:(k.push ob).get? a=P3 #[.ref C,dx,.fields d,r]:=Go _ H;refine lJ J rfl F ?_;have K:k.objs.size≠a:=kR^Tk H;have V:=jy (kg (·.setIfInBounds 1^iF k.objs.size)) J rfl
 have W:((k.push ob).update a (kg (·.setIfInBounds 1^iF k.objs.size))).get? k.objs.size=P3 ob:=by
  rw[ii _ _^iz K];exact Uf k^by subst i; rfl
 have x:∀b o,b≠a->k.get? b=P3 o->((k.push ob).update a (kg (·.setIfInBounds 1^iF k.objs.size))).get? b=P3 o:=λb o X q=>by
  rw[ii _ _^iz X];exact Go _ q
 have N:∀b o,s.heap.get? b=P3 o->(∀d,o.data≠.fields d)->b≠a:=λb o q c z=>by
  rw[z,u]at q;injection q with q;subst q;exact c d rfl
 refine h _ #[λb o q=>x b o (λz=>by rw[z,y]at q; cases q)^I b o q,y,m.of_keeps λb o q c=>?_,_,_,_,V,?_,?_,.inr #[k.objs.size,ob,_,rfl,I.fresh,K,W,by subst i; rfl,?_]] λb o q c=>?_
 .let#[j,e]:=p.2.2 b o q
  exact#[_,x b _ (N b o q c) e,rfl]
 .rw[Array.getElem?_setIfInBounds_ne^by cbv]; exact D
 .simp[F]
 .simp only[iK,ZB,UF,jm]; lk
 .let#[j,e]:=p.2.2 b o q
  exact#[j,x b _ (N b o q c) e]
theorem Fly.mark(F:Fly B l a C dx s.heap)(m:s.heap.get? a=P3 #[.ref C,dx,.fields d,f])(n:d[1]?=P3^.ref T)(p:d[2]?=P3 .none)(r:B.get? T=q_)(i:T≠a)(t:s.heap.get? T=P3 g)
  (hd:g.data=.fields h) (v:3<h.size):Fly B l a C dx (s.heap.update T (kg (·.setIfInBounds 3 x)))/\s.heap.UpToSlots (s.heap.update T (kg (·.setIfInBounds 3 x)))/\(s.heap.update T (kg (·.setIfInBounds 3 x))).get? a=P3 #[.ref C,dx,.fields d,f]:=by
 have e:∀b,b≠T->(s.heap.update T (kg (·.setIfInBounds 3 x))).get? b=s.heap.get? b:=λb u=>ii _ _^iz u
 have j:∀b o,s.heap.get? b=P3 o->(∀d,o.data≠.fields d)->b≠T:=λb o q c z=>by
  simp_all
 have k:=(e a^iz i).trans m;refine#[#[λb o q=>(e b λz=>by simp_all).trans^F.stays b o q,F.new,F.frames.of_keeps λb o q c=>#[o,(e b^j b o q c).trans q,rfl],d,f,_,k,p,n,.inr #[T,_,_,rfl,r,i,jy _ t^nO^kr hd _,kr hd _,by simp_all]],λb o q c=>#[o.slots,(e b^j b o q c).trans q],k]
theorem Ft(F:Fly B l a C dx s.heap)(h:∀c,Fly B l a C dx c->s.heap.UpToSlots c->Q () {s with heap:=c}):wpAny M A (setFlight (.ref a) q_) Q E s:=by
 let#[q,r,t, d,j,e,k]:=F.obj;refine Ch (io d rfl e ?_)
 rcases k with rfl|⟨T,u,v,rfl,m,n,f,g,i⟩
 .exact Op^h _ F^qE _
 .let#[o,p,_]:=F.mark d e j m n f g i
  exact lJ f g i^h _ o p
theorem NZ(c:A.frames=P3 (env::outer))(g:env.frame=P3 L)(F:Fly B (env::outer) a C dx s.heap)
  (h:∀d,Fly B (env::outer) a C dx d->s.heap.UpToSlots d->Q () {s with heap:=d}):wpAny M A (noteFrame (.ref a) env) Q E s:=by
 let#[D,G,H, i,j,f,p]:=F.obj;unfold noteFrame;simp only[g];refine Ch (io i rfl f ?_)
 rcases p with rfl|⟨T,I,q,rfl,r,t,k,m,n⟩
 .rw[if_neg^by cbv]
  exact Ko c g F.frames F.stays F.new i f j h
 .rw[if_pos (show(iF T !=ie)=r_ by rfl)]
  obtain⟨x,u⟩:∃x,q[3]?=P3 x:=#[_,lC n];refine Ch^io k m u ?_
  by_cases e:(x==rawInt L)=r_
  .rw[if_pos e]
   exact Op^h _ F^qE _
  .rw[if_neg e]
   let#[ o,v,w]:=F.mark (x:=ie) i f j r t k m n;refine Ch^lJ k m n ?_;exact Ko c g o.frames o.stays o.new w f j λd y z=>h d y^v.trans z
theorem SD(d:A.frames=P3 (env::outer))(e:env.frame=P3 L)(F:Fly B (env::outer) a C dx s.heap)
  (h:∀c,Fly B (env::outer) a C dx c->s.heap.UpToSlots c->Q () {s with heap:=c}):wpAny M A (leaving env^.ref a) Q E s:=Ch^NZ d e F λc f g=>Ft f λi j k=>h i j^g.trans k
theorem Fly.tail(F:Fly B (env::outer) a C dx s.heap):Fly B outer a C dx s.heap:=#[F.stays,F.new,F.frames.2.2,F.obj]
end
section
variable {A:Around}{E:Value->Shared->Prop}{R:Result->Shared->Prop}{h:Heap}{g:Array GenState}{d:Drawn}{t:Nat}{os:OsState}
variable {nm q:Str}{C N f:Addr}{bs bm:t_ Value}{hdct:Bool}{sn:t_ Str}{sub:t_ Value}{ab:Bool}{col:u_ Bool}{dd:u_ Addr}{k0 k1 k2 k3 k5:u_ Value}{newId:String}
def Bq(C t:Db):Obj:={cls:=.ref C,data:=.fields #[ .ref t,.none,.none,.none,.bool s_,.none]}
def eA(x:Db)(R:Result->No->Prop)(r:Result)(a:No):Prop:=match r with
 |.ok (.ret v)=>v=.none/\R (.ok^.ret^.ref x) a
 |.ok _=>False
 |.error e=>R (.error e) a
theorem OY(hbase:bm.contains^.type "BaseException"=r_)(hh:A.handled=q_)
  (hx:wpAny M A x (λv s₁=>∃e dx vs sl,v=.ref e/\s₁.heap.get? C=P3^excClassObj nm q C N bs bm hdct sn sub ab col dd k0 k1 k2 k3 k5 newId /\
   s₁.heap.get? e=P3 #[.ref C,dx,.fields vs,sl]/\vs[1]?=P3 .none/\E (.ref e) s₁) E s):
  wpAny M A (raiseStmt env (P3 x) q_) Q E s:=by
 have hcB:(iF C::bm).contains^.type "BaseException"=r_:=by simp_all
 unfold raiseStmt;refine Ch^i8 hx (λv s₁ h₁=>?_) λ_ _ x=>x;let#[e,dx,vs,sl, rfl,hC,he,h1,hE]:=h₁
 repeat (first|omega|omega|(with_reducible refine je hC ?_; rw[hcB])|wp_step)
 rw[h1];refine Op ?_;exact Op^wpAny_raiseNew_none hh hE
theorem SG
  (hC:h.get? C=P3^excClassObj nm q C N bs bm hdct sn sub ab col dd k0 k1 k2 k3 k5 newId) (hD:h.get? D=P3^excClassObj nm' q' D N' bs' bmD hdct' sn' sub' ab' col' dd' l0 l1 l2 l3 l5 newId') (hbase:bmD.contains^.type "BaseException"=r_)
  (he:h.get? e=P3 oe) (hcls:oe.cls=.ref C) (hq:Q ((iF C::bm).contains^.ref D) #[h,g,d,t,os]):wpAny M A (excMatches (.ref e)^.ref D) Q E #[h,g,d,t,os]:=by
 have hcB:(iF D::bmD).contains^.type "BaseException"=r_:=by simp_all
 have f:=tc_notTuple;generalize hb:(iF C::bm).contains^.ref D=b at hq;unfold excMatches
 repeat (first|(with_reducible refine jP he ?_; rw[hcls])|omega|(with_reducible refine je hD ?_; rw[hcB])|wp_step)
 refine je hC ?_;rw[hb];cases b <;>(wp_walk; exact hq)
end
def C_:t_ Ev:=[.type "ValueError",.type "Exception",.type "BaseException",.type "object"]
structure XC (K:Frag) (nm:Str) (C U:Db):Prop where
 obj:∃q N bs sn sub ab col dd k0 k1 k2 k3 k5,K.lookup C=P3 (excClassObj nm q C N bs (.ref U::C_) r_ sn sub ab col dd k0 k1 k2 k3 k5 "ValueError.__new__")
 up:∃q N bs sn sub ab col dd k0 k1 k2 k3 k5 hd,K.lookup U=P3 (excClassObj "ThinError" q U N bs C_ hd sn sub ab col dd k0 k1 k2 k3 k5 "ValueError.__new__")
 kp:keepIn K^.ref C=r_
 ga:PySem.W.findIn K (.ref C) "__getattribute__"=P3 (P3^.builtin "BaseException.__getattribute__")
 gt:PySem.W.findIn K (.ref C) "__getattr__"=P3 q_
 sa:PySem.W.findIn K (.ref C) "__setattr__"=P3 (P3^.builtin "object.__setattr__")
 at_:nsIn K mainGlobals nm=P3 (P3^.ref C)
 atU:nsIn K mainGlobals "ThinError"=P3 (P3^.ref U)
 ca:PySem.W.findIn K (.ref C) "__class__"=P3 (P3^.builtin "object.__class__")
 nw:PySem.W.findIn K (.ref C) "word"=P3 q_
 nn:PySem.W.findIn K (.ref C) "number"=P3 q_
 nr:PySem.W.findIn K (.ref C) "row"=P3 q_
section
variable {prog:Program}{w:World}{A:Around}{E:Value->Shared->Prop}{s:Shared}{K:Frag}{nm name:Str}{x C U:Addr}{v:Value}{R:Result->Shared->Prop}
theorem XC.cls(c:XC K nm C U):∃a,PySem.W.clsIn K C=P3 a/\a.mro=.ref C::.ref U::C_/\a.hasDict=r_/\a.name=nm:=by
 let#[q,N,f,g,b,h,d,i,j,k,l,m,n,e]:=c.obj;refine#[_,by unfold PySem.W.clsIn; rw[e],rfl,rfl,rfl]
theorem QF(X:K.In s.heap)(c:XC K nm C U)(I:PySem.W.InstAt s.heap x n C od)(o:PySem.W.findIn K (.ref C) name=P3 q_)
  (h:∀b,wpAny (model prog w) A.in1 (Builtin.ObjectAttr.storeInOwnDict (.ref x) (.ref C) (.str name d) name v b)
   (λi g=>match i with|.done f=>R (.ok f) g|.again c'=>c'.quiet=r_/\codeAny (model prog w) A c' R g) (λe g=>R (.error e) g) s):
  codeAny (model prog w) A (.call (.builtin "object.__setattr__") #[[.ref x,.str name d,v],[]]) R s:=by
 have a:=PySem.F.store_ValueError;let#[p, l,m,_]:=c.cls;have j:PySem.W.Looks (model prog w) s.heap (isInstance (.ref x)^.type "object") r_:=I.type.andThen (PySem.W.looks_mroIn X^by unfold PySem.W.mroIn; rw[l,Option.bind_some,m]; rfl);refine nX a.slot.plain a.entry^@PySem.W.check_slot (model prog w) _ _ s "object.__setattr__" "object" "__setattr__" (.ref x) [.str name d,v] [] _ a.kind a.split j (a.args (.ref x) (.str name d) v) ?_;have k:PySem.W.Looks (model prog w) s.heap (mroOf^.ref C) p.mro:=(PySem.W.looks_clsIn X l).andThen .now;rw[PySem.W.osa_eq,refuse_eq];refine Ch^Ch^I.type.here^Ch^k.here ?_;rw[m,refuseLoop_ref,refuseLoop_ref,show refuseLoop (.ref x) "__setattr__" C_=pure ()from a.passes _];exact Op^Ch^I.type.here^Ch^(PySem.W.looks_findIn X o).here^Ch^Op^h _
theorem Tg(X:K.In s.heap)(c:XC K nm C U)(hx:s.heap.get? x=P3 #[.ref C,q_,.fields f,g])(r:PySem.W.findIn K (.ref C) name=P3 q_)
  (h:∀d t,d.get? x=P3 #[.ref C,P3 s.heap.objs.size,.fields f,g]->d.Ns1 s.heap.objs.size (λy=>if y=name then P3 v else q_)->(∀b o,b≠x->s.heap.get? b=P3 o->d.get? b=P3 o)->Q () {s with heap:=d,toks:=t}):
  wpAny (model prog w) A (setAttr (.ref x) name v) Q E s:=by
 let#[M, u,N,z,_]:=c.cls;have J:PySem.W.InstAt s.heap x #[.ref C,q_,.fields f,g] C q_:=#[hx,rfl,rfl,trivial];refine PySem.W.set_plain X J c.sa^QF (s:={s with toks:=s.toks+1}) X c J r λb=>?_;refine Ch^Op^Ch^Ch^wpAny_loadPart hx^Ch^PySem.W.Looks.here (s:={s with toks:=s.toks+1}) (PySem.W.looks_clsIn X u) ?_;rw[z];have i:(s.heap.push {cls:=.type "dict",data:=.dict #[]}).get? x=P3 #[.ref C,q_,.fields f,g]:=Go _ hx;have n:x≠s.heap.objs.size:=iJ^Tk hx;show wpAny _ _ (alloc _ >>=_) _ _ _;refine Ch^wpAny_alloc^Ch^wpAny_update i^Op ?_;generalize a:((s.heap.push {cls:=.type "dict",data:=.dict #[]}).update x λo=>{cls:=o.cls,dict:=P3 s.heap.objs.size,data:=o.data,slots:=o.slots})=hh
 have B:hh.get? s.heap.objs.size=P3 {cls:=.type "dict",data:=.dict #[]}:=by
  rw[←a,Heap.get?_update_ne _ _ _ _ n.symm];exact Uf _ rfl
 have D:hh.get? x=P3 #[.ref C,P3 s.heap.objs.size,.fields f,g]:=by
  rw[←a];exact jy _ i rfl
 have F:∀b o,b≠x->s.heap.get? b=P3 o->hh.get? b=P3 o:=λb o j e=>by
  rw[←a,Heap.get?_update_ne _ _ _ _ j];exact Go _ e
 have G:hh.Ns s.heap.objs.size (λ_=>q_):=#[_,#[],_,B,rfl,λe H=>absurd H^by simp,λ_=>rfl];show wpAny _ _ (nY s.heap.objs.size _ name v) _ _ _;delta nY Builtin.ObjectAttr.newKeyGuard;refine Ch^Op^Ch^wpAny_nsSet1 (Heap.Ns1.of_empty G) λd p q=>?_;let#[O,I,L, k,l,m]:=p.count^PySem.Within.cons name v PySem.Within.nil;refine Ch^wpAny_lookBehind k (by rw[l]; exact pastItsLine_dict^iU m^by simp only[UF,jm,jJ]; lk) ?_;refine Op^h d _ ((q.2 x n).trans D) p λb o j e=>(q.2 b^iJ^Tk e).trans^F b o j e
theorem Tf(X:K.In s.heap)(c:XC K nm C U)(hx:s.heap.get? x=P3 #[.ref C,P3 d,.fields k,l])(n:s.heap.Ns1 d f)(q:PySem.Within f m)(r:m.length<=sizeLine)(t:PySem.W.findIn K (.ref C) name=P3 q_)
  (h:∀e u,e.Ns1 d (λy=>if y=name then P3 v else f y)->kQ d s.heap e->Q () {s with heap:=e,toks:=u}):
  wpAny (model prog w) A (setAttr (.ref x) name v) Q E s:=by
 let#[I, z,L,B,_]:=c.cls;let#[o,_,_, D,_]:=id n;have J:PySem.W.InstAt s.heap x #[.ref C,P3 d,.fields k,l] C^P3 o:=#[hx,rfl,rfl,D];refine PySem.W.set_plain X J c.sa^QF (s:={s with toks:=s.toks+1}) X c J t λb=>?_;refine Ch^Op^Ch^Ch^wpAny_loadPart hx^Ch^PySem.W.Looks.here (s:={s with toks:=s.toks+1}) (PySem.W.looks_clsIn X z) ?_;rw[B];refine Op (a:=P3 d)^Ch^Op^Ch ?_;refine wpAny_nsSet1 (s:={s with toks:=s.toks+1}) n λe p F=>?_;let#[M,G,H, g,i,j]:=p.count^PySem.Within.cons name v q;refine Ch^wpAny_lookBehind g (by rw[i]; exact pastItsLine_dict^iU j^by simp only[UF]; lk) ?_;exact Op^h _ _ p F
end
section
variable {M:Model}{prog:Program}{w:World}{A:Around}{E:Value->Shared->Prop}{R:Result->Shared->Prop}{h:Heap}{g:Array GenState}{d:Drawn}{t:Nat}{os:OsState}
variable {K:Frag}{nm q:Str}{C U N f:Addr}{bs:t_ Value}{sn:t_ Str}{sub:t_ Value}{ab:Bool}{col:u_ Bool}{dd:u_ Addr}{k0 k1 k2 k3 k5:u_ Value}{rest:t_ Value}
theorem Qm(hC:h.get? C=P3^excClassObj nm q C N bs (.ref U::C_) r_ sn sub ab col dd k0 k1 k2 k3 k5 "ValueError.__new__")
  (hq:Q () #[h,g,d,t,os]):wpAny M A (checkBuiltinCall "ValueError.__new__" #[.ref C::rest,[]]) Q E #[h,g,d,t,os]:=by
 have F:=PySem.F.excBase_ValueError;have hcont:(iF C::.ref U::C_).contains^.type "ValueError"=r_:=by grind[C_]
 have hstar:=F.noStar;simp only[checkBuiltinCall,F.newKind,F.newSplit,F.newRow]
 repeat (first|refine jP hC ?_|(refine je hC ?_; rw[hcont])|refine wpAny_staticBase_exc hC ?_|refine pA hC ?_|grind only[bne_self_eq_false,jR,if_false]|wp_step)
 exact hq
theorem QT(hC:h.get? C=P3^excClassObj nm q C N bs (.ref U::C_) r_ sn sub ab col dd k0 k1 k2 k3 k5 "ValueError.__new__")
  (hq:R (.ok^.ret^.ref (h.objs.size+1)) #[(h.push {cls:=.type "tuple",data:=.seq rest.toArray}).push^Bq C h.objs.size,g,d,t,os]) (hrest:rest.length<=sizeLine):
  codeAny (model prog w) A (.builtin "ValueError.__new__" #[.ref C::rest,[]]) R #[h,g,d,t,os]:=by
 have F:=PySem.F.excBase_ValueError;have hends:=F.ends;have hcB:(iF C::.ref U::C_).contains^.type "ValueError"=r_:=by simp[C_]
 have hcA:(iF C::.ref U::C_).contains^.type "AttributeError"=s_:=by simp[C_]
 have hcN:(iF C::.ref U::C_).contains^.type "NameError"=s_:=by simp[C_]
 refine codeAny_builtinAt F.entry ?_;unfold j9.«BaseException.__new__»;refine PySem.wpAt_bind ?_;show PySem.wpAt _ _ _ (stack >>=_) _ _ _;refine PySem.wpAt_bind^PySem.wpAt_stack λp below=>wpAt_of_wpAny ?_
 wp_walk
 refine wpAt_of_wpAny ?_;rw[F.owner]
 repeat (first|with_reducible refine wpAny_madeHere_exc F.canon hC ?_|with_reducible refine jP hC ?_|(with_reducible refine je hC ?_; first|rw[hcB]|rw[hcA]|rw[hcN])|wp_step)
 show R _ _;rw[jV];exact hq
theorem Vj(hC:h.get? C=P3^excClassObj nm q C N bs (.ref U::C_) r_ sn sub ab col dd k0 k1 k2 k3 k5 "ValueError.__new__")(he:h.get? e=P3 oe)(hcls:oe.cls=.ref C)(hq:Q () #[h,g,d,t,os]):
  wpAny M A (checkBuiltinCall "ValueError.__init__" #[.ref e::rest,[]]) Q E #[h,g,d,t,os]:=by
 have F:=PySem.F.excBase_ValueError;have hcB:(iF C::.ref U::C_).contains^.type "ValueError"=r_:=by grind[C_]
 have hshort:=F.noStar;simp only[checkBuiltinCall,F.initKind,F.initSplit,F.initRow]
 repeat (first|(with_reducible refine jP he ?_; rw[hcls])|with_reducible refine jP hC ?_|(with_reducible refine je hC ?_; rw[hcB])|wp_step)
 refine nC ?_
 rw[show ∀(a b:String) (n:Nat),Bind.check #[.positional,"*","ValueError",.self,[#["args",.varPos,s_]]] a b n^List.map (λx=>x.fst) ({pos:=iF e::rest}:Args).kw=pure ()from
  λa b n=>check_star_args _ _ _ _ _ _]
 exact Op hq
theorem VF(X:K.In h)(c:XC K nm C U)(hi:PySem.W.findIn K (.ref C) "__init__"=P3^P3^.ref f)(hf:PySem.W.typeIn K^.ref f=P3^.type "function")(hrest:rest.length<=sizeLine)
  (hq:codeAny (model prog w) (A.under^.builtin "type.__call__" #[.ref C::rest,[]]) (.call (.ref f) #[.ref (h.objs.size+1)::rest,[]]) (eA (h.objs.size+1) R) #[(h.push {cls:=.type "tuple",data:=.seq rest.toArray}).push^Bq C h.objs.size,g,d,t,os]):
  codeAny (model prog w) A (.call (.ref C) #[rest,[]]) R #[h,g,d,t,os]:=by
 have F:=PySem.F.excBase_ValueError;let#[q,N,bs,sn,sub,ab,col,dd,k0,k1,k2,k3,k5,eC]:=c.obj;have hC:=X _ _ eC;have f1:=tc_lookup;have f2:=tc_bind^.ref C;have hT:(#[h,g,d,t,os]:No).TypeIs (.ref C) "type":=#[_,hC,rfl];refine pO ?_;show wpAny _ _ (callAny (.ref C) _) _ _ _
 repeat (any_goals (first|assumption|with_reducible refine jP hC ?_|wp_step))
 refine#[rfl,?_];refine codeAny_call_builtin_at (lY _^by decide +kernel) entry_typeCall^wpAny_check_type_call_sub hC ?_
 repeat (first|with_reducible refine jP hC ?_|with_reducible refine pA hC ?_|wp_step)
 refine codeAny_call_builtin_code (lY _ F.quiet)^Qm hC ?_;refine QT hC ?_ hrest;show wpAny _ _ _ _ _ _;have kk:∀b o,h.get? b=P3 o->((h.push {cls:=.type "tuple",data:=.seq rest.toArray}).push^Bq C h.objs.size).get? b=P3 o:=λb o e=>Go _^Go _ e;have hC₁:=kk _ _ hC;have hget:((h.push {cls:=.type "tuple",data:=.seq rest.toArray}).push^Bq C h.objs.size).get? (h.objs.size+1)=P3^Bq C h.objs.size:=by unfold Bq; heap_get
 have hcC:(iF C::iF U::C_).contains^.ref C=r_:=by simp
 unfold isInstance;unfold Bq at *
 repeat (first|with_reducible refine jP hget ?_|(with_reducible refine je hC₁ ?_; rw[hcC])|wp_step)
 show wpAny _ _ (isSubtype (.ref C)^.ref C) _ _ _;refine je hC₁ ?_;rw[hcC,if_neg^by cbv];refine Ch^i6 ?_;delta callSpecial? specialOf
 repeat (first|with_reducible refine jP hget ?_|wp_step)
 show wpAny _ _ (typeLookup (.ref C) _) _ _ _;refine(PySem.W.looks_findIn (X.keeps kk) hi).here ?_;refine i6^Ch^(PySem.W.bind_fn (X.keeps kk) _ hf).here ?_;refine Ch^mH^l_ hq λr s' z=>?_
 rcases r with e|(v|_|_|_) <;>first|exact z|exact z.elim|skip
 let#[rfl,z]:=z;exact Op^Op z
theorem SH(X:K.In h)(c:XC K nm C U)(hi:PySem.W.findIn K (.ref C) "__init__"=P3^P3^.builtin "ValueError.__init__")(hrest:rest.length<=sizeLine)
  (hq:∀h',(∀b o,h.get? b=P3 o->h'.get? b=P3 o)->h'.get? (h.objs.size+1)=P3^Bq C (h.objs.size+2)->R (.ok^.ret^.ref (h.objs.size+1)) #[h',g,d,t,os]):
  codeAny (model prog w) A (.call (.ref C) #[rest,[]]) R #[h,g,d,t,os]:=by
 have F:=PySem.F.excBase_ValueError;let#[q,N,bs,sn,sub,ab,col,dd,k0,k1,k2,k3,k5,eC]:=c.obj;have hC:=X _ _ eC;have f1:=tc_lookup;have f2:=tc_bind^.ref C;have hT:(#[h,g,d,t,os]:No).TypeIs (.ref C) "type":=#[_,hC,rfl];refine pO ?_;show wpAny _ _ (callAny (.ref C) _) _ _ _
 repeat (any_goals (first|assumption|with_reducible refine jP hC ?_|wp_step))
 refine#[rfl,?_];refine codeAny_call_builtin_at (lY _^by decide +kernel) entry_typeCall^wpAny_check_type_call_sub hC ?_
 repeat (first|with_reducible refine jP hC ?_|with_reducible refine pA hC ?_|wp_step)
 refine codeAny_call_builtin_code (lY _ F.quiet)^Qm hC ?_;refine QT hC ?_ hrest;show wpAny _ _ _ _ _ _;have kk:∀b o,h.get? b=P3 o->((h.push {cls:=.type "tuple",data:=.seq rest.toArray}).push^Bq C h.objs.size).get? b=P3 o:=λb o e=>Go _^Go _ e;have hC₁:=kk _ _ hC;have hget:((h.push {cls:=.type "tuple",data:=.seq rest.toArray}).push^Bq C h.objs.size).get? (h.objs.size+1)=P3^Bq C h.objs.size:=by unfold Bq; heap_get
 have hcC:(iF C::iF U::C_).contains^.ref C=r_:=by simp
 unfold isInstance;unfold Bq at *
 repeat (first|with_reducible refine jP hget ?_|(with_reducible refine je hC₁ ?_; rw[hcC])|wp_step)
 show wpAny _ _ (isSubtype (.ref C)^.ref C) _ _ _;refine je hC₁ ?_;rw[hcC,if_neg^by cbv];refine Ch^i6 ?_;delta callSpecial? specialOf
 repeat (first|with_reducible refine jP hget ?_|wp_step)
 show wpAny _ _ (typeLookup (.ref C) _) _ _ _;refine(PySem.W.looks_findIn (X.keeps kk) hi).here ?_;refine i6^Ch^pX (F.init.bind _) ?_;refine Ch^mH^nX F.init.plain F.initEntry (Vj hC₁ hget rfl ?_)
 wp_walk
 refine hq _ (λb o e=>?_) ?_
 .rw[ii _ _^kR^kc^Tk e]
  exact Go _^kk b o e
 .refine(jy (kg (·.setIfInBounds 0^iF _)) (Go _ hget) rfl).trans ?_
  simp only[jV];rfl
end
structure CXD (P:iP) (w:iZ) (outer:List Env) (H:Hp) (s:No) (a C:Db) (dx:Option Db) (B:iG) (H':Hp) (s':No):Prop where
 os:s'.os=s.os
 bare:l8 s'.gens
 un:Un (Kl outer) [] H H' s.heap s'.heap
 hok:HOk P w H' B
 all:∀b o o',s.heap.get? b=P3 o->b∉Kl outer->s'.heap.get? b=P3 o'->B.get? b=P3 o'
 fly:Fly B outer a C dx s'.heap
 new:s.heap.objs.size<=a
 free:H' a=q_
def Si(P:iP)(w:iZ):Sn:=λb H s E e f=>∃a C c B d,e=.ref a/\CXD P w b H s a C c B d f/\E (.ref C) c d
section
variable {P:Program}{w:World}{outer:t_ Env}{H H':Hp}{s s':Shared}{a C:Addr}{dx:u_ Addr}{B h':Heap}
theorem CXD.step(x:CXD P w outer H s a C dx B H' s')(F:Fly B outer a C dx h')(u:s'.heap.UpToSlots h'):CXD P w outer H s a C dx B H' {s' with heap:=h'}:=by
 have fr:∀b∈Kl outer,∃o,s'.heap.get? b=P3 o/\∀k,o.data≠.fields k:=λb c=>(x.fly.frames.mem c).2;refine#[x.os,x.bare,#[λb o e n c d=>F.stays _ _^x.all b o o e c^x.un.keep b o e n c d,λb o e n c d=>?_,x.un.free,λb o e d=>?_,x.un.vj,x.un.vF,x.un.vR],x.hok,λb o j e c q=>?_,F,x.new,x.free]
 .let#[p,q]:=x.un.slot b o e n c d
  let#[j, f,h]:=fr b c;rw[q]at f;injection f with f;subst f;let#[i,l]:=u b _ q h
  grind
 .let#[g,q]:=x.un.there b o e d
  by_cases c:b∈Kl outer
  .let#[j,f,h]:=fr b c
   let#[i, l]:=u b _ f h
   grind
  .exact#[g,F.stays _ _^x.all b o g e c q]
 .let#[g,m]:=x.un.there b o e^by simp
  have z:=x.all b o g e c m;simp only[F.stays _ _ z]at q
  simp_all
end
section
variable {X:Cx}{zH:t_ (Addr×Obj)}{Z:St}{H H':Hp}{s s':Shared}{a C:Addr}{dx:u_ Addr}{B:Heap}
theorem CXD.inv(x:CXD X.prog X.w X.stack H s a C dx B H' s')(I:Inv X zH Z H s):Inv X zH Z H' s':=
 I.call' x.os x.un (x.hok.kept x.fly.stays) x.bare λb z=>absurd z^by simp
theorem CXD.leave(x:CXD X.prog X.w X.stack H s a C dx B H' s')(I:Inv X zH Z H s)(c:X.stack=X.env::X.outer)(f:X.ex=[]):CXD X.prog X.w X.outer X.H₀ X.s₀ a C dx B H' s':=by
 have J:=x.inv I;have d:=x.fly;rw[c]at d;refine#[J.os,J.bare,by have z:=J.base; simp_all,x.hok,λb o g e h q=>?_,d.tail,iU I.sz x.new,x.free];let#[i, j]:=I.base.there b o e (by simp_all);refine x.all b i g j (λz=>?_) q
 rcases TW.mp^I.vA b z with z|z
 .exact absurd (Tk e)^by rw[z]; exact nW.mpr I.ok.above
 .exact h z
theorem Mw{K:Frag}:
  F1 (Si P w) (Ef (Si P w) P w K j d N g b f k A c h i E) E:=by
 intro zH Z H s e s' I #[a,C,dx,B,H',l,x,q];subst l;exact SD I.ok.frames rfl x.fly λn m u=>#[a,C,dx,B,H',rfl,(x.step m u).leave I rfl rfl,q]
theorem Ws{K:Frag}:
  nL (model P w) (Ef (Si P w) P w K i d N e b f j A c g h E).A (Ef (Si P w) P w K i d N e b f j A c g h E).env (Ef (Si P w) P w K i d N e b f j A c g h E).xe:=by
 passes_own
end
def XO(a C:Db)(c:u_ Db)(h:iG):Prop:=∃b d,h.get? a=P3 #[.ref C,c,.fields b,d]/\b[2]?=P3 .none/\b[1]?=P3 .none
def XF(d:Db)(fs:t_ (Str×V))(h:iG):Prop:=∃a,h.Ns1 d a/\(∀f,vS (fs.lookup f)^a f)/\PySem.Within a (fs.map (·.1))/\fs.length<=1000
theorem XO.ok(x:XO a C b h):qU P w H h a^.ext^XO a C b:=by
 refine#[x,?_,λf g #[c,d,e,r] k=>#[c,d,k _ e,r]];let#[c,d, e,_]:=x
 simp_all
theorem XF.ok(x:XF d a h):qU P w H h d^.ext^XF d a:=by
 refine#[x,?_,λc f #[b,e,r] k=>#[b,e.at k,r]];let#[b, #[o,_,_, e,_],_]:=x
 simp_all
section
variable {X:Cx}{zH:t_ (Addr×Obj)}{Z:St}{H:Hp}{s:Shared}{a C U:Addr}{nm f:Str}{A:Around}{E:Value->Shared->Prop}
theorem Te(I:Inv X zH Z H s)(e:H a=P3^.ext^XO a C q_)(c:XC X.K nm C U)(n:MJ X.K C f)(M:RelV y u)
  (h:∀d B,H d=q_->d≠a->Inv X zH Z (An (An H d^.ext^XF d [(f,y)]) a^.ext^XO a C^P3 d) B->Q () B):wpAny (model X.prog X.w) A (setAttr (.ref a) f u) Q E s:=by
 let#[ #[N,O, D,P,R],_]:=(show qU X.prog X.w H s.heap a _ from I.hok a _ e);refine Tg I.kIn c D n λh' t' F S l=>?_;have G:H s.heap.objs.size=q_:=I.hok.fresh^Re _;have T:s.heap.objs.size≠a:=kR^Tk D;have lt:∀{b:Db}{o:Obj},s.heap.get? b=P3 o->b≠s.heap.objs.size:=λ{b o} q=>iJ^Tk q;have p:∀{b:Db},H b=q_->b≠a:=λ{b} q z=>by rw[z,e]at q; cases q
 have of:∀{b:Db}{u:HO},H b=P3 u->(∀j,u≠.ext j)->An (An H s.heap.objs.size^.ext^XF s.heap.objs.size [(f,y)]) a (.ext^XO a C^P3 s.heap.objs.size) b=P3 u:=λ{b u} q W=>by
  rw[AH (λz=>by rw[z,e]at q; exact W _ (iA q).symm),AH λz=>by simp only[z,G]at q; cases q]; exact q
 refine h s.heap.objs.size _ G T^I.un (h':=h') (t':=t') #[λb o q n _ _=>l b o (p n) q,λb o q n _ _=>#[o.slots,l b o (p n) q],λb o q n _=>?_,λb o q _=>?_,λb J q=>of q (by intro j z; cases z),λb o J q=>of q (by intro j z; cases z),λb ps q=>#[#[],by rw[of q^by intro j z; cases z]; rfl]] ?_
 .rw[AH^p n,AH^lt q]; exact n
 .by_cases z:b=a
  .rw[z]; exact#[_,F]
  .exact#[o,l b o z q]
 .intro b o q
  by_cases z:b=a
  .subst z
   rw[AQ]at q;injection q with q;subst q;exact XO.ok #[N,O,F,P,R]
  .rw [AH z]at q
   by_cases L:b=s.heap.objs.size
   .subst L
    rw[AQ]at q;injection q with q;subst q;refine XF.ok #[_,S,λg=>?_,λg Y=>?_,by simp]
    .by_cases i:g=f
     .rw[if_pos i]
      have t:(g==f)=r_:=beq_iff_eq.mpr i;simp only[mR,t];exact M
     .rw[if_neg i]
      have t:(g==f)=s_:=beq_eq_false_iff_ne.mpr i;simp only[mR,t];trivial
    .by_cases i:g=f
     .simp[i]
     .exact absurd (if_neg i) Y
   .rw[AH L]at q
    refine(I.hok b o q).vL (λx v m r=>l x v ?_ r) (λx r=>of r^by intro j z; cases z) λx J r=>of r^by intro j z; cases z
    rcases m with rfl|m
    .exact z
    .intro zz; simp only[zz,e]at m; cases m
theorem Td(I:Inv X zH Z H s)(e:H a=P3^.ext^XO a C^P3 d)(k:H d=P3^.ext^XF d i)(c:XC X.K nm C U)(n:MJ X.K C f)(v:RelV y u)(O:i.length<1000)
  (h:∀l,Inv X zH Z (An H d^.ext^XF d^Ec f y i) l->Q () l):wpAny (model X.prog X.w) A (setAttr (.ref a) f u) Q E s:=by
 let#[ #[P,R, B,S,T],_]:=(show qU X.prog X.w H s.heap a _ from I.hok a _ e);let#[ #[m, D,r,p,_],_]:=(show qU X.prog X.w H s.heap d _ from I.hok d _ k);refine Tf I.kIn c B D p (by simp only[FM,jJ]; lk) n λF W t G=>h _ ?_;have J:∃o,F.get? d=P3 o:=let #[o,_,_,L,_]:=t; #[o,L]
 refine I.write (x:=d) (e:=d) (by simp only[k]; exact kT) (.inl rfl) (λb q M z=>(G.2 b M).trans z) J^XF.ok #[_,t,λg=>?_,λg N=>?_,?_]
 .show vS ((Ec f y i).lookup g) (if g=f then P3 u else m g)
  rw[HL]
  by_cases q:g=f
  .rw[if_pos q,if_pos q]; exact v
  .rw[if_neg q,if_neg q]; exact r g
 .by_cases q:g=f
  .rw[q]; exact(G3 f y i).1
  .refine(G3 f y i).2 g^p g λz=>N ?_
   show(if g=f then P3 u else m g)=q_;rw[if_neg q]; exact z
 .have:=HM f y i; lk
end
def gs(C:Db)(b c:TE)(f:Str):TS:=λD Z H=>c Z H λy e=>b Z e λx H2=>∃a,x=.ref a/\H2 a=P3^.ext^XO a C q_/\∀d,H2 d=q_->d≠a->D.nx Z^An (An H2 d^.ext^XF d [(f,y)]) a^.ext^XO a C^P3 d
def gq(C:Db)(c e:TE)(f:Str):TS:=λD Z H=>e Z H λy g=>c Z g λx H2=>∃a d b,x=.ref a/\H2 a=P3^.ext^XO a C^P3 d/\H2 d=P3^.ext^XF d b/\b.length<1000/\D.nx Z^An H2 d^.ext^XF d^Ec f y b
section
variable {X:Cx}{o value:Expr}{nm f:Str}{C U:Addr}{pos pos':Pos}{ta tv:TE}
theorem cZ(c:XC X.K nm C U)(n:MJ X.K C f)(e:PE X o ta)(g:PE X value tv)(i:swapsWith value (P3^.Attribute o f pos') pos.line X.env=pure s_):PS X (.Assign [.Attribute o f pos'] value pos)^gs C ta tv f:=by
 intro B s Z H D I h;refine nS (thn (g _ s Z H _ I h) λu j zz=>?_) i;let#[y,k, l,m,q]:=zz;refine thn (e _ j Z k _ l q) λp E zz=>?_;let#[x,H2, r,t, a, ex,v,w]:=zz;subst ex;obtain rfl:p=iF a:=t;exact Te r v c n m λd F z b A=>#[Z,_,A,w d z b]
theorem cY(c:XC X.K nm C U)(n:MJ X.K C f)(b:PE X o ta)(e:PE X value tv)(g:swapsWith value (P3^.Attribute o f pos') pos.line X.env=pure s_):PS X (.Assign [.Attribute o f pos'] value pos)^gq C ta tv f:=by
 intro B s Z H D I h;refine nS (thn (e _ s Z H _ I h) λu i zz=>?_) g;let#[y,j, k,m,q]:=zz;refine thn (b _ i Z j _ k q) λp E zz=>?_;let#[x,H2, r,t, a,d,F, ex,v,w,l,z]:=zz;subst ex;obtain rfl:p=iF a:=t;exact Td r v w c n m l λG A=>#[Z,_,A,z]
end
def del(H:Hp)(a:Db):Hp:=λb=>if b=a then q_ else H b
theorem JV(h:b≠a):del H a b=H b:=if_neg h
theorem E6:del H a a=q_:=if_pos rfl
section
variable {X:Cx}{zH:t_ (Addr×Obj)}{Z:St}{H H1:Hp}{s s1:Shared}{a C:Addr}{dx:u_ Addr}
theorem dB(I:Inv X zH Z H s)(A:s1.os=s.os)(f:l8 s1.gens)(u:Un (Kl X.stack) [] H H1 s.heap s1.heap)(h:HOk X.prog X.w H1 s1.heap)(k:H1 a=P3^.ext^XO a C dx)(i:s.heap.objs.size<=a):
  CXD X.prog X.w X.stack H s a C dx (PySem.W.hideAll s1.heap (a::Kl X.stack)) (del H1 a) s1:=by
 have J:Inv X zH Z H1 s1:=I.call' A u h f λb z=>absurd z (by simp);have E:∀{b:Db}{u:HO},H1 b=P3 u->(∀g,u≠.ext g)->b≠a:=λ{b u} q p z=>by rw[z,k]at q; exact p _ (iA q).symm
 have of:∀{b:Db}{u:HO},H1 b=P3 u->(∀g,u≠.ext g)->del H1 a b=P3 u:=λq p=>(JV^E q p).trans q;have B:∀{b:Db}{u:HO},H1 b=P3 u->b∉Kl X.stack:=λ{b u} q z=>by rw[J.kS b z]at q; cases q
 let#[ #[F,G, t,K,L],_]:=(show qU X.prog X.w H1 s1.heap a _ from h a _ k);refine#[A,f,#[u.keep,u.slot,λb o q n t=>?_,u.there,λb j q=>of (u.vj b j q) (by intro g z; cases z),λb o j q=>of (u.vF b o j q) (by intro g z; cases z),λb M q=>?_],λb o q=>?_,λb o P q x N=>?_,#[λb o q=>PySem.W.of_hideAll _ q,PySem.W.hideAll_none _^by simp,PySem.W.funFrames_hide J.stack λy O b x=>?_,F,G,.none,t,K,L,.inl rfl],i,E6]
 .by_cases z:b=a
  .rw[z]; exact E6
  .rw[JV z]; exact u.free b o q n t
 .let#[m,e]:=u.vR b M q
  exact#[m,of e^by intro g z; cases z]
 .have D:b≠a:=λz=>by rw[z,E6]at q; cases q
  rw[JV D]at q;refine(h b o q).vL (λc v d r=>PySem.W.hideAll_get _ r λz=>?_) (λc r=>of r^by intro g z; cases z) λc j r=>of r^by intro g z; cases z
  rcases TW.mp z with z|z
  .rcases d with d|d
   .exact D^d.symm.trans z
   .rw[z,k]at d; cases d
  .rcases d with d|d
   .exact B q (d▸z)
   .exact B d z
 .refine PySem.W.hideAll_get _ N λz=>?_
  rcases TW.mp z with z|z
  .exact absurd (Tk q)^by rw[z]; exact nW.mpr i
  .exact x z
 .exact TM _^oJ.mpr #[y,O,x]
end
def XS(X:Cx)(a:t_ (Db×Obj))(Z:St)(R:XK)(e:Ev)(b:No):Prop:=∃H s,Inv X a Z H s/\Si X.prog X.w X.stack H s R e b
def Made(X:Cx)(e:t_ (Db×Obj))(Z:St)(C:Db)(R:XK)(v:Ev)(b:No):Prop:=∃a d H s c,v=.ref a/\Inv X e Z H s/\b.os=s.os/\l8 b.gens/\Un (Kl X.stack) [] H c s.heap b.heap/\HOk X.prog X.w c b.heap/\c a=P3^.ext^XO a C d/\s.heap.objs.size<=a/\R (.ref C) d^del c a
section
variable {X:Cx}{zH:t_ (Addr×Obj)}{Z:St}{s:Shared}{C U:Addr}{nm:Str}{R:XK}
theorem KO(c:XC X.K nm C U)(D:X.A.handled=q_)(h:wpAny (model X.prog X.w) X.A (eval e X.env) (Made X zH Z C R) i s)(E:∀e t,XS X zH Z R e t->i e t):
  wpAny (model X.prog X.w) X.A (exec (.Raise (P3 e) q_ pos) X.env) Q i s:=by
 let#[q,N,F,G,m,H,n,L,M,O,P,S,T,V]:=c.obj
 have W:wpAny (model X.prog X.w) X.A (eval e X.env) (λv d=>∃e k l o,v=.ref e/\d.heap.get? C=P3^excClassObj nm q C N F (.ref U::C_) r_ G m H n L M O P S T "ValueError.__new__" /\
   d.heap.get? e=P3 #[.ref C,k,.fields l,o]/\l[1]?=P3 .none/\i (.ref e) d) i s:=by
  refine thn h λv s1 zz=>?_;let#[a,k,Y,s0,H1,ev,I,y,f,u,g,B,p,r]:=zz;let#[ #[l,o, hx,h2,h1],_]:=(g a _ B);have J:=I.call' y u g f λb z=>absurd z (by simp);exact#[a,k,l,o,ev,J.kIn _ _ V,hx,h1,E _ _ #[Y,s0,I,a,C,k,_,_,rfl,dB I y f u g B p,r]]
 first
  |exact Ch^mO (OY rfl D (Ch^i8 W (λv d j=>Ch^mO^Op j) λ_ _ x=>x))
  |omega
end
def IX(C:Db)(c f:Str):Sp:=λg H Q _=>∃a b e,g=[.ref a,b,e]/\H a=P3^.ext^XO a C q_ /\
 ∀d,H d=q_->d≠a->Q .non^An (An (An H d^.ext^XF d [(c,b)]) a^.ext^XO a C^P3 d) d^.ext^XF d [(c,b),(f,e)]
section
variable {X:Cx}{zH:t_ (Addr×Obj)}{Z:St}{H:Hp}{s:Shared}{C U f:Addr}{nm k1 k2 p0 p1 p2:Str}{R:XK}{E:Value->Shared->Prop}{k:Nat}{fd:FuncData}{us:t_ Value}{v1 v2:V}
theorem W3(c:XC X.K nm C U)(L:PySem.W.findIn X.K (.ref C) "__init__"=P3^P3^.ref f)(M:PySem.W.typeIn X.K^.ref f=P3^.type "function")(F:B_ X.prog X.w X.K X.mg X.base FO k f fd [p0,p1,p2]^IX C k1 k2)(N:Binds X.K fd [p0,p1,p2] [])
  (O:qk (k+1) X.A) (I:Inv X zH Z H s) (r:qz [v1,v2] us) (h:∀d,H d=q_->R (.ref C) (P3 d)^An H d^.ext^XF d [(k1,v1),(k2,v2)]):wpAny (model X.prog X.w) X.A (call (.ref C) us) (Made X zH Z C R) E s:=by
 let#[a,g,P,t,Q]:=s;have y:us.length=2:=r.length.symm;have S:((a.push {cls:=.type "tuple",data:=.seq us.toArray}).push^Bq C a.objs.size).get? (a.objs.size+1)=P3^Bq C a.objs.size:=by unfold Bq; heap_get
 have B:∀b o,a.get? b=P3 o->((a.push {cls:=.type "tuple",data:=.seq us.toArray}).push^Bq C a.objs.size).get? b=P3 o:=λb o e=>Go _^Go _ e;have fa:H (a.objs.size+1)=q_:=I.hok.fresh^jT _;have D:Inv X zH Z (An H (a.objs.size+1)^.ext^XO (a.objs.size+1) C q_) #[(a.push {cls:=.type "tuple",data:=.seq us.toArray}).push^Bq C a.objs.size,g,P,t,Q]:=I.laid (t':=t) B (jT _)^XO.ok #[_,_,S,rfl,rfl]
 have p:IX C k1 k2 [.ref (a.objs.size+1),v1,v2] (An H (a.objs.size+1)^.ext^XO (a.objs.size+1) C q_) (λv G=>v=.non/\∃d,H d=q_/\d≠a.objs.size+1 /\
   G=An (An (An (An H (a.objs.size+1)^.ext^XO (a.objs.size+1) C q_) d^.ext^XF d [(k1,v1)]) (a.objs.size+1)^.ext^XO (a.objs.size+1) C^P3 d) d^.ext^XF d [(k1,v1),(k2,v2)]) E0:=
  #[_,v1,v2,rfl,AQ,λd l i=>#[rfl,d,by rw[AH i]at l; exact l,i,rfl]]
 have T:qz [V.ref (a.objs.size+1),v1,v2] (iF (a.objs.size+1)::(us++[])):=by simp only[im]; exact .cons rfl r
 refine mH^VF (K:=X.K) (U:=U) (nm:=nm) I.kIn c L M (by rw[y]; decide)^l_ (F.run _ X.stack _ _ #[iF (a.objs.size+1)::us,[]] _ _ _ E0 (O.make C us []) (D.env0.make C us []) (N _ (iF (a.objs.size+1)::us) D.kIn^by simp[y]) T p) λY s' J=>?_
 rcases Y with e|(u|_|_|_) <;>first|exact jj J|skip
 let#[v,G, q,j,un,x,rv,ev, d, l,i,eH]:=J;subst ev;subst eH;exists rv,a.objs.size+1,P3 d,H,_,_,rfl,I,q,j,(Un.laid B (jT _) fa).trans un,x,by rw[AH i.symm,AQ],jT _
 have e:del (An (An (An (An H (a.objs.size+1)^.ext^XO (a.objs.size+1) C q_) d^.ext^XF d [(k1,v1)]) (a.objs.size+1)^.ext^XO (a.objs.size+1) C^P3 d) d^.ext^XF d [(k1,v1),(k2,v2)]) (a.objs.size+1)=An H d^.ext^XF d [(k1,v1),(k2,v2)]:=by
  funext b
  by_cases z:b=a.objs.size+1
  .rw[z,E6,AH i.symm,fa]
  .rw[JV z]
   by_cases m:b=d
   .rw[m,AQ,AQ]
   .rw[AH m,AH z,AH m,AH z,AH m]
 simp only[e];exact h d l
theorem W4(c:XC X.K nm C U)(i:PySem.W.findIn X.K (.ref C) "__init__"=P3^P3^.builtin "ValueError.__init__")(I:Inv X zH Z H s)(j:us.length<=sizeLine)(h:R (.ref C) q_ H):wpAny (model X.prog X.w) X.A (call (.ref C) us) (Made X zH Z C R) E s:=by
 let#[a,g,m,t,n]:=s;have fa:=I.hok.fresh^jT _;refine mH^SH (K:=X.K) (U:=U) (nm:=nm) I.kIn c i j λo d k=>?_;have l:Inv X zH Z (An H (a.objs.size+1) _) _:=I.laid (t':=t) d (jT _)^XO.ok #[_,_,k,rfl,rfl];exists a.objs.size+1,q_,H,_,_,rfl,I,rfl,I.bare,Un.laid d (jT _) fa,l.hok,AQ,jT _
 have e:del (An H (a.objs.size+1)^.ext^XO (a.objs.size+1) C q_) (a.objs.size+1)=H:=by
  funext b
  by_cases z:b=a.objs.size+1
  .rw[z,E6,fa]
  .rw[JV z,AH z]
 simp_all
end
abbrev Y_:=Ends->XK->St->Hp->Prop
abbrev bM:=XK->St->Hp->VK->Prop
def XE(X:Cx)(b:t_ (Db×Obj))(Z:St)(R:XK)(e:Ev)(a:No):Prop:=X.xe e a\/XS X b Z R e a
def bZ(X:Cx)(b:jM)(t:Y_):Prop:=
 ∀(a:t_ (Db×Obj)) (s:No) (Z:St) (H:Hp) (D:Ends) (R:XK),Inv X a Z H s->t D R Z H->wpAny (model X.prog X.w) X.A (exec b X.env) (SP X a D) (XE X a Z R) s
def bO(X:Cx)(b:t_ jM)(t:Y_):Prop:=
 ∀(a:t_ (Db×Obj)) (s:No) (Z:St) (H:Hp) (D:Ends) (R:XK),Inv X a Z H s->t D R Z H->wpAny (model X.prog X.w) X.A (execs b X.env) (SP X a D) (XE X a Z R) s
def gC(X:Cx)(e:iR)(t:bM):Prop:=
 ∀(a:t_ (Db×Obj)) (s:No) (Z:St) (H:Hp) (Q:VK) (R:XK),Inv X a Z H s->t R Z H Q->wpAny (model X.prog X.w) X.A (eval e X.env) (EP X a Z Q) (XE X a Z R) s
section
variable {X:Cx}{st:Stmt}{t u:Y_}{e:Expr}{es:t_ Expr}{ta:TA}{x nm k1 k2 p0 p1 p2:Str}{p pos cpos:Pos}{C U f:Addr}{k:Nat}{fd:FuncData}{ps:t_ Str}{sp:Sp}
theorem fG{t:Sem a}(h:wpAny (model X.prog X.w) X.A t Q X.xe s):wpAny (model X.prog X.w) X.A t Q (XE X b Z R) s:=i8 h (λ_ _ z=>z) λ_ _ z=>.inl z
theorem RP(hx:F1 (Si X.prog X.w) X R)(h:bZ X st t):PS X st (λD=>t D R):=λb s Z H D I q=>
 i8 (h _ s Z H D R I q) (λ_ _ z=>z) λe a z=>z.elim id fun#[H,s,J,c]=>hx _ Z H s e a J c
theorem UG(a:bZ X st t):bO X [st] t:=by
 intro c s Z H D R I h;refine o7^i8 (a _ s Z H D R I h) (λf d q=>?_) λ_ _ z=>z;cases f with
 |next=>
  let#[e,b, J,q]:=q;exact lW #[_,b,J,q]
 |brk=>exact q
 |cont=>exact q
 |ret v=>exact q
def WP(C:Db)(k1 k2:Str)(ta:TA):Y_:=λ_ R Z H=>ta Z H λe a=>∃b c,e=[b,c]/\∀d,a d=q_->R (.ref C) (P3 d)^An a d^.ext^XF d [(k1,b),(k2,c)]
def WQ(C:Db)(ta:TA):Y_:=λ_ R Z H=>ta Z H λa b=>a.length<=sizeLine/\R (.ref C) q_ b
theorem Ob(c:XC X.K nm C U)(i:PySem.W.findIn X.K (.ref C) "__init__"=P3^P3^.ref f)(j:PySem.W.typeIn X.K^.ref f=P3^.type "function")(F:B_ X.prog X.w X.K X.mg X.base FO k f fd [p0,p1,p2]^IX C k1 k2)(l:Binds X.K fd [p0,p1,p2] [])
  (d:qk (k+1) X.A) (m:Gl X x) (n:X.mg x=P3^.ref C) (o:PA X (e::es) ta) (a:(x==("__debug__":Str))=s_:=by decide) (t:starEach (e::es) X.env=(s_,eval e X.env)::starEach es X.env:=by rfl) (b:(backTo cpos^starEach es X.env).any (·.1)=s_:=by rfl):
  bZ X (.Raise (P3^.Call (.Name x p) (e::es) [] cpos) q_ pos) (WP C k1 k2 ta):=by
 intro v s Z H D R I h;refine KO c d.hd ?_ λ_ _ z=>.inr z;refine jl^Dk I m n ?_ a;refine PySem.W.callWith_K I.ok.mod.kin c.kp (thn (fG^o _ _ s Z H _ I h) λy B zz=>?_) t b;let#[E,G, g,r, J,L, u,q]:=zz;refine #[g.kIn,?_];subst u;exact W3 c i j F l d g r q
theorem Oc(c:XC X.K nm C U)(g:PySem.W.findIn X.K (.ref C) "__init__"=P3^P3^.builtin "ValueError.__init__")(i:X.A.handled=q_)(j:Gl X x)(k:X.mg x=P3^.ref C)(l:PA X (e::es) ta)(a:(x==("__debug__":Str))=s_:=by decide)(m:starEach (e::es) X.env=(s_,eval e X.env)::starEach es X.env:=by rfl)(b:(backTo cpos^starEach es X.env).any (·.1)=s_:=by rfl):
  bZ X (.Raise (P3^.Call (.Name x p) (e::es) [] cpos) q_ pos) (WQ C ta):=by
 intro o s Z H D R I h;exact KO c i (jl^Dk I j k (PySem.W.callWith_K I.ok.mod.kin c.kp (thn (fG^l _ _ s Z H _ I h) λt u #[v,w,d,r,n,q]=>#[d.kIn,W4 c g d (by simp only[iD,←r.length]; exact n) q]) m b) a) λ_ _ z=>.inr z
def Zc(sp:Sp)(ta:TA):bM:=λR Z H Q=>ta Z H λa b=>sp a b Q R
theorem UQ(F:B_ X.prog X.w X.K X.mg X.base (Si X.prog X.w) k f fd ps sp)(m:qk k X.A)(n:Gl X x)(o:X.mg x=P3^.ref f)(t:keepIn X.K^.ref f=r_)(v:Binds X.K fd ps [])
  (y:PA X (e::es) ta) (d:(x==("__debug__":Str))=s_:=by decide) (z:starEach (e::es) X.env=(s_,eval e X.env)::starEach es X.env:=by rfl) (g:(backTo pos^starEach es X.env).any (·.1)=s_:=by rfl):
  gC X (.Call (.Name x p) (e::es) [] pos) (Zc sp ta):=by
 intro B s Z H Q R I h;refine jl^Dk I n o ?_ d;refine PySem.W.callWith_K (h₀:=X.base) I.ok.mod.kin t (thn (fG^y pos B s Z H _ I h) λa i zz=>?_) z g;let#[j,l, b,r,q]:=zz;refine #[b.kIn,?_];have D:(a++[]).length=ps.length:=by simp only[im,←r.length]; exact F.len _ _ _ _ q
 have E:qz j (a++[]):=by simp_all
 refine mH^l_ (F.run X.A X.stack i l #[a,[]] (a++[]) j Q R m b.env0 (v i a b.kIn D) E q) λr J c=>?_;cases r with
 |error e=>exact .inr #[l,i,b,c]
 |ok G=>
  cases G with
  |ret u=>exact b.after c
  |next=>exact jj c
  |brk=>exact jj c
  |cont=>exact jj c
end
def Cx.YP(X:Cx)(A:ik):Cx:={X with A:=A,calm:=s_,xe:=λ_ _=>False}
section
variable {X:Cx}{A:Around}{zH:t_ (Addr×Obj)}{Z:St}{H:Hp}{s:Shared}
theorem Inv.YP(I:Inv X zH Z H s)(a:A.frames=P3 X.stack):Inv (X.YP A) zH Z H s:=
 #[#[I.ok.mod,I.ok.kind,I.ok.glob,I.ok.blt,I.ok.above,I.ok.inj,I.ok.has,I.ok.cab,λz=>absurd (z) iI,a,I.ok.stk,I.ok.exf,I.ok.bs,I.ok.bsz,I.ok.noex,I.ok.exfs,I.ok.vH,I.ok.frf],I.os,I.bare,I.base,I.loc,I.cell,I.free,I.vz,I.pin,I.hok,I.len]
theorem Inv.v9(I:Inv (X.YP A) zH Z H s)(ok:X.Ok):Inv X zH Z H s:=#[ok,I.os,I.bare,I.base,I.loc,I.cell,I.free,I.vz,I.pin,I.hok,I.len]
end
def XT(C:Db)(c:u_ Db)(a:Db)(u:HO):Prop:=∃b d,u=.frz #[.ref C,c,.fields b,d]^.own a/\b[2]?=P3 .none
abbrev TH:=Ends->Db->u_ Db->St->Hp->Prop
def PH(X:Cx)(f:t_ mQ)(t:TH):Prop:=
 ∀(b:t_ (Db×Obj)) (Z:St) (D:Ends) (a C:Db) (c:u_ Db) (B:iG) (d:Hp) (e:No) (H:Hp) (s:No),Inv X b Z d e->CXD X.prog X.w X.stack d e a C c B H s->t D C c Z H->
  wpAny (model X.prog X.w) X.A (handleBy (.ref a) X.env f) (SP X b D) X.xe s
section
variable {X:Cx}{pos:Pos}{body:t_ Stmt}{rest:t_ ExceptHandler}{U:Addr}{nm:Str}{th:TH}{tb:Y_}
def bg(K:Frag)(D:Db):Prop:=∃nm q N d c e f a g b h i j k l m,K.lookup D=P3^excClassObj nm q D N d c e f a g b h i j k l m "ValueError.__new__"/\c.contains^.type "BaseException"=r_
theorem XC.isX{K:Frag}(c:XC K nm C U):bg K C:=by
 let#[q,N,a,b,d,f,g,h,i,j,k,l,m,e]:=c.obj;exact#[nm,q,N,a,_,_,b,_,f,_,h,i,j,k,l,m,e,by simp[C_]]
theorem XC.isU{K:Frag}(c:XC K nm C U):bg K U:=by
 let#[q,N,a,b,d,f,g,h,i,j,k,l,m,n,e]:=c.up;exact#[_,q,N,a,_,_,b,_,f,_,h,i,j,k,l,m,e,by simp[C_]]
theorem Np:(iF C::iF U::C_).contains^.ref D=(decide (C=D)||decide (U=D)):=by
 simp only[List.contains_cons,C_,List.contains_nil]
 have d:∀(a b:Db),(iF a==iF b)=decide (b=a):=λa b=>by
  grind
 have c:∀T,(iF D==mF T)=s_:=λT=>rfl;simp only[d,d,c,c,c,c];simp
def ZZ:TH:=λ_ _ _ _ _=>False
theorem Zr:PH X [] ZZ:=λ_ _ _ _ _ _ _ _ _ _ _ _ _ h=>h.elim
def fJ(tb:Y_)(th:TH):TS:=λD Z H=>tb D (λC a b=>∃Ca,C=.ref Ca/\th D Ca a Z b) Z H
theorem Zo(d:X.stack=X.env::X.outer)(g:X.env.frame=P3 X.env.locals)(hx:∀e s,X.xe e s->False)(m:bO X body tb)(n:PH X (b::rest) th):PS X (.Try body (b::rest) [] [] pos)^fJ tb th:=by
 intro j s Z H D I h;refine wpAny_Try_except^i8 (m j s Z H D _ I h) (λf k q=>?_) λe k q=>?_
 .cases f with
  |next=>exact lW q
  |_=>exact q
 .rcases q with q|⟨o,p,r,a,C,t,B,u,rfl,c,Ca,v,i⟩
  .grind
  .cases v
   have l:=c.fly;rw[d]at l;have fr:=I.ok.frames;rw[d]at fr;refine NZ fr g l λw x y=>?_;have z:=c.step (by simp_all) y;refine Ft (s:={k with heap:=w}) x λG A E=>?_;have F:=z.step (by rw[d]; exact A) E;exact n j Z D a C t B o p u _ r F i
end
end L2
namespace Dp
open L2
inductive D where
 |non|bl (b:Bool)|int (i:Int)|str (x:Str)|tup (xs:List D)|lst (xs:List D)|dic (ks:List Key) (xs:List D)|fdi (ks:List Key) (xs:List D)|dit (ks:List^List Key) (xs:List D)
 deriving Inhabited
def NdT(M:Db->Prop)(H:Hp)(a:Db)(b:t_ V):Prop:=H a=P3^.tup b
def NdL(M:Db->Prop)(H:Hp)(a:Db)(b:t_ V):Prop:=¬M a/\H a=P3^.lst b
def NdD(M:Db->Prop)(H:Hp)(a:Db)(b:t_ Key)(c:t_ V):Prop:=¬M a/\H a=P3^.dK^b.zip c
def NdF(M:Db->Prop)(H:Hp)(a:Db)(b:t_ Key)(c:t_ V):Prop:=∃o,¬M a/\H a=P3^.frz o^.dK^b.zip c
def NdU(M:Db->Prop)(H:Hp)(a:Db)(b:t_^t_ Key)(c:t_ V):Prop:=¬M a/\H a=P3^.dT^b.zip c
mutual
def At(K:Frag)(M:Db->Prop)(H:Hp):D->V->Prop
 |.non,v=>v=.non
 |.bl b,v=>v=.bl b
 |.int i,v=>v=.int i
 |.str x,v=>v=.str x/\x.length<=sizeLine
 |.tup ds,v=>∃a vs,v=.ref a/\NdT M H a vs/\Ats K M H ds vs
 |.lst ds,v=>∃a vs,v=.ref a/\NdL M H a vs/\Ats K M H ds vs
 |.dic ks ds,v=>∃a vs,v=.ref a/\NdD M H a ks vs/\ks.length=ds.length/\Ats K M H ds vs
 |.fdi ks ds,v=>∃a vs,v=.ref a/\NdF M H a ks vs/\ks.length=ds.length/\Ats K M H ds vs
 |.dit ks ds,v=>∃a vs,v=.ref a/\NdU M H a ks vs/\ks.length=ds.length/\Ats K M H ds vs
def Ats(K:Frag)(M:Db->Prop)(H:Hp):t_ D->t_ V->Prop
 |[],vs=>vs=[]
 |d::ds,vs=>∃v r,vs=v::r/\At K M H d v/\Ats K M H ds r
end
section
variable {K:Frag}{M M':Addr->Prop}{H H':Hp}{a:Addr}{vs:t_ V}{ks:t_ Key}
theorem NdT.sq(h:NdT M H a vs):SqT K H a vs:=.inl^.inl h
theorem NdL.sq(h:NdL M H a vs):SqL K H a vs:=.inl^.inl h.2
def qQ(M:Db->Prop)(H:Hp)(M':Db->Prop)(H':Hp):Prop:=(∀b o,H b=P3 o->¬M b->H' b=P3 o)/\(∀b,M' b->M b\/H b=q_)/\∀b vs,H b=P3^.tup vs->H' b=P3^.tup vs
theorem qQ.nd(p:qQ M H M' H')(n:¬M a)(h:H a=P3 u):¬M' a/\H' a=P3 u:=by
 refine#[λz=>?_,p.1 _ _ h n]
 rcases p.2.1 a z with z|z
 .exact n z
 simp_all
theorem NdT.qq(p:qQ M H M' H')(h:NdT M H a vs):NdT M' H' a vs:=p.2.2 _ _ h
theorem NdL.qq(p:qQ M H M' H')(h:NdL M H a vs):NdL M' H' a vs:=p.nd h.1 h.2
theorem NdD.qq(p:qQ M H M' H')(h:NdD M H a ks vs):NdD M' H' a ks vs:=p.nd h.1 h.2
theorem NdU.qq{ks:t_^t_ Key}(p:qQ M H M' H')(h:NdU M H a ks vs):NdU M' H' a ks vs:=p.nd h.1 h.2
theorem NdF.qq(p:qQ M H M' H')(h:NdF M H a ks vs):NdF M' H' a ks vs:=let #[o,b,c]:=h; #[o,p.nd b c]
mutual
theorem At.qq(p:qQ M H M' H'):∀{d:D}{v:V},At K M H d v->At K M' H' d v
 |.non,v,h=>h
 |.bl b,v,h=>h
 |.int i,v,h=>h
 |.str x,v,h=>h
 |.tup ds,v,h=>by
  let#[a,vs,e,hn,hs]:=h;exact#[a,vs,e,hn.qq p,Ats.qq p hs]
 |.lst ds,v,h=>by
  let#[a,vs,e,hn,hs]:=h;exact#[a,vs,e,hn.qq p,Ats.qq p hs]
 |.dic ks ds,v,h=>by
  let#[a,vs,e,hn,hl,hs]:=h;exact#[a,vs,e,hn.qq p,hl,Ats.qq p hs]
 |.fdi ks ds,v,h=>by
  let#[a,vs,e,hn,hl,hs]:=h;exact#[a,vs,e,hn.qq p,hl,Ats.qq p hs]
 |.dit ks ds,v,h=>by
  let#[a,vs,e,hn,hl,hs]:=h;exact#[a,vs,e,hn.qq p,hl,Ats.qq p hs]
theorem Ats.qq(p:qQ M H M' H'):∀{ds:t_ D}{vs:t_ V},Ats K M H ds vs->Ats K M' H' ds vs
 |[],vs,h=>h
 |d::ds,vs,h=>by
  let#[v,r,e,h1,h2]:=h;exact#[v,r,e,At.qq p h1,Ats.qq p h2]
end
theorem qQ.trans{M1 M2 d:Db->Prop}(p:qQ M1 c M2 H2)(q:qQ M2 H2 d f):qQ M1 c d f:=by
 refine#[λb o e n=>?_,λb z=>?_,λb vs e=>q.2.2 b vs^p.2.2 b vs e]
 .refine q.1 b o (p.1 b o e n) λz=>?_
  rcases p.2.1 b z with z|z
  .exact n z
  simp_all
 .rcases q.2.1 b z with z|z
  .exact p.2.1 b z
  .cases e:c b with
   |none=>simp_all
   |some o=>
    by_cases n:M1 b
    .exact .inl n
    .rw[p.1 b o e n]at z; cases z
theorem qQ.refl(M:Db->Prop)(H:Hp):qQ M H M H:=#[λ_ _ e _=>e,λ_ z=>.inl z,λ_ _ e=>e]
theorem qQ.less(h:∀b,M' b->M b):qQ M H M' H:=#[λ_ _ e _=>e,λb z=>.inl^h b z,λ_ _ e=>e]
theorem Ats.length:∀{b:t_ D}{vs:t_ V},Ats K M H b vs->vs.length=b.length
 |[],vs,h=>by subst h; rfl
 |d::b,vs,h=>by
  let#[v,r, e,f,c]:=h;subst e;simp only[UF,UF,Ats.length c]
theorem Ats.get:∀{b:t_ D}{vs:t_ V}{i:Nat}{d:D},Ats K M H b vs->b[i]?=P3 d->∃v,vs[i]?=P3 v/\At K M H d v
 |[],vs,i,d,h,e=>by simp at e
 |f::b,vs,0,d,h,e=>by
  let#[v,r, g,j,c]:=h
  simp_all
 |f::b,vs,i+1,d,h,e=>by
  let#[v,r, g,j,c]:=h;let#[u, k,l]:=Ats.get c^by simpa using e
  simp_all
theorem Ats.append:∀{f b:t_ D}{vs c:t_ V},Ats K M H f vs->Ats K M H b c->Ats K M H (f++b) (vs++c)
 |[],b,vs,c,h,g=>by subst h; exact g
 |d::f,b,vs,c,h,g=>by
  let#[v,r, e,i,j]:=h;subst e;exact#[v,_,rfl,i,Ats.append j g]
theorem Ats.drop:∀{b:t_ D}{vs:t_ V} (n:Nat),Ats K M H b vs->Ats K M H (b.drop n)^vs.drop n
 |b,vs,0,h=>h
 |[],vs,n+1,h=>by subst h; exact rfl
 |d::b,vs,n+1,h=>by
  let#[v,r, e,f,c]:=h;subst e;exact Ats.drop n c
theorem Ats.take:∀{b:t_ D}{vs:t_ V} (n:Nat),Ats K M H b vs->Ats K M H (b.take n)^vs.take n
 |b,vs,0,h=>rfl
 |[],vs,n+1,h=>by subst h; exact rfl
 |d::b,vs,n+1,h=>by
  let#[v,r, e,c,f]:=h;subst e;exact#[v,_,rfl,c,Ats.take n f]
theorem Ats.one(h:At K M H d v):Ats K M H [d] [v]:=#[v,[],rfl,h,rfl]
theorem Ats.reverse:∀{b:t_ D}{vs:t_ V},Ats K M H b vs->Ats K M H b.reverse vs.reverse
 |[],vs,h=>by subst h; exact rfl
 |d::b,vs,h=>by
  let#[v,r, e,c,f]:=h;subst e;simp only[l7,l7];exact Ats.append (Ats.reverse f)^Ats.one c
end
inductive Kd where
 |sh|tp|fr
def zL(K:Frag)(M:Db->Prop)(H:Hp)(a:Db):D->Prop
 |.lst c=>∃b,H a=P3^.lst b/\Ats K M H c b
 |.dic d c=>∃b,H a=P3^.dK^d.zip b/\d.length=c.length/\Ats K M H c b
 |.dit d c=>∃b,H a=P3^.dT^d.zip b/\d.length=c.length/\Ats K M H c b
 |_=>False
theorem zL.notT{K:Frag}(h:zL K M H a d):H a≠P3^.tup f:=λq=>by
 cases d with
 |lst b=>let#[c, e,_]:=h; simp_all
 |dic g b=>let#[c, e,_]:=h; simp_all
 |dit g b=>let#[c, e,_]:=h; simp_all
 |_=>exact h.elim
theorem zL.qq{K:Frag}(h:zL K M H a d)(p:qQ M H j g)(e:∀o,H a=P3 o->g a=P3 o):zL K j g a d:=by
 cases d with
 |lst k=>let#[b, c,f]:=h; exact#[b,e _ c,f.qq p]
 |dic l k=>let#[b, c,f,i]:=h; exact#[b,e _ c,f,i.qq p]
 |dit l k=>let#[b, c,f,i]:=h; exact#[b,e _ c,f,i.qq p]
 |_=>assumption
theorem zL.at{K:Frag}(h:zL K M H a d)(n:¬M a):At K M H d^.ref a:=by
 cases d with
 |lst g=>let#[b, c,e]:=h; exact#[a,b,rfl,#[n,c],e]
 |dic i g=>let#[b, c,e,f]:=h; exact#[a,b,rfl,#[n,c],e,f]
 |dit i g=>let#[b, c,e,f]:=h; exact#[a,b,rfl,#[n,c],e,f]
 |_=>exact(h).elim
def AtT(K:Frag)(U:Db->Prop)(M:Db->Prop)(H:Hp):D->V->Prop
 |.lst c,v=>∃a b,v=.ref a/\¬U a/\Rd H a^.lst b/\Ats K M H c b
 |.dic e c,v=>∃a b,v=.ref a/\¬U a/\H a=P3^.dK^e.zip b/\e.length=c.length/\Ats K M H c b
 |.dit e c,v=>∃a b,v=.ref a/\¬U a/\H a=P3^.dT^e.zip b/\e.length=c.length/\Ats K M H c b
 |d,v=>At K M H d v
theorem zL.att{K:Frag}(h:zL K M H a d)(n:¬U a):AtT K U M H d^.ref a:=by
 cases d with
 |lst g=>let#[b, c,e]:=h; exact#[a,b,rfl,n,.inl c,e]
 |dic i g=>let#[b, c,e,f]:=h; exact#[a,b,rfl,n,c,e,f]
 |dit i g=>let#[b, c,e,f]:=h; exact#[a,b,rfl,n,c,e,f]
 |_=>exact(h).elim
def VR(K:Frag)(U:Db->Prop)(M:Db->Prop)(H c:Hp):Kd->V->D->Prop
 |.sh,v,d=>At K M c d v
 |.tp,v,d=>AtT K U M c d v
 |.fr,v,d=>∃a,v=.ref a/\H a=q_/\zL K (λb=>M b\/b=a) c a d
mutual
def Ce:D->Bool
 |.tup ds=>Bx ds
 |.lst ds=>Bx ds
 |.dic _ _=>s_
 |.fdi _ _=>s_
 |.dit _ _=>s_
 |_=>r_
def Bx:t_ D->Bool
 |[]=>r_
 |d::ds=>Ce d&&Bx ds
end
structure Fd where
 a:Db
 b:Db
 t:Option (List Key×List D×List V)
def eE(M:Db->Prop)(H:Hp)(f:Fd)(n:Nat):Prop:=
 ∃(at_ b:Int) (a:t_ Int),H f.1=P3^.lst [.ref f.2,.int at_,.int b]/\f.2≠f.1/\NdL M H f.2^a.map V.int/\a.length<=63/\0<=at_/\at_+n<=2 ^ 60
def ZD(K:Frag)(M:Db->Prop)(H:Hp)(a:Db)(c:t_ Key)(b:t_ D)(d:t_ V)(n:Nat):Prop:=∃r:Int,H a=P3^.dK^(c++[(ir "room":Key)]).zip (d++[V.int r])/\c.length=b.length/\Ats K M H b d/\(n:Int)<=r/\r<=100000/\Bx b=r_
def yq(K:Frag)(M:Db->Prop)(H:Hp)(f:Fd)(n:Nat):Prop:=f.t=q_/\eE M H f n\/∃a b c,f.t=P3 (a,b,c)/\ZD K M H f.1 a b c n
def qV(K:Frag)(F:u_ Fd)(M:Db->Prop)(H:Hp)(n:Nat):Prop:=∀f,F=P3 f->yq K M H f n
def Ext(U:Db->Prop)(H c:Hp):Prop:=∀b o,H b=P3 o->∃a,c b=P3 a/\(¬U b->a=o)/\∀d,o=.tup d->a=o
theorem Ext.keep(p:Ext U H a)(e:H b=P3 o)(n:¬U b):a b=P3 o:=by
 let#[c, q,r,_]:=p b o e;rw[q,r n]
theorem Ext.tup{U:Db->Prop}{H a:Hp}(p:Ext U H a){b:Db}{c:t_ V}(e:H b=P3^.tup c):a b=P3^.tup c:=by
 let#[d, q,_,r]:=p b _ e
 simp_all
theorem Ext.free(p:Ext U H a)(e:a b=q_):H b=q_:=by
 cases q:H b with
 |none=>rfl
 |some o=>
  let#[c, z,_]:=p b o q
  simp_all
theorem Ext.refl(U:Db->Prop)(H:Hp):Ext U H H:=λ_ o e=>#[o,e,λ_=>rfl,λ_ _=>rfl]
theorem Ext.trans(p:Ext U c H2)(q:Ext U H2 d):Ext U c d:=λb o e=>by
 let#[g, h,i,f]:=p b o e;let#[j, k,l,m]:=q b g h;exact#[j,k,λn=>(l n).trans^i n,λa z=>(m a^(f a z).trans z).trans^f a z]
def zk(H a:Hp):Prop:=a=H\/∃p o,H p=q_/\a=An H p o
theorem zk.all(g:zk H a):∀b o,H b=P3 o->a b=P3 o:=by
 intro b o e
 rcases g with rfl|⟨p,u,n,rfl⟩
 .exact e
 .rw[AH^Af e n]; exact e
theorem zk.refl:zk H H:=.inl rfl
theorem zk.ext(g:zk H a):Ext U H a:=λb o e=>#[o,g.all b o e,λ_=>rfl,λ_ _=>rfl]
theorem zk.qq(g:zk H a):qQ M H M a:=#[λb o e _=>g.all b o e,λ_ z=>.inl z,λb c e=>g.all b _ e]
theorem yq.qq{K:Frag}(h:yq K M H f n)(p:qQ M H j b)(e:∀o,H f.1=P3 o->b f.1=P3 o):yq K j b f n:=by
 rcases h with⟨t,a,r,k,c,d,g,i⟩|⟨l,m,q,t,r,c,d,g,i⟩
 .exact .inl #[t,a,r,k,e _ c,d,g.qq p,i]
 .exact .inr #[l,m,q,t,r,e _ c,d,g.qq p,i]
theorem qV.qq{K:Frag}(h:qV K F M H n)(p:qQ M H b a)(e:∀f o,F=P3 f->H f.1=P3 o->a f.1=P3 o):qV K F b a n:=λf c=>(h f c).qq p λo q=>e f o c q
theorem qV.grow{K:Frag}(h:qV K F M H n)(g:zk H a):qV K F M a n:=h.qq g.qq λf o _ e=>g.all _ o e
theorem qV.more{K:Frag}(h:qV K F M H n)(a:Db)(m:∀f,F=P3 f->f.t=q_->f.2≠a)(o:∀f e c d,F=P3 f->f.t=P3 (e,c,d)->Ats K (λb=>M b\/b=a) H c d):qV K F (λb=>M b\/b=a) H n:=λf g=>by
 rcases h f g with⟨t,x,r,p,i,j,k,l⟩|⟨e,c,d,t,r,i,j,k,l⟩
 .exact .inl #[t,x,r,p,i,j,#[λz=>z.elim k.1^m f g t,k.2],l]
 .exact .inr #[e,c,d,t,r,i,j,o f e c d g t,l]
def AtX(K:Frag)(M:Db->Prop)(H:Hp)(a:Db)(g:Str)(b:t_ Str)(f:t_ D):Prop:=∃C U c u e,XC K g C U/\(¬M a/\H a=P3 u)/\XT C c a u/\(c=q_/\b=[]/\e=[]\/∃d,c=P3 d/\¬M d/\H d=P3^.ext^XF d^b.zip e)/\b.length=f.length/\Ats K M H f e
theorem AtX.qq{K:Frag}(h:AtX K M H a f g i)(p:qQ M H b e):AtX K b e a f g i:=by
 let#[C,U,j,u,k, c,#[ n,l],x,m,o,q]:=h;refine#[C,U,j,u,k,c,p.nd n l,x,?_,o,q.qq p]
 rcases m with z|⟨d,r,s,t⟩
 .exact .inl z
 .exact .inr #[d,r,p.nd s t]
inductive Slot where
 |no|sh (d:D)|br (d:D)|fd|ow (d:D)|lt (a:Db) (d:D)|ex (a:Db) (nm:Str) (ks:List Str) (ds:List D)|wd (ks:List Key) (ds:List D)
def Slot.vI:Slot->Bool
 |.ow _=>r_
 |.lt _ _=>r_
 |_=>s_
def vJ(K:Frag)(F:u_ Fd)(U:Db->Prop)(M:Db->Prop)(H:Hp):Slot->u_ V->Prop
 |.no,_=>True
 |.sh d,o=>∃v,o=P3 v/\At K M H d v
 |.br d,o=>∃v,o=P3 v/\AtT K U M H d v
 |.fd,o=>∃f,o=P3^.ref f.1/\F=P3 f/\f.t=q_
 |.wd b c,o=>∃f e,o=P3^.ref f.1/\F=P3 f/\f.t=P3 (b,c,e)
 |.ow d,o=>∃a,o=P3^.ref a/\M a/\¬U a/\zL K M H a d
 |.lt a d,o=>o=P3^.ref a/\M a/\¬U a/\zL K M H a d
 |.ex a g b c,o=>o=P3^.ref a/\AtX K M H a g b c
structure Fm where
 M0:Db->Prop
 F:Option Fd
 U:Db->Prop
 V:Db->Prop
 H0:Hp
 zH:List ((Db->Prop)×Hp)
 kp:List (Db×HO)
def Apart(b:t_ Slot)(Z:L2.St):Prop:=∀(i j:Nat) (s t:Slot) (a:Db),b[i]?=P3 s->s.vI=r_->b[j]?=P3 t->t.vI=r_->(Z[i]?).getD q_=P3^.ref a->(Z[j]?).getD q_=P3^.ref a->i=j
structure Rel (K:Frag) (C:Fm) (M:Db->Prop) (H:Hp) (n:Nat) (ρ:List Slot) (Z:L2.St):Prop where
 len:ρ.length=Z.length
 sub:∀a,C.M0 a->M a
 dom:∀a,M a->∃o,H a=P3 o
 ext:Ext C.U C.H0 H
 fU:∀f,C.F=P3 f->C.U f.1
 uV:∀a,C.U a->C.V a
 vM:∀a,C.V a->M a
 feed:qV K C.F M H n
 sl:∀(i:Nat) (s:Slot),ρ[i]?=P3 s->vJ K C.F C.V M H s ((Z[i]?).getD q_)
 pin:∀p∈C.zH,qQ p.1 p.2 M H
 br0:∀(i:Nat) (d:D) (a:Db),ρ[i]?=P3^.br d->(Z[i]?).getD q_=P3^.ref a->∃o,C.H0 a=P3 o
 new:∀(i:Nat) (s:Slot) (a:Db),ρ[i]?=P3 s->s.vI=r_->(Z[i]?).getD q_=P3^.ref a->¬C.M0 a/\C.H0 a=q_
 two:Apart ρ Z
 kept:∀p∈C.kp,H p.1=P3 p.2/\M p.1/\¬C.V p.1/\∀(i:Nat) (d:D),ρ[i]?=P3^.ow d->(Z[i]?).getD q_≠P3^.ref p.1
section
variable {K:Frag}{C:Fm}{M:Addr->Prop}{H H':Hp}{n n':Nat}{ρ:t_ Slot}{Z:L2.St}{d:D}{v:V}{κ:Kd}
theorem Rel.qq(R:Rel K C M H n ρ Z)(e:Ext C.U H H'):qQ M H M H':=#[λb o q a=>e.keep q λz=>a^R.vM b^R.uV b z,λ_ z=>.inl z,λb c q=>e.tup q]
theorem AtT.qq(h:AtT K q M H d v)(p:qQ M H s H')(e:Ext U H H')(l:∀a,U a->q a):AtT K q s H' d v:=by
 cases d with
 |lst m=>
  let#[a,g, j,c,f,k]:=h;refine#[a,g,j,c,?_,k.qq p]
  rcases f with f|⟨o,f⟩
  .exact .inl^e.keep f λz=>c^l a z
  .exact .inr #[o,e.keep f λz=>c^l a z]
 |dic t m=>
  let#[a,g, j,c,f,r,k]:=h;exact#[a,g,j,c,e.keep f λz=>c^l a z,r,k.qq p]
 |dit t m=>
  let#[a,g, j,c,f,r,k]:=h;exact#[a,g,j,c,e.keep f λz=>c^l a z,r,k.qq p]
 |non=>assumption
 |bl b=>assumption
 |int i=>assumption
 |str x=>assumption
 |tup m=>exact At.qq p h
 |fdi t m=>exact At.qq p h
theorem AtT.same(h:AtT K U M H d v)(p:qQ M H s H')(e:∀a o,v=.ref a->H a=P3 o->H' a=P3 o)(m:∀a,v=.ref a->¬U a->¬r a):AtT K r s H' d v:=by
 cases d with
 |lst l=>
  let#[a,g, c,j,f,k]:=h;refine#[a,g,c,m a c j,?_,k.qq p]
  rcases f with f|⟨o,f⟩
  .exact .inl^e a _ c f
  .exact .inr #[o,e a _ c f]
 |dic t l=>
  let#[a,g, c,j,f,q,k]:=h;exact#[a,g,c,m a c j,e a _ c f,q,k.qq p]
 |dit t l=>
  let#[a,g, c,j,f,q,k]:=h;exact#[a,g,c,m a c j,e a _ c f,q,k.qq p]
 |non=>assumption
 |bl b=>assumption
 |int i=>assumption
 |str x=>assumption
 |tup l=>exact At.qq p h
 |fdi t l=>exact At.qq p h
theorem AtT.lies(h:AtT K U M H d^.ref a):∃o,H a=P3 o:=by
 cases d with
 |lst f=>
  let#[b,g, e,_,c,_]:=h;injection e with e;subst e
  rcases c with c|⟨o,c⟩
  .exact#[_,c]
  simp_all
 |dic j f=>
  let#[b,g, e,_,c,_]:=h
  simp_all
 |dit j f=>
  let#[b,g, e,_,c,_]:=h
  simp_all
 |non=>cases(h)
 |bl b=>cases(h)
 |int i=>cases(h)
 |str x=>cases(h).1
 |tup f=>
  let#[b,g, e,c,_]:=h;injection e with e;subst e;exact#[_,c]
 |fdi j f=>
  let#[b,g, e,#[o, _,c],_]:=h
  simp_all
theorem vJ.qq(h:vJ K F g M H s o)(p:qQ M H i H')(m:∀a,M a->i a)(e:Ext U H H')(j:∀a,U a->g a):vJ K F g i H' s o:=by
 cases s with
 |no=>trivial
 |sh d=>let#[v, b,c]:=h; exact#[v,b,c.qq p]
 |ex a t l r=>let#[ b,c]:=h; exact#[b,c.qq p]
 |br d=>let#[v, b,c]:=h; exact#[v,b,c.qq p e j]
 |fd=>exact h
 |wd l r=>exact h
 |ow d=>let#[a, b,c,f,k]:=h; exact#[a,b,m a c,f,k.qq p λo q=>e.keep q λz=>f^j a z]
 |lt a d=>let#[ b,c,f,k]:=h; exact#[b,m a c,f,k.qq p λo q=>e.keep q λz=>f^j a z]
theorem Rel.step(R:Rel K C M H n ρ Z)(e:Ext C.U H H')(f:qV K C.F M H' n'):Rel K C M H' n' ρ Z:=by
 have p:=R.qq e;refine#[R.len,R.sub,λa z=>?_,R.ext.trans e,R.fU,R.uV,R.vM,f,λi s q=>(R.sl i s q).qq p (λ_ z=>z) e R.uV,λq b=>(R.pin q b).trans p,R.br0,R.new,R.two,λq b=>?_]
 .let#[o,c]:=R.dom a z
  let#[k, g,_]:=e a o c
  simp_all
 .let#[c,g,h,j]:=R.kept q b
  exact#[e.keep c λz=>h^R.uV _ z,g,h,j]
theorem Rel.udom(R:Rel K C M H n ρ Z):∀a,C.U a->∃o,H a=P3 o:=λa z=>R.dom a^R.vM a^R.uV a z
theorem At.tp(k:∀a,U a->M a)(h:At K M H d v):AtT K U M H d v:=by
 cases d with
 |lst j=>
  let#[a,f, e,c,g]:=h;exact#[a,f,e,λz=>c.1^k a z,.inl c.2,g]
 |dic m j=>
  let#[a,f, e,c,l,g]:=h;exact#[a,f,e,λz=>c.1^k a z,c.2,l,g]
 |dit m j=>
  let#[a,f, e,c,l,g]:=h;exact#[a,f,e,λz=>c.1^k a z,c.2,l,g]
 |non=>exact h
 |bl b=>exact h
 |int i=>exact h
 |str x=>exact h
 |tup j=>exact h
 |fdi m j=>exact h
theorem VR.back(e:Ext U H c)(h:VR K b M c H' κ v d):VR K b M H H' κ v d:=by
 cases κ with
 |sh=>exact h
 |tp=>exact h
 |fr=>
  let#[a, f,g,i]:=h;exact#[a,f,e.free g,i]
theorem VR.vY(b:∀a,M a->∃o,H a=P3 o)(h:VR K U M H H' κ v d)(e:κ≠.tp):At K M H' d v:=by
 cases κ with
 |sh=>exact h
 |tp=>simp_all
 |fr=>
  let#[a, rfl,f,c]:=h;refine(c.qq (qQ.less λ_ z=>.inl z) λ_ z=>z).at λz=>?_
  grind
theorem VR.vT(b:∀a,M a->∃o,H a=P3 o)(c:∀a,U a->M a)(h:VR K U M H H' κ v d):AtT K U M H' d v:=by
 cases κ with
 |sh=>exact At.tp c h
 |tp=>exact h
 |fr=>exact At.tp c^VR.vY b h^by simp_all
theorem El{a:Type}{l:t_ a}{x y:a}(h:(l.set i x)[j]?=P3 y):(j=i/\i<l.length/\y=x)\/(j≠i/\l[j]?=P3 y):=by
 rw[oq]at h
 by_cases e:i=j
 .simp_all
 .rw[if_neg e]at h
  exact .inr #[λz=>e z.symm,h]
theorem LH{l:L2.St}(h:j≠i):((l.set i x)[j]?).getD q_=(l[j]?).getD q_:=by
 rw[oq,if_neg λz=>h z.symm]
theorem Th{l:L2.St}(h:i<l.length):((l.set i x)[i]?).getD q_=x:=by
 simp_all
theorem Rel.set(R:Rel K C M H n ρ Z)(h:At K M H d v):Rel K C M H n (ρ.set i^.sh d)^Z.set i^P3 v:=by
 have b:∀(j:Nat) (s:Slot),(ρ.set i^.sh d)[j]?=P3 s->s.vI=r_->ρ[j]?=P3 s/\((Z.set i^P3 v)[j]?).getD q_=(Z[j]?).getD q_:=λj s q o=>by
  rcases El q with⟨_,_,rfl⟩|⟨f,q⟩
  .cases o
  .exact#[q,LH f]
 refine#[by simp only[kE,kE]; exact R.len,R.sub,R.dom,R.ext,R.fU,R.uV,R.vM,R.feed,λj s q=>?_,R.pin,λj e a q c=>?_,λj s a q o c=>?_,λj k s t a g m c r u w=>?_,λp x=>?_]
 .rcases El q with⟨rfl,y,rfl⟩|⟨f,q⟩
  .rw[Th^by simp only[←R.len]; exact y]
   exact#[v,rfl,h]
  .rw[LH f]
   exact R.sl j s q
 .rcases El q with⟨_,_,e⟩|⟨f,q⟩
  .cases e
  .rw[LH f]at c
   exact R.br0 j e a q c
 .let#[g,e]:=b j s q o
  rw[e]at c;exact R.new j s a g o c
 .let#[z,A]:=b j s g m
  let#[ B,l]:=b k t c r;rw[A]at u;rw[l]at w;exact R.two j k s t a z m B r u w
 .let#[D,E,F,G]:=R.kept p x
  refine#[D,E,F,λj e q=>?_];let#[ g,l]:=b j _ q rfl;rw[l];exact G j e g
theorem Rel.owner(R:Rel K C M H n ρ Z){i:Nat}(h:ρ[i]?=P3 s)(o:s.vI=r_):∃a e,(Z[i]?).getD q_=P3^.ref a/\M a/\¬C.V a/\zL K M H a e/\¬C.M0 a/\C.H0 a=q_:=by
 have q:=R.sl i s h;cases s with
 |ow d=>let#[a, b,c,f,g]:=q; exact#[a,d,b,c,f,g,R.new i _ a h o b]
 |lt a d=>let#[ b,c,f,g]:=q; exact#[a,d,b,c,f,g,R.new i _ a h o b]
 |_=>cases o
theorem Rel.setOw(R:Rel K C M H n ρ Z)(e:Ext C.U H H')(f:qV K C.F M H' n')(J:H a=q_)(h:zL K (λb=>M b\/b=a) H' a d):
  Rel K C (λb=>M b\/b=a) H' n' (ρ.set i^.ow d) (Z.set i^P3^.ref a):=by
 have O:=R.step e f
 have L:∀b,M b->b≠a:=λb z q=>by
  let#[o, w]:=R.dom b z;simp only[q,J]at w; cases w
 have a0:¬C.M0 a/\C.H0 a=q_:=#[λz=>L a (R.sub a z) rfl,R.ext.free J];have P:qQ M H (λb=>M b\/b=a) H':=#[λb o q nb=>e.keep q λz=>nb^R.vM b^R.uV b z,λb z=>z.elim .inl λz=>.inr (by rw[z]; exact J),λb Q q=>e.tup q]
 have r:∀(j:Nat) (s:Slot),(ρ.set i^.ow d)[j]?=P3 s->(j=i/\s=.ow d/\((Z.set i^P3^.ref a)[j]?).getD q_=P3^.ref a)\/(j≠i/\ρ[j]?=P3 s/\((Z.set i^P3^.ref a)[j]?).getD q_=(Z[j]?).getD q_):=λj s q=>by
  rcases El q with⟨rfl,hl,rfl⟩|⟨B,q⟩
  .exact .inl #[rfl,rfl,Th^by simp only[←R.len]; exact hl]
  .exact .inr #[B,q,LH B]
 have E:∀(j:Nat) (s:Slot) (b:Db),ρ[j]?=P3 s->s.vI=r_->(Z[j]?).getD q_=P3^.ref b->b≠a:=λj s b q o z=>by
  let#[c,_, l,m,_]:=R.owner q o;rw[l]at z;cases z;exact L _ m
 have hd:∃o,H' a=P3 o:=by
  cases d with
  |lst V=>let#[Q, q,_]:=h; exact#[_,q]
  |dic ks V=>let#[Q, q,_]:=h; exact#[_,q]
  |dit ks V=>let#[Q, q,_]:=h; exact#[_,q]
  |_=>exact(show False from h).elim
 refine#[by simp only[kE,kE]; exact R.len,λb z=>.inl^R.sub b z,λb z=>?_,O.ext,R.fU,R.uV,λb z=>.inl^R.vM b z,f.more a (λg S N q=>?_) λg a1 a2 a3 S N=>?_,λj s q=>?_,λq hq=>(R.pin q hq).trans P,λj x b q u=>?_,λj s b q o u=>?_,λj k s t b y W u X G D=>?_,λp hp=>?_]
 .rcases z with z|z
  .exact O.dom b z
  .rw[z]; exact hd
 .rcases R.feed g S with⟨_,_,_,_,_,_,I,_⟩|⟨_,_,_,A,_⟩
  .have:=I.2
   simp only[q,J]at this; cases this
  .rw[N]at A; cases A
 .rcases R.feed g S with⟨A,_⟩|⟨_,_,_,A,_,_,_,I,_⟩
  .rw[N]at A; cases A
  .rw[N]at A; cases A; exact I.qq P
 .rcases r j s q with⟨rfl,rfl,l⟩|⟨B,y,l⟩
  .rw[l]
   exact#[a,rfl,.inr rfl,λz=>L a (R.vM a z) rfl,h]
  .rw[l]
   exact(R.sl j s y).qq P (λ_ z=>.inl z) e R.uV
 .rcases r j _ q with⟨_,l,_⟩|⟨B,y,l⟩
  .cases l
  .rw[l]at u
   exact R.br0 j x b y u
 .rcases r j s q with⟨_,_,l⟩|⟨B,y,l⟩
  .rw[l]at u
   cases u;exact a0
  .rw[l]at u
   exact R.new j s b y o u
 .rcases r j s y with⟨rfl,_,l⟩|⟨B,Y,l⟩
  .rw[l]at G
   cases G
   rcases r k t u with⟨rfl,_,_⟩|⟨hk,T,x⟩
   .rfl
   .rw[x]at D
    exact absurd rfl (E k t a T X D)
  .rw[l]at G
   rcases r k t u with⟨rfl,_,x⟩|⟨hk,T,x⟩
   .rw[x]at D
    cases D;exact absurd rfl (E j s a Y W G)
   .rw[x]at D
    exact R.two j k s t b Y W T X G D
 .let#[h1,h2,I,h4]:=O.kept p hp
  refine#[h1,.inl h2,I,λj x q=>?_]
  rcases r j _ q with⟨_,_,l⟩|⟨B,y,l⟩
  .rw[l]
   intro z;cases z;exact L _ h2 rfl
  .rw[l]
   exact h4 j x y
theorem Rel.mut(R:Rel K C M H n ρ Z)(E:ρ[i]?=P3^.ow d)(N:(Z[i]?).getD q_=P3^.ref a)(h:zL K M (An H a o) a e):
  Rel K C M (An H a o) n (ρ.set i^.ow e) Z:=by
 let#[b,_, c,m,U,t,n0,V]:=R.owner E rfl;rw[N]at c;cases c;have F:qQ M H M^An H a o:=#[λb A q Y=>by rw[AH λz=>Y^by rw[z]; exact m]; exact q,λ_ z=>.inl z,λb vs q=>by rw[AH λz=>t.notT^by rw[←z]; exact q]; exact q]
 have l:∀(j:Nat) (s:Slot),(ρ.set i^.ow e)[j]?=P3 s->(j=i/\s=.ow e)\/(j≠i/\ρ[j]?=P3 s):=λj s q=>by
  rcases El q with⟨rfl,hl,rfl⟩|⟨y,q⟩
  .exact .inl #[rfl,rfl]
  .exact .inr #[y,q]
 have I:∀(j:Nat) (s:Slot) (b:Db),j≠i->ρ[j]?=P3 s->s.vI=r_->(Z[j]?).getD q_=P3^.ref b->b≠a:=λj s b y q o z w=>by
  subst w;exact y (R.two j i s _ b q o E rfl z N)
 refine#[by rw[kE]; exact R.len,R.sub,λb z=>?_,λb A q=>?_,R.fU,R.uV,R.vM,R.feed.qq F λf A hf q=>?_,λj s q=>?_,λq hq=>(R.pin q hq).trans F,λj O b q g=>?_,λj s b q G g=>?_,λj k s t b u W g G P Q=>?_,λp hp=>?_]
 .by_cases B:b=a
  .exact#[o,by rw[B,AQ]]
  .let#[A,q]:=R.dom b z
   exact#[A,by rw[AH B]; exact q]
 .let#[G,g,r]:=R.ext b A q
  have B:b≠a:=λz=>by rw[z,V]at q; cases q
  exact#[G,by rw[AH B]; exact g,r]
 .have B:f.1≠a:=λz=>U^by rw[←z]; exact R.uV _^R.fU f hf
  rw[AH B]; exact q
 .rcases l j s q with⟨rfl,rfl⟩|⟨y,u⟩
  .rw[N]
   exact#[a,rfl,m,U,h]
  .have g:=R.sl j s u
   cases s with
   |no=>trivial
   |sh d=>let#[v, c,x]:=g; exact#[v,c,x.qq F]
   |ex a nm ks ds=>let#[ c,x]:=g; exact#[c,x.qq F]
   |br d=>
    let#[v, c,x]:=g;refine#[v,c,x.same F (λb A z q=>?_) λ_ _ z=>z];subst z;let#[o3,w]:=R.br0 j d b u c;rw[AH λz=>by rw[z,V]at w; cases w];exact q
   |fd=>exact g
   |wd ks ds=>exact g
   |ow d=>
    let#[b, c,x,J,L]:=g;exact#[b,c,x,J,L.qq F λA w=>by rw[AH (I j _ b y u rfl c)]; exact w]
   |lt b d=>
    let#[ c,x,J,L]:=g;exact#[c,x,J,L.qq F λA w=>by rw[AH (I j _ b y u rfl c)]; exact w]
 .rcases l j _ q with⟨_,c⟩|⟨y,u⟩
  .cases c
  .exact R.br0 j O b u g
 .rcases l j s q with⟨rfl,_⟩|⟨y,u⟩
  .exact R.new j _ b E rfl g
  .exact R.new j s b u G g
 .rcases l j s u with⟨rfl,rfl⟩|⟨y,X⟩
  .rcases l k t g with⟨rfl,_⟩|⟨hk,S⟩
   .rfl
   .exact R.two j k _ t b E rfl S G P Q
  .rcases l k t g with⟨rfl,rfl⟩|⟨hk,S⟩
   .exact R.two j k s _ b X W E rfl P Q
   .exact R.two j k s t b X W S G P Q
 .let#[x,J,L,T]:=R.kept p hp
  have B:p.1≠a:=λz=>T i d E (by rw[N,z]);refine#[by rw[AH B]; exact x,J,L,λj O q=>?_]
  rcases l j _ q with⟨rfl,_⟩|⟨y,u⟩
  .exact T j d E
  .exact T j O u
theorem Rel.freeze(R:Rel K C M H n ρ Z)(E:ρ[i]?=P3^.ow d)(x:(Z[i]?).getD q_=P3^.ref a):Rel K C (λb=>M b/\b≠a) H n (ρ.set i^.sh d) Z:=by
 let#[b,_, c,m,J,_,L,X]:=R.owner E rfl;rw[x]at c;cases c;have y:∀b,M b/\b≠a->M b:=λ_ z=>z.1;have r:qQ M H (λb=>M b/\b≠a) H:=qQ.less y
 have e:∀(j:Nat) (s:Slot),(ρ.set i^.sh d)[j]?=P3 s->(j=i/\s=.sh d)\/(j≠i/\ρ[j]?=P3 s):=λj s q=>by
  rcases El q with⟨rfl,Y,rfl⟩|⟨l,q⟩
  .exact .inl #[rfl,rfl]
  .exact .inr #[l,q]
 have A:∀(j:Nat) (s:Slot) (b:Db),j≠i->ρ[j]?=P3 s->s.vI=r_->(Z[j]?).getD q_=P3^.ref b->b≠a:=λj s b l q o z w=>by
  subst w;exact l (R.two j i s _ b q o E rfl z x)
 have t:zL K M H a d:=by
  let#[b, c,_,_,u]:=R.sl i _ E;rw[x]at c;cases c;exact u
 refine#[by rw[kE]; exact R.len,λb z=>#[R.sub b z,λw=>L^by rw[←w]; exact z],λb z=>R.dom b z.1,R.ext,R.fU,R.uV,λb z=>#[R.vM b z,λw=>J^by rw[←w]; exact z],R.feed.qq r λ_ _ _ q=>q,λj s q=>?_,λq N=>(R.pin q N).trans r,λj F b q f=>?_,λj s b q B f=>?_,λj k s t b g G f B O P=>?_,λp Q=>?_]
 .rcases e j s q with⟨rfl,rfl⟩|⟨l,g⟩
  .rw[x]
   exact#[_,rfl,(t.qq r λ_ z=>z).at λz=>z.2 rfl]
  .have f:=R.sl j s g
   cases s with
   |no=>trivial
   |sh d=>let#[v, c,h]:=f; exact#[v,c,h.qq r]
   |ex a nm S T=>let#[ c,h]:=f; exact#[c,h.qq r]
   |br d=>let#[v, c,h]:=f; exact#[v,c,h.same r (λ_ _ _ z=>z) λ_ _ z=>z]
   |fd=>exact f
   |wd S T=>exact f
   |ow d=>
    let#[b, c,h,D,u]:=f;exact#[b,c,#[h,A j _ b l g rfl c],D,u.qq r λ_ z=>z]
   |lt b d=>
    let#[ c,h,D,u]:=f;exact#[c,#[h,A j _ b l g rfl c],D,u.qq r λ_ z=>z]
 .rcases e j _ q with⟨_,c⟩|⟨l,g⟩
  .cases c
  .exact R.br0 j F b g f
 .rcases e j s q with⟨_,rfl⟩|⟨l,g⟩
  .cases B
  .exact R.new j s b g B f
 .rcases e j s g with⟨_,rfl⟩|⟨l,U⟩
  .cases G
  .rcases e k t f with⟨_,rfl⟩|⟨hk,V⟩
   .cases B
   .exact R.two j k s t b U G V B O P
 .let#[h,D,u,I]:=R.kept p Q
  have W:p.1≠a:=λz=>I i d E (by rw[x,z]);refine#[h,#[D,W],u,λj F q=>?_]
  rcases e j _ q with⟨_,c⟩|⟨l,g⟩
  .cases c
  .exact I j F g
theorem Rel.lend(R:Rel K C M H n ρ Z)(l:ρ[i]?=P3^.ow d)(w:(Z[i]?).getD q_=P3^.ref a)(G:H a=P3 o):Rel K {C with kp:=(a,o)::C.kp} M H n (ρ.set i^.lt a d) Z:=by
 let#[b, f,m,D,t]:=R.sl i _ l;rw[w]at f;cases f
 have c:∀(j:Nat) (s:Slot),(ρ.set i^.lt a d)[j]?=P3 s->(j=i/\s=.lt a d)\/(j≠i/\ρ[j]?=P3 s):=λj s q=>by
  rcases El q with⟨rfl,P,rfl⟩|⟨g,q⟩
  .exact .inl #[rfl,rfl]
  .exact .inr #[g,q]
 refine#[by rw[kE]; exact R.len,R.sub,R.dom,R.ext,R.fU,R.uV,R.vM,R.feed,λj s q=>?_,R.pin,λj r b q h=>?_,λj s b q u h=>?_,λj k s t b e E h u x y=>?_,λp A=>?_]
 .rcases c j s q with⟨rfl,rfl⟩|⟨g,e⟩
  .exact#[w,m,D,t]
  .exact R.sl j s e
 .rcases c j _ q with⟨_,f⟩|⟨g,e⟩
  .cases f
  .exact R.br0 j r b e h
 .rcases c j s q with⟨rfl,_⟩|⟨g,e⟩
  .exact R.new j _ b l rfl h
  .exact R.new j s b e u h
 .rcases c j s e with⟨rfl,rfl⟩|⟨g,F⟩
  .rcases c k t h with⟨rfl,_⟩|⟨I,B⟩
   .rfl
   .exact R.two j k _ t b l rfl B u x y
  .rcases c k t h with⟨rfl,rfl⟩|⟨I,B⟩
   .exact R.two j k s _ b F E l rfl x y
   .exact R.two j k s t b F E B u x y
 .rcases TW.mp A with rfl|A
  .refine#[G,m,D,λj r q z=>?_]
   rcases c j _ q with⟨_,f⟩|⟨g,e⟩
   .cases f
   .exact g (R.two j i _ _ a e rfl l rfl z w)
  .let#[J,L,N,O]:=R.kept p A
   refine#[J,L,N,λj r q=>?_]
   rcases c j _ q with⟨_,f⟩|⟨g,e⟩
   .cases f
   .exact O j r e
theorem Rel.unlend(R:Rel K {C with kp:=(a,o)::C.kp} M H n ρ Z)(h:ρ[i]?=P3^.lt a d)(r:∀p∈C.kp,p.1≠a):Rel K C M H n (ρ.set i^.ow d) Z:=by
 let#[ A,m,F,t]:=R.sl i _ h
 have c:∀(j:Nat) (s:Slot),(ρ.set i^.ow d)[j]?=P3 s->(j=i/\s=.ow d)\/(j≠i/\ρ[j]?=P3 s):=λj s q=>by
  rcases El q with⟨rfl,O,rfl⟩|⟨g,q⟩
  .exact .inl #[rfl,rfl]
  .exact .inr #[g,q]
 refine#[by rw[kE]; exact R.len,R.sub,R.dom,R.ext,R.fU,R.uV,R.vM,R.feed,λj s q=>?_,R.pin,λj u b q f=>?_,λj s b q l f=>?_,λj k s t b e B f l w x=>?_,λp D=>?_]
 .rcases c j s q with⟨rfl,rfl⟩|⟨g,e⟩
  .exact#[a,A,m,F,t]
  .exact R.sl j s e
 .rcases c j _ q with⟨_,G⟩|⟨g,e⟩
  .cases G
  .exact R.br0 j u b e f
 .rcases c j s q with⟨rfl,_⟩|⟨g,e⟩
  .exact R.new j _ b h rfl f
  .exact R.new j s b e l f
 .rcases c j s e with⟨rfl,rfl⟩|⟨g,E⟩
  .rcases c k t f with⟨rfl,_⟩|⟨r,y⟩
   .rfl
   .exact R.two j k _ t b h rfl y l w x
  .rcases c k t f with⟨rfl,rfl⟩|⟨r,y⟩
   .exact R.two j k s _ b E B h rfl w x
   .exact R.two j k s t b E B y l w x
 .let#[I,J,L,N]:=R.kept p^TM _ D
  refine#[I,J,L,λj u q=>?_]
  rcases c j _ q with⟨rfl,_⟩|⟨g,e⟩
  .rw[A]
   intro z;cases z;exact r p D rfl
  .exact N j u e
end
abbrev DW:=Nat->t_ Slot->(D->Nat->Prop)->Prop
abbrev Gi:=Nat->t_ Slot->(Bool->Nat->Prop)->Prop
abbrev DR:=Nat->t_ Slot->(t_ D->Nat->Prop)->Prop
abbrev WB:=Nat->t_ Slot->(t_ Slot->Nat->Prop)->Prop
section
variable (X:Cx)
def DE(e:iR)(f:Kd)(w:DW):Prop:=∃t,PE X e t/\∀(C:Fm) (M:Db->Prop) (H:Hp) (n:Nat) (b:t_ Slot) (Z:L2.St) (P:D->Nat->Prop) (Q:VK),Rel X.K C M H n b Z->w n b P->
 (∀v a d c,Ext C.U H a->qV X.K C.F M a c->VR X.K C.V M H a f v d->P d c->Q v a)->t Z H Q
def DT(e:iR)(w:Gi):Prop:=∃t,PT X e t/\∀(C:Fm) (M:Db->Prop) (H:Hp) (n:Nat) (c:t_ Slot) (Z:L2.St) (P:Bool->Nat->Prop) (Q:Bool->Hp->Prop),Rel X.K C M H n c Z->w n c P->
 (∀b a d,Ext C.U H a->qV X.K C.F M a d->P b d->Q b a)->t Z H Q
def DTW(e:iR)(w:Gi):Prop:=∃t,PW X e t/\∀(C:Fm) (M:Db->Prop) (H:Hp) (n:Nat) (c:t_ Slot) (Z:L2.St) (P:Bool->Nat->Prop) (Q:Bool->Hp->Prop),Rel X.K C M H n c Z->w n c P->
 (∀b a d,Ext C.U H a->qV X.K C.F M a d->P b d->Q b a)->t Z H Q
def WE(g:t_ iR)(w:DR):Prop:=∃t,PA X g t/\∀(C:Fm) (M:Db->Prop) (H:Hp) (n:Nat) (b:t_ Slot) (Z:L2.St) (P:t_ D->Nat->Prop) (Q:t_ V->Hp->Prop),Rel X.K C M H n b Z->w n b P->
 (∀c a e f,Ext C.U H a->qV X.K C.F M a f->Paired (λv d=>AtT X.K C.V M a d v) c e->P e f->Q c a)->t Z H Q
def YJ(f:t_ iR)(w:DR):Prop:=∃t,PA X f t/\∀(C:Fm) (M:Db->Prop) (H:Hp) (n:Nat) (b:t_ Slot) (Z:L2.St) (P:t_ D->Nat->Prop) (Q:t_ V->Hp->Prop),Rel X.K C M H n b Z->w n b P->
 (∀c a d e,Ext C.U H a->qV X.K C.F M a e->Ats X.K M a d c->P d e->Q c a)->t Z H Q
def K7(K:Frag)(F:u_ Fd)(a M:Db->Prop)(H:Hp)(v:V)(s:Slot):Prop:=vJ K F a M H s^P3 v/\s.vI=s_
def eJ(e:iR)(w:Nat->t_ Slot->(Slot->Nat->Prop)->Prop):Prop:=∃t,PE X e t/\∀(C:Fm) (M:Db->Prop) (H:Hp) (n:Nat) (b:t_ Slot) (Z:L2.St) (P:Slot->Nat->Prop) (Q:VK),Rel X.K C M H n b Z->w n b P->
 (∀v a s c,Ext C.U H a->qV X.K C.F M a c->K7 X.K C.F C.V M a v s->P s c->Q v a)->t Z H Q
def WC(f:t_ iR)(w:WB):Prop:=∃t,PA X f t/\∀(C:Fm) (M:Db->Prop) (H:Hp) (n:Nat) (b:t_ Slot) (Z:L2.St) (P:t_ Slot->Nat->Prop) (Q:t_ V->Hp->Prop),Rel X.K C M H n b Z->w n b P->
 (∀c a d e,Ext C.U H a->qV X.K C.F M a e->Paired (K7 X.K C.F C.V M a) c d->P d e->Q c a)->t Z H Q
end
def AJ(i:Nat):DW:=λn a P=>match a[i]? with
 |some (.sh d)=>P d n
 |_=>False
def MQ(i:Nat):DW:=λn a P=>match a[i]? with
 |some (.sh d)=>P d n
 |some (.br d)=>P d n
 |some (.ow d)=>P d n
 |some (.lt _ d)=>P d n
 |_=>False
def wC(d:D):DW:=λn _ P=>P d n
section
variable {X:Cx}{a b c e:Expr}{κ zR zN:Kd}{wa wb:DW}{pos:Pos}
theorem getD_some{Z:L2.St}{i:Nat}(h:(Z[i]?).getD q_=P3 v):Z[i]?=P3^P3 v:=by
 cases q:Z[i]? with
 |none=>simp_all
 |some o=>simp_all
set_option tactic.hygienic true in
theorem Xy(h:PE X e^BN i):DE X e .sh^AJ i:=by
 refine#[_,h,λC M H n j Z P Q R w q=>?_];unfold AJ at w
 split at w
 .rename_i d c
  let#[v, f,g]:=R.sl i _ c;exact#[v,getD_some f,q v H d n (Ext.refl _ _) R.feed g w]
 simp_all
set_option tactic.hygienic true in
theorem VZ(h:PE X e^BN i):DE X e .tp^MQ i:=by
 refine#[_,h,λC M H n l Z P Q R w q=>?_];unfold MQ at w
 split at w
 .rename_i d c
  let#[v, f,g]:=R.sl i _ c;exact#[v,getD_some f,q v H d n (Ext.refl _ _) R.feed (At.tp R.vM g) w]
 .rename_i d c
  let#[v, f,g]:=R.sl i _ c;exact#[v,getD_some f,q v H d n (Ext.refl _ _) R.feed g w]
 .rename_i d c
  let#[a, f,_,j,k]:=R.sl i _ c;exact#[.ref a,getD_some f,q _ H d n (Ext.refl _ _) R.feed (k.att j) w]
 .rename_i a d c
  let#[ f,_,j,k]:=R.sl i _ c;exact#[.ref a,getD_some f,q _ H d n (Ext.refl _ _) R.feed (k.att j) w]
 .exact w.elim
theorem dv(i:Nat)(d:X.N[i]?=P3 x:=by rfl)(e:YH X.env.scope x:=by first|exact jK rfl|exact kJ (jK rfl)|exact kJ (kJ rfl))(hd:(x==("__debug__":Str))=s_:=by decide)
  (c:(x==("__classdict__":Str))=s_:=by decide):DE X (.Name x pos) .sh^AJ i:=Xy^Io d e hd c
theorem Xe(i:Nat)(d:X.N[i]?=P3 x:=by rfl)(e:YH X.env.scope x:=by first|exact jK rfl|exact kJ (jK rfl)|exact kJ (kJ rfl))(hd:(x==("__debug__":Str))=s_:=by decide)
  (c:(x==("__classdict__":Str))=s_:=by decide):DE X (.Name x pos) .tp^MQ i:=VZ^Io d e hd c
theorem E8(h:PE X e^tC v)(hd:∀M H,At X.K M H d v):DE X e .sh^wC d:=
 #[_,h,λC M H n c Z P Q R w q=>q v H d n (Ext.refl _ _) R.feed (hd M H) w]
theorem AB{j pos}:DE X (.Constant (.int i) j pos) .sh^wC^.int i:=E8 Au λ_ _=>rfl
theorem BD{b:Bool}{j pos}:DE X (.Constant (.bool b) j pos) .sh^wC^.bl b:=E8 ci λ_ _=>rfl
theorem BC{j pos}:DE X (.Constant .none j pos) .sh^wC .non:=E8 Iq λ_ _=>rfl
theorem AX{j pos}(hx:decide (x.length<=1000)=r_:=by rfl):DE X (.Constant (.str x) j pos) .sh^wC^.str x:=
 E8 Dx λ_ _=>#[rfl,iU (of_decide_eq_true hx)^by cbv]
theorem Qi(c:Gl X x)(d:X.mg x=P3^.int i t)(hd:(x==("__debug__":Str))=s_:=by decide):DE X (.Name x pos) .sh^wC^.int i:=
 E8 (Wn c d (v:=.int i) #[t,rfl] hd) λ_ _=>rfl
theorem DE.sh(h:DE X e κ wa)(c:κ≠.tp:=by intro z; cases z):DE X e .sh wa:=by
 let#[t, g,i]:=h;exact#[t,g,λC M H n j Z P Q R w q=>i C M H n j Z P Q R w λv k d l e f r p=>q v k d l e f (r.vY R.dom c) p]
def FN(K:Frag)(κ:Kd)(r:R2)(f:D->D->(D->Prop)->Prop):Prop:=∀(U:Db->Prop) (M:Db->Prop) (H:Hp) (d e:D) (x y:V) (P:D->Prop) (Q:VK),(∀a,M a->∃o,H a=P3 o)->(∀a,U a->M a)->
 AtT K U M H d x->AtT K U M H e y->f d e P->(∀v c z,zk H c->VR K U M H c κ v z->P z->Q v c)->r x y H Q
def BE(f:D->D->(D->Prop)->Prop)(wa wb:DW):DW:=λn c P=>wa n c λx d=>wb d c λy e=>f x y λz=>P z e
theorem EW(u:FN X.K κ r f)(A:∀(C:Fm) (M:Db->Prop) (H:Hp) (n:Nat) (h:t_ Slot) (Z:L2.St) (P:D->Nat->Prop) (Q:VK),Rel X.K C M H n h Z->wa n h P->
   (∀v c d i,Ext C.U H c->qV X.K C.F M c i->VR X.K C.V M H c zR v d->P d i->Q v c)->o Z H Q)
  (B:∀(C:Fm) (M:Db->Prop) (H:Hp) (n:Nat) (h:t_ Slot) (Z:L2.St) (P:D->Nat->Prop) (Q:VK),Rel X.K C M H n h Z->wb n h P->
   (∀v c d i,Ext C.U H c->qV X.K C.F M c i->VR X.K C.V M H c zN v d->P d i->Q v c)->s Z H Q)
  (C:Fm) (M:Db->Prop) (H:Hp) (n:Nat) (h:t_ Slot) (Z:L2.St) (P:D->Nat->Prop) (Q:VK) (R:Rel X.K C M H n h Z) (w:BE f wa wb n h P)
  (q:∀v c d i,Ext C.U H c->qV X.K C.F M c i->VR X.K C.V M H c κ v d->P d i->Q v c):DY r o s Z H Q:=by
 refine A C M H n h Z _ _ R w λx E d G m I J L=>?_;have j:=R.step m I;refine B C M E G h Z _ _ j L λy H2 e N k t O S=>?_;have l:=j.step k t;exact u _ M H2 d e x y _ _ l.dom l.vM ((J.vT R.dom R.vM).qq (j.qq k) k R.uV) (O.vT j.dom j.vM) S λv T z g W p=>q v T z N ((m.trans k).trans g.ext) (t.grow g) (VR.back (m.trans k) W) p
theorem AV(i:OpR X (binaryOp h) r)(j:FN X.K κ r f)(k:DE X a zR wa)(l:DE X b zN wb):DE X (.BinOp a h b pos) κ^BE f wa wb:=by
 let#[o, c,d]:=k;let#[p, e,g]:=l;exact#[_,Bk i c e,λC M H n m Z P Q R w q=>EW j d g C M H n m Z P Q R w q]
theorem dR(h:IxR X r)(i:FN X.K κ r f)(j:DE X a zR wa)(k:DE X b zN wb)(l:MI b:=by intro _ _; rfl):DE X (.Subscript a b pos) κ^BE f wa wb:=by
 let#[o, c,d]:=j;let#[p, e,g]:=k;exact#[_,BZ h c e l,λC M H n m Z P Q R w q=>EW i d g C M H n m Z P Q R w q]
theorem BY(i:OpR X (compareOp op) r)(j:FN X.K .sh r f)(k:DE X a zR wa)(l:DE X b zN wb)(m:behindInMarks op b=s_):DE X (.Compare a [op] [b] pos) .sh^BE f wa wb:=by
 let#[p, d,e]:=k;let#[s, g,h]:=l;exact#[_,Wp i d g m,λC M H n o Z P Q R w q=>EW j e h C M H n o Z P Q R w q]
def A8(w:DW):Gi:=λn c P=>w n c λd e=>match d with
 |.bl b=>P b e
 |_=>False
theorem H_{K:Frag}{b:Bool}(h:VR K U M H H' κ v^.bl b):v=.bl b:=by
 cases κ with
 |sh=>exact h
 |tp=>exact h
 |fr=>let#[a, _,_,t]:=h; exact(t).elim
theorem aT(k:OpR X (compareOp op) r)(l:FN X.K .sh r f)(m:DE X a zR wa)(o:DE X b zN wb)(s:behindInMarks op b=s_):DT X (.Compare a [op] [b] pos)^A8^BE f wa wb:=by
 let#[y, g,h]:=m;let#[z, i,j]:=o;refine#[_,C7 k g i s,λC M H n t Z P Q R w q=>?_];refine EW l h j C M H n t Z _ _ R w λv u d x e f r p=>?_;cases d with
 |bl b=>exact#[b,H_ r,q b u x e f p]
 |_=>exact p.elim
theorem Ag(h:DE X e κ wa)(g:∀c,isTrue e X.env c=(do let v ←c; standAt e.pos; holding [v]^truthy v):=by intro _; rfl):DT X e^A8 wa:=by
 let#[t, i,j]:=h;refine#[_,Zm i g,λC M H n k Z P Q R w q=>?_];refine j C M H n k Z _ _ R w λv l d m e f r p=>?_;cases d with
 |bl b=>exact#[b,H_ r,q b l m e f p]
 |_=>exact p.elim
def YQ(u v:Gi):Gi:=λn d P=>u n d λc e=>if c=r_ then v e d P else P s_ e
def OI(u v:Gi):Gi:=λn d P=>u n d λc e=>if c=r_ then P r_ e else v e d P
def F4(u:Gi):Gi:=λn d P=>u n d λc e=>P (!c) e
variable {wA wB:Gi}{rest:t_ Expr}
theorem IF(h:DT X a wA):DTW X (.BoolOp .And [a] pos) wA:=by
 let#[t, c,d]:=h;exact#[t,LM c,d]
theorem BQ(h:DT X a wA):DTW X (.BoolOp .Or [a] pos) wA:=by
 let#[t, c,d]:=h;exact#[t,UC c,d]
theorem JS(i:DT X a wA)(j:DTW X (.BoolOp .And (b::rest) pos) wB):DTW X (.BoolOp .And (a::b::rest) pos)^YQ wA wB:=by
 let#[t, k,l]:=i;let#[u, m,o]:=j;refine#[_,OZ k m,λC M H n e Z P Q R w q=>?_];refine l C M H n e Z _ _ R w λc f g d h p=>?_;cases c with
 |false=>exact q _ f g d h p
 |true=>exact o C M f g e Z P Q (R.step d h) p λb H2 r s v x=>q b H2 r (d.trans s) v x
theorem BL(i:DT X a wA)(j:DTW X (.BoolOp .Or (b::rest) pos) wB):DTW X (.BoolOp .Or (a::b::rest) pos)^OI wA wB:=by
 let#[t, k,l]:=i;let#[u, m,o]:=j;refine#[_,Yi k m,λC M H n e Z P Q R w q=>?_];refine l C M H n e Z _ _ R w λc f g d h p=>?_;cases c with
 |true=>exact q _ f g d h p
 |false=>exact o C M f g e Z P Q (R.step d h) p λb H2 r s v x=>q b H2 r (d.trans s) v x
theorem DTW.dt(h:DTW X e wA):DT X e wA:=by
 let#[t, c,d]:=h;exact#[t,c.pt,d]
theorem A1(d:DT X a wA):DT X (.UnaryOp .Not a pos)^F4 wA:=by
 let#[t, e,f]:=d;exact#[_,Zn e,λC M H n g Z P Q R w q=>f C M H n g Z _ _ R w λc h i j k p=>q _ h i j k p]
def bq(u v:DW):DW:=λn d P=>u n d λc e=>match c with
 |.bl r_=>v e d P
 |.bl s_=>P (.bl s_) e
 |_=>False
def fC(u:DW):DW:=λn d P=>u n d λc e=>match c with
 |.bl b=>P (.bl (!b)) e
 |_=>False
theorem DQ{op}(h:DE X a κ wa):DE X (.BoolOp op [a] pos) κ wa:=by
 assumption
theorem Cv(j:DE X a zR wa)(l:DE X (.BoolOp .And (b::rest) pos) .sh wb):DE X (.BoolOp .And (a::b::rest) pos) .sh^bq wa wb:=by
 let#[t, m,o]:=j;let#[u, r,s]:=l;refine#[_,Zw m r,λC M H n g Z P Q R w q=>?_];refine o C M H n g Z _ _ R w λc e d h f i x p=>?_;cases d with
 | bl k=>
  exists k,H_ x;cases k with
  |false=>exact q _ e _ h f i (show VR _ _ M H e _ _^.bl _ from rfl) p
  |true=>
   exact s C M e h g Z P Q (R.step f i) p λv H2 d y z A B D=>q v H2 d y (f.trans z) A B D
 |_=>exact p.elim
theorem aj(f:DE X a zR wa):DE X (.UnaryOp .Not a pos) .sh^fC wa:=by
 let#[t, g,h]:=f;refine#[_,Zu g,λC M H n i Z P Q R w q=>?_];refine h C M H n i Z _ _ R w λc e d j l m o p=>?_;cases d with
 |bl k=>exact#[k,H_ o,q _ e _ j l m (show VR _ _ M H e _ _^.bl _ from rfl) p]
 |_=>exact p.elim
def eK(t:Gi)(u v:DW):DW:=λn d P=>t n d λc e=>if c=r_ then u e d P else v e d P
theorem JW(r:DT X c wA)(s:DE X a κ wa)(x:DE X b κ wb):DE X (.IfExp c a b pos) κ^eK wA wa wb:=by
 let#[t, y,z]:=r;let#[u, A,B]:=s;let#[F, D,E]:=x;refine#[_,Mu y A D,λC M H n f Z P Q R w q=>?_];refine z C M H n f Z _ _ R w λc l m e o p=>?_;cases c with
 |true=>exact B C M l m f Z P Q (R.step e o) p λv H2 d g h i j k=>q v H2 d g (e.trans h) i (VR.back e j) k
 |false=>exact E C M l m f Z P Q (R.step e o) p λv H2 d g h i j k=>q v H2 d g (e.trans h) i (VR.back e j) k
def Ad:DR:=λn _ P=>P [] n
def AK(w:DW)(e:DR):DR:=λn c P=>w n c λd f=>e f c λg h=>P (d::g) h
variable {es:t_ Expr}{ws:DR}
theorem AS:WE X [] Ad:=#[_,BH,λC M H n c Z P Q R w q=>q [] H [] n (Ext.refl _ _) R.feed .nil w]
theorem AG:YJ X [] Ad:=#[_,BH,λC M H n c Z P Q R w q=>q [] H [] n (Ext.refl _ _) R.feed rfl w]
theorem AM(i:DE X e κ wa)(j:WE X es ws)(k:starEach (e::es) X.env=(s_,eval e X.env)::starEach es X.env:=by rfl):WE X (e::es)^AK wa ws:=by
 let#[t, l,m]:=i;let#[u, o,r]:=j;refine#[_,Ap l o k,λC M H n f Z P Q R w q=>?_];refine m C M H n f Z _ _ R w λv s d x g y z p=>?_;have h:=R.step g y;exact r C M s x f Z _ _ h p λF H2 G A c B D E=>q _ H2 _ A (g.trans c) B (.cons ((z.vT R.dom R.vM).qq (h.qq c) c R.uV) D) E
theorem AA(i:DE X e κ wa)(j:YJ X es ws)(k:κ≠.tp:=by intro z; cases z)(l:starEach (e::es) X.env=(s_,eval e X.env)::starEach es X.env:=by rfl):YJ X (e::es)^AK wa ws:=by
 let#[t, m,o]:=i;let#[u, r,s]:=j;refine#[_,Ap m r l,λC M H n c Z P Q R w q=>?_];refine o C M H n c Z _ _ R w λv x d y f A B p=>?_;have g:=R.step f A;exact s C M x y c Z _ _ g p λD H2 E F h G I J=>q _ H2 (d::E) F (f.trans h) G #[v,D,rfl,(B.vY R.dom k).qq^g.qq h,I] J
def Bt(ws:DR):DW:=λn d P=>ws n d λc e=>c.length<=sizeLine/\P (.tup c) e
def DF(ws:DR):DW:=λn d P=>ws n d λc e=>c.length<=sizeLine/\P (.lst c) e
theorem JL(h:H p=q_):qQ M H (λb=>M b\/b=p)^An H p o:=#[λb u e _=>by rw[AH^Af e h]; exact e,λb z=>z.elim .inl λz=>.inr^by simp_all,λb c e=>by rw[AH^Af e h]; exact e]
theorem Am(h:H p=q_):zk H^An H p o:=.inr #[p,o,h,rfl]
theorem Aa{x1}(h:YJ X es ws):DE X (.Tuple es x1 pos) .sh^Bt ws:=by
 let#[t, f,i]:=h;refine#[_,Zs f,λC M H n j Z P Q R w q=>?_];refine i C M H n j Z _ _ R w λc d k l m o e p=>?_;refine#[by rw[e.length]; exact p.1,λa r=>?_];have g:zk d^An d a^.tup c:=Am r;refine q _ _ (.tup k) l (m.trans g.ext) (o.grow g) #[a,c,rfl,AQ,e.qq g.qq] p.2
theorem Aj(h:YJ X es ws):DE X (.List es pos) .fr^DF ws:=by
 let#[t, j,k]:=h;refine#[_,Gv j,λC M H n l Z P Q R w q=>?_];refine k C M H n l Z _ _ R w λd e m o f r i p=>?_;refine#[by rw[i.length]; exact p.1,λa c=>?_];have g:zk e^An e a^.lst d:=Am c;exact q _ _ (.lst m) o (f.trans g.ext) (r.grow g) (VR.back f #[a,rfl,c,d,AQ,i.qq^JL c]) p.2
def Cm(K:Frag)(κ:Kd)(r:t_ V->Hp->VK->Prop)(f:t_ D->(D->Prop)->Prop):Prop:=∀(U:Db->Prop) (M:Db->Prop) (H:Hp) (e:t_ D) (g:t_ V) (P:D->Prop) (Q:VK),(∀a,M a->∃o,H a=P3 o)->(∀a,U a->M a)->
 Paired (λv d=>AtT K U M H d v) g e->f e P->(∀v c z,zk H c->VR K U M H c κ v z->P z->Q v c)->r g H Q
def Hu(f:t_ D->(D->Prop)->Prop)(ws:DR):DW:=λn c P=>ws n c λd e=>f d λz=>P z e
theorem Y3(o:Cm X.K κ r f)(s:∀(C:Fm) (M:Db->Prop) (H:Hp) (n:Nat) (e:t_ Slot) (Z:L2.St) (P:t_ D->Nat->Prop) (Q:t_ V->Hp->Prop),Rel X.K C M H n e Z->ws n e P->
   (∀i c j h,Ext C.U H c->qV X.K C.F M c h->Paired (λv d=>AtT X.K C.V M c d v) i j->P j h->Q i c)->t Z H Q)
  (C:Fm) (M:Db->Prop) (H:Hp) (n:Nat) (e:t_ Slot) (Z:L2.St) (P:D->Nat->Prop) (Q:VK) (R:Rel X.K C M H n e Z) (w:Hu f ws n e P)
  (q:∀v c d h,Ext C.U H c->qV X.K C.F M c h->VR X.K C.V M H c κ v d->P d h->Q v c):eO r t Z H Q:=by
 refine s C M H n e Z _ _ R w λi u j x k l y p=>?_;have m:=R.step k l;exact o _ M u j i _ _ m.dom m.vM y p λv H2 z g A B=>q v H2 z x (k.trans g.ext) (l.grow g) (VR.back k A) B
theorem Ak(h:B5 X (.builtin g) r)(i:Cm X.K κ r f)(j:Gl X x)(k:X.mg x=q_)(l:bootBuiltins x=P3^.builtin g)(m:WE X (e::es) ws)
  (o:x ≠ "__name__":=by decide) (c:(x==("__debug__":Str))=s_:=by decide)
  (he:starEach (e::es) X.env=(s_,eval e X.env)::starEach es X.env:=by rfl) (d:(backTo pos^starEach es X.env).any (·.1)=s_:=by rfl):DE X (.Call (.Name x p) (e::es) [] pos) κ^Hu f ws:=by
 let#[t, s,u]:=m;exact#[_,Es h j k l s o c he d,λC M H n v Z P Q R w q=>Y3 i u C M H n v Z P Q R w q]
theorem Be(g:B5 X (.type T) r)(h:Cm X.K κ r f)(i:Gl X x)(j:X.mg x=q_)(k:bootBuiltins x=P3^.type T)(l:WE X (e::es) ws)
  (m:x ≠ "__name__":=by decide) (c:(x==("__debug__":Str))=s_:=by decide)
  (he:starEach (e::es) X.env=(s_,eval e X.env)::starEach es X.env:=by rfl) (d:(backTo pos^starEach es X.env).any (·.1)=s_:=by rfl):DE X (.Call (.Name x p) (e::es) [] pos) κ^Hu f ws:=by
 let#[t, o,s]:=l;exact#[_,KS g i j k o m c he d,λC M H n u Z P Q R w q=>Y3 h s C M H n u Z P Q R w q]
end
end Dp
namespace L2
def e7(z:Str):It:=#[λi _=>i<z.cps.size,λi H x a=>a=H/\∃c,z.cps[i]?=P3 c/\x=.str #[#[ c]],λi _=>z.cps.size<=i]
theorem MW{K:Frag}(a:Db)(z:Str)(t:Tok)(ty:String)(j:ty="str_ascii_iterator"\/ty="str_iterator")
  (W:∀N:ik,N.handled=q_->Walks P w N a [a] [a] z.cps.size (SignAt z) λi h=>h.IsStrIter a ty z t i):Turn P w K T (e7 z) [a] a (λi h=>h.IsStrIter a ty z t i) where
 mem:=by simp
 obj:=λi h f b g=>by
  have e:b=a:=by simpa using g
  subst e;let#[o, e,c,d]:=f;exact#[o,e,λv z=>by rw[d]at z; cases z]
 keep:=λi h l f k=>let #[o,U,r]:=f; #[o,k a (by simp) o U,r]
 item:=by
  intro X D F G n i O s Z H E I p f J;subst D F G;let#[ q,x,V,y,B,C]:=p a (by simp);refine(W X.A^I.ok.hd n).item i s _ _ J f λv l R Y m kk=>?_;let#[c,u, L,rfl]:=Y;have I1:Inv X O Z H {s with heap:=l,toks:=R}:=I.turned (λb o g e=>kk b o (by simpa using g) e) q x y B C;let#[o, e,cc,d]:=id m;exact#[_,rfl,QO (s:={s with heap:=l,toks:=R}) e cc d (by rcases j with rfl|rfl <;>decide) #[.str #[#[ c]],H,I1,#[_,rfl],#[rfl,c,L,rfl],m,λb g=>(p b g).1]]
 done:=by
  intro X D F G n i O s Z H E I p f J;subst D F G;let#[ q,x,V,y,B,C]:=p a^by simp
  have S:z.cps[i]?=q_:=by
   have:z.cps.size<=i:=J
   simp[this]
  rcases j with rfl|rfl
  .exact wpAny_pyNext_ascii_end (I.ok.hd n) f S λl M=>#[rfl,I.turned (t':=s.toks) (λb o g e=>M b o g e) q x y B C]
  .exact wpAny_pyNext_wide_end (I.ok.hd n) f S λl M=>#[rfl,I.turned (t':=s.toks) (λb o g e=>M b o g e) q x y B C]
 self:=λA i s Q E f h=>by
  rcases j with rfl|rfl
  .exact wpAny_pyIter_striter_ascii f h
  .exact wpAny_pyIter_striter_wide f h
section
variable {X:Cx}{tg:Expr}
def c8(K:Frag)(d:TE):TI:=λZ H R=>d Z H λx b=>
 (∃a,x=.ref a/\(∃c,SqL K b a c)/\R (WA K a) b)\/(∃a,x=.ref a/\(∃c,SqT K b a c)/\R (Sm K a) b)\/∃z,x=.str z/\R (e7 z) b
theorem LN(w:PE X l n):PI X tg l^c8 X.K n:=by
 intro r s Z H R I h;refine thn (w r s Z H _ I h) λv c zz=>?_;let#[x,g, f,j,y]:=zz
 have d:∀b,b∈[c.heap.objs.size]->F2 X r g b:=λb A=>by
  have e:b=c.heap.objs.size:=by simpa using A
  subst e;exact f.fpOk (Re _)^f.hok.fresh^Re _
 rcases y with⟨a,e,⟨B,k⟩,q⟩|⟨a,e,⟨B,k⟩,q⟩|⟨z,e,q⟩
 .subst e
  subst j;let#[i, C,p,D]:=f.list k;refine jv p.isList ?_;exact#[c.heap.objs.size,[c.heap.objs.size],_,_,g,rfl,f.kept (t':=c.toks) λb o e=>Go _ e,Q6 a _,#[_,Uf _ rfl,rfl,rfl],d,q]
 .subst e
  subst j;let#[i, C,p,D]:=f.tuple k;refine jk (show c.heap.IsTuple a i.toArray from p) ?_;exact#[c.heap.objs.size,[c.heap.objs.size],_,_,g,rfl,f.kept (t':=c.toks) λb o e=>Go _ e,IU a _,#[_,Uf _ rfl,rfl,rfl],d,q]
 .subst e
  let#[t, rfl]:=j;cases u:z.cps.all (·<128)
  .refine wpAny_pyIter_wide u ?_
   exact#[c.heap.objs.size,[c.heap.objs.size],_,_,g,rfl,f.kept (t':=c.toks) λb o e=>Go _ e,MW _ z t "str_iterator" (.inr rfl) λE m=>Walks.strWide m _ z t,#[_,Uf _ rfl,rfl,rfl],d,q]
  .refine wpAny_pyIter_ascii u ?_
   exact#[c.heap.objs.size,[c.heap.objs.size],_,_,g,rfl,f.kept (t':=c.toks) λb o e=>Go _ e,MW _ z t "str_ascii_iterator" (.inl rfl) λE m=>Walks.strAscii m _ z t,#[_,Uf _ rfl,rfl,rfl],d,q]
end
section
variable {X:Cx}
theorem Jr(bs:t_ Bool):((iM bs.length).all λi=>(bs[i]?).getD r_)=bs.all id:=by
 induction bs with
 |nil=>rfl
 |cons b r a=>
  simp only[UF,nA,lS,List.all_map]
  congr 1
theorem E_(t:X.calm=r_):B5 X (.builtin "all") (λj H Q=>∃(p:Db) (c:t_ Bool),j=[.ref p]/\SqL X.K H p^c.map V.bl/\Q (.bl^c.all id) H):=by
 intro J s Z H j L Q I r h;let#[p,c, rfl,w,q]:=h;let#[u, rfl,y]:=vals1 r;subst y;let#[a, k,z,M]:=I.list w;have d:=k.length;have f:s.heap.IsList p a.toArray:=z.isList;have g:p<s.heap.objs.size:=by let#[_, e,_]:=id f; exact Tk e
 refine call_all_walk^jv f ?_
 refine#[s.heap.objs.size,[s.heap.objs.size,p],[s.heap.objs.size],a.toArray.size,_,_,λi=>(c[i]?).getD r_,rfl,Walks.list (A:=X.A.in1) (I.ok.hd t) _ p (iJ g) a.toArray,
  #[#[_,Uf _ rfl,rfl,rfl],f.push _],λi v N O P B l=>?_,λR C D=>?_]
 .have m:a[i]?=P3 v:=by simpa using B
  have E:∃b,c[i]?=P3 b:=by
   have S:i<a.length:=(f8.mp m).1;rw[FM]at d;exact#[c[i]'(by lk),On^by lk]
  let#[b, n]:=E;let#[u, o,F]:=k.get (i:=i) (x:=.bl b) (by simp only[T0,n]; rfl);rw[m]at o;injection o with o;subst o;subst F;simp only[n,Option.getD_some]at l;exact lv l
 .have e:((iM a.toArray.size).all λi=>(c[i]?).getD r_)=c.all id:=by
   rw[iK,←d,FM]; exact Jr c
  rw[e];exact#[.bl _,H,I.kept (t':=C) λb x e=>D b x (λG=>by rw[h_.mp G]at e; exact jN _^Tk e)^Go _ e,rfl,q]
theorem Nx:B5 X (.builtin "isinstance") (λa H Q=>∃x T t b,a=[x,.ty T]/\Fz X.K H x t/\PySem.W.kitOne X.K t^.type T=P3 b/\Q (.bl b) H):=by
 intro f s Z H a g Q I r h;let#[x,T,t,b, rfl,ty,e,q]:=h;let#[u,i, rfl,c,d]:=vals2 r;subst d;exact Rz I c ty e λj=>#[.bl b,H,I.tok _,rfl,q]
theorem Ra:OpR X (compareOp .LtE) (λx y H Q=>∃i j,x=.str i/\y=.str j/\Q (.bl (!(j.cps.toList<i.cps.toList))) H):=by
 intro c s Z H x y v u Q I a b h;let#[i,j, rfl,rfl,q]:=h;let#[t,rfl]:=a;let#[d,rfl]:=b;exact PySem.P.le_str #[.bl _,H,I,rfl,q]
theorem OP:∀{a:t_ Ev},qz (b.map V.str) a->StrsAre a b:=by
 induction b with
 |nil=>intro a r; cases r; exact .nil
 | cons n g c=>
  intro a r;cases r with
  |cons d f=>
   let#[t,e]:=d;subst e;exact .cons n t^c f
theorem Ze:SlR X (λx f g H Q=>∃z,x=.str z/\z.length<=sizeLine/\Q (.str^Txt.slice z f g) H):=by
 intro o s Z H x v w y f g A Q I p c r m h;let#[z,rfl,d,q]:=h;let#[t,rfl]:=p;exists "str",_,F.slot_str_getitem.lookup,mr _ _ _;have b:∀a k,EP X o Z Q (.str _ a) {s with toks:=k}:=λa k=>#[.str _,H,I.tok _,#[_,rfl],q];cases r with
 |none=>
  cases m with
  |none=>exact lO (l:=q_) (u:=q_) (st:=q_) c rfl (nZ #[iU (Txt.slice_le z _ _) d,λa k=>b a k])
  |int j e=>exact lO (l:=q_) (u:=P3 (j,e)) (st:=q_) c rfl (nZ #[iU (Txt.slice_le z _ _) d,λa k=>b a k])
 |int i n=>
  cases m with
  |none=>exact lO (l:=P3 (i,n)) (u:=q_) (st:=q_) c rfl (nZ #[iU (Txt.slice_le z _ _) d,λa k=>b a k])
  |int j e=>exact lO (l:=P3 (i,n)) (u:=P3 (j,e)) (st:=q_) c rfl (nZ #[iU (Txt.slice_le z _ _) d,λa k=>b a k])
theorem RY(d:X.A.units<cLine):OpR X (compareOp .NotEq) (λx y H Q=>∃a b c,x=.ref a/\y=.ref b/\SqL X.K H a c/\SqL X.K H b []/\Q (.bl (!c.isEmpty)) H):=by
 intro w s Z H x y v u Q I m n h;let#[a,b,c, rfl,rfl,o,p,q]:=h;subst m;subst n;let#[r, f,g,_]:=I.list o;let#[i, k,l,_]:=I.list p;cases k;cases f with
 |nil=>exact SeqAt.RcNeAt.lists (e:=λ_=>r_) g.isList l.isList rfl d (λj t z=>absurd t^by simp) _ _ _ _ #[.bl _,H,I,rfl,q]
 |cons f k=>exact SeqAt.RcNeAt.lists_lengths g.isList l.isList (by rfl) d _ _ _ _ #[.bl _,H,I,rfl,q]
end
end L2
namespace Dp
open L2
def bN(K:Frag)(F:u_ Fd)(U b M:Db->Prop)(H:Hp)(n:Nat)(c:t_ Slot)(d:t_ V):Prop:=
 (∀a,M a->∃o,H a=P3 o)/\(∀f,F=P3 f->U f.1)/\(∀a,U a->b a)/\(∀a,b a->M a)/\qV K F M H n/\Paired (K7 K F b M H) d c
abbrev W2:=t_ Slot->Nat->(D->Nat->Prop)->Prop
def RD(K:Frag)(g:Kd)(W:W2)(h:Nat):Sp:=λb H Q _=>b.length=h/\∃(F:u_ Fd) (U c M:Db->Prop) (n:Nat) (e:t_ Slot) (P:D->Nat->Prop),bN K F U c M H n e b/\W e n P /\
 ∀v a d f,Ext U H a->qV K F M a f->VR K c M H a g v d->P d f->Q v a
def AT(w:DW):Nat->t_ Slot->(Slot->Nat->Prop)->Prop:=λn a P=>w n a λd b=>P (.sh d) b
def ZM(w:DW):Nat->t_ Slot->(Slot->Nat->Prop)->Prop:=λn a P=>w n a λd b=>P (.br d) b
def CU(i:Nat):Nat->t_ Slot->(Slot->Nat->Prop)->Prop:=λn a P=>match a[i]? with
 |some .fd=>P .fd n
 |_=>False
def A3:WB:=λn _ P=>P [] n
def AL(w:Nat->t_ Slot->(Slot->Nat->Prop)->Prop)(b:WB):WB:=λn a P=>w n a λs c=>b c a λd e=>P (s::d) e
def A0(W:W2)(a:WB):DW:=λn b P=>a n b λc d=>W c d P
section
variable {X:Cx}{a e:Expr}{es:t_ Expr}{κ zR:Kd}{wa:DW}{pos:Pos}{w1:Nat->t_ Slot->(Slot->Nat->Prop)->Prop}{was:WB}
theorem dS(h:DE X e κ wa)(b:κ≠.tp:=by intro z; cases z):eJ X e^AT wa:=by
 let#[t, c,g]:=h;exact#[t,c,λC M H n i Z P Q R w q=>g C M H n i Z _ _ R w λv j d k e f r p=>q v j (.sh d) k e f #[#[v,rfl,r.vY R.dom b],rfl] p]
theorem dU(h:DE X e κ wa):eJ X e^ZM wa:=by
 let#[t, b,c]:=h;exact#[t,b,λC M H n g Z P Q R w q=>c C M H n g Z _ _ R w λv i d j e f r p=>q v i (.br d) j e f #[#[v,rfl,r.vT R.dom R.vM],rfl] p]
theorem A2(i:Nat)(d:X.N[i]?=P3 x:=by rfl)(e:YH X.env.scope x:=by first|exact jK rfl|exact kJ (jK rfl)|exact kJ (kJ rfl))(b:(x==("__debug__":Str))=s_:=by decide)
  (c:(x==("__classdict__":Str))=s_:=by decide):eJ X (.Name x pos)^CU i:=by
 refine#[_,Io d e b c,λC M H n j Z P Q R w q=>?_];unfold CU at w
 split at w
 .rename_i b
  let#[f, g,h]:=R.sl i _ b;exact#[_,getD_some g,q _ H .fd n (Ext.refl _ _) R.feed #[#[f,rfl,h],rfl] w]
 simp_all
theorem AF:WC X [] A3:=#[_,BH,λC M H n b Z P Q R w q=>q [] H [] n (Ext.refl _ _) R.feed .nil w]
theorem AU(i:eJ X e w1)(j:WC X es was)(k:starEach (e::es) X.env=(s_,eval e X.env)::starEach es X.env:=by rfl):WC X (e::es)^AL w1 was:=by
 let#[t, l,m]:=i;let#[u, o,r]:=j;refine#[_,Ap l o k,λC M H n c Z P Q R w q=>?_];refine m C M H n c Z _ _ R w λv s d x f y g p=>?_;have h:=R.step f y;exact r C M s x c Z _ _ h p λF H2 G A b B D E=>q _ H2 _ A (f.trans b) B (.cons #[g.1.qq (h.qq b) (λ_ z=>z) b R.uV,g.2] D) E
theorem X0(G:B_ X.prog X.w X.K X.mg X.base FO k f fd b^RD X.K κ W b.length)(o:∀c n P,W c n P->c.length=b.length)
  (r:qk k X.A) (s:Gl X x) (u:X.mg x=P3^.ref f) (y:keepIn X.K^.ref f=r_) (z:Binds X.K fd b []) (B:WC X (e::es) was)
  (h:(x==("__debug__":Str))=s_:=by decide) (D:starEach (e::es) X.env=(s_,eval e X.env)::starEach es X.env:=by rfl) (i:(backTo pos^starEach es X.env).any (·.1)=s_:=by rfl):
  DE X (.Call (.Name x p) (e::es) [] pos) κ (A0 W was):=by
 let#[t, E,F]:=B;refine#[_,LQ G r s u y z .nil QD E h D i,λC M H n I Z P Q R w q=>?_];refine F C M H n I Z _ _ R w λU V c J j l m p=>?_;have g:=R.step j l;rw[im];exact#[(Paired.length m).trans^o _ _ _ p,_,_,_,M,J,c,P,#[g.dom,g.fU,g.uV,g.vM,l,m],p,λv H2 d L N O S T=>q v H2 d L (j.trans N) O (VR.back j S) T]
def hV(K:Frag)(κ:Kd)(T:String)(r:V->t_ V->Hp->VK->Prop)(f:D->t_ D->(D->Prop)->Prop):Prop:=∀(U:Db->Prop) (M:Db->Prop) (H:Hp) (d:D) (c:t_ D) (x:V) (e:t_ V) (P:D->Prop) (Q:VK),(∀a,M a->∃o,H a=P3 o)->(∀a,U a->M a)->
 AtT K U M H d x->Paired (λv d=>AtT K U M H d v) e c->f d c P->(∀v b z,zk H b->VR K U M H b κ v z->P z->Q v b)->r x e H Q
def gM(T:String)(d:D):Prop:=match d with
 |.str _=>T="str"
 |.int _=>T="int"
 |.lst _=>T="list"
 |_=>False
theorem aE{K:Frag}(h:gM T d)(hx:AtT K U M H d x):fE K T x H:=by
 cases d with
 |str z=>let#[e,_]:=hx; subst e; exact h
 |int i=>cases(hx); exact h
 |lst f=>let#[a,b, e,_,c,_]:=hx; subst e; exact .inl #[h,b,.inl c]
 |_=>exact(h).elim
def DO(X:Cx)(e:u_ iR)(w:Nat->t_ Slot->(u_ Int->Nat->Prop)->Prop):Prop:=∃t,PO X e t/\∀(C:Fm) (M:Db->Prop) (H:Hp) (n:Nat) (c:t_ Slot) (Z:L2.St) (P:u_ Int->Nat->Prop) (Q:u_ Int->Hp->Prop),Rel X.K C M H n c Z->w n c P->
 (∀o b d,Ext C.U H b->qV X.K C.F M b d->P o d->Q o b)->t Z H Q
def Ba:Nat->t_ Slot->(u_ Int->Nat->Prop)->Prop:=λn _ P=>P q_ n
def C3(w:DW):Nat->t_ Slot->(u_ Int->Nat->Prop)->Prop:=λn b P=>w n b λd c=>match d with
 |.int i=>P (P3 i) c
 |_=>False
theorem A_:DO X q_ Ba:=#[_,QA,λC M H n b Z P Q R w q=>q _ H n (Ext.refl _ _) R.feed w]
theorem Lr{K:Frag}(h:VR K U M H b κ v^.int i):v=.int i:=by
 cases κ with
 |sh=>exact h
 |tp=>exact h
 |fr=>let#[a, _,_,t]:=h; exact(t).elim
theorem A9(h:DE X e κ wa):DO X (P3 e)^C3 wa:=by
 let#[t, b,c]:=h;refine#[_,P_ b,λC M H n f Z P Q R w q=>?_];refine c C M H n f Z _ _ R w λv g d j k l m p=>?_;cases d with
 |int i=>exact#[i,Lr m,q _ g j k l p]
 |_=>exact p.elim
def gS(K:Frag)(κ:Kd)(r:V->u_ Int->u_ Int->Hp->VK->Prop)(f:D->u_ Int->u_ Int->(D->Prop)->Prop):Prop:=∀(U:Db->Prop) (M:Db->Prop) (H:Hp) (d:D) (x:V) (c e:u_ Int) (P:D->Prop) (Q:VK),(∀a,M a->∃o,H a=P3 o)->(∀a,U a->M a)->
 AtT K U M H d x->f d c e P->(∀v b z,zk H b->VR K U M H b κ v z->P z->Q v b)->r x c e H Q
def OG(f:D->u_ Int->u_ Int->(D->Prop)->Prop)(w:DW)(c e:Nat->t_ Slot->(u_ Int->Nat->Prop)->Prop):DW:=λn b P=>w n b λd g=>c g b λh i=>e i b λj k=>f d h j λz=>P z k
theorem CF(B:SlR X r)(E:gS X.K κ r f)(F:DE X e zR wa)(G:DO X i s)(I:DO X j x):
  DE X (.Subscript e (.Slice i j q_ k) pos) κ (OG f wa s x):=by
 let#[t, J,L]:=F;let#[u, N,O]:=G;let#[u', S,T]:=I;refine#[_,Mt B J N S,λC M H n l Z P Q R w q=>?_];refine L C M H n l Z _ _ R w λv U d W m Y r1 p=>?_;have o:=R.step m Y;have tv:=r1.vT R.dom R.vM;refine O C M U W l Z _ _ o p λi H2 n2 c f2 k=>?_;have b:=o.step c f2;refine T C M H2 n2 l Z _ _ b k λj H3 n3 h y p3=>?_;have A:=b.step h y;refine E C.V M H3 d v i j _ _ A.dom A.vM ((tv.qq (o.qq c) c R.uV).qq (b.qq h) h R.uV) p3 λv H4 z g vr pz=>?_;exact q v H4 z n3 (((m.trans c).trans h).trans g.ext) (y.grow g) (VR.back ((m.trans c).trans h) vr) pz
end
structure E2 where
 nx:Nat->List Slot->Prop
 rt:D->Nat->Prop
 bk:Nat->List Slot->Prop:=λ_ _=>False
 ct:Nat->List Slot->Prop:=λ_ _=>False
abbrev Ab:=E2->Nat->t_ Slot->Prop
structure Gh (K:Frag) (C:Fm) (κ:Kd) (D2:E2) (E:Ends):Prop where
 nx:∀M H n ρ Z,Rel K C M H n ρ Z->D2.nx n ρ->E.nx Z H
 rt:∀v H d n,Ext C.U C.H0 H->qV K C.F C.M0 H n->VR K C.V C.M0 C.H0 H κ v d->D2.rt d n->E.rt v H
 bk:∀M H n ρ Z,Rel K C M H n ρ Z->D2.bk n ρ->E.bk Z H
 ct:∀M H n ρ Z,Rel K C M H n ρ Z->D2.ct n ρ->E.ct Z H
def DS(X:Cx)(c:Kd)(d:jM)(w:Ab):Prop:=∃t,PS X d t/\∀(C:Fm) (M:Db->Prop) (H:Hp) (n:Nat) (a:t_ Slot) (Z:L2.St) (b:E2) (E:Ends),Rel X.K C M H n a Z->Gh X.K C c b E->w b n a->t E Z H
def MK(X:Cx)(c:Kd)(d:t_ jM)(w:Ab):Prop:=∃t,PSs X d t/\∀(C:Fm) (M:Db->Prop) (H:Hp) (n:Nat) (a:t_ Slot) (Z:L2.St) (b:E2) (E:Ends),Rel X.K C M H n a Z->Gh X.K C c b E->w b n a->t E Z H
def CA:Ab:=λa n b=>a.nx n b
def BO(u v:Ab):Ab:=λa n b=>u {a with nx:=v a} n b
def CT(w:DW):Ab:=λa n b=>w n b λd c=>a.rt d c
def DU(t:Gi)(u v:Ab):Ab:=λb n a=>t n a λc d=>if c=r_ then u b d a else v b d a
def CS(i:Nat)(w:DW):Ab:=λb n a=>w n a λd c=>b.nx c^a.set i^.sh d
section
variable {X:Cx}{κ zS:Kd}{st:Stmt}{rest:t_ Stmt}{u v:Ab}{wa:DW}{wA:Gi}{e c:Expr}{pos:Pos}
theorem AW:MK X κ [] CA:=#[_,GC,λC M H n a Z b E R L w=>L.nx M H n a Z R w]
theorem AC(c:DS X κ st u)(d:MK X κ rest v):MK X κ (st::rest)^BO u v:=by
 let#[t, e,f]:=c;let#[i, g,h]:=d;exact#[_,Ao e g,λC M H n a Z b E R L w=>f C M H n a Z {b with nx:=v b} _ R #[λM H n a Z R w=>h C M H n a Z b E R L w,L.rt,L.bk,L.ct] w]
theorem AE(a:DS X κ st u):MK X κ [st] u:=by
 let#[t, b,c]:=a;exact#[t,BR b,c]
theorem Ts{K:Frag}{v:V}(R:Rel K C M H n j Z)(L:Gh K C κ i E)(e:Ext C.U H g)(f:qV K C.F M g h)(r:VR K C.V M H g κ v d)(o:κ≠.tp)(p:i.rt d h):E.rt v g:=by
 have c:qQ M g _ g:=qQ.less R.sub;refine L.rt v g d h (R.ext.trans e) (f.qq c λ_ _ _ z=>z) ?_ p;cases κ with
 |sh=>exact At.qq c r
 |tp=>simp_all
 |fr=>
  let#[a, k,l,m]:=VR.back R.ext r;exact#[a,k,l,m.qq (qQ.less λb z=>z.imp (R.sub b) id) λ_ z=>z]
theorem AN(h:DE X e κ wa)(a:κ≠.tp:=by intro z; cases z):DS X κ (.Return (P3 e) pos)^CT wa:=by
 let#[t, b,c]:=h;exact#[_,Fi b,λC M H n f Z k E R L w=>c C M H n f Z _ _ R w λv l d m g i j p=>Ts R L g i j a p]
theorem Ai(j:DT X c wA)(k:MK X κ a u)(l:MK X κ b v):DS X κ (.If c a b pos)^DU wA u v:=by
 let#[t, m,o]:=j;let#[z, q,r]:=k;let#[s, x,y]:=l;refine#[_,KQ m q x,λC M H n d Z e E R L w=>?_];refine o C M H n d Z _ _ R w λb f g h i p=>?_;cases b with
 |true=>exact r C M f g d Z e E (R.step h i) L p
 |false=>exact y C M f g d Z e E (R.step h i) L p
theorem aW(b:X.N.Nodup)(c:X.N[i]?=P3 x)(hx:Loc X.env.scope x)(f:DE X e zS wa)(g:zS≠.tp:=by intro z; cases z)(h:swapsWith e (P3^.Name x a) pos.line X.env=pure s_:=by rfl)
  (j:X.fn x=r_\/X.env.scope.names.lookup x=P3 .local:=by first|exact .inl rfl|exact .inr rfl|assumption):DS X κ (.Assign [.Name x a] e pos)^CS i wa:=by
 let#[t, k,l]:=f;exact#[_,Dv b c hx k h j,λC M H n m Z y E R L w=>l C M H n m Z _ _ R w λv o d q r s u p=>L.nx M o q _ _ ((R.step r s).set^u.vY R.dom g) p]
end
section
variable {X:Cx}{κ:Kd}{e:Expr}{wa:DW}{pos:Pos}
def J7(i:Nat)(w:DW):Ab:=λb n a=>w n a λd c=>b.nx c^a.set i^.ow d
theorem Xl(c:X.N.Nodup)(f:X.N[i]?=P3 x)(hx:Loc X.env.scope x)(g:DE X e .fr wa)(h:swapsWith e (P3^.Name x b) pos.line X.env=pure s_:=by rfl)
  (j:X.fn x=r_\/X.env.scope.names.lookup x=P3 .local:=by first|exact .inl rfl|exact .inr rfl|assumption):DS X κ (.Assign [.Name x b] e pos)^J7 i wa:=by
 let#[t, k,l]:=g;refine#[_,Dv c f hx k h j,λC M H n m Z A E R L w=>?_];refine l C M H n m Z _ _ R w λv o d q r s u p=>?_;let#[a, rfl,y,z]:=u;exact L.nx _ o q _ _ (R.setOw r s y z) p
def bp(i:Nat)(w:Ab):Ab:=λb n a=>∃d,a[i]?=P3^.ow d/\w b n^a.set i^.sh d
theorem aH{K:Frag}(R:Rel K C M H n b Z)(c:b[i]?=P3^.ow d):∃e,Rel K C e H n (b.set i^.sh d) Z:=by
 let#[a, f,_]:=R.sl i _ c;exact#[_,R.freeze c f]
theorem QY(i:Nat)(h:MK X κ a w):MK X κ a^bp i w:=by
 let#[t, b,c]:=h;refine#[t,b,λC M H n l Z e E R L zz=>?_];let#[d, f,g]:=zz;let#[j, k]:=aH R f;exact c C j H n _ Z e E k L g
def bQ(K:Frag)(r:V->t_ V->Hp->VK->Prop)(f:D->t_ D->(D->D->Prop)->Prop):Prop:=∀(M:Db->Prop) (H:Hp) (a:Db) (d:D) (b:t_ D) (c:t_ V) (P:D->D->Prop) (Q:VK),M a->zL K M H a d->Ats K M H b c->f d b P->
 (∀o e z v,zL K M (An H a o) a e->At K M (An H a o) z v->P e z->Q v^An H a o)->r (.ref a) c H Q
def bX(i:Nat)(T:String)(f:D->t_ D->(D->D->Prop)->Prop)(b:DR):Ab:=λc n a=>∃d,a[i]?=P3^.ow d/\gM T d/\b n a λg h=>f d g λe _=>c.nx h^a.set i^.ow e
theorem FG(m:M a)(e:H a=P3 u)(t:∀c,u≠.tup c:=by intro _ z; cases z):qQ M H M^An H a o:=#[λb f q d=>by rw[AH λz=>d^by simp_all]; exact q,λ_ z=>.inl z,λb c q=>by rw[AH λz=>by simp_all]; exact q]
theorem Nh(i:Nat)(N:PlainAttrs T)(q:PySem.Slot T name w)(y:typeOf^.builtin w=pure^.type "method_descriptor")
  (O:eh X w r) (P:bQ X.K r f) (h:PE X (.Name x p)^BN i) (Q:YJ X (e::j) I)
  (k:attributeBase (.Name x p) name X.env^eval (.Name x p) X.env=eval (.Name x p) X.env:=by rfl)
  (s:((backTo b^starEach (e::j) X.env).all (λx=>!x.1)&&(backToKw b^keywordEach [] X.env).all (λx=>x.1.isSome)
   && decide ((e::j).length+([]:t_ mB).length+(if([]:t_ mB).isEmpty then 0 else 1)<30))=r_:=by rfl)
  (l:(c.endLine==b.line)=r_:=by rfl) (S:starEach (e::j) X.env=(s_,eval e X.env)::starEach j X.env:=by rfl) (g:(backTo b^starEach j X.env).any (·.1)=s_:=by rfl)
  (A:swapsWith (.Call (.Attribute (.Name x p) name c) (e::j) [] b) q_ pos.line X.env=pure s_:=by rfl):
  DS X κ (.Expr (.Call (.Attribute (.Name x p) name c) (e::j) [] b) pos) (bX i T f I):=by
 let#[t, U,W]:=Q;refine#[_,Wh (cf N q y O h U k s l S g) A,λC M H n Y Z D2 E R L zz=>?_];let#[d, B,hT,hw]:=zz;let#[a, F,m,nv,tt]:=R.sl i _ B;exists .ref a,getD_some F,aE hT^tt.att nv;refine W C M H n Y Z _ _ R hw λvs H1 ds n1 ee f1 r1 p=>?_;have J:=R.step ee f1;let#[a', u,m',a0,G]:=J.sl i _ B;rw[F]at u;cases u;exact P M H1 a d ds vs _ _ m' G r1 p λo d' z v t2 hz pp=>L.nx M _ n1 _ Z (J.mut B F t2) pp
def XX(d:D)(b:t_ D)(P:D->D->Prop):Prop:=∃a y,d=.lst a/\b=[y]/\a.length<sizeLine/\P (.lst (a++[y])) .non
theorem Qu{K:Frag}:bQ K P2 XX:=by
 intro M H a d j k P Q m t e w q;let#[l,y,rfl,rfl,f,w]:=w;let#[g, b,c]:=t;let#[u,r, rfl,h,i]:=e;cases(i);exact#[a,g,u,rfl,rfl,b,by rw[c.length]; exact f,q _ (.lst _) .non _ #[_,AQ,(c.append^Ats.one h).qq^FG m b] rfl w]
def aL(d:D)(c:t_ D)(P:D->D->Prop):Prop:=∃a b,d=.lst a/\c=[.lst b]/\a.length+b.length<=sizeLine/\P (.lst (a++b)) .non
theorem dZ{K:Frag}:bQ K P1 aL:=by
 intro M H a d o p P Q m t g w q;let#[s,v,rfl,rfl,h,w]:=w;let#[i, c,e]:=t;let#[u,r, rfl,j,k]:=g;cases(k);let#[b,l, rfl,n,f]:=j;exact#[a,b,i,l,rfl,rfl,c,n.2,by rw[e.length,f.length]; exact h,q _ (.lst _) .non _ #[_,AQ,(e.append f).qq^FG m c] rfl w]
end
def vy(K:Frag)(M:Db->Prop)(H:Hp)(J:It)(e:t_ D):Prop:=∀(i:Nat) (c:Db->Prop) (b:Hp),qQ M H c b->(∀a,c a->∃o,b a=P3 o)->
 (∀d,e[i]?=P3 d->J.go i b/\∀x H2,J.yld i b x H2->zk b H2/\At K c H2 d x)/\(e.length<=i->J.stop i b)
def Qv(K:Frag)(U M:Db->Prop)(H:Hp)(J:It)(e:t_ D):Prop:=∀(i:Nat) (c:Db->Prop) (b:Hp),qQ M H c b->Ext U H b->(∀a,c a->∃o,b a=P3 o)->
 (∀d,e[i]?=P3 d->J.go i b/\∀x H2,J.yld i b x H2->zk b H2/\At K c H2 d x)/\(e.length<=i->J.stop i b)
theorem vy.e{K:Frag}(h:vy K M H J a):Qv K U M H J a:=λi b c p _ d=>h i b c p d
def ZE(X:Cx)(g a:iR)(w:DR):Prop:=∃c,PI X g a c/\∀(C:Fm) (M:Db->Prop) (H:Hp) (n:Nat) (d:t_ Slot) (Z:L2.St) (P:t_ D->Nat->Prop) (R:It->Hp->Prop),Rel X.K C M H n d Z->w n d P->
 (∀J b e f,Ext C.U H b->qV X.K C.F M b f->Qv X.K C.U M b J e->P e f->R J b)->c Z H R
def DI(X:Cx)(g a:iR)(w:DR):Prop:=∃c,PI X g a c/\∀(C:Fm) (M:Db->Prop) (H:Hp) (n:Nat) (d:t_ Slot) (Z:L2.St) (P:t_ D->Nat->Prop) (R:It->Hp->Prop),Rel X.K C M H n d Z->w n d P->
 (∀J b e f,Ext C.U H b->qV X.K C.F M b f->vy X.K M b J e->P e f->R J b)->c Z H R
def signs(x:Str):t_ D:=x.cps.toList.map λc=>.str #[#[ c]]
def EH(w:DW):DR:=λn c P=>w n c λd a=>match d with
 |.lst b=>P b a
 |.tup b=>P b a
 |.str x=>P (signs x) a
 |_=>False
theorem MM{K:Frag}(h:NdL M H a b)(g:Ats K M H f b):vy K M H (WA K a) f:=by
 intro i o j p _;have c:SqL K j a b:=(h.qq p).sq;refine#[λd k=>?_,λl=>#[b,c,by rw[g.length]; exact l]];let#[v, e,m]:=(g.qq p).get k;refine#[#[b,v,c,e],λx H2 y=>?_];let#[n,y]:=y;subst n
 have:=e.symm.trans^y b c
 injection this with this;subst this;exact#[.refl,m]
theorem IP{K:Frag}(h:NdT M H a b)(g:Ats K M H f b):vy K M H (Sm K a) f:=by
 intro i o j p _;have c:SqT K j a b:=(h.qq p).sq;refine#[λd k=>?_,λl=>#[b,c,by rw[g.length]; exact l]];let#[v, e,m]:=(g.qq p).get k;refine#[#[b,v,c,e],λx H2 y=>?_];let#[n,y]:=y;subst n
 have:=e.symm.trans^y b c
 injection this with this;subst this;exact#[.refl,m]
set_option tactic.hygienic true in
theorem vE{K:Frag}:vy K M H (e7 z)^signs z:=by
 intro i h j p _;refine#[λd a=>?_,λe=>?_]
 .unfold signs at a
  simp only[T0]at a
  have f:i<z.cps.size:=by
   cases q:z.cps.toList[i]? with
   |none=>simp_all
   |some c=>simpa using (f8.mp q).1
  refine#[f,λx H2 y=>?_];let#[g,c,k,rfl]:=y;subst g
  have:z.cps.toList[i]?=P3 c:=by simp_all
  rw[this]at a;have b:D.str #[#[ c]]=d:=iA a;subst b;exact#[.refl,rfl,by simp only[jJ]; show 1<=16777216; decide]
 .show z.cps.size<=i
  unfold signs at e
  simp_all
def CJ(a:Int)(n:Nat):t_ D:=(iM n).map fun(i:Nat)=>.int (a+(i:Int))
theorem F3{K:Frag}{e:Int}:vy K M H (ZA e m)^CJ e m:=by
 intro i k l p _;refine#[λd a=>?_,λg=>?_]
 .unfold CJ at a
  rw[T0]at a
  have f:=by
   cases q:(iM m)[i]? with
   |none=>simp_all
   |some c=>simpa using (f8.mp q).1
  rw[n6 f]at a;have b:=iA a;subst b;refine#[f,λx H2 y=>?_];let#[h,j]:=y;subst h;exact#[.refl,j]
 .show m<=i
  unfold CJ at g
  simp_all
section
variable {X:Cx}{tg e e2:Expr}{κ:Kd}{wa:DW}{ws:DR}{p pos:Pos}
theorem Fv(h:DE X e κ wa)(o:κ≠.tp:=by intro z; cases z):DI X tg e^EH wa:=by
 let#[t, r,s]:=h;refine#[_,LN r,λC M H n u Z P y R w q=>?_];refine s C M H n u Z _ _ R w λv c d f g i x p=>?_;have j:=x.vY R.dom o;cases d with
 |lst k=>
  let#[a,l, e,b,m]:=j;exact .inl #[a,e,#[l,b.sq],q _ c k f g i (MM b m) p]
 |tup k=>
  let#[a,l, e,b,m]:=j;exact .inr^.inl #[a,e,#[l,b.sq],q _ c k f g i (IP b m) p]
 |str z=>exact .inr^.inr #[z,j.1,q _ c _ f g i vE p]
 |_=>exact p.elim
def Pj(ws:DR):DR:=λn a P=>ws n a λb c=>∃j:Int,b=[.int j]/\(-(2 ^ 62)<=j/\j<2 ^ 62)/\P (CJ 0 j.toNat) c
theorem Cu(b:Gl X "range")(c:X.mg "range"=q_)(d:WE X [e] ws)(f:starEach [e] X.env=[(s_,eval e X.env)]:=by rfl):DI X tg (.Call (.Name "range" p) [e] [] pos)^Pj ws:=by
 let#[t, g,h]:=d;refine#[_,DB b c g f,λC M H n i Z P v R w q=>?_];refine h C M H n i Z _ _ R w λx k y l m o s p=>?_;let#[j,rfl,a,p]:=p;cases s with
 |cons r u=>
  cases u;exact#[j,by rw[r],a.1,a.2,q _ k _ l m o F3 p]
theorem DI.c(h:DI X tg e ws):ZE X tg e ws:=by
 let#[a, b,d]:=h;exact#[a,b,λC M H n f Z P g R w q=>d C M H n f Z P g R w λJ i j k l m y p=>q J i j k l m y.e p]
theorem A6(h:DE X e κ wa):ZE X tg e^EH wa:=by
 let#[t, B,D]:=h;refine#[_,LN B,λC M H n E Z P N R w q=>?_];refine D C M H n E Z _ _ R w λv g d k l m F p=>?_;have f:AtT X.K C.V M g d v:=F.vT R.dom R.vM;cases d with
 | lst r=>
  let#[a,b, e,u,c,j]:=f;refine .inl #[a,e,#[b,.inl c],q _ g r k l m (λi O G I ex _=>?_) p]
  have s:SqL X.K G a b:=by
   rcases c with c|⟨o,c⟩
   .exact .inl^.inl^ex.keep c λz=>u^R.uV a z
   .exact .inl^.inr #[o,ex.keep c λz=>u^R.uV a z]
  refine#[λd J=>?_,λL=>#[b,s,by rw[j.length]; exact L]];let#[v, e,f]:=(j.qq I).get J;refine#[#[b,v,s,e],λx H2 y=>?_];let#[e2,y]:=y;subst e2
  have:P3 v=P3 x:=e.symm.trans^y b s
  injection this with this;subst this;exact#[.refl,f]
 |tup r=>
  let#[a,b, e,A,j]:=f;exact .inr^.inl #[a,e,#[b,A.sq],q _ g r k l m (IP A j).e p]
 |str z=>exact .inr^.inr #[z,f.1,q _ g _ k l m vE.e p]
 |_=>exact p.elim
end
abbrev BW:=D->t_ Slot->(t_ Slot->Prop)->Prop
def DG(X:Cx)(f:iR)(b:BW):Prop:=∃g,PG X f g/\∀(C:Fm) (M:Db->Prop) (H:Hp) (n:Nat) (a:t_ Slot) (Z:L2.St) (d:D) (v:V) (P:t_ Slot->Prop) (Q:L2.St->Hp->Prop),Rel X.K C M H n a Z->At X.K M H d v->b d a P->
 (∀c e,Rel X.K C M H n c e->P c->Q e H)->g v Z H Q
def A5(i:Nat):BW:=λd a P=>P^a.set i^.sh d
theorem IH(a:X.N.Nodup)(b:X.N[i]?=P3 x)(hx:Loc X.env.scope x)(c:X.fn x=r_\/X.env.scope.names.lookup x=P3 .local:=by first|exact .inl rfl|exact .inr rfl|assumption):DG X (.Name x pos)^A5 i:=
 #[_,B1 a b hx c,λC M H n e Z d v P Q R h w q=>q _ _ (R.set h) w]
def Bc(b:BW)(a:Ab)(c:E2):t_ D->Nat->t_ Slot->Prop
 |[],n,e=>c.nx n e
 |d::f,n,e=>b d e λg=>a {c with nx:=Bc b a c f,ct:=Bc b a c f,bk:=c.nx} n g
def MR(c:DR)(b:BW)(a:Ab):Ab:=λe n d=>c n d λf g=>Bc b a e f g d
theorem Rel.v7{K:Frag}(R:Rel K {C with zH:=p::C.zH} M H n a Z):Rel K C M H n a Z:=
 #[R.len,R.sub,R.dom,R.ext,R.fU,R.uV,R.vM,R.feed,R.sl,λq b=>R.pin q^TM _ b,R.br0,R.new,R.two,R.kept]
theorem Rel.pinned{K:Frag}(R:Rel K C M H n a Z):Rel K {C with zH:=(M,H)::C.zH} M H n a Z:=
 #[R.len,R.sub,R.dom,R.ext,R.fU,R.uV,R.vM,R.feed,R.sl,λq b=>(TW.mp b).elim (λe=>e▸qQ.refl M H)^R.pin q,R.br0,R.new,R.two,R.kept]
section
variable {X:Cx}{κ:Kd}{tg iter:Expr}{body:t_ Stmt}{src:DR}{b:BW}{wb:Ab}{pos:Pos}
theorem CL(S:nL (model X.prog X.w) X.A X.env X.xe)(T:X.calm=r_)(I:DI X tg iter src)(U:DG X tg b)(V:MK X κ body wb)
  (W:∀x,foldedSetIterable iter X.env x=pure x:=by intro _; rfl):DS X κ (.For tg iter body [] pos)^MR src b wb:=by
 let#[wi, Y,a2]:=I;let#[g, g1,g2]:=U;let#[tb, b1,b2]:=V;refine#[_,Dw S T Y g1 b1 W,λC M H n N Z h E R L w=>?_];refine a2 C M H n N Z _ _ R w λJ u a n1 e1 f1 y w1=>?_;have R1:=R.step e1 f1;exists λi m v j=>m=a.length - i/\i<=a.length/\∃c k o,Rel X.K {C with zH:=(M,u)::C.zH} c j k o v/\Bc b wb h (a.drop i) k o,#[a.length,by rfl,XV _,M,n1,N,R1.pinned,w1];rintro i m v j ⟨rfl,I,c,k,o,l,z⟩;have O:qQ M u c j:=l.pin (M,u) Sc
 by_cases d:i<a.length
 .have ed:a.drop i=a[i]::a.drop (i+1):=jL d
  rw[ed]at z;let#[go,yl]:=(y i c j O l.dom).1 a[i] (On d);refine .inr #[go,λP H2=>∃M2 B D,Rel X.K {C with zH:=(M,u)::C.zH} M2 H2 B D P/\Bc b wb h (a.drop (i+1)) B D,λP H2 #[M2,B,D,f,w2]=>#[a.length - (i+1),by omega,rfl,d,M2,B,D,f,w2],λx H2 hy=>?_];let#[ Q,hx]:=yl x H2 hy;have f:=l.step Q.ext^l.feed.grow Q;refine g2 _ c H2 k o v a[i] x _ _ f hx z λzO zV R3 w3=>?_;refine b2 _ c H2 k zO zV {h with nx:=Bc b wb h^a.drop (i+1),ct:=Bc b wb h^a.drop (i+1),bk:=h.nx} _ R3 #[λp F q r G s t=>#[p,q,r,s,t],L.rt,λp F q r G s t=>L.nx p F q r G s.v7 t,λp F q r G s t=>#[p,q,r,s,t]] w3
 .have e:i=a.length:=by lk
  subst e;rw[mI]at z;exact .inl #[(y _ c j O l.dom).2 (Re _),L.nx c j k o v l.v7 z]
end
def Di(b:BW)(f:Gi)(g:DW)(P:t_ D->Nat->Prop):t_ D->t_ D->Nat->t_ Slot->Prop
 |[],a,n,_=>P a n
 |d::h,a,n,j=>b d j λe=>f n e λc i=>if c=r_ then g i e λy k=>Di b f g P h (a++[y]) k e else Di b f g P h a i e
def Um:Slot->Slot
 |.ow d=>.br d
 |.lt _ d=>.br d
 |s=>s
theorem Ro(s:Slot):(Um s).vI=s_:=by cases s <;>rfl
theorem ER{a:t_^u_ Nat}{b:t_ Slot}{i:Nat}(h:(a.map λo=>match o with|some i=>Um^(b[i]?).getD .no|none=>Slot.no)[i]?=P3 s):s.vI=s_:=by
 rw[T0]at h;cases q:a[i]? with
 |none=>simp_all
 | some o=>
  rw[q]at h;cases o with
  |none=>
   rw[←iA h]; rfl
  |some j=>
   rw[←iA h]; exact Ro _
def GP(a:t_^u_ Nat)(b:t_ Slot):t_ Slot:=a.map λo=>match o with
 |some i=>Um^(b[i]?).getD .no
 |none=>.no
def D8(f:t_^u_ Nat)(a:DR)(b:BW)(g:Gi)(h:DW):DW:=λn d P=>a n d λe i=>e.length<=10000000/\Di b g h (λc j=>P (.lst c) j) e [] i^GP f d
def bW(X:Cx)(a:t_ iR)(w:Gi):Prop:=∃t,d7 X a t/\∀(C:Fm) (M:Db->Prop) (H:Hp) (n:Nat) (d:t_ Slot) (Z:L2.St) (P:Bool->Nat->Prop) (Q:Bool->Hp->Prop),Rel X.K C M H n d Z->w n d P->
 (∀b c e,Ext C.U H c->qV X.K C.F M c e->P b e->Q b c)->t Z H Q
def Gj:Gi:=λn _ P=>P r_ n
theorem BF:bW X [] Gj:=#[_,QB,λC M H n a Z P Q R w q=>q _ H n (Ext.refl _ _) R.feed w]
theorem C8(h:DT X c w):bW X [c] w:=by
 let#[t, a,b]:=h;exact#[t,Wl a,b]
theorem Ka{i:Nat}(a:(GP c d)[i]?=P3 s):s=.no\/∃(j:Nat) (b:Slot),d[j]?=P3 b/\s=Um b/\((Cs c Z)[i]?).getD q_=(Z[j]?).getD q_:=by
 unfold GP at a;unfold Cs;rw[T0]at a ⊢;cases q:c[i]? with
 |none=>simp_all
 | some o=>
  rw[q]at a;cases o with
  |none=>simp_all
  | some j=>
   have e:Um _=s:=iA a;cases f:d[j]? with
   |none=>rw[f]at e; exact .inl e.symm
   |some b=>
    rw[f]at e;exact .inr #[j,b,f,e.symm,rfl]
theorem NO{K:Frag}(k:∀(i:Nat) (s:Slot),o[i]?=P3 s->vJ K F U M H s^(Z[i]?).getD q_)
  (p:qQ M H g h) (br:∀d v,AtT K U M H d v->AtT K m g h d v):∀(i:Nat) (s:Slot),(GP n o)[i]?=P3 s->vJ K F m g h s^((Cs n Z)[i]?).getD q_:=by
 intro i s u
 rcases Ka u with rfl|⟨j,r,q,rfl,e⟩
 .trivial
 .rw[e]
  have c:=k j r q;cases r with
  |no=>trivial
  |sh d=>let#[v, b,f]:=c; exact#[v,b,f.qq p]
  |ex a y w x=>let#[ b,f]:=c; exact#[b,f.qq p]
  |br d=>let#[v, b,f]:=c; exact#[v,b,br d v f]
  |fd=>exact c
  |wd w x=>exact c
  |ow d=>let#[a, b,_,l,t]:=c; exact#[_,b,br d _^t.att l]
  |lt a d=>let#[ b,_,l,t]:=c; exact#[_,b,br d _^t.att l]
theorem QK{K:Frag}(g:∀(i:Nat) (s:Slot),l[i]?=P3 s->vJ K F U M H s^(Z[i]?).getD q_){i:Nat}
  (p:(GP k l)[i]?=P3^.br d) (m:((Cs k Z)[i]?).getD q_=P3^.ref a):∃o,H a=P3 o:=by
 rcases Ka p with z|⟨j,n,q,z,e⟩
 .cases z
 .rw[e]at m
  have f:=g j n q;simp only[m]at f;cases n with
  |br d=>let#[v, c,r]:=f; injection c with c;subst c; exact r.lies
  |ow d=>let#[b, c,_,h,t]:=f; cases c; exact(t.att h).lies
  |lt b d=>let#[ c,_,h,t]:=f; cases c; exact(t.att h).lies
  |no=>cases z
  |sh d=>cases z
  |ex a x u w=>cases z
  |fd=>cases z
  |wd u w=>cases z
section

theorem Xz(hc:X.calm=r_)(N':t_ Str)(js:t_^u_ Nat)(hi:ZE X tg iter src)(hg:∀I C s H L,DG (Av X sc N' I C s H L) tg b)(ht:∀I C s H L,bW (Av X sc N' I C s H L) ifs tt)(he:∀I C s H L,DE (Av X sc N' I C s H L) elt zS te)
  (hB:GZ sc X.env.scope X.N N' js=r_) (hk:zS≠.tp:=by intro z; cases z)
  (hs:∀x,foldedSetIterable iter X.env x=pure x:=by intro _; rfl):DE X (.ListComp elt [#[tg,iter,ifs,0]] sc pos) .fr^D8 js src b tt te:=by
 let#[wi, a1,a2]:=hi;refine#[_,Wo hc N' js a1 hB hs,λC M H n ρ Z P Q R w q=>?_];refine a2 C M H n ρ Z _ _ R w λJ O r n1 A f1 y w1=>?_;let#[ b2,w1]:=w1;have R1:=R.step A f1;intro l hl b4 I Ca s0 H0 L;let#[g, g1,g2]:=hg I Ca s0 H0 L;let#[tc, c1,c2]:=ht I Ca s0 H0 L;let#[tx, x1,x2]:=he I Ca s0 H0 L
 have a3:¬C.U l:=λz=>by
  let#[o, z]:=R1.udom l z;rw[hl]at z; cases z
 generalize S:(λb=>M b\/b=l)=M';have a4:M' l:=by rw[←S]; exact .inr rfl
 have M'of:∀b,M b->M' b:=λb z=>by rw[←S]; exact .inl z
 have a0:∀b,M' b->M b\/b=l:=λb z=>by rw[←S]at z; exact z
 have a9:∀b,C.V b\/b=l->M' b:=λb z=>z.elim (λz=>M'of b^R1.vM b z) λz=>by rw[z]; exact a4
 have b3:js.length=N'.length:=E9 (vq.of hB).cap
 exists g,tc,tx,λi m zZ D=>m=r.length - i/\i<=r.length/\∃n' zW k E,Rel X.K #[M',C.F,C.U,λb=>C.V b\/b=l,O,[],[]] M' D n' zW zZ/\D l=P3^.lst E/\Ats X.K M' D k E/\k.length<=i/\qQ M O M' D /\
   Di b tt te (λk n2=>P (.lst k) n2) (r.drop i) k n' zW,g1,c1,x1,#[r.length,by rfl,XV _,n1,GP js ρ,[],[],?_]
 .have G:zk O^An O l^.lst []:=Am hl
  have T:qQ M O M'^An O l^.lst []:=#[λb o e _=>G.all b o e,λb z=>(a0 b z).elim .inl λz=>.inr (by rw[z]; exact hl),λb E e=>G.all b _ e];refine#[#[?_,λa z=>z,λa z=>?_,G.ext,R1.fU,λa z=>.inl^R1.uV a z,a9,f1.qq T λf o _ e=>G.all f.1 o e,?_,λp hp=>absurd hp^by simp,λi d a q z=>QK R1.sl q z,λi s a q o _=>absurd o (by rw[ER q]; decide),λi j s t a q o _ _ _ _=>absurd o (by rw[ER q]; decide),λp hp=>absurd hp^by simp],AQ,rfl,XV _,T,w1]
  .unfold GP Cs
   rw[FM,FM]
  .rcases a0 a z with z|z
   .let#[o,z]:=R1.dom a z
    exact#[o,G.all a o z]
   .subst z
    exact#[_,AQ]
  .refine NO R1.sl T λd v h=>h.same T (λa o _ e=>G.all a o e) λa e n1 z=>z.elim n1 λz=>?_
   subst e;let#[o, w]:=h.lies;rw[z,hl]at w;cases w
 .rintro i m zZ D ⟨rfl,hi,n',zW,k,E,R',a6,W,a7,T,w'⟩
  by_cases Y:i<r.length
  .have ed:r.drop i=r[i]::r.drop (i+1):=jL Y
   rw[ed]at w';let#[ go,yl]:=(y i M' D T R'.ext R'.dom).1 r[i] (On Y);refine .inr #[go,λx H2 hy=>?_];let#[ G,hx]:=yl x H2 hy;have b0:=R'.step G.ext^R'.feed.grow G;refine g2 _ M' H2 n' zW zZ r[i] x _ _ b0 hx w' λzO zV R3 w3=>?_;refine c2 _ M' H2 n' zO zV _ _ R3 w3 λc H4 n4 e4 f4 w4=>?_;have R4:=R3.step e4 f4;have p4:qQ M' D M' H4:=G.qq.trans^R3.qq e4;have l4:H4 l=P3^.lst E:=e4.keep (G.all _ _ a6) a3;cases c with
   |false=>exact#[r.length - (i+1),by lk,rfl,Y,n4,zO,k,E,R4,l4,W.qq p4,by lk,T.trans p4,w4]
   | true=>
    refine x2 _ M' H4 n4 zO zV _ _ R4 w4 λyv H5 d5 n5 e5 f5 r5 w5=>?_;have B:=R4.step e5 f5;have p5:qQ M' H4 M' H5:=R4.qq e5;have l5:H5 l=P3^.lst E:=e5.keep l4 a3;have b1:=r5.vY R4.dom hk;have a5:=(W.qq p4).qq p5;have pu:qQ M' H5 M'^An H5 l^.lst (E++[yv]):=FG a4 l5;have b5:E.length=k.length:=W.length;refine#[E,l5,by simp only[jJ]; lk,r.length - (i+1),by lk,rfl,Y,n5,zO,k++[d5],E++[yv],?_,AQ,(a5.append^Ats.one b1).qq pu,by simp only[ZB,iB]; lk,(T.trans p4).trans^p5.trans pu,w5];refine#[B.len,B.sub,λa z=>?_,λb o e=>?_,B.fU,B.uV,B.vM,?_,λj s hs=>?_,λp hp=>absurd hp^by simp,B.br0,B.new,B.two,λp hp=>absurd hp^by simp]
    .by_cases ha:a=l
     .subst ha; exact#[_,AQ]
     .rw[AH ha]; exact B.dom a z
    .let#[o',q1,q2]:=B.ext b o e
     by_cases hb:b=l
     .subst hb
      have e':O b=P3 o:=e;rw[hl]at e'; cases e'
     .exact#[o',by rw[AH hb]; exact q1,q2]
    .refine f5.qq pu λf o hf e=>?_
     rw[AH λz=>a3^by simp only[←z]; exact R1.fU f hf];exact e
    .have u:=B.sl j s hs
     cases s with
     |no=>trivial
     |sh d=>let#[v, A,h2]:=u; exact#[v,A,h2.qq pu]
     |ex a nm ks r=>let#[ A,h2]:=u; exact#[A,h2.qq pu]
     | br d=>
      let#[v, A,h2]:=u;refine#[v,A,h2.same pu (λa o z e=>?_) λ_ _ z=>z];subst z;let#[o3, w]:=B.br0 j d a hs A
      have a7:a≠l:=λz=>by
       have w':O a=P3 o3:=w;rw[z,hl]at w'; cases w'
      rw[AH a7]; exact e
     |ow d=>
      let#[a, A,h2,_]:=u;exact absurd h2 (B.new j _ a hs rfl A).1
     |lt a d=>
      let#[ A,h2,_]:=u;exact absurd h2 (B.new j _ a hs rfl A).1
     |fd=>exact u
     |wd ks r=>exact u
  .have e:i=r.length:=by lk
   subst e;rw[mI]at w';refine .inl #[(y _ M' D T R'.ext R'.dom).2 (Re _),?_];have eb:Ext C.U O D:=R'.ext;have a8:qQ M' D M D:=qQ.less M'of;refine q _ D (.lst k) n' (A.trans eb) (R'.feed.qq a8 λ_ _ _ z=>z) (VR.back A ?_) w';exact#[l,rfl,hl,E,a6,by rw[S]; exact W]
end
theorem KP{K:Frag}(h:bN K F U k M H n c f)(I:f.length<=N.length):
  Rel K #[M,F,U,k,H,[],[]] M H n (c++iN (N.length - c.length) .no) (L2.start N f):=by
 let#[ u,A,B,C,fd,q]:=h;have D:f.length=c.length:=Paired.length q
 have E:∀{f:t_ V}{c:t_ Slot}{i:Nat}{s:Slot},Paired (K7 K F k M H) f c->c[i]?=P3 s->∃v,f[i]?=P3 v/\K7 K F k M H v s:=by
  intro f c i s q
  induction q generalizing i with
  |nil=>intro e; simp at e
  | cons r t G=>
   intro e;cases i with
   |zero=>simp at e; subst e; exact#[_,rfl,r]
   |succ i=>
    let#[v, l,m]:=G (i:=i) (by simpa using e);exact#[v,by simpa using l,m]
 have g:∀(i:Nat) (s:Slot),(c++iN (N.length - c.length) Slot.no)[i]?=P3 s->s=.no\/∃v,((L2.start N f)[i]?).getD q_=P3 v/\K7 K F k M H v s:=by
  intro i s b
  by_cases x:i<c.length
  .rw[lA x]at b
   let#[v, l,m]:=E q b;refine .inr #[v,?_,m];unfold L2.start;rw[lA (by simp only[FM,D]; exact x),T0,l];rfl
  .rw[ji^by lk,mz]at b
   split at b
   .exact .inl (iA b).symm
   .cases b
 refine#[?_,λa z=>z,u,Ext.refl _ _,A,B,C,fd,λi s b=>?_,λp w=>absurd w^by simp,λi d a b y=>?_,λi s a b o _=>?_,λi j s t a b o _ _ _ _=>?_,λp w=>absurd w^by simp]
 .unfold L2.start
  simp only[ZB,FM,pf];lk
 .rcases g i s b with rfl|⟨v,e,h⟩
  .trivial
  .rw[e]; exact h.1
 .rcases g i _ b with z|⟨v,e,h⟩
  .cases z
  .rw[e]at y
   injection y with y;subst y;let#[v, l,m]:=h.1;injection l with l;subst l;exact m.lies
 .rcases g i s b with rfl|⟨v,e,h⟩
  .cases o
  .rw[h.2]at o; cases o
 .rcases g i s b with rfl|⟨v,e,h⟩
  .cases o
  .rw[h.2]at o; cases o
theorem fk{K:Frag}{j:jM}(F:Fun K x b j f fd)(S:A7 N g^AR j)(G:g.length<=N.length)
  (I:∀(c:Ev) (A:ik) (a:t_ Env) (s:No) (H:Hp) (E:XK),qk k^A.deeper^envOfC b (AR j) s.heap.objs.size f c->MK (Ef FO P w K y e N b (AR j) f c A a s H E).nox m (BG j) B)
  (hW:∀l n i,l.length=g.length->W l n i->B {nx:=λn _=>m=.sh/\i .non n,rt:=i} n (l++iN (N.length - g.length) .no)):
  B_ P w K y e FO (k+1) f fd g (RD K m W g.length):=by
 refine F.ok S (λC H Q E h=>h.1) λc A a s H C Q E J h=>?_;let#[ hl, L,U,O,M,n,l,i, D,hw,q]:=h;let#[t, T,V]:=I c A a s H E J;exists t,T;have el:C.length=l.length:=Paired.length D.2.2.2.2.2;have R:=KP (N:=N) D (by lk);refine V #[M,L,U,O,H,[],[]] M H n _ _ {nx:=λn _=>m=.sh/\i .non n,rt:=i} _ R #[λM1 o r zT zK u p=>?_,λv o d r X Y Z p=>q v o d r X Y Z p,λ_ _ _ _ _ _ z=>z.elim,λ_ _ _ _ _ _ z=>z.elim] ?_
 .let#[hk,p]:=p
  subst hk;exact q .non o .non r u.ext (u.feed.qq (qQ.less u.sub) λ_ _ _ z=>z) rfl p
 simp_all
end Dp
namespace L2
section

theorem Inv.rdl(I:Inv X c Z H s)(h:Rd H l^.lst b):b.length<=sizeLine/\∃(a:t_ Ev) (n:Nat),qz b a/\b.length=a.length/\s.heap.get? l=P3 {cls:=.type "list",data:=.seq a.toArray n}:=by
 let#[ z, a,n, r,e]:=h.ok I.hok;exact#[z,_,n,r,r.length,e]
theorem LU:OpR X (binaryOp .Add) (λx y H Q=>∃l b d f,x=.ref l/\y=.ref b/\Rd H l^.lst d/\Rd H b^.lst f/\d.length+f.length<=sizeLine/\∀p,H p=q_->Q (.ref p)^An H p^.lst (d++f)):=by
 intro A s Z H x y v u Q I g i h;let#[l,b,d,f, rfl,rfl,j,k,B,q]:=h;subst g;subst i;let#[ z, c,n, r,C,e]:=I.rdl j;let#[ D, a,E, m,o,t]:=I.rdl k;refine PySem.P.add_list e t ?_ (by simp_all);have w:c.toArray++a.toArray=(c++a).toArray:=by simp
 rw[w];exact#[.ref _,_,I.lnew (r.append m)^by simp_all,rfl,q _ I.fresh]
end
end L2
namespace Dp
open L2
section
variable {K:Frag}
theorem AtT.int(h:AtT K U M H (.int i) v):v=.int i:=h
theorem AtT.bl(h:AtT K U M H (.bl i) v):v=.bl i:=h
theorem AtT.str(h:AtT K U M H (.str x) v):v=.str x/\x.length<=sizeLine:=h
theorem AtT.tup{U M:Db->Prop}{H:Hp}{b:t_ D}{v:V}(h:AtT K U M H (.tup b) v):∃a c,v=.ref a/\NdT M H a c/\Ats K M H b c:=h
def eX(g:Int->Int->(D->Prop)->Prop)(d e:D)(P:D->Prop):Prop:=match d,e with
 |.int i,.int j=>g i j P
 |_,_=>False
theorem Lv(w:eX g d e P):∃i j,d=.int i/\e=.int j/\g i j P:=by
 unfold eX at w
 split at w
 .grind
 simp_all
def f2(g:Int->Int->D):D->D->(D->Prop)->Prop:=eX λi j P=>P^g i j
def gO(C:Int->Int->Prop)(g:Int->Int->D):D->D->(D->Prop)->Prop:=eX λi j P=>C i j/\P^g i j
theorem Vy{g:Int->Int->Int}:FN K .sh (HI λi j=>.int^g i j) (f2 λi j=>.int^g i j):=by
 intro U M H d e x y P Q a f b c w q;let#[i,j, rfl,rfl,w]:=Lv w;exact#[i,j,b,c,q _ H (.int _) .refl rfl w]
theorem MD{g:Int->Int->Bool}:FN K .sh (HI λi j=>.bl^g i j) (f2 λi j=>.bl^g i j):=by
 intro U M H d e x y P Q a f b c w q;let#[i,j, rfl,rfl,w]:=Lv w;exact#[i,j,b,c,q _ H (.bl _) .refl rfl w]
theorem C2{g:Int->Int->Int}:FN K .sh (rI C λi j=>.int^g i j) (gO C λi j=>.int^g i j):=by
 intro U M H d e x y P Q a f b c w q;let#[i,j, rfl,rfl,w]:=Lv w;exact#[i,j,b,c,w.1,q _ H (.int _) .refl rfl w.2]
def eV(g:Str->Str->(D->Prop)->Prop)(d e:D)(P:D->Prop):Prop:=match d,e with
 |.str i,.str j=>g i j P
 |_,_=>False
theorem QQ(w:eV g d e P):∃i j,d=.str i/\e=.str j/\g i j P:=by
 unfold eV at w
 split at w
 .grind
 simp_all
theorem Vu{g:Str->Str->Bool}:FN K .sh (λx y H Q=>∃i j,x=.str i/\y=.str j/\Q (.bl^g i j) H) (eV λi j P=>P^.bl^g i j):=by
 intro U M H d e x y P Q a f b c w q;let#[i,j, rfl,rfl,w]:=QQ w;exact#[i,j,b.1,c.1,q _ H (.bl _) .refl rfl w]
theorem Sb:FN K .sh (λx y H Q=>∃i j,x=.str i/\y=.str j/\i.length+j.length<=sizeLine/\Q (.str (i++j)) H) (eV λi j P=>i.length+j.length<=sizeLine/\P^.str (i++j)):=by
 intro U M H d e x y P Q a f b c w q;let#[i,j, rfl,rfl,w]:=QQ w;exact#[i,j,b.1,c.1,w.1,q _ H (.str _) .refl #[rfl,by rw[Str.length_append i j]; exact w.1] w.2]
def fo(g:t_ D->t_ D->(D->Prop)->Prop)(d e:D)(P:D->Prop):Prop:=match d,e with
 |.tup i,.tup j=>g i j P
 |_,_=>False
def eW(g:t_ D->t_ D->(D->Prop)->Prop)(d e:D)(P:D->Prop):Prop:=match d,e with
 |.lst i,.lst j=>g i j P
 |_,_=>False
theorem XN(w:fo g d e P):∃i j,d=.tup i/\e=.tup j/\g i j P:=by
 unfold fo at w
 split at w
 .grind
 simp_all
theorem XR(w:eW g d e P):∃i j,d=.lst i/\e=.lst j/\g i j P:=by
 unfold eW at w
 split at w
 .grind
 simp_all
theorem EG(d:∀a,M a->∃o,H a=P3 o)(e:H p=q_)(h:Ats K M H c b):At K M (An H p^.tup b) (.tup c)^.ref p:=#[p,b,rfl,AQ,h.qq (Am e).qq]
theorem Cg(c:H p=q_)(h:Ats K M H b a):VR K U M H (An H p^.lst a) .fr (.ref p)^.lst b:=
 #[p,rfl,c,a,AQ,h.qq^JL c]
theorem Sa:FN K .sh (UA K) (fo λi j P=>i≠[]/\i.length+j.length<=sizeLine/\P^.tup (i++j)):=by
 intro U M H d e x y P Q c u o r w q;let#[i,j, rfl,rfl,w]:=XN w;let#[a,g, rfl,h,f]:=o.tup;let#[b,s, rfl,t,k]:=r.tup;have l:=f.length;have m:=k.length;refine#[a,b,g,s,rfl,rfl,h.sq,t.sq,λz=>w.1 ?_,by simp_all,λz=>?_,λz p n=>?_]
 .rw[z]at l; exact lP.mp l.symm
 .rw[z]at m
  have:j=[]:=lP.mp m.symm
  subst this;exact q _ H (.tup i) .refl #[a,g,rfl,h,f]^by simp_all
 .exact q _ _ (.tup (i++j)) (Am n) (EG c n^f.append k) w.2.2
theorem HA:FN K .fr (λx y H Q=>∃l b c f,x=.ref l/\y=.ref b/\Rd H l^.lst c/\Rd H b^.lst f/\c.length+f.length<=sizeLine/\∀p,H p=q_->Q (.ref p)^An H p^.lst (c++f)) (eW λi j P=>i.length+j.length<=sizeLine/\P^.lst (i++j)):=by
 intro U M H d e x y P Q m v n o w q;let#[i,j, rfl,rfl,w]:=XR w;let#[a,r, rfl,_,s,g]:=n;let#[b,t, rfl,_,u,h]:=o;exact#[a,b,r,t,rfl,rfl,s,u,by rw[g.length,h.length]; exact w.1,λp k=>q _ _ _ (Am k) (Cg k^g.append h) w.2]
def dJ(a:Bool)(d e:D)(P:D->Prop):Prop:=match d,e with
 |.bl i,.bl j=>P^.bl (if a then !(i==j)else i==j)
 |.int i,.int j=>P^.bl (if a then !(i==j)else i==j)
 |.str i,.str j=>P^.bl (if a then !(i==j)else i==j)
 |_,_=>False
theorem QS(w:dJ a d e P):(∃i j,d=.bl i/\e=.bl j/\P^.bl (if a then !(i==j)else i==j))\/(∃i j,d=.int i/\e=.int j/\P^.bl (if a then !(i==j)else i==j))\/∃i j,d=.str i/\e=.str j/\P^.bl (if a then !(i==j)else i==j):=by
 unfold dJ at w
 split at w
 .simp_all
 .simp_all
 .simp_all
 simp_all
theorem Gg:FN K .sh gL^dJ s_:=by
 intro U M H d e x y P Q c f a b w q
 rcases QS w with⟨i,j,rfl,rfl,w⟩|⟨i,j,rfl,rfl,w⟩|⟨i,j,rfl,rfl,w⟩
 .rw[a.bl,b.bl]; exact#[rfl,q _ H _ .refl (by rw[L1]; rfl) w]
 .rw[a.int,b.int]; exact#[rfl,q _ H _ .refl (by rw[IK]; rfl) w]
 .rw[a.str.1,b.str.1]; exact#[rfl,q _ H _ .refl (by rw[IJ]; rfl) w]
theorem J3:FN K .sh gI^dJ r_:=by
 intro U M H d e x y P Q c f a b w q
 rcases QS w with⟨i,j,rfl,rfl,w⟩|⟨i,j,rfl,rfl,w⟩|⟨i,j,rfl,rfl,w⟩
 .rw[a.bl,b.bl]; exact#[rfl,q _ H _ .refl (by rw[L1]; rfl) w]
 .rw[a.int,b.int]; exact#[rfl,q _ H _ .refl (by rw[IK]; rfl) w]
 .rw[a.str.1,b.str.1]; exact#[rfl,q _ H _ .refl (by rw[IJ]; rfl) w]
def U1:D->Bool
 |.non=>r_
 |_=>s_
theorem NW(h:AtT K U M H d x):decide (x=.non)=U1 d:=by
 cases d with
 |non=>rw[h]; rfl
 |bl b=>rw[h.bl]; rfl
 |int i=>rw[h.int]; rfl
 |str z=>rw[h.str.1]; rfl
 |tup c=>let#[a,e, rfl,_]:=h.tup; rfl
 |lst c=>let#[a,e, rfl,_]:=h; rfl
 |dic f c=>let#[a,e, rfl,_]:=h; rfl
 |fdi f c=>let#[a,e, rfl,_]:=h; rfl
 |dit f c=>let#[a,e, rfl,_]:=h; rfl
def D7(d e:D)(P:D->Prop):Prop:=match d,e with
 |.lst a,.int i=>∃z,atI a i=P3 z/\P z
 |.tup a,.int i=>∃z,atI a i=P3 z/\P z
 |.str x,.int i=>∃c,atI x.cps.toList i=P3 c/\P^.str #[#[ c]]
 |_,_=>False
theorem XU(w:D7 d e P):(∃a i z,d=.lst a/\e=.int i/\atI a i=P3 z/\P z)\/(∃a i z,d=.tup a/\e=.int i/\atI a i=P3 z/\P z)\/∃x i c,d=.str x/\e=.int i/\atI x.cps.toList i=P3 c/\P^.str #[#[ c]]:=by
 unfold D7 at w
 split at w
 .simp_all
 .simp_all
 .simp_all
 simp_all
set_option tactic.hygienic true in
theorem Ats.atI(h:Ats K M H a b)(e:atI a i=P3 z):∃v,L2.atI b i=P3 v/\At K M H z v:=by
 unfold L2.atI at e ⊢;rw[h.length];cases q:Sj _ i with
 |none=>grind
 |some j=>
  rw[q]at e;exact h.get e
theorem f9:FN K .sh (gJ K) D7:=by
 intro U M H d e x y P Q n r f g w q
 rcases XU w with⟨o,i,z,rfl,rfl,h,w⟩|⟨o,i,z,rfl,rfl,h,w⟩|⟨x,i,c,rfl,rfl,p,w⟩
 .let#[a,j,rfl,_,k,l]:=f
  let#[v, m,b]:=l.atI h;exact .inl #[a,j,i,v,rfl,g,.inl k,m,q v H z .refl b w]
 .let#[a,j,rfl,k,l]:=f.tup
  let#[v, m,b]:=l.atI h;exact .inr^.inl #[a,j,i,v,rfl,g,k.sq,m,q v H z .refl b w]
 .exact .inr^.inr #[x,i,c,f.str.1,g,f.str.2,p,q _ H (.str _) .refl #[rfl,by show 1<=16777216; decide] w]
def cutD{b:Type}(a:t_ b)(c d:u_ Int):t_ b:=(a.drop^HT.sIx a.length 0 c).take (HT.sIx a.length a.length d - HT.sIx a.length 0 c)
theorem C4{a:t_ V}{d:D}(h:Paired R a [d]):∃v,a=[v]/\R v d:=by
 cases h with
 |cons r t=>cases t; simp_all
def fZ:D->u_ Nat
 |.str x=>P3 x.length
 |.tup a=>P3 a.length
 |.lst a=>P3 a.length
 |_=>q_
def Nb(a:t_ D)(P:D->Prop):Prop:=∃d n,a=[d]/\fZ d=P3 n/\P^.int (n:Int)
theorem dY:Cm K .sh (λe H Q=>∃x n,e=[x]/\bR K x H n/\Q (.int n) H) Nb:=by
 intro U M H k l P Q i m j w q;let#[d,n,rfl,b,w]:=w;let#[v, rfl,c]:=C4 j;refine#[v,n,rfl,?_,q _ H (.int _) .refl rfl w];cases d with
 |str z=>injection b with b;subst b; rw[c.str.1]; exact#[c.str.2,rfl]
 |tup e=>
  injection b with b;subst b;let#[a,f, rfl,g,h]:=c.tup;exact .inr #[f,g.sq,h.length.symm]
 |lst e=>
  injection b with b;subst b;let#[a,f, rfl,_,g,h]:=c;exact .inl #[f,.inl g,h.length.symm]
 |_=>cases b
def allB:t_ D->u_^t_ Bool
 |[]=>P3 []
 |.bl b::r=>(allB r).map (b::·)
 |_::_=>q_
theorem Qq:∀{d:t_ D}{a:t_ V}{c:t_ Bool},allB d=P3 c->Ats K M H d a->a=c.map V.bl
 |[],a,c,e,h=>by injection e with e;subst e; exact h
 |.bl b::r,a,c,e,h=>by
  let#[v,l, f,g,i]:=h;let#[j, k,rfl]:=iX.mp e;rw[f,Qq k i,g];rfl
 |.non::r,a,c,e,h=>by cases e
 |.int _::r,a,c,e,h=>by cases e
 |.str _::r,a,c,e,h=>by cases e
 |.tup _::r,a,c,e,h=>by cases e
 |.lst _::r,a,c,e,h=>by cases e
 |.dic _ _::r,a,c,e,h=>by cases e
 |.fdi _ _::r,a,c,e,h=>by cases e
 |.dit _ _::r,a,c,e,h=>by cases e
def XY(c:t_ D)(P:D->Prop):Prop:=∃a b,c=[.lst a]/\allB a=P3 b/\P^.bl^b.all id
theorem N8:Cm K .sh (λc H Q=>∃(p:Db) (b:t_ Bool),c=[.ref p]/\SqL K H p^b.map V.bl/\Q (.bl^b.all id) H) XY:=by
 intro U M H j k P Q d l f w q;let#[c,b,rfl,e,w]:=w;let#[v, rfl,g]:=C4 f;let#[a,m, rfl,_,h,i]:=g
 have:=Qq e i
 subst this;exact#[a,b,rfl,.inl h,q _ H (.bl _) .refl rfl w]
def PY:t_ D->u_^t_ Str
 |[]=>P3 []
 |.str b::r=>(PY r).map (b::·)
 |_::_=>q_
theorem Qo:∀{d:t_ D}{a:t_ V}{c:t_ Str},PY d=P3 c->Ats K M H d a->a=c.map V.str
 |[],a,c,e,h=>by injection e with e;subst e; exact h
 |.str b::r,a,c,e,h=>by
  let#[v,l, f,g,i]:=h;let#[j, k,rfl]:=iX.mp e;simp only[f,Qo k i,g.1];rfl
 |.non::r,a,c,e,h=>by cases e
 |.int _::r,a,c,e,h=>by cases e
 |.bl _::r,a,c,e,h=>by cases e
 |.tup _::r,a,c,e,h=>by cases e
 |.lst _::r,a,c,e,h=>by cases e
 |.dic _ _::r,a,c,e,h=>by cases e
 |.fdi _ _::r,a,c,e,h=>by cases e
 |.dit _ _::r,a,c,e,h=>by cases e
def Yw(a:t_ D)(P:D->Prop):Prop:=match a with
 |[.int i]=>P^.int i
 |[.bl k]=>P^.int (if k then 1 else 0)
 |_=>False
set_option tactic.hygienic true in
theorem bC:Cm K .sh (λb H Q=>(∃i,b=[.int i]/\Q (.int i) H)\/∃k,b=[.bl k]/\Q (.int (if k then 1 else 0)) H) Yw:=by
 intro U M H e f P Q d g c w q;unfold Yw at w
 split at w
 .rename_i i
  let#[v, rfl,a]:=C4 c;rw[a.int]; exact .inl #[i,rfl,q _ H (.int i) .refl rfl w]
 .rename_i k
  let#[v, rfl,a]:=C4 c;rw[a.bl]; exact .inr #[k,rfl,q _ H (.int _) .refl rfl w]
 simp_all
def JP(b:t_ D)(P:D->Prop):Prop:=match b with
 |[.lst a]=>P^.lst a
 |[.tup a]=>P^.lst a
 |_=>False
theorem EX:Cm K .fr (λi H Q=>∃p c,i=[.ref p]/\(SqL K H p c\/SqT K H p c)/\∀l,H l=q_->Q (.ref l)^An H l^.lst c) JP:=by
 intro U M H k m P Q j n h w q;unfold JP at w
 split at w
 .let#[v,rfl,d]:=C4 h
  let#[a,e, rfl,_,f,g]:=d;exact#[a,e,rfl,.inl^.inl f,λl b=>q _ _ _ (Am b) (Cg b g) w]
 .let#[v,rfl,d]:=C4 h
  let#[a,e, rfl,f,g]:=d.tup;exact#[a,e,rfl,.inr f.sq,λl b=>q _ _ _ (Am b) (Cg b g) w]
 simp_all
end
def eM:D->String
 |.non=>"NoneType"
 |.bl _=>"bool"
 |.int _=>"int"
 |.str _=>"str"
 |.tup _=>"tuple"
 |.lst _=>"list"
 |.dic _ _=>"dict"
 |.fdi _ _=>"dict"
 |.dit _ _=>"dict"
def cu(t T:String):Bool:=t==T||(t=="bool"&&T=="int")
def OJ(T:String)(a:DW):DW:=λn b P=>a n b λd c=>P (.bl^cu (eM d) T) c
structure V_ (K:Frag) (T:String):Prop where
 ans:∀t∈["NoneType","bool","int","str","tuple","list","dict"],PySem.W.kitOne K (.type t)^.type T=P3^cu t T
theorem WK{K:Frag}(h:AtT K U M H d x):Fz K H x^.type^eM d:=by
 cases d with
 |non=>cases(h); exact .non
 |bl b=>cases h.bl; exact .bl b
 |int i=>cases h.int; exact .int i
 |str z=>cases h.str.1; exact .str z
 |tup e=>
  let#[a,f, rfl,c,j]:=h.tup;exact .tup c
 |lst e=>
  let#[a,f, rfl,_,c,j]:=h
  rcases c with c|⟨o,c⟩
  .exact .lst c
  .exact .frz c
 |dic g e=>
  let#[a,f, rfl,_,c,_]:=h;exact .dK c
 |fdi g e=>
  let#[a,f, rfl,#[o, _,c],_]:=h;exact .dF c
 |dit g e=>
  let#[a,f, rfl,_,c,_]:=h;exact .dT c
theorem WL(d:D):eM d∈["NoneType","bool","int","str","tuple","list","dict"]:=by cases d <;>simp[eM]
theorem BK(r:V_ X.K T)(s:DE X a o l)(u:Gl X "isinstance")(x:X.mg "isinstance"=q_)(e:Gl X b)(f:X.mg b=q_)(g:bootBuiltins b=P3^.type T)
  (h:b ≠ "__name__":=by decide) (i:(b==("__debug__":Str))=s_:=by decide)
  (m:starEach [a,.Name b c] X.env=(s_,eval a X.env)::starEach [.Name b c] X.env:=by rfl) (j:starEach [.Name b c] X.env=[(s_,eval (.Name b c) X.env)]:=by rfl)
  (k:(backTo pos^starEach [.Name b c] X.env).any (·.1)=s_:=by rfl):DE X (.Call (.Name "isinstance" p) [a,.Name b c] [] pos) .sh^OJ T l:=by
 let#[t, y,z]:=s;have A:PE X (.Name b c)^tC^.ty T:=Wq e f g rfl h i;exact#[_,Es Nx u x (by decide +kernel) (Ap y (Ap A BH j) m) (by cbv) (by cbv) m k,λC M H n B Z P Q R w q=>z C M H n B Z _ _ R w λv D d E F G I p=>#[v,T,_,_,rfl,WK^I.vT R.dom R.vM,r.ans _^WL d,q _ D (.bl _) E F G rfl p]]
section
variable {K:Frag}{X:Cx}
def Yy(d e:D)(P:D->Prop):Prop:=match d,e with
 |.int i,.int j=>P^.int (i+j)
 |.str i,.str j=>i.length+j.length<=sizeLine/\P^.str (i++j)
 |.tup i,.tup j=>i≠[]/\i.length+j.length<=sizeLine/\P^.tup (i++j)
 |.lst i,.lst j=>i.length+j.length<=sizeLine/\P^.lst (i++j)
 |_,_=>False
def cX:R2:=λx y H Q=>∃l b a c,x=.ref l/\y=.ref b/\Rd H l^.lst a/\Rd H b^.lst c/\a.length+c.length<=sizeLine/\∀p,H p=q_->Q (.ref p)^An H p^.lst (a++c)
def cW:R2:=λx y H Q=>∃i j,x=.str i/\y=.str j/\i.length+j.length<=sizeLine/\Q (.str (i++j)) H
def YY(g:Str->Str->Bool):R2:=λx y H Q=>∃i j,x=.str i/\y=.str j/\Q (.bl^g i j) H
def UB(K:Frag):R2:=λx y H Q=>(HI λi j=>.int (i+j)) x y H Q\/cW x y H Q\/UA K x y H Q\/cX x y H Q
theorem op_addU:OpR X (binaryOp .Add)^UB X.K:=vW.or^(Oj).or^op_catT.or^LU
theorem ME:FN X.K .sh (UB X.K) Yy:=λU M H d e x y P Q a b c f w q=>by
 unfold Yy at w
 split at w
 .exact .inl^Vy U M H _ _ x y P Q a b c f w q
 .exact .inr^.inl^Sb U M H _ _ x y P Q a b c f w q
 .exact .inr^.inr^.inl^Sa U M H _ _ x y P Q a b c f w q
 .exact .inr^.inr^.inr^HA U M H _ _ x y P Q a b c f w λv h z g r p=>q v h z g (r.vY a^by simp_all) p
 simp_all
def dG(d e:D)(P:D->Prop):Prop:=match d,e with
 |.int i,.int j=>P^.bl (decide (i<j))
 |.str i,.str j=>P^.bl (decide (i.cps.toList<j.cps.toList))
 |_,_=>False
def Zj:R2:=λx y H Q=>(HI λi j=>.bl (decide (i<j))) x y H Q\/YY (λi j=>decide (i.cps.toList<j.cps.toList)) x y H Q
theorem op_ltU:OpR X (compareOp .Lt) Zj:=op_lt.or RZ
theorem Y5:FN X.K .sh Zj dG:=λU M H d e x y P Q a b c f w q=>by
 unfold dG at w
 split at w
 .exact .inl^MD U M H _ _ x y P Q a b c f w q
 .exact .inr^Vu U M H _ _ x y P Q a b c f w q
 simp_all
def dH(d e:D)(P:D->Prop):Prop:=match d,e with
 |.int i,.int j=>P^.bl (decide (i<=j))
 |.str i,.str j=>P^.bl (!(decide (j.cps.toList<i.cps.toList)))
 |_,_=>False
def cQ:R2:=λx y H Q=>(HI λi j=>.bl (decide (i<=j))) x y H Q\/YY (λi j=>!(decide (j.cps.toList<i.cps.toList))) x y H Q
theorem Oi:OpR X (compareOp .LtE) cQ:=op_le.or Ra
theorem Vx:FN X.K .sh cQ dH:=λU M H d e x y P Q a b c f w q=>by
 unfold dH at w
 split at w
 .exact .inl^MD U M H _ _ x y P Q a b c f w q
 .exact .inr^Vu U M H _ _ x y P Q a b c f w q
 simp_all
def cT:R2:=HI λi j=>.bl (decide (j<i))
theorem Dy:OpR X (compareOp .Gt) cT:=Yl
theorem FZ:FN X.K .sh cT (f2 λi j=>.bl (decide (j<i))):=MD
def cU:R2:=HI λi j=>.bl (decide (j<=i))
theorem LS:OpR X (compareOp .GtE) cU:=Ym
theorem Qt:FN X.K .sh cU (f2 λi j=>.bl (decide (j<=i))):=MD
def cJ:V->u_ Int->u_ Int->Hp->VK->Prop:=λx a b H Q=>∃z,x=.str z/\z.length<=sizeLine/\Q (.str^Txt.slice z a b) H
theorem sl_U:SlR X cJ:=Ze
def Q5(w:DW):DW:=λn a P=>w n a λd b=>∃i,d=.int i/\P (.int (-i)) b
theorem ET(h:DE X a c b):DE X (.UnaryOp .USub a pos) .sh^Q5 b:=by
 let#[t, e,f]:=h;refine#[_,ce ZR e,λC M H n g Z P Q R w q=>?_];refine f C M H n g Z _ _ R w λv j d k l m o p=>?_;let#[i,rfl,p]:=p;exact#[i,Lr o,q _ j (.int _) k l m rfl p]
def Got(P:iP)(w:iZ)(K:Frag)(c:Str->u_ Ev)(a:iG)(x:Str)(k:Nat)(b:t_ Str)(e:Kd)(W:W2):Prop:=
 ∃f fd,B_ P w K c a FO k f fd b^RD K e W b.length/\c x=P3^.ref f/\keepIn K^.ref f=r_/\Binds K fd b []/\∀d n P,W d n P->d.length=b.length
theorem Ae(G:Got X.prog X.w X.K X.mg X.base x k h g W)
  (i:qk k X.A) (j:Gl X x) (l:WC X (e::a) b)
  (c:(x==("__debug__":Str))=s_:=by decide) (m:starEach (e::a) X.env=(s_,eval e X.env)::starEach a X.env:=by rfl) (d:(backTo pos^starEach a X.env).any (·.1)=s_:=by rfl):
  DE X (.Call (.Name x p) (e::a) [] pos) g (A0 W b):=by
 let#[f,fd, G,n,o,q,r]:=G;exact X0 G r i j n o q l c m d
def Yj(b:Nat)(g:t_ D->D):W2:=λc n P=>∃a:t_ D,a.length=b/\c=a.map .sh/\P (g a) n
theorem RO(h:Yj a g b n P):b.length=a:=by
 let#[c, e,rfl,_]:=h
 simp_all
theorem Lq:V_ K "int":=#[λt a=>by
 simp at a
 rcases a with rfl|rfl|rfl|rfl|rfl|rfl|rfl <;>kernel_rfl]
theorem Ez:V_ K "bool":=#[λt a=>by
 simp at a
 rcases a with rfl|rfl|rfl|rfl|rfl|rfl|rfl <;>kernel_rfl]
theorem Lp:V_ K "str":=#[λt a=>by
 simp at a
 rcases a with rfl|rfl|rfl|rfl|rfl|rfl|rfl <;>kernel_rfl]
theorem kit_tuple:V_ K "tuple":=#[λt a=>by
 simp at a
 rcases a with rfl|rfl|rfl|rfl|rfl|rfl|rfl <;>kernel_rfl]
end
theorem Ge{b:Type}(p:b->Bool):∀l:t_ b,allB (l.map λc=>.bl^p c)=P3^l.map p
 |[]=>rfl
 |a::l=>by
  rw[iQ];unfold allB;rw[Ge p l];rfl
theorem Vl{k:(D->Nat->Prop)->Prop}(c:a=r_->P (.bl b) n->k P)(h:P (.bl (a&&b)) n):(match (.bl a:D)with|.bl r_=>k P|.bl s_=>P (.bl s_) n|_=>False):=by
 cases a with
 |false=>exact h
 |true=>simp_all
theorem U8{K:Frag}{h:jM}(F:Fun K x x h f fd)(m:d x=P3^.ref f)(b:Binds K fd c [])
  (i:∀g n P,W g n P->g.length=c.length) (ok:B_ P w K d a FO k f fd c^RD K e W c.length):Got P w K d a x k c e W:=#[f,fd,ok,m,F.kp,b,i]
def Mg(K:Frag):Sp:=λc H Q _=>∃a b,c=[V.ref a]/\(li (α:=Int) b<=63/\SqL K H a^b.map V.int)/\∀d,Q (.bl r_) d
def LF(K:Frag):Sp:=λe H Q _=>∃a b,e=[V.ref a]/\(li (α:=Int) b<=63/\SqL K H a^b.map V.int) /\
 ∀(c f:Db) (d:Hp),c≠f->d c=P3^.lst^b.map V.int->d f=P3^.lst [.ref c,.int 0,.int 0]->Q (.ref f) d
theorem dW{a:t_ Int}(h:a.length<=63):Nm (a.map V.int) q_^P3 63=a.map V.int:=by
 have e:HT.sIx (a.map V.int).length (a.map V.int).length^P3 63=a.length:=by
  simp only[show(63:Int)=(63:Nat)from rfl,HT.zF,FM,Nat.min_eq_right h]
 unfold Nm;simp only[HT.zy]
 grind
theorem dA{K:Frag}{C O:jM}(F:Fun K "law" "law" C f fd)
  (S:A7 ("_law_script"::"_law_feed_here"::Nr) ["_law_script"]^AR C) (L:BG C=O::B) (Y:n0<=2 ^ 60)
  (Z:∀(n:Ev) (A:ik) (l:t_ Env) (s:No) (H:Hp) (E:XK),qk k^A.deeper^envOfC "law" (AR C) s.heap.objs.size f n->
   PS (Ef FO P w K J u ("_law_script"::"_law_feed_here"::Nr) "law" (AR C) f n A l s H E).nox O (Me (Pq (LF K) [] E0^Md (BN 0) RB)^HS 1))
  (h2:∀(n:Ev) (A:ik) (l:t_ Env) (s:No) (H:Hp) (E:XK),qk k^A.deeper^envOfC "law" (AR C) s.heap.objs.size f n->
   MK (Ef FO P w K J u ("_law_script"::"_law_feed_here"::Nr) "law" (AR C) f n A l s H E).nox .sh B T)
  (hW:T {nx:=λ_ _=>False,rt:=λd _=>d=.bl r_} n0 (.no::.fd::iN Nr.length .no)):B_ P w K J u FO (k+1) f fd ["_law_script"]^Mg K:=by
 refine F.ok S (λvs H Q E h=>?_) λn A l s H vs Q E U h=>?_
 .let#[a,M,rfl,_]:=h
  rfl
 .let#[a,M,rfl,#[W,hS],q]:=h
  let#[t, t1,t2]:=h2 n A l s H E U;refine#[ON (Me (Pq (LF K) [] E0^Md (BN 0) RB)^HS 1) t,by simp only[L]; exact Ao (Z n A l s H E U) t1,?_];refine#[_,rfl,a,M,rfl,#[W,hS],λc g I G hc X=>?_]
  have y:∀(i:Nat) (x:Slot),(Slot.no::Slot.fd::iN Nr.length Slot.no)[i]?=P3 x->Slot.no=x\/(Slot.fd=x/\i=1):=by
   intro i x m
   match i,m with
   |0,m=>exact .inl^iA m
   |1,m=>exact .inr #[iA m,rfl]
   |i+2,m=>
    simp only[pL,pL,mz]at m
    split at m
    .exact .inl^iA m
    .cases m
  have R:Rel K #[λb=>b=g,P3 #[g,c,q_],λb=>b=g,λb=>b=g,I,[],[]] (λb=>b=g) I n0 (.no::.fd::iN Nr.length .no)^(start ("_law_script"::"_law_feed_here"::Nr) [V.ref a]).set 1^P3^.ref g:=by
   refine#[by simp[L2.start],λ_ z=>z,λb z=>#[_,(congrArg I z).trans X],Ext.refl _ _,λb z=>by rw[←iA z],λ_ z=>z,λ_ z=>z,λb z=>?_,λi x m=>?_,λp N=>absurd N^by simp,λi d b m _=>?_,λi x b m o _=>?_,λi j x t b m o _ _ _ _=>?_,λp N=>absurd N^by simp]
   .have e:(#[g,c,q_]:Fd)=b:=iA z
    subst e;exact .inl #[rfl,0,0,M,X,G,#[G,hc],W,by cbv,by lk]
   .rcases y i x m with e|⟨e,rfl⟩
    .rw[←e]; trivial
    .rw[←e]
     exact#[#[g,c,q_],by simp[L2.start],rfl,rfl]
   .rcases y i _ m with e|⟨e,_⟩ <;>cases e
   .rcases y i x m with e|⟨e,_⟩ <;>(rw[←e]at o; cases o)
   .rcases y i x m with e|⟨e,_⟩ <;>(rw[←e]at o; cases o)
  refine t2 _ _ I n0 _ _ {nx:=λ_ _=>False,rt:=λd _=>d=.bl r_} _ R #[λ_ _ _ _ _ _ z=>z.elim,λv H2 d n' _ _ r p=>?_,λ_ _ _ _ _ _ z=>z.elim,λ_ _ _ _ _ _ z=>z.elim] hW;have e:d=.bl r_:=p;subst e;have e2:v=.bl r_:=r;subst e2;exact q H2
end Dp
namespace L2
section

theorem F5:∀{a:t_ Ev}{b:t_ Str},StrsAre a b->qz (b.map V.str) a
 |_,_,.nil=>.nil
 |_,_,.cons x t r=>.cons #[t,rfl]^F5 r
def T6(K:Frag):t_ V->Hp->VK->Prop:=λc H Q=>∃(p:Db) (b:t_ Str),c=[.ref p]/\SqL K H p^b.map V.str/\b.length<64/\∀(a:t_ Str) (l:Db),a.Perm b->sortedS a=r_->H l=q_->Q (.ref l)^An H l^.lst^a.map V.str
theorem PN:B5 X (.builtin "sorted")^T6 X.K:=by
 intro y s Z H A B Q I r h;let#[p,C, rfl,f,g,q]:=h;let#[u, rfl,i]:=vals1 r;subst i;let#[j, c,k,D]:=I.list f;have a:=c.length;rw[FM]at a;refine sorted_strs k.isList (OP c) (by lk) λl m n d t=>?_;let#[e,v]:=sortedAll_at _ _ _;have w:=d.length_eq;have x:=I.hok.fresh^jT _;refine#[.ref _,_,I.laid (λb o z=>sortedAll_old z) (jT _) (show qU _ _ _ _ _^.lst _ from#[?_,_,e,F5 n,?_]),rfl,q _ _ d t x]
 .grind
 .exact v
def Yc:R2:=λx y H Q=>∃z k,x=.str z/\y=.int k/\MulOk z k/\Q (.str^Txt.mul z k) H
theorem Wu:OpR X (binaryOp .Mult) Yc:=by
 intro e s Z H x y v u Q I a b h;let#[z,k, rfl,rfl,c,q]:=h;let#[t,rfl]:=a;let#[d,rfl]:=b;exact SB.mul c λd k=>#[.str _,H,I.tok _,#[_,rfl],q]
end
end L2
namespace Dp
open L2
section
variable {K:Frag}
def FJ(b:t_ D)(P:D->Prop):Prop:=match b with
 |[.lst a]=>P^.tup a
 |[.tup a]=>P^.tup a
 |_=>False
theorem Vt:Cm K .sh (λj H Q=>∃p d,j=[.ref p]/\((SqL K H p d/\∀l,H l=q_->Q (.ref l)^An H l^.tup d)\/(SqT K H p d/\Q (.ref p) H))) FJ:=by
 intro U M H k m P Q e n h w q;unfold FJ at w
 split at w
 .let#[v,rfl,f]:=C4 h
  let#[a,b, rfl,_,c,g]:=f;exact#[a,b,rfl,.inl #[.inl c,λl i=>q _ _ (.tup _) (Am i) (EG e i g) w]]
 .let#[v,rfl,f]:=C4 h
  let#[a,b, rfl,c,g]:=f.tup;exact#[a,b,rfl,.inr #[c.sq,q _ H (.tup _) .refl #[a,b,rfl,c,g] w]]
 simp_all
theorem Ats.strs:∀{a:t_ Str},(∀x∈a,x.length<=sizeLine)->Ats K M H (a.map D.str)^a.map V.str
 |[],_=>rfl
 |x::r,h=>#[_,_,rfl,#[rfl,h x Sc],Ats.strs λy b=>h y^TM _ b]
theorem Ats.strs_le:∀{b:t_ Str}{c:t_ V},Ats K M H (b.map D.str) c->∀x∈b,x.length<=sizeLine
 |[],_,_=>λx a=>by cases a
 |y::r,c,h=>λx a=>by
  let#[v,t, e,d,f]:=h
  rcases TW.mp a with rfl|a
  .exact d.2
  .exact Ats.strs_le f x a
def aK(d:t_ D)(P:D->Prop):Prop:=∃(c:t_ D) (b:t_ Str),d=[.lst c]/\PY c=P3 b/\b.length<64/\∀a:t_ Str,a.Perm b->sortedS a=r_->P^.lst^a.map .str
theorem Qp:∀{c:t_ D}{a:t_ Str},PY c=P3 a->c=a.map .str
 |[],a,h=>by injection h with h;subst h; rfl
 |.str b::r,a,h=>by
  let#[t, e,rfl]:=iX.mp h;simp only[iQ,←Qp e]
 |.non::r,a,h=>by cases h
 |.int _::r,a,h=>by cases h
 |.bl _::r,a,h=>by cases h
 |.tup _::r,a,h=>by cases h
 |.lst _::r,a,h=>by cases h
 |.dic _ _::r,a,h=>by cases h
 |.fdi _ _::r,a,h=>by cases h
 |.dit _ _::r,a,h=>by cases h
theorem X9:Cm K .fr (T6 K) aK:=by
 intro U M H p r P Q h s i w q;let#[t,j,rfl,e,b,w]:=w;let#[v, rfl,c]:=C4 i;let#[a,u, rfl,_,k,d]:=c
 have:=Qo e d
 subst this;have m:=Qp e;subst m;exact#[a,j,rfl,.inl k,b,λn l f o g=>q _ _ _ (Am g) (Cg g^Ats.strs λx c=>d.strs_le x^f.mem_iff.mp c)^w _ f o]
def QR(d e:D)(P:D->Prop):Prop:=match d,e with
 |.int i,.int j=>zh i j/\P^.int (i*j)
 |.str z,.int k=>MulOk z k/\(Txt.mul z k).length<=sizeLine/\P^.str^Txt.mul z k
 |_,_=>False
def Yd:R2:=λx y H Q=>(rI zh λi j=>.int (i*j)) x y H Q\/Yc x y H Q
theorem Bs:OpR X (binaryOp .Mult) Yd:=vV.or Wu
set_option tactic.hygienic true in
theorem Ck:FN K .sh Yd QR:=λU M H d e x y P Q a f b c w q=>by
 unfold QR at w
 split at w
 .exact .inl^C2 U M H _ _ x y P Q a f b c w q
 .rename_i z k
  exact .inr #[z,k,b.1,c,w.1,q _ H (.str _) .refl #[rfl,w.2.1] w.2.2]
 simp_all
end
section

def S0(ws:DR):DR:=λn a P=>ws n a λb c=>∃i j:Int,b=[.int i,.int j]/\(-(2 ^ 62)<=i/\i<2 ^ 62/\-(2 ^ 62)<=j/\j<2 ^ 62)/\P (CJ i (j - i).toNat) c
theorem FL(d:Gl X "range")(f:X.mg "range"=q_)(g:WE X [e,e2] ws)(h:starEach [e,e2] X.env=[(s_,eval e X.env),(s_,eval e2 X.env)]:=by rfl)(a:starEach [e2] X.env=[(s_,eval e2 X.env)]:=by rfl):DI X tg (.Call (.Name "range" p) [e,e2] [] pos)^S0 ws:=by
 let#[t, k,l]:=g;refine#[_,RT d f k h a,λC M H n m Z P B R w q=>?_];refine l C M H n m Z _ _ R w λD o E s u v x p=>?_;let#[i,j,rfl,y,p]:=p;cases x with
 | cons r b=>
  cases b with
  |cons z b=>
   cases b;have A:=r;have c:=z;exact#[i,j,by rw[A,c],y,q _ o _ s u v F3 p]
def eI(X:Cx)(h:t_ iR)(b:t_ D->t_ Slot->(t_ Slot->Prop)->Prop):Prop:=∃g,d8 X h g/\∀(C:Fm) (M:Db->Prop) (H:Hp) (n:Nat) (a:t_ Slot) (Z:L2.St) (c:t_ D) (d:t_ V) (P:t_ Slot->Prop) (Q:L2.St->Hp->Prop),Rel X.K C M H n a Z->Ats X.K M H c d->b c a P->
 (∀e f,Rel X.K C M H n e f->P e->Q f H)->g d Z H Q
def Hd:t_ D->t_ Slot->(t_ Slot->Prop)->Prop:=λa b P=>a=[]/\P b
def B8(b:BW)(bs:t_ D->t_ Slot->(t_ Slot->Prop)->Prop):t_ D->t_ Slot->(t_ Slot->Prop)->Prop:=λa c P=>match a with
 |d::r=>b d c λe=>bs r e P
 |[]=>False
theorem C9:eI X [] Hd:=#[_,LO,λC M H n a Z b c P Q R h w q=>by
 let#[rfl,w]:=w;exact#[h,q a Z R w]]
theorem Aw(c:DG X e b)(f:eI X es bs)(i:(assignEach (e::es) X.env).map (·.2)=assign e X.env::(assignEach es X.env).map (·.2):=by rfl):eI X (e::es)^B8 b bs:=by
 let#[g, j,k]:=c;let#[z, l,m]:=f;refine#[_,DL j l i,λC M H n o Z s A P Q R h w q=>?_];cases s with
 |nil=>exact w.elim
 |cons d r=>
  let#[v,a, e,t,u]:=h;exact#[v,a,e,k C M H n o Z d v _ _ R t w λB E x y=>m C M H n _ _ r a _ _ x u y q]
def L_(k:Nat)(bs:t_ D->t_ Slot->(t_ Slot->Prop)->Prop):BW:=λd b P=>match d with
 |.tup a=>a.length=k/\bs a b P
 |_=>False
theorem af(f:X.calm=r_)(h:eI X es bs)(i:(assignEach es X.env).length=k:=by rfl)(b:(assignEach es X.env).findIdx? (·.1)=q_:=by rfl):DG X (.Tuple es j pos)^L_ k bs:=by
 let#[g, l,m]:=h;refine#[_,Oh f l i b,λC M H n o Z d v P Q R h w q=>?_];cases d with
 |tup r=>
  let#[a,c, rfl,s,e]:=h;exact#[a,c,rfl,s.sq,by rw[e.length]; exact w.1,m C M H n o Z r c P Q R e w.2 q]
 |_=>exact w.elim
def fD(c:DW)(b:BW):Ab:=λe n a=>c n a λd f=>b d a λg=>e.nx f g
theorem aY(k:DE X e a c)(l:DG X tg b)(m:a≠.tp:=by intro z; cases z)(o:swapsWithSole [tg] e pos.line X.env=pure s_:=by rfl)(q:swappedStores [tg] e X.env=pure q_:=by rfl)
  (r:(assignEach [tg] X.env).map (·.2)=[assign tg X.env]:=by rfl):DS X j (.Assign [tg] e pos)^fD c b:=by
 let#[t, s,u]:=k;let#[g, x,y]:=l;exact#[_,Er s x o q r,λC M H n f Z I E R L w=>u C M H n f Z _ _ R w λv h d i A B D p=>y C M h i f Z d v _ _ (R.step A B) (D.vY R.dom m) p λJ K F G=>L.nx M h i _ _ F G]
end
end Dp
namespace L2
mutual
def RV(H:Hp):md->V->Prop
 |.none,v=>v=.non
 |.bool b,v=>v=.bl b
 |.int i,v=>v=.int i
 |.str x,v=>v=.str x
 |.tuple xs,v=>∃a vs,v=.ref a/\H a=P3^.tup vs/\RVs H xs vs
 |.list xs,v=>∃a vs,v=.ref a/\Rd H a^.lst vs/\RVs H xs vs
 |.dict _,_=>False
def RVs(H:Hp):t_ md->t_ V->Prop
 |[],vs=>vs=[]
 |x::xs,vs=>∃v r,vs=v::r/\RV H x v/\RVs H xs r
end
section

mutual
theorem RV.reads(I:Inv X zH Z H s):∀{d:md}{v:V}{u:Ev},RV H d v->RelV v u->∃as,Reads s.heap u d as
 |.none,v,u,h,r=>by
  cases(show v=.non from h);cases(show u=ie from r);exact#[_,.none]
 |.bool b,v,u,h,r=>by
  cases(show v=.bl b from h);cases(show u=lV b from r);exact#[_,.bool b]
 |.int i,v,u,h,r=>by
  cases(show v=.int i from h);let#[t,rfl]:=r;exact#[_,.int i t]
 |.str x,v,u,h,r=>by
  cases(show v=.str x from h);let#[t,rfl]:=r;exact#[_,.str x t]
 |.tuple xs,v,u,h,r=>by
  let#[a,vs,rfl,hq,hs]:=h;cases r;let#[its,rv,#[o,e,c,n,d],_]:=I.tuple (X:=X) (xs:=vs)^.inl^.inl hq;let#[as,ra]:=RVs.reads I hs rv;exact#[_,.tuple e c d ra]
 |.list xs,v,u,h,r=>by
  let#[a,vs,rfl,hq,hs]:=h;cases r;let#[its,rv,pl,_]:=I.list (X:=X) (xs:=vs)^.inl hq;let#[o,e,c,n,d]:=pl.isList;let#[as,ra]:=RVs.reads I hs rv;exact#[_,.list e c d ra]
 |.dict _,v,u,h,r=>h.elim
theorem RVs.reads(I:Inv X zH Z H s):∀{ds:t_ md}{vs:t_ V}{us:t_ Ev},RVs H ds vs->qz vs us->∃as,ReadsAll s.heap us ds as
 |[],vs,us,h,r=>by
  cases(show vs=[]from h);cases r;exact#[_,.nil]
 | d::ds,vs,us,h,r=>by
  let#[v,w,rfl,h1,h2]:=h;cases r with
  |cons r1 r2=>
   let#[as,a1]:=RV.reads I h1 r1;let#[bs,a2]:=RVs.reads I h2 r2;exact#[_,.cons a1 a2]
end
end
theorem RV.noDict:∀(d:md) (v:V),RV H d v->d.hasDict=s_
 | d,v,h=>by
  have k:∀(n:Nat),(∀(d:md) (v:V),sizeOf d<=n->RV H d v->d.hasDict=s_)/\∀(c:t_ md) (e:t_ V),sizeOf c<=n->RVs H c e->ou c=s_:=by
   intro n
   induction n with
   |zero=>
    refine#[λd v h _=>?_,λc e h _=>?_]
    .cases d <;>simp at h
    .cases c <;>simp at h
   | succ n j=>
    refine#[λd v h f=>?_,λc e h f=>?_]
    .cases d with
     |tuple g=>
      let#[a,e, _,_,l]:=f;simp only[mC]
      grind
     |list g=>
      let#[a,e, _,_,l]:=f;simp only[mC]
      grind
     |dict m=>exact(show False from f).elim
     |none=>simp only[mC]
     |bool b=>simp only[mC]
     |int i=>simp only[mC]
     |str x=>simp only[mC]
    .cases c with
     |nil=>simp only[ou]
     |cons x g=>
      let#[v,w, _,o,p]:=f;simp only[ou,j.1 x v (by simp at h; omega) o,j.2 g w (by simp at h; omega) p,Bool.or_false]
  exact(k^sizeOf d).1 d v (Re _) h
section

def Yb:t_ V->Hp->VK->Prop:=λa H Q=>∃x d,a=[x]/\RV H d x/\d.showable=r_/\d.depth<=100/\d.shown.length<=sizeLine/\Q (.str d.shown) H
theorem DD(g:qk k X.A):B5 X (.builtin "repr") Yb:=by
 intro B s Z H C D Q I r h;let#[x,d, rfl,c,j,E,l,q]:=h;let#[u, rfl,f]:=vals1 r;have F:=g.un;cases d with
 |none=>
  cases(show x=.non from c);cases(show u=ie from f);exact PySem.P.repr_of_none #[.str _,H,I.tok _,#[_,rfl],q]
 |bool b=>
  cases(show x=.bl b from c);cases(show u=lV b from f);refine PySem.P.repr_of_bool #[.str _,H,I.tok _,#[_,rfl],?_]
  assumption
 |int i=>
  cases(show x=.int i from c);let#[t, rfl]:=f;refine PySem.P.repr_of_int (by simpa [PyData.showable]using j) #[.str _,H,I.tok _,#[_,rfl],q]
 |str z=>
  cases(show x=.str z from c);let#[t, rfl]:=f;exact PySem.P.repr_of_str #[.str _,H,I.tok _,#[_,rfl],q] l
 |tuple p=>
  let#[v, m]:=RV.reads I c f;let#[a,w, rfl,_]:=id c;cases f;refine repr_of_reads' m j (PyData.noDict_hsm^RV.noDict _ _ c) g.gd (by lk) (λ_ _ e=>e) (λy u n o=>#[.str _,H,I.kept (t':=n) o,#[_,rfl],q]) l
 |list p=>
  let#[v, m]:=RV.reads I c f;let#[a,w, rfl,_]:=id c;cases f;refine repr_of_reads' m j (PyData.noDict_hsm^RV.noDict _ _ c) g.gd (by lk) (λ_ _ e=>e) (λy u n o=>#[.str _,H,I.kept (t':=n) o,#[_,rfl],q]) l
 |dict _=>exact(show False from c).elim
def cV:R2:=λx y H Q=>∃d e,RV H d x/\RV H e y/\d.canLay0=r_/\e.canLay0=r_/\d.depth<=100/\Q (.bl^jq d e) H
theorem Fn(a:qk k X.A):OpR X (compareOp .Eq) cV:=by
 intro n s Z H x y v u Q I b c h;let#[d,e, f,g,i,j,o,q]:=h;let#[p, l]:=RV.reads I f b;let#[r, m]:=RV.reads I g c;have t:=a.un;have w:min _ e.depth<=d.depth:=Nat.min_le_left _ _;exact PySem.SeqAt.compareEq_reads l m i j (by lk) #[.bl _,H,I,rfl,q]
def Zk(b:Bool):R2:=λx y H Q=>∃d a,RV H d x/\(RV H (.list a) y\/RV H (.tuple a) y)/\d.canLay0=r_/\kd a=r_/\d.depth<=100/\Q (.bl (if b then !(a.any λy=>jq y d)else a.any λy=>jq y d)) H
theorem Fl(i:qk k X.A):OpR X (compareOp .In)^Zk s_:=by
 intro o s Z H x y v u Q I j c h;let#[d,l, m,a,e,f,p,q]:=h;let#[r,g]:=RV.reads I m j;have t:=i.un;have w:min (jn l) _<=d.depth:=pB _ _
 rcases a with a|a
 .let#[n,b]:=RV.reads I a c
  exact PySem.SeqAt.in_list_reads b g f e (by lk) #[.bl _,H,I,rfl,q]
 .let#[n,b]:=RV.reads I a c
  exact PySem.SeqAt.in_tuple_reads b g f e (by lk) #[.bl _,H,I,rfl,q]
theorem Bo(i:qk k X.A):OpR X (compareOp .NotIn)^Zk r_:=by
 intro o s Z H x y v u Q I j c h;let#[d,l, m,a,e,f,p,q]:=h;let#[r,g]:=RV.reads I m j;have t:=i.un;have w:min (jn l) _<=d.depth:=pB _ _
 rcases a with a|a
 .let#[n,b]:=RV.reads I a c
  exact PySem.SeqAt.notIn_list_reads b g f e (by lk) #[.bl _,H,I,rfl,q]
 .let#[n,b]:=RV.reads I a c
  exact PySem.SeqAt.notIn_tuple_reads b g f e (by lk) #[.bl _,H,I,rfl,q]
end
end L2
namespace Dp
open L2
mutual
def toPy:D->md
 |.non=>.none
 |.bl b=>.bool b
 |.int i=>.int i
 |.str x=>.str x
 |.tup ds=>.tuple^BB ds
 |.lst ds=>.list^BB ds
 |.dic _ _=>.dict []
 |.fdi _ _=>.dict []
 |.dit _ _=>.dict []
def BB:t_ D->t_ md
 |[]=>[]
 |d::ds=>toPy d::BB ds
end
theorem DA(a:t_ D):BB a=a.map toPy:=by
 induction a with
 |nil=>rfl
 |cons d r b=>simp only[BB,b,iQ]
theorem I_(a:t_ D):Bx a=a.all Ce:=by
 induction a with
 |nil=>rfl
 |cons d r b=>simp only[Bx,b,lS]
section
variable {K:Frag}
mutual
theorem At.rv:∀{d:D}{v:V},At K M H d v->Ce d=r_->RV H (toPy d) v
 |.non,v,h,_=>h
 |.bl b,v,h,_=>h
 |.int i,v,h,_=>h
 |.str x,v,h,_=>h.1
 |.tup ds,v,h,n=>by
  let#[a,vs,e,hn,hs]:=h;exact#[a,vs,e,hn,Ats.rv hs n]
 |.lst ds,v,h,n=>by
  let#[a,vs,e,hn,hs]:=h;exact#[a,vs,e,.inl hn.2,Ats.rv hs n]
 |.dic ks ds,v,h,n=>by cases n
 |.fdi ks ds,v,h,n=>by cases n
 |.dit ks ds,v,h,n=>by cases n
theorem Ats.rv:∀{ds:t_ D}{vs:t_ V},Ats K M H ds vs->Bx ds=r_->RVs H (BB ds) vs
 |[],vs,h,_=>h
 |d::ds,vs,h,n=>by
  let#[v,r,e,h1,h2]:=h;have n':(Ce d&&Bx ds)=r_:=n;rw[iE]at n';exact#[v,r,e,At.rv h1 n'.1,Ats.rv h2 n'.2]
end
theorem AtT.rv(h:AtT K U M H d v)(n:Ce d=r_):RV H (toPy d) v:=by
 cases d with
 |lst c=>
  let#[a,g, e,_,j,k]:=h;exact#[a,g,e,j,Ats.rv k n]
 |dic f c=>cases n
 |fdi f c=>cases n
 |dit f c=>cases n
 |non=>exact h
 |bl b=>exact h
 |int i=>exact h
 |str x=>exact h.1
 |tup c=>exact At.rv h n
def HD(d:D):Prop:=Ce d=r_/\(toPy d).showable=r_/\(toPy d).depth<=100/\(toPy d).shown.length<=sizeLine
def Cr(d:D):Str:=(toPy d).shown
def dE(a:t_ D)(P:D->Prop):Prop:=∃d,a=[d]/\HD d/\P^.str^Cr d
theorem G_:Cm K .sh Yb dE:=by
 intro U M H f g P Q b h c w q;let#[d,rfl,a,w]:=w;let#[v, rfl,e]:=C4 c;exact#[v,_,rfl,e.rv a.1,a.2.1,a.2.2.1,a.2.2.2,q _ H (.str _) .refl #[rfl,a.2.2.2] w]
def By(d:D):Prop:=Ce d=r_/\(toPy d).canLay0=r_/\(toPy d).depth<=100
def BS(d e:D):Bool:=jq (toPy d)^toPy e
def dI(d e:D)(P:D->Prop):Prop:=By d/\By e/\P^.bl^BS d e
theorem Jg:FN K .sh cV dI:=λU M H d e x y P Q a f b c w q=>
 #[_,_,b.rv w.1.1,c.rv w.2.1.1,w.1.2.1,w.2.1.2.1,w.1.2.2,q _ H (.bl _) .refl rfl w.2.2]
def Gr:D->u_^t_ D
 |.lst a=>P3 a
 |.tup a=>P3 a
 |_=>q_
def XW(a:Bool)(d e:D)(P:D->Prop):Prop:=By d/\By e/\∃b,Gr e=P3 b/\P^.bl (if a then !(b.any λy=>BS y d)else b.any λy=>BS y d)
theorem Cz:FN K .sh (Zk c)^XW c:=λU M H d e x y P Q k m i j w q=>by
 let#[b,f,g,h,w]:=w;have a:∀g:t_ D,(g.map _).any (λy=>jq y _)=g.any λy=>BS y d:=λg=>by rw[List.any_map]; rfl
 cases e with
 |lst l=>
  cases h;exists _,_,i.rv b.1,.inl^j.rv f.1,b.2.1,by simpa [toPy,PyData.canLay0]using f.2.1,b.2.2;rw[DA,a];exact q _ H (.bl _) .refl rfl w
 |tup l=>
  cases h;exists _,_,i.rv b.1,.inr^j.rv f.1,b.2.1,by simpa [toPy,PyData.canLay0]using f.2.1,b.2.2;rw[DA,a];exact q _ H (.bl _) .refl rfl w
 |_=>cases h
def SE(d e:D)(P:D->Prop):Prop:=By d/\By e/\P^.bl (!BS d e)
end
end Dp
namespace L2
def cN:R2:=λx y H Q=>∃d e,RV H d x/\RV H e y/\d.canLay0=r_/\e.canLay0=r_/\d.depth<=100/\Q (.bl (!PyData.eqv d e)) H
theorem Gx(a:qk k X.A):OpR X (compareOp .NotEq) cN:=by
 intro n s Z H x y v u Q I b c h;let#[d,e, f,g,i,j,o,q]:=h;let#[p, l]:=RV.reads I f b;let#[r, m]:=RV.reads I g c;have t:=a.un;have w:min _ e.depth<=d.depth:=Nat.min_le_left _ _;exact PySem.SeqAt.compareNe_reads l m i j (by lk) #[.bl _,H,I,rfl,q]
end L2
namespace Dp
open L2
theorem K2{K:Frag}:FN K .sh cN SE:=λU M H d e x y P Q a f b c w q=>
 #[_,_,b.rv w.1.1,c.rv w.2.1.1,w.1.2.1,w.2.1.2.1,w.1.2.2,q _ H (.bl _) .refl rfl w.2.2]
end Dp
namespace L2
def kOf:Key->V
 |.inl i=>.int i
 |.inr x=>.str x
def eU:Key->Key->Bool
 |.inl i,.inl j=>decide (i<j)
 |.inr x,.inr y=>decide (x.cps.toList<y.cps.toList)
 |_,_=>s_
def KL:Key->Key->Bool
 |.inl _,.inl _=>r_
 |.inr _,.inr _=>r_
 |_,_=>s_
def G1:t_ Key->t_ Key->Bool
 |[],[]=>s_
 |[],_::_=>r_
 |_::_,[]=>s_
 |x::a,y::b=>if x=y then G1 a b else eU x y
def Bw:t_ Key->t_ Key->Bool
 |x::a,y::b=>KL x y&&Bw a b
 |_,_=>r_
theorem VG(a:RelV (kOf x) u)(b:RelV (kOf y) v):∃e,SeqAt.EqAt A s u v e/\(e=r_↔x=y):=by
 cases x with
 |inl i=>
  cases y with
  |inl j=>exact#[_,Lx a b rfl rfl,by simp[kOf,dN]]
  |inr z=>exact#[_,Lx a b rfl rfl,by simp[kOf,dN]]
 |inr z=>
  cases y with
  |inl j=>exact#[_,Lx a b rfl rfl,by simp[kOf,dN]]
  |inr c=>exact#[_,Lx a b rfl rfl,by simp[kOf,dN]]
theorem Tx(A:ik)(s:No)(b:RelV (kOf x) u)(c:RelV (kOf y) v)(d:KL x y=r_)(a:iP)(w:iZ)(E:Ev->No->Prop)(Q:Ev->No->Prop)(h:Q (.bool^eU x y) s):
  wpAny (model a w) A (richCompare .Lt u v) Q E s:=by
 cases x with
 | inl i=>
  cases y with
  |inl j=>
   let#[t,rfl]:=b;let#[e,rfl]:=c;exact pV h
  |inr z=>cases d
 | inr z=>
  cases y with
  |inl j=>cases d
  |inr f=>
   let#[t,rfl]:=b;let#[e,rfl]:=c;exact PySem.P.lt_str h
section
open PySem.SeqAt
open PySem.AutoSeq1 (wpAny_loadPart')
open PySem.MeetsSeq PySem.MeetsSeq2 PySem.MeetsSeq3
theorem Jo(l b:Db)(items items2:Array Ev)(n n2:Nat)(dd dd2:u_ Db)(sl sl2:Array^u_ Ev)(ns ms:t_ Key)(hi:qz (ns.map kOf) items.toList)(hj:qz (ms.map kOf) items2.toList)(hsame:Bw ns ms=r_):
  Meets (j9.«tuple.__lt__» #[[.ref l,.ref b],[]])
   (λ_ R s=>s.heap.get? l=P3 {cls:=.type "tuple",dict:=dd,data:=.seq items n,slots:=sl}/\s.heap.get? b=P3 {cls:=.type "tuple",dict:=dd2,data:=.seq items2 n2,slots:=sl2} /\
    R (.ok^.ret^.bool^G1 ns ms) s):=
 .of_wp λprog w A R s h=>by
  let#[hp,g,d,tk,os]:=s; let#[ hl,hb,h]:=h
  have f2:=AutoSeq1.sub_tuple_tuple;have z1:items.size=ns.length:=by have:=hi.length; rw[FM]at this; rw[this]; simp
  have z2:items2.size=ms.length:=by have:=hj.length; rw[FM]at this; rw[this]; simp
  wp_walk using kF hl,kF hb,wpAny_forIn_list _ (λrest b s'=>b.1=q_/\s'=#[hp,g,d,tk,os]/\∃(vs ws:t_ Ev) (ns' ms':t_ Key),rest=vs.zip ws /\
   qz (ns'.map kOf) vs/\qz (ms'.map kOf) ws/\Bw ns' ms'=r_/\ns'.length+items2.size=ms'.length+items.size/\R (.ok^.ret^.bool^G1 ns' ms') #[hp,g,d,tk,os]) _
  case turn=>
   rintro⟨y,x⟩ rest b s' ⟨hb',rfl,vs,ws,ns',ms',hz,hvi,hwi,hsm,hlen,hR⟩;cases ns' with
   |nil=>cases hvi; rw[List.zip_nil_left]at hz; cases hz
   | cons a ns'=>
    cases ms' with
    |nil=>cases hwi; rw[List.zip_nil_right]at hz; cases hz
    | cons c ms'=>
     rw[iQ]at hvi hwi;cases hvi with
     | cons ra hvi'=>
      cases hwi with
      | cons rc hwi'=>
       rw[oO]at hz;injection hz with hyx hrest
       injection hyx with hy hx
       subst hy hx;have hR':R (.ok^.ret^.bool (if a=c then G1 ns' ms' else eU a c)) #[hp,g,d,tk,os]:=hR;have hsm':(KL a c&&Bw ns' ms')=r_:=hsm;rw[iE]at hsm';simp only[UF]at hlen;let#[e, he,hiff]:=VG (A:=A.in1) (s:=#[hp,g,d,tk,os]) ra rc;refine Ch^he prog w _ _ ?_;cases e with
       |true=>
        rw[if_pos (hiff.mp rfl)]at hR'
        wp_walk
        exact#[rfl,rfl,_,_,_,_,hrest,hvi',hwi',hsm'.2,by lk,hR']
       |false=>
        rw[if_neg λq=>absurd (hiff.mpr q) iI]at hR';have hri:=Tx A.in1 #[hp,g,d,tk,os] ra rc hsm'.1 prog w
        wp_walk using hri
        exact#[_,rfl,by simpa using hR']
  case fin=>
   rintro⟨b1,b2⟩ s' ⟨hb',rfl,vs,ws,ns',ms',hz,hvi,hwi,hsm,hlen,hR⟩;simp only at hb';subst hb'
   have hv:G1 ns' ms'=decide (items.size<items2.size):=by
    cases ns' with
    | nil=>
     cases ms' with
     |nil=>
      simp only[jm]at hlen;exact(decide_eq_false^by lk).symm
     |cons c u=>
      simp only[jm,UF]at hlen;exact(decide_eq_true^by lk).symm
    | cons a t=>
     cases ms' with
     |nil=>
      simp only[jm,UF]at hlen;exact(decide_eq_false^by lk).symm
     |cons c u=>
      rw[iQ]at hvi hwi;cases hvi;cases hwi;rw[oO]at hz;cases hz
   rw[hv]at hR
   wp_walk
   exact#[_,rfl,by simpa [Builtin.Tuple.tupleCompareSizes]using hR]
  case h=>
   exact#[rfl,rfl,items.toList,items2.toList,ns,ms,rfl,hi,hj,hsame,by lk,h]
end
section

def cO(K:Frag):R2:=λx y H Q=>∃a b c d,x=.ref a/\y=.ref b/\SqT K H a^c.map kOf/\SqT K H b^d.map kOf/\Bw c d=r_/\Q (.bl^G1 c d) H
theorem Zz(m:X.A.units<cLine):OpR X (compareOp .Lt)^cO X.K:=by
 intro T s Z H x y v u Q I o p h;let#[a,b,r,t, rfl,rfl,w,z,d,q]:=h;cases o;cases p;let#[B, C,D,_]:=I.tuple w;let#[i, E,G,_]:=I.tuple z;let#[#[J,L,j,M], k,N, n, O]:=id D;let#[#[l,P,e,R], c,f, S, g]:=id G;subst N O f g
 exact richCompare_meets_room (op:=.Lt) #[_,k,rfl] #[_,c,rfl] PySem.F.slot_tuple_lt PySem.F.entry_tuple_lt (PySem.F.args_tuple_lt_2 _ _) (Jo a b _ _ n S L _ M _ r t C E d)
  #[k,c,#[(λx=>nomatch x),#[.bl _,H,I,rfl,q]]] m
end
def qy(b:Bool)(h:iG)(a l:Db)(k:Nat):Prop:=match b with
 |true=>h.IsListIter a l k
 |false=>h.IsTupleIter a l k
def qw(b:Bool)(h:iG)(l:Db)(a:Array Ev):Prop:=match b with
 |true=>h.IsList l a
 |false=>h.IsTuple l a
section

theorem qy.mv(x:qy κ h it l k)(e:∀o,h.get? it=P3 o->h'.get? it=P3 o):qy κ h' it l k:=by
 cases κ with
 |true=>let#[o, a,r]:=x; exact#[o,e o a,r]
 |false=>let#[o, a,r]:=x; exact#[o,e o a,r]
theorem qw.mv(x:qw κ h l items)(e:∀o,h.get? l=P3 o->h'.get? l=P3 o):qw κ h' l items:=by
 cases κ with
 |true=>let#[o, a,r]:=x; exact#[o,e o a,r]
 |false=>let#[o, a,r]:=x; exact#[o,e o a,r]
theorem qy.eb(x:qy κ h it l k)(a:pY b h h')(n:it≠b):qy κ h' it l k:=x.mv λo e=>a it o n e
theorem qw.eb(x:qw κ h l items)(a:pY b h h')(n:l≠b):qw κ h' l items:=x.mv λo e=>a l o n e
theorem qy.lies(x:qy κ h it l k):∃o,h.get? it=P3 o/\∀v,o.data≠.cell v:=by
 cases κ with
 |true=>let#[o, a,_,d]:=x; simp_all
 |false=>let#[o, a,_,d]:=x; simp_all
theorem qw.lies(x:qw κ h l items):∃o,h.get? l=P3 o:=by
 cases κ with
 |true=>let#[o, a,_]:=x; grind
 |false=>let#[o, a,_]:=x; grind
end
section

theorem DC(d:qy f s.heap c l i)(n:qw f s.heap l a)(hx:a[i]?=P3 x)
  (p:∀h,qy f h c l (i+1)->kQ c s.heap h->Q x {s with heap:=h}):wpAny (model prog w) A (jE^.ref c) Q E s:=by
 cases f with
 |true=>exact wpAny_nextOf_list_item d n hx p
 |false=>
  have b:s.heap.IsTupleIter c l i:=d;have j:s.heap.IsTuple l a:=n;let#[o, g,r,e]:=id b; let#[t, k,_, u, m]:=j
  unfold jE;refine Ch^jC (name:=jX "__next__") b.typeIs k8^jY k8 b.typeIs oP ?_^n9 _;show wpAny (model prog w) _ (field (.ref c) 0 >>=_) _ _ s; refine Ch (io g e (x:=.ref l) rfl ?_)
  show wpAny (model prog w) _ (if(iF l==ie)=r_ then _ else _) _ _ s; rw[if_neg (show ¬((iF l==ie)=r_)from iI)]
  show wpAny (model prog w) _ (field (.ref c) 1 >>=_) _ _ s; refine Ch (io g e (x:=.int i 0) rfl ?_)
  show wpAny (model prog w) _ (seqItems?^.ref l >>=_) _ _ s; refine Ch^jr k m ?_; simp only[jg,hx]
  refine Ch^lJ g e (by simp)^Op #[x,rfl,Op^p _ (show Heap.IsTupleIter _ c l (i+1)from ?_) (mS ..)];exact#[_,jy _ g^nO^kr e _,(Obj.cls_mapFields ..).trans r,by(rw[kr e]; simp[rawInt])]
theorem E5(r:A.handled=q_)(d:qy g s.heap f l i)(t:qw g s.heap l b)(hx:b[i]?=q_)
  (u:∀h e,pY f s.heap h->(∃o,h.get? e=P3 o/\o.cls=.type "StopIteration")->E (.ref e) {s with heap:=h}):wpAny (model prog w) A (jE^.ref f) Q E s:=by
 cases g with
 |true=>exact wpAny_nextOf_list_end r d t hx u
 |false=>
  have c:=d;have j:s.heap.IsTuple l b:=t;let#[o, k,y,n]:=id c; let#[z, p,_, B, q]:=j
  refine Ch^jC c.typeIs k8^jY k8 c.typeIs oP ?_^n9 _;show wpAny (model prog w) _ (field (.ref f) 0 >>=_) _ _ s; refine Ch (io k n (x:=.ref l) rfl ?_)
  refine Ch (io k n (x:=.int i 0) rfl ?_);refine Ch^jr p q ?_; simp only[jg,hx]
  refine Ch^mG^Ch^lJ k n (by simp) ?_; refine Ch ?_; refine Ch (m:=firstArgMember _ _)^pX (a:=ie) (by first|rfl|omega) ?_; refine jp ?_^by size_fits
  simp only[raiseNew]; refine Ch^wpAny_handled ?_; first|grind|simp only[r]
  refine Ch^Op^wpAny_throw ?_; exact u _ _ (((mS ..).extBut.push _).push _) #[_,Uf _ rfl,rfl]
structure Sl (z TI TO i1 i2 l1 l2:Db):Prop where
 TIz:TI≠z
 TOz:TO≠z
 i1z:i1≠z
 i2z:i2≠z
 TOi1:TO≠i1
 TOi2:TO≠i2
 i12:i1≠i2
 l1z:l1≠z
 l1TO:l1≠TO
 l1i1:l1≠i1
 l1i2:l1≠i2
 l2z:l2≠z
 l2TO:l2≠TO
 l2i1:l2≠i1
 l2i2:l2≠i2
theorem Sq{z TI TO p q J K:Db}{Q:Ev->No->Prop}(D:Sl z TI TO p q J K)
  (L:lD s.heap z TI TO .none) (W:jS s.heap TI (.ref p)^.ref q) (X:jS s.heap TO a b) (h1:qy S s.heap p J k) (h2:qy T s.heap q K k) (Y:qw S s.heap J xs) (Z:qw T s.heap K ys) (hx:xs[k]?=P3 x) (hy:ys[k]?=P3 y)
  (hQ:∀r,lD r z TI TO^rawInt s.heap.objs.size->jS r TO x y->qy S r p J (k+1)->qy T r q K (k+1)->jS r s.heap.objs.size x y->r.objs.size=s.heap.objs.size+1->(∀c o,c≠z->c≠TO->c≠p->c≠q->s.heap.get? c=P3 o->r.get? c=P3 o)->Q (.ref s.heap.objs.size) {s with heap:=r}):
  wpAny (model prog w) A (j9.«zip.__next__» #[[.ref z],[]]) (λa0 s'=>∃v,a0=.done^.ret v/\Q v s') E s:=by
 show wpAny (model prog w) A (field (.ref z) 2 >>=_) _ _ _; refine Ch (io L rfl (x:=.bool s_) rfl ?_)
 show wpAny (model prog w) A (field (.ref z) 3 >>=_) _ _ _; refine Ch (io L rfl (x:=.ref TI) rfl ?_); refine Ch (jr W rfl ?_)
 show wpAny (model prog w) A (iw^.ref z >>=_) _ _ _; refine Ch ?_; unfold iw
 refine Ch (io L rfl (x:=.none) rfl (Op ?_)); simp only[if_true]; refine Ch^mG ?_; refine Ch (io L rfl (x:=.ref TO) rfl ?_)
 refine Ch^kL L (by simp) λha C d=>?_;replace C:lD ha z TI TO .ellipsis:=C;refine Ch ?_; simp only[List.zipIdx_cons,List.zipIdx_nil,kx,n_]
 refine Ch^Ch^nC ?_; show wpAny (model prog w) _ (jE^.ref p >>=_) _ _ _
 refine Ch^DC (h1.eb d.extBut D.i1z) (Y.eb d.extBut D.l1z) hx λhb a1 h=>Op ?_;have t:jS hb TO a b:=h.extBut _ _ D.TOi1^d.extBut _ _ D.TOz X;refine Ch (jr t rfl ?_); refine Ch (nc t λhc j i=>?_)
 replace j:jS hc TO x b:=j;refine Ch^pZ^Op ?_; refine Ch^Ch^nC ?_; show wpAny (model prog w) _ (jE^.ref q >>=_) _ _ _
 refine Ch^DC (((h2.eb d.extBut D.i2z).eb h.extBut D.i12.symm).eb i.extBut D.TOi2.symm) (((Z.eb d.extBut D.l2z).eb h.extBut D.l2i1).eb i.extBut D.l2TO) hy λhd a2 l=>Op ?_;have u:jS hd TO x b:=l.extBut _ _ D.TOi2 j;refine Ch (jr u rfl ?_); refine Ch (nc u λf g m=>?_)
 replace g:jS f TO x y:=g;refine Ch^pZ^Op^Op ?_; refine Ch (jr g rfl ?_); refine Ch^oA ?_
 have M:f.objs.size=s.heap.objs.size:=by simp only[m.1,l.1,i.1,h.1,d.1]
 have N:lD f z TI TO .ellipsis:=m.extBut _ _ D.TOz.symm^l.extBut _ _ D.i2z.symm^i.extBut _ _ D.TOz.symm^h.extBut _ _ D.i1z.symm C;have a3:∀c o,c≠z->c≠TO->c≠p->c≠q->s.heap.get? c=P3 o->f.get? c=P3 o:=λc o F U c3 c4 e=>m.extBut _ _ U^l.extBut _ _ c4^i.extBut _ _ U^h.extBut _ _ c3^d.extBut _ _ F e;have a4:qy S f p J (k+1):=((a1.eb i.extBut D.TOi1.symm).eb l.extBut D.i12).eb m.extBut D.TOi1.symm;have a5:qy T f q K (k+1):=a2.eb m.extBut D.TOi2.symm;have B:z<f.objs.size:=Tk N;show wpAny (model prog w) _ (me (.ref z)^.ref f.objs.size >>=_) _ _ _; refine Ch ?_; unfold me
 have a6:lD (f.push {cls:=.type "tuple",data:=.seq #[ x,y]}) z TI TO .ellipsis:=Go _ N;refine Ch^kL a6 (by simp) λhg G H=>?_;replace G:lD hg z TI TO^rawInt f.objs.size:=G;refine kL G (by simp) λO n I=>?_;replace n:lD O z TI TO^rawInt f.objs.size:=n;have V:∀c o,c≠z->f.get? c=P3 o->O.get? c=P3 o:=λc o F e=>I.extBut _ _ F^H.extBut _ _ F^Go _ e;have P:jS O f.objs.size x y:=I.extBut _ _ (kR B)^H.extBut _ _ (kR B) (Uf _ rfl);have R:O.objs.size=f.objs.size+1:=by simp only[I.1,H.1,jV]
 rw[M]at n P R;refine Op #[_,rfl,?_];show Q (.ref f.objs.size) _; rw[M]
 exact hQ O n (V _ _ D.TOz g) (a4.mv λo e=>V _ o D.i1z e) (a5.mv λo e=>V _ o D.i2z e) P R λc o F U c3 c4 e=>V c o F^a3 c o F U c3 c4 e
theorem FD{z TI TO p q G H:Db}(W:A.handled=q_)(D:Sl z TI TO p q G H)
  (r:lD s.heap z TI TO .none) (K:jS s.heap TI (.ref p)^.ref q) (L:jS s.heap TO a b) (X:qy U s.heap p G k) (h2:qy zX s.heap q H k) (t:qw U s.heap G I) (M:qw zX s.heap H J) (u:I[k]?=q_\/J[k]?=q_)
  (Y:∀N e,(∀c o,c≠z->c≠TO->c≠p->c≠q->s.heap.get? c=P3 o->N.get? c=P3 o)->(∃o,N.get? e=P3 o/\o.cls=.type "StopIteration")->E (.ref e) {s with heap:=N}):
  wpAny (model prog w) A (j9.«zip.__next__» #[[.ref z],[]]) Q E s:=by
 show wpAny (model prog w) A (field (.ref z) 2 >>=_) _ _ _; refine Ch (io r rfl (x:=.bool s_) rfl ?_)
 show wpAny (model prog w) A (field (.ref z) 3 >>=_) _ _ _; refine Ch (io r rfl (x:=.ref TI) rfl ?_); refine Ch (jr K rfl ?_)
 show wpAny (model prog w) A (iw^.ref z >>=_) _ _ _; refine Ch ?_; unfold iw
 refine Ch (io r rfl (x:=.none) rfl (Op ?_)); simp only[if_true]; refine Ch^mG ?_; refine Ch (io r rfl (x:=.ref TO) rfl ?_)
 refine Ch^kL r (by simp) λha l d=>?_;replace l:lD ha z TI TO .ellipsis:=l;refine Ch ?_; simp only[List.zipIdx_cons,List.zipIdx_nil,kx,n_]
 refine Ch^Ch^nC ?_; show wpAny (model prog w) _ (jE^.ref p >>=_) _ _ _
 cases O:I[k]? with
 |none=>
  refine Ch^E5 W (X.eb d.extBut D.i1z) (t.eb d.extBut D.l1z) O λP e f R=>?_;let#[S, g,j]:=R;have v:lD P z TI TO .ellipsis:=f _ _ D.i1z.symm l;have n:e≠z:=λx=>by subst x; rw[v]at g; injection g with g;subst g; simp at j
  exact kL v (by simp) λZ _ i=>Y Z e (λc o y _ T _ x=>i.extBut _ _ y^f _ _ T^d.extBut _ _ y x) #[S,i.extBut _ _ n g,j]
 | some x=>
  have hy:J[k]?=q_:=by
   rcases u with h|h
   .rw[O]at h; cases h
   .exact h
  refine Ch^DC (X.eb d.extBut D.i1z) (t.eb d.extBut D.l1z) O λP a1 f=>Op ?_;have m:jS P TO a b:=f.extBut _ _ D.TOi1^d.extBut _ _ D.TOz L;refine Ch (jr m rfl ?_); refine Ch^nc m λZ a0 i=>?_
  refine Ch^pZ^Op ?_; refine Ch^Ch^nC ?_; show wpAny (model prog w) _ (jE^.ref q >>=_) _ _ _
  refine Ch^E5 W (((h2.eb d.extBut D.i2z).eb f.extBut D.i12.symm).eb i.extBut D.TOi2.symm) (((M.eb d.extBut D.l2z).eb f.extBut D.l2i1).eb i.extBut D.l2TO) hy λhd e B R=>?_;let#[S, g,j]:=R;have C:lD hd z TI TO .ellipsis:=B _ _ D.i2z.symm^i.extBut _ _ D.TOz.symm^f.extBut _ _ D.i1z.symm l;have n:e≠z:=λx=>by subst x; rw[C]at g; injection g with g;subst g; simp at j
  exact kL C (by simp) λhf _ F=>Y hf e (λc o y c2 T c4 x=>F.extBut _ _ y^B _ _ c4^i.extBut _ _ c2^f.extBut _ _ T^d.extBut _ _ y x) #[S,F.extBut _ _ n g,j]
end
def aD(a:Bool):String:=match a with
 |true=>"list_iterator"
 |false=>"tuple_iterator"
def HQ(a:Bool)(l:Db):Obj:={cls:=.type^aD a,data:=.fields #[ .ref l,.int 0 0]}
abbrev zA(a:Bool)(h:iG)(b:Db):iG:=h.push^HQ a b
abbrev zB(a b:Bool)(h:iG)(c d:Db):iG:=(zA a h c).push^HQ b d
abbrev zC(a c:Bool)(h:iG)(b d:Db):iG:=(zB a c h b d).push {cls:=.type "tuple",data:=.seq #[ .ref h.objs.size,.ref (zA a h b).objs.size]}
abbrev zD(a b:Bool)(h:iG)(c d:Db):iG:=(zC a b h c d).push {cls:=.type "tuple",data:=.seq #[ .none,.none]}
abbrev zE(a b:Bool)(h:iG)(c d:Db):iG:=(zD a b h c d).push {cls:=.type "zip",data:=.fields #[ .none,.bool s_,.bool s_,.ref (zB a b h c d).objs.size,.ref (zC a b h c d).objs.size]}
theorem W1(zY zX:Bool)(l1 l2:Db)(xs ys:Array Ev):Meets (j9.«zip.__new__» #[[.type "zip",.ref l1,.ref l2],[]])
  (λ_ R s=>qw zY s.heap l1 xs/\qw zX s.heap l2 ys/\R (.ok^.ret^.ref (zD zY zX s.heap l1 l2).objs.size) {s with heap:=zE zY zX s.heap l1 l2}):=
 .of_wp λprog w A R s h=>by
  let#[hp,g,d,tk,os]:=s; let#[hl1,hl2,h]:=h
  have hsub:=sub_zip;have hL2:qw zX (zA zY hp l1) l2 ys:=hl2.mv λo e=>Go _ e;cases zY with
  | true=>
   have g1:pc (lm #[hp,g,d,tk,os]) l1 xs:=hl1;cases zX with
   |true=>
    have g2:pc (lm #[hp.push {cls:=.type "list_iterator",data:=.fields #[ .ref l1,.int 0 0]},g,d,tk,os]) l2 ys:=hL2
    wp_walk using jv g1,jv g2
    exact#[_,rfl,h]
   |false=>
    have g2:pC (lm #[hp.push {cls:=.type "list_iterator",data:=.fields #[ .ref l1,.int 0 0]},g,d,tk,os]) l2 ys:=hL2
    wp_walk using jv g1,jk g2
    exact#[_,rfl,h]
  | false=>
   have g1:pC (lm #[hp,g,d,tk,os]) l1 xs:=hl1;cases zX with
   |true=>
    have g2:pc (lm #[hp.push {cls:=.type "tuple_iterator",data:=.fields #[ .ref l1,.int 0 0]},g,d,tk,os]) l2 ys:=hL2
    wp_walk using jk g1,jv g2
    exact#[_,rfl,h]
   |false=>
    have g2:pC (lm #[hp.push {cls:=.type "tuple_iterator",data:=.fields #[ .ref l1,.int 0 0]},g,d,tk,os]) l2 ys:=hL2
    wp_walk using jk g1,jk g2
    exact#[_,rfl,h]
theorem JI(a:Bool)(h:iG)(l:Db):qy a (h.push^HQ a l) h.objs.size l 0:=by
 cases a with
 |true=>exact#[_,Uf _ rfl,rfl,rfl]
 |false=>exact#[_,Uf _ rfl,rfl,rfl]
section

theorem Ga(i:qw b s.heap a t)(j:qw f s.heap d u)
  (h:∀g,lD g (s.heap.objs.size+4) (s.heap.objs.size+2) (s.heap.objs.size+3) .none->jS g (s.heap.objs.size+2) (.ref s.heap.objs.size)^.ref (s.heap.objs.size+1)->jS g (s.heap.objs.size+3) .none .none->
   qy b g s.heap.objs.size a 0->qy f g (s.heap.objs.size+1) d 0->(∀c o,s.heap.get? c=P3 o->g.get? c=P3 o)->Q (.ref (s.heap.objs.size+4)) {s with heap:=g}):
  wpAny (model prog w) A (call (.type "zip") [.ref a,.ref d]) Q E s:=by
 refine callType_new F.called_zip (by cbv) (F.typeCall_zip_2 _ _) (F.newCall_zip_2 _ _) (λk=>F.args_object_init_3 k _ _) F.entry_zip_new (W1 b f a d t u) #[i,j,?_];have l:(zA b s.heap a).objs.size=s.heap.objs.size+1:=jV ..;have m:(zB b f s.heap a d).objs.size=s.heap.objs.size+2:=by rw[jV,l]
 have n:(zC b f s.heap a d).objs.size=s.heap.objs.size+3:=by rw[jV,m]
 have p:(zD b f s.heap a d).objs.size=s.heap.objs.size+4:=by rw[jV,n]
 have q:(zE b f s.heap a d).get? (zD b f s.heap a d).objs.size=P3 _:=Uf _ rfl;have v:(zE b f s.heap a d).get? (zC b f s.heap a d).objs.size=P3 _:=Go _ (Uf _ rfl);have x:(zE b f s.heap a d).get? (zB b f s.heap a d).objs.size=P3 _:=Go _^Go _ (Uf _ rfl);have y:qy f (zE b f s.heap a d) (zA b s.heap a).objs.size d 0:=(JI f (zA b s.heap a) d).mv λo e=>Go _^Go _^Go _ e;have z:qy b (zE b f s.heap a d) s.heap.objs.size a 0:=(JI b s.heap a).mv λo e=>Go _^Go _^Go _^Go _ e;rw[p]at q;rw[n]at v;rw[m]at x;rw[l]at y;have r:=h (zE b f s.heap a d) (by rw[lD,q,m,n]) (by rw[jS,x,l]) v z y λc o e=>Go _^Go _^Go _^Go _^Go _ e;exists#[_,by rw[p]; exact q,rfl];rw[p];exact r
theorem FV{z TI TO e f g h:Db}(D:Sl z TI TO e f g h)
  (t:lD s.heap z TI TO .none) (l:jS s.heap TI (.ref e)^.ref f) (m:jS s.heap TO a b) (v:qy i s.heap e g k) (B:qy j s.heap f h k) (n:qw i s.heap g q) (p:qw j s.heap h r) (hx:q[k]?=P3 x) (C:r[k]?=P3 y)
  (F:∀d,lD d z TI TO^rawInt s.heap.objs.size->jS d TO x y->qy i d e g (k+1)->qy j d f h (k+1)->jS d s.heap.objs.size x y->d.objs.size=s.heap.objs.size+1->(∀c o,c≠z->c≠TO->c≠e->c≠f->s.heap.get? c=P3 o->d.get? c=P3 o)->Q (P3^.ref s.heap.objs.size) {s with heap:=d}):
  wpAny (model prog w) A (pyNext^.ref z) Q E s:=by
 have u:s.TypeIs (.ref z) "zip":=#[_,t,rfl];unfold pyNext
 exact Ch (lT (jC (name:=jX "__next__") u kW (jY kW u nG
  (Sq D t l m v B n p hx C λd G H I J K L M=>Op^F d G H I J K L M) (m8 _))))
theorem GN{z TI TO g h i j:Db}(B:A.handled=q_)(D:Sl z TI TO g h i j)
  (x:lD s.heap z TI TO .none) (l:jS s.heap TI (.ref g)^.ref h) (m:jS s.heap TO a b) (C:qy r s.heap g i k) (F:qy t s.heap h j k) (n:qw r s.heap i u) (p:qw t s.heap j v) (f:u[k]?=q_\/v[k]?=q_)
  (G:∀q,(∀c o,c≠z->c≠TO->c≠g->c≠h->s.heap.get? c=P3 o->q.get? c=P3 o)->Q q_ {s with heap:=q}):wpAny (model prog w) A (pyNext^.ref z) Q E s:=by
 have y:s.TypeIs (.ref z) "zip":=#[_,x,rfl];unfold pyNext;refine Ch^lT^jC (name:=jX "__next__") y kW^jY kW y nG (FD B D x l m C F n p f λq e H I=>?_)^m8 _;let#[o, J,K]:=I;exact Ch^pD (T:="StopIteration") (b:=r_) #[o,J,K] isSubtype_stop^Op^G _ H
end
section

theorem Inv.turnedL{ch:t_ Db}(I:Inv X zH Z H s)(d:∀b∈ch,F2 X zH H b)(k:∀b o,b∉ch->s.heap.get? b=P3 o->h'.get? b=P3 o):Inv X zH Z H {s with heap:=h',toks:=t'}:=by
 have f:∀b u,H b=P3 u->b∉ch:=λb u e z=>by rw[(d b z).1]at e; cases e
 refine I.step (λb g=>?_) (λb o _ _ a e _=>k b o a e) (λb o _ _ a e _=>#[_,k b o a e]) (λ_ _ _ _ n=>n) (λb o a e=>#[o,k b o a e]) (λ_ _ e=>e) (λ_ _ _ e=>e) (λb y e=>#[#[],by rw[e]; rfl]) (λm h=>?_) (λb u e=>(I.hok b u e).vL (λc v a q=>k c v (a.elim (λz=>by simp_all) λz=>f c _ z) q) (λ_ q=>q) λ_ _ q=>q) I.bare
 .let#[A,i,B,j,l,p]:=d b g
  exact#[j,i,l,p]
 .let#[o,t,w,x,r]:=h
  exact#[o,t,w,k _ o (λz=>(d _ z).2.1 rfl) x,r]
theorem Inv.turnLaid{ch:t_ Db}(I:Inv X zH Z H s)(h:∀b∈ch,F2 X zH H b)(k:∀b o,b∉ch->s.heap.get? b=P3 o->h'.get? b=P3 o)(j:s.heap.objs.size<=a)(new:qU X.prog X.w (An H a o) h' a o):
  Inv X zH Z (An H a o) {s with heap:=h',toks:=t'}:=by
 have i:∀b u,H b=P3 u->b∉ch:=λb u e z=>by rw[(h b z).1]at e; cases e
 have l:H a=q_:=I.hok.fresh j;have f:∀b u,H b=P3 u->An H a o b=P3 u:=λb u e=>by rw[AH^Af e l]; exact e
 refine I.step (g':=s.gens) (d':=s.drawn) (ch:=ch) (λb g=>?_) (λb o _ _ d e _=>k b o d e) (λb o _ _ d e _=>#[o.slots,k b o d e]) (λb u _ e n=>?_) (λb o d e=>#[o,k b o d e]) (λb p e=>f _ _ e) (λb o u e=>f _ _ e) (λb F e=>#[#[],by rw[f _ _ e]; rfl]) (λm t=>?_) (λb u e=>?_) I.bare
 .let#[G,x,J,y,A,B]:=h b g
  exact#[y,x,A,B]
 .rw[AH^iJ^ic (Tk e) j]; exact n
 .let#[o,C,D,E,r]:=t
  exact#[o,C,D,k _ o (λz=>(h _ z).2.1 rfl) E,r]
 .by_cases g:b=a
  .subst g; rw[AQ]at e; injection e with e;subst e; exact new
  .rw[AH g]at e
   exact(I.hok b u e).vL (λc v d q=>k c v (d.elim (λz=>by simp_all) λz=>i c _ z) q) (λc q=>f _ _ q) λc p q=>f _ _ q
end
def SqK(c:Bool)(K:Frag)(H:Hp)(a:Db)(b:t_ V):Prop:=match c with
 |true=>SqL K H a b
 |false=>SqT K H a b
theorem SqK.at(I:Inv X e Z H s)(h:SqK c X.K H a d):∃b:t_ Ev,qz d b/\qw c s.heap a b.toArray:=by
 cases c with
 |true=>let#[b, r,f,_]:=I.list h; exact#[_,r,f.isList]
 |false=>let#[b, r,p,_]:=I.tuple h; exact#[_,r,p]
def bc (K:Frag) (e f:Bool) (a b:Db) (c d:t_ V):It:=
  #[λi H=>SqK e K H a c ∧ SqK f K H b d ∧ i < c.length ∧ i < d.length,λi H x g=>∃ T p q,x=.ref T ∧ H T=q_ ∧ g=An H T^.tup [p,q] ∧ c[i]?=P3 p ∧ d[i]?=P3 q,
   λi H=>SqK e K H a c ∧ SqK f K H b d ∧ (c.length ≤ i ∨ d.length ≤ i)]
structure de (zY zX:Bool) (z TI TO i1 i2 a b:Db) (k:Nat) (h:iG):Prop where
 z:lD h z TI TO .none
 ti:jS h TI (.ref i1) (.ref i2)
 to:∃a b,jS h TO a b
 i1:qy zY h i1 a k
 i2:qy zX h i2 b k
theorem TC{K:Frag}(zY zX:Bool)(z TI TO g l a b:Db)(xs ys:t_ V)(D:Sl z TI TO g l a b)(B:TI∉[z,TO,g,l]):
  Turn P w K (.Tuple es j pos) (bc K zY zX a b xs ys) [z,TI,TO,g,l] z (de zY zX z TI TO g l a b) where
 mem:=by simp
 obj:=λi h d c f=>by
  simp only[TW,iC,or_false]at f
  rcases f with rfl|rfl|rfl|rfl|rfl
  .exact#[_,d.z,λv q=>by cases q]
  .exact#[_,d.ti,λv q=>by cases q]
  .let#[a,b,e]:=d.to
   exact#[_,e,λv q=>by cases q]
  .exact d.i1.lies
  .exact d.i2.lies
 keep:=λi h h' d k=>by
  let#[p,q, e]:=d.to;exact#[k z (by simp) _ d.z,k TI (by simp) _ d.ti,#[p,q,k TO (by simp) _ e],d.i1.mv λo e=>k g (by simp) o e,d.i2.mv λo e=>k l (by simp) o e]
 item:=by
  intro X C F G f i zH s Z H E I r d J;subst C F G;let#[ L,M,m,hj]:=J;let#[us, N,O]:=L.at I;let#[ws, R,S]:=M.at I;let#[u, hu,ru]:=N.get^On m;let#[v, hv,rv]:=R.get^On hj;let#[p,q, e]:=d.to;refine FV D d.z d.ti e d.i1 d.i2 O S (x:=u) (y:=v) (by simpa using hu) (by simpa using hv) λh' a1 a2 a3 a4 a5 a6 a7=>#[_,rfl,?_];refine wpAny_letOwnedTupleGo_zip a1 λT b1 n=>?_;have hT:H s.heap.objs.size=q_:=I.hok.fresh^Re _
  have t:∀c o,c∉[z,TO,g,l]->s.heap.get? c=P3 o->T.get? c=P3 o:=λc o f e=>by
   simp only[TW,iC,or_false,not_or]at f;exact n.extBut _ _ f.1^a7 c o f.1 f.2.1 f.2.2.1 f.2.2.2 e
  have I2:Inv X zH Z (An H s.heap.objs.size^.tup [xs[i],ys[i]]) {s with heap:=T}:=by
   refine I.turnLaid (t':=s.toks) (ch:=[z,TO,g,l]) (λc f=>r c ?_) t (Re _) ?_
   .simp only[TW,iC,or_false]at f ⊢
    rcases f with rfl|rfl|rfl|rfl <;>simp
   .have nT:s.heap.objs.size≠z:=kR^Tk d.z
    exact#[by show 2<=sizeLine; decide,[u,v],.cons ru^.cons rv .nil,#[_,n.extBut _ _ nT a5,rfl,_,rfl,rfl,rfl]]
  have U:jS T TI (.ref g)^.ref l:=t _ _ B d.ti;refine#[.ref s.heap.objs.size,_,I2,rfl,#[_,_,_,rfl,hT,rfl,On m,On hj],#[b1,U,#[_,_,n.extBut _ _ D.TOz a2],a3.eb n.extBut D.i1z,a4.eb n.extBut D.i2z],λc f=>?_];have W:H c=q_:=(r c f).1
  have Y:c≠s.heap.objs.size:=λz=>by
   obtain⟨o,ho,_⟩:∃o,s.heap.get? c=P3 o/\True:=by
    simp only[TW,iC,or_false]at f
    rcases f with rfl|rfl|rfl|rfl|rfl
    .exact#[_,d.z,trivial]
    .exact#[_,d.ti,trivial]
    .exact#[_,e,trivial]
    .let#[o,q,_]:=d.i1.lies; exact#[o,q,trivial]
    .let#[o,q,_]:=d.i2.lies; exact#[o,q,trivial]
   rw[z]at ho;exact jN _^Tk ho
  rw[AH Y]; exact W
 done:=by
  intro X C F G f i zH s Z H E I r d J;subst C F G;let#[ L,M,m]:=J;let#[us, N,O]:=L.at I;let#[ws, R,S]:=M.at I;let#[p,q, e]:=d.to;have l1:=N.length;have l2:=R.length;refine GN (I.ok.hd f) D d.z d.ti e d.i1 d.i2 O S (m.imp (λm=>by simp; lk) λm=>by simp; lk) λh' t=>#[rfl,?_];refine I.turnedL (t':=s.toks) (ch:=[z,TO,g,l]) (λc f=>r c ?_) λc o f e=>?_
  .simp only[TW,iC,or_false]at f ⊢
   rcases f with rfl|rfl|rfl|rfl <;>simp
  .simp only[TW,iC,or_false,not_or]at f
   exact t c o f.1 f.2.1 f.2.2.1 f.2.2.2 e
 self:=λA i s Q E d h=>pE d.z h
section

theorem Su(n a b:Nat)(c:a<n)(d:b<n):Sl (n+4) (n+2) (n+3) n (n+1) a b:=by
 constructor <;>(grind)
theorem ZG(n:Nat):(n+2)∉[n+4,n+3,n,n+1]:=by
 simp_all
theorem ZH(n c:Nat)(h:c∈[n+4,n+2,n+3,n,n+1]):n<=c:=by
 grind
def fe(K:Frag)(h:TA):TI:=λZ H R=>h Z H λi c=>∃d e a b f g,i=[.ref a,.ref b]/\SqK d K c a f/\SqK e K c b g/\R (bc K d e a b f g) c
theorem UN(J:Gl X "zip")(L:X.mg "zip"=q_)(M:PA X [m,f] y)(N:starEach [m,f] X.env=[(s_,eval m X.env),(s_,eval f X.env)]:=by rfl)(i:starEach [f] X.env=[(s_,eval f X.env)]:=by rfl):
  PI X (.Tuple G j g) (.Call (.Name "zip" p) [m,f] [] pos) (fe X.K y):=by
 intro O s Z H R I h;refine Call_ (Dz I J L boot_zip^jf (thn (M pos O s Z H _ I h) λP d zz=>?_) (by simp only[N,i])^by rw[i]; rfl);let#[vs,Q, k,S,n]:=zz;let#[z,A,a,b,B,C, e,T,U,q]:=n;subst e;let#[u,v, rfl,V,W]:=vals2 S;subst V;subst W;let#[P, Y,n]:=T.at k;let#[ws, a0,E]:=U.at k;have la:a<d.heap.objs.size:=by let#[o, e]:=n.lies; exact Tk e
 have lb:b<d.heap.objs.size:=by let#[o, e]:=E.lies; exact Tk e
 refine Ga n E λh' F r t w x hk=>?_;refine pE F ?_;have D:=Su d.heap.objs.size a b la lb;refine#[d.heap.objs.size+4,[d.heap.objs.size+4,d.heap.objs.size+2,d.heap.objs.size+3,d.heap.objs.size,d.heap.objs.size+1],_,bc X.K z A a b B C,Q,rfl,k.kept (t':=d.toks) hk,TC z A _ _ _ _ _ a b B C D^ZG d.heap.objs.size,#[F,r,#[_,_,t],w,x],λc hc=>?_,q];have l:d.heap.objs.size<=c:=ZH d.heap.objs.size c hc;exact k.fpOk l^k.hok.fresh l
end
end L2
namespace Dp
open L2
def Fa(a b:t_ D):t_ D:=mh (λd e=>.tup [d,e]) a b
section
variable {K:Frag}
theorem Gq(h:AtT K g M H d v)(e:Gr d=P3 l)(m:∀a,U a->g a)(s:∀a,g a->M a):∃p a c,v=.ref a/\Ats K M H l c/\∀i f,qQ M H i f->Ext U H f->SqK p K f a c:=by
 cases d with
 |lst q=>
  injection e with e;subst e;let#[a,c, j,n,b,k]:=h;refine#[r_,a,c,j,k,λi f _ ex=>?_]
  rcases b with b|⟨o,b⟩
  .exact .inl^.inl^ex.keep b λz=>n^m a z
  .exact .inl^.inr #[o,ex.keep b λz=>n^m a z]
 |tup q=>
  injection e with e;subst e;let#[a,c, j,b,k]:=h;exact#[s_,a,c,j,k,λi f r _=>(b.qq r).sq]
 |_=>cases e
theorem OR(h:At K M H d v)(e:Gr d=P3 l):∃m a b,v=.ref a/\Ats K M H l b/\∀f c,qQ M H f c->SqK m K c a b:=by
 cases d with
 |lst n=>
  injection e with e;subst e;let#[a,b, g,i,j]:=h;exact#[r_,a,b,g,j,λf c k=>(i.qq k).sq]
 |tup n=>
  injection e with e;subst e;let#[a,b, g,i,j]:=h;exact#[s_,a,b,g,j,λf c k=>(i.qq k).sq]
 |_=>cases e
theorem IN(u:Ats K M H h f)(v:Ats K M H j g)(w:qQ M H r c)(z:SqK l K c a f)(A:SqK m K c b g)(s:∀a,r a->∃o,c a=P3 o):
  (∀d,(Fa h j)[i]?=P3 d->(bc K l m a b f g).go i c/\∀x H2,(bc K l m a b f g).yld i c x H2->zk c H2/\At K r H2 d x)/\((Fa h j).length<=i->(bc K l m a b f g).stop i c):=by
 have P:=u.length;have Q:=v.length;refine#[λd e=>?_,λF=>#[z,A,?_]]
 .unfold Fa at e
  rw[ph]at e;cases k:h[i]? with
  |none=>simp only[k]at e; simp at e
  | some G=>
   cases n:j[i]? with
   |none=>simp only[k,n]at e; simp at e
   |some I=>
    simp only[k,n]at e;have t:D.tup [G,I]=d:=iA e;have R:i<h.length:=(f8.mp k).1;have S:i<j.length:=(f8.mp n).1;refine#[#[z,A,by lk,by lk],λx H2 y=>?_];let#[T,p,q, rfl,B,rfl,J,L]:=y;let#[U, C,N]:=(u.qq w).get k;let#[W, E,O]:=(v.qq w).get n;rw[J]at C;rw[L]at E;injection C with C;subst C;injection E with E;subst E;subst t;exact#[Am B,EG s B #[p,[q],rfl,N,q,[],rfl,O,rfl]]
 .unfold Fa at F
  grind
end
section
variable {X:Cx}
def ZJ(ws:DR):DR:=λn c P=>ws n c λf g=>∃d e a b,f=[d,e]/\Gr d=P3 a/\Gr e=P3 b/\P (Fa a b) g
theorem Xu(z:Gl X "zip")(A:X.mg "zip"=q_)(B:WE X [e1,e2] ws)(D:starEach [e1,e2] X.env=[(s_,eval e1 X.env),(s_,eval e2 X.env)]:=by rfl)(c:starEach [e2] X.env=[(s_,eval e2 X.env)]:=by rfl):
  ZE X (.Tuple es j tpos) (.Call (.Name "zip" p) [e1,e2] [] pos) (ZJ ws):=by
 let#[t, E,F]:=B;refine#[_,UN z A E D c,λC M H n G Z P W R w q=>?_];refine F C M H n G Z _ _ R w λY f ds I m o J p=>?_;let#[d,e,xs,ys,rfl,K,L,p]:=p;cases J with
 | cons r g=>
  cases g with
  |cons N g=>
   cases g;have s:=R.step m o;let#[O,a,Q, rfl,S,u]:=Gq (U:=C.U) r K R.uV s.vM;let#[T,b,h, rfl,V,v]:=Gq (U:=C.U) N L R.uV s.vM;refine#[O,T,a,b,Q,h,rfl,u M f (qQ.refl _ _)^Ext.refl _ _,v M f (qQ.refl _ _)^Ext.refl _ _,q _ f _ I m o (λi x y k ex l=>IN S V k (u x y k ex) (v x y k ex) l) p]
theorem VW(x:Gl X "zip")(y:X.mg "zip"=q_)(z:YJ X [e1,e2] ws)(A:starEach [e1,e2] X.env=[(s_,eval e1 X.env),(s_,eval e2 X.env)]:=by rfl)(c:starEach [e2] X.env=[(s_,eval e2 X.env)]:=by rfl):
  DI X (.Tuple es j tpos) (.Call (.Name "zip" p) [e1,e2] [] pos) (ZJ ws):=by
 let#[t, B,D]:=z;refine#[_,UN x y B A c,λC M H n E Z P W R w q=>?_];refine D C M H n E Z _ _ R w λY f ds F G I g p=>?_;let#[d,e,xs,ys,rfl,J,K,p]:=p;let#[v,r,rfl,g,v',L,rfl,N,O]:=g;cases(show L=[]from O);let#[Q,a,S, rfl,T,m]:=OR g J;let#[U,b,h, rfl,V,o]:=OR N K;exact#[Q,U,a,b,S,h,rfl,m M f^qQ.refl _ _,o M f^qQ.refl _ _,q _ f _ F G I (λi s u k l=>IN T V k (m s u k) (o s u k) l) p]
def fc:D->u_ Key
 |.int i=>P3^.inl i
 |.str x=>P3^.inr x
 |_=>q_
def HP:t_ D->u_^t_ Key
 |[]=>P3 []
 |d::a=>match fc d,HP a with
  |some k,P3 b=>P3 (k::b)
  |_,_=>q_
set_option tactic.hygienic true in
theorem GR{K:Frag}:∀{c:t_ D}{a:t_ V}{b:t_ Key},HP c=P3 b->Ats K M H c a->a=b.map kOf
 |[],a,b,e,h=>by injection e with e;subst e; exact h
 | d::c,a,b,e,h=>by
  let#[v,r, e1,l,m]:=h;unfold HP at e
  split at e
  .rename_i k n f g
   injection e with e;subst e;simp only[e1,GR g m]
   congr 1
   cases d with
   |int i=>injection f with f;subst f; exact l
   |str x=>injection f with f;subst f; exact l.1
   |_=>cases f
  .cases e
def O_(d e:D)(P:D->Prop):Prop:=match d,e with
 |.int i,.int j=>P^.bl (decide (i<j))
 |.str i,.str j=>P^.bl (decide (i.cps.toList<j.cps.toList))
 |.tup c,.tup f=>∃a b,HP c=P3 a/\HP f=P3 b/\Bw a b=r_/\P^.bl^G1 a b
 |_,_=>False
def cP(K:Frag):R2:=λx y H Q=>Zj x y H Q\/cO K x y H Q
theorem Iu(a:qk k X.A):OpR X (compareOp .Lt)^cP X.K:=op_ltU.or^Zz a.units0
theorem N6:FN X.K .sh (cP X.K) O_:=λU M H d e x y P Q c h f g w q=>by
 unfold O_ at w
 split at w
 .exact .inl^Y5 U M H _ _ x y P Q c h f g w q
 .exact .inl^Y5 U M H _ _ x y P Q c h f g w q
 .let#[i,k,l,m,n,w]:=w
  let#[a,u, rfl,o,r]:=f.tup;let#[b,v, rfl,s,t]:=g.tup;have e1:=GR l r;have e2:=GR m t;subst e1 e2;exact .inr #[a,b,i,k,rfl,rfl,o.sq,s.sq,n,q _ H (.bl _) .refl rfl w]
 simp_all
end
end Dp
namespace L2
section

theorem MY(c:IsTup s.heap t a)(n:s.heap.IsSliceOf f k l .none)(p:nU k b)(q:nU l e)
  (o:HT.sIx a.size 0 b=0/\HT.sIx a.size a.size e=a.size) (h:Q (.ref t) s):wpAny (model prog w) A (getItem (.ref t)^.ref f) Q E s:=by
 let#[r, g,i,u]:=id n;have j:s.TypeIs (.ref f) "slice":=#[r,g,i];unfold getItem
 (try with_reducible refine i6 ?_); (first|refine Ch^Op ?_|skip)
 refine Ch^on c.typeIs (by cbv)^Ch^jC (name:=jX "__getitem__") c.typeIs ip^jY ip c.typeIs nz ?_^oN _ _;show wpAny (model prog w) _ (mP^.ref t >>=_) _ _ s;refine Ch^tupleItemsOf_ c^Ch^ko j ?_; rw[if_pos^by cbv]
 refine Ch^HT.zw n p q ?_;have d:(((HT.sIx a.size 0 b:Nat):Int)==0&&(1:Int)==1&&(HT.sIx a.size a.size e - HT.sIx a.size 0 b)==a.size)=r_:=by rw[o.1,o.2]; simp
 show wpAny (model prog w) _ (if(((HT.sIx a.size 0 b:Nat):Int)==0&&(1:Int)==1&&(HT.sIx a.size a.size e - HT.sIx a.size 0 b)==a.size)=r_ then _ else _) _ _ s;rw[if_pos d];refine Ch (m:=oZ _) ?_;unfold oZ;refine Ch^ko c.typeIs^Op ?_;show wpAny (model prog w) _ (if((mF "tuple"==mF "tuple")=r_)then _ else _) _ _ s;rw[if_pos^by cbv]
 first
  |grind
  |exact Ch^mG^Op #[_,rfl,Op h]
  |grind
theorem JN{b c:Type}{f g:b->u_ c}:∀{l:t_ b},(∀a∈l,f a=g a)->l.filterMap f=l.filterMap g
 |[],_=>rfl
 |a::l,h=>by
  rw[lN,lN,h a Sc,JN λx d=>h x^TM _ d]
theorem Tr(l:t_ Ev):∀(n:Nat),n<=l.length->((iM n).filterMap fun(k:Nat)=>l[n - 1 - k]?)=(l.take n).reverse:=by
 intro n
 induction n with
 |zero=>intro _; rfl
 | succ n b=>
  intro h;have a:n<l.length:=h;rw[nA,lN];have c:l[n+1 - 1 - 0]?=P3 l[n]:=by simp only[show n+1 - 1 - 0=n by lk,On a]
  simp only[c];rw[oM]
  have d:((fun(k:Nat)=>l[n+1 - 1 - k]?)∘Nat.succ)=fun(k:Nat)=>l[n - 1 - k]?:=by
   grind
  simp only[d,b^by lk,oy,On a,List.reverse_append];rfl
theorem GA(a:Array Ev):((iM a.size).filterMap fun(k:Nat)=>a[(((a.size:Int) - 1)+(k:Int)*(-1)).toNat]?).toArray=a.toList.reverse.toArray:=by
 have h:=Tr a.toList _^Re _;simp only[mJ]at h
 have e:(iM a.size).filterMap (fun(k:Nat)=>a[((a.size - 1)+(k:Int)*(-1)).toNat]?)=(iM a.toList.length).filterMap λk=>a.toList[a.toList.length - 1 - k]?:=by
  refine JN λk b=>?_;rw[show((a.size - 1)+(k:Int)*(-1)).toNat=a.size - 1 - k by lk];simp
 simp only[e,h]
theorem N4{n:Nat}(e:s.heap.IsSliceOf c .none .none^.int (-1) t)(h:Q ((n:Int) - 1,-1,n) s):wpAny (model prog w) A (oX (.ref c)^pure (n:Int)) Q E s:=by
 let#[k, a,f,b]:=id e;refine Ch^Ch (io a b (x:=.none) rfl (Ch (io a b (x:=.none) rfl (Ch (io a b (x:=.int (-1) t) rfl (Op ?_))))));refine Ch^HT.vU (IsPart.int (-1) t) ?_;rw[if_neg^by cbv];show wpAny (model prog w) _ (match lB q_ q_ (-1) (n:Int)with|(d,g)=>pure (d,(-1:Int),jw d g (-1))) _ _ s;have i:lB q_ q_ (-1) (n:Int)=((n:Int) - 1,-1):=rfl;rw[i]
 have j:jw ((n:Int) - 1) (-1) (-1)=n:=by
  unfold jw
  lia
 show wpAny (model prog w) _ (pure _) _ _ s;rw[j];exact Op h
theorem Q8(d:IsTup s.heap t a)(l:s.heap.IsSliceOf e .none .none^.int (-1) n)(f:a.size<=sizeLine)
  (h:Q (.ref s.heap.objs.size) {s with heap:=s.heap.push {cls:=.type "tuple",data:=.seq a.toList.reverse.toArray}}):wpAny (model prog w) A (getItem (.ref t)^.ref e) Q E s:=by
 let#[o, g,i,p]:=id l;have j:s.TypeIs (.ref e) "slice":=#[o,g,i]
 have c:sizeOk^.seq a.toList.reverse.toArray:=by
  show a.toList.reverse.toArray.size<=sizeLine
  simpa using f
 unfold getItem
 (try with_reducible refine i6 ?_); (first|refine Ch^Op ?_|skip)
 refine Ch^on d.typeIs (by cbv)^Ch^jC (name:=jX "__getitem__") d.typeIs ip^jY ip d.typeIs nz ?_^oN _ _;show wpAny (model prog w) _ (mP^.ref t >>=_) _ _ s;refine Ch^tupleItemsOf_ d^Ch^ko j ?_; rw[if_pos^by cbv]
 refine Ch^N4 l ?_;have k:¬(((a.size:Int) - 1==0&&(-1:Int)==1&&a.size==a.size)=r_):=by simp
 show wpAny (model prog w) _ (if((a.size:Int) - 1==0&&(-1:Int)==1&&a.size==a.size)=r_ then _ else _) _ _ s;rw[if_neg k,GA]
 first
  |exact Ch (m:=o9 _)^jp (Op #[_,rfl,Op h]) c
  |omega
  |grind
  |grind
theorem Jw(a:Array Ev):slicePick a q_ q_^P3 (-1)=a.toList.reverse.toArray:=by
 unfold slicePick;have b:sliceBounds q_ q_ (P3 (-1)) _=((a.size:Int) - 1,-1,-1):=rfl;rw[b];simp only[sliceRange];rw[←GA,oM]
 congr 1
 have c:(if -1 > 0 then if(a.size:Int) - 1 < -1 then(-1 - ((a.size:Int) - 1)+-1 - 1) / -1 else 0 else if(a.size:Int) - 1 > -1 then((a.size:Int) - 1 - -1 - -1 - 1) / - -1 else 0).toNat=a.size:=by
  grind
 rw[c];refine JN λk _=>?_
 grind
end
section
variable {e st:Expr}
def fR(K:Frag):V->Hp->VK->Prop:=λx H Q=>(∃a b,x=.ref a/\SqL K H a b/\∀p,H p=q_->Q (.ref p)^An H p^.lst b.reverse)\/∃a b,x=.ref a/\SqT K H a b/\∀p,H p=q_->Q (.ref p)^An H p^.tup b.reverse
def fK(K:Frag)(te tst:TE):TE:=λZ H Q=>te Z H λx a=>tst Z a λi H2=>i=.int (-1)/\fR K x H2 Q
theorem Zt(C:PE X e te)(k:PE X st tst):PE X (.Subscript e (.Slice q_ q_ (P3 st) p2) pos)^fK X.K te tst:=by
 intro j s Z H Q I h;refine Subscript_^thn (C j s Z H _ I h) λv D zz=>?_;let#[x,E, F,y,G]:=zz;refine wpAny_Slice ?_;rw[evalPart_none,evalPart_some];refine Op^Op^thn (k j D Z E _ F G) λN c zz=>?_;let#[i,J, L,M,l]:=zz;let#[rfl,l]:=l;let#[t,rfl]:=M;have d:Inv X j Z J {c with heap:=c.heap.push {cls:=.type "slice",data:=.fields #[ .none,.none,.int (-1) t]}}:=L.kept (t':=c.toks) λb z q=>Go _ q;have B:({c with heap:=c.heap.push {cls:=.type "slice",data:=.fields #[ .none,.none,.int (-1) t]}}:No).heap.IsSliceOf c.heap.objs.size .none .none^.int (-1) t:=qI ..;show wpAny (model X.prog X.w) X.A (subscriptTail e (.Slice q_ q_ (P3 st) p2) v^.ref c.heap.objs.size) (EP X j Z Q) X.xe {c with heap:=c.heap.push {cls:=.type "slice",data:=.fields #[ .none,.none,.int (-1) t]}}
 rcases l with⟨a,m,rfl,n,q⟩|⟨a,m,rfl,n,q⟩
 .cases y
  let#[p,r,f,u]:=d.list n;have g:=r.length;refine tail_any (ops:=[.ref a,.ref c.heap.objs.size]) f.isList.typeIs oo.lookup ?_ (by with_unfolding_all rfl);refine wpAny_getItem_list_slice f.isList B .none .none (.int (-1) t) (by cbv) ?_ (by rw[iK]; omega);rw[Jw];refine#[.ref _,_,d.laid (t':=c.toks) (o:=.lst m.reverse) (λb z q=>Go _ q) (Re _) ?_,rfl,q _^d.hok.fresh^Re _];exact#[by rw[List.length_reverse]; exact u,_,0,r.reverse,Uf _ rfl]
 .cases y
  let#[p,r,f,u]:=d.tuple n;have g:=r.length;refine tail_any (ops:=[.ref a,.ref c.heap.objs.size]) f.typeIs ip.lookup ?_ (by with_unfolding_all rfl);refine Q8 f B (by rw[iK]; omega) ?_;refine#[.ref _,_,d.laid (t':=c.toks) (o:=.tup m.reverse) (λb z q=>Go _ q) (Re _) ?_,rfl,q _^d.hok.fresh^Re _];exact#[by rw[List.length_reverse]; exact u,_,r.reverse,zG.new _ _]
def Ya(K:Frag):V->u_ Int->u_ Int->Hp->VK->Prop:=λx c d H Q=>∃a b,x=.ref a/\SqT K H a b/\(HT.sIx b.length 0 c=0/\HT.sIx b.length b.length d=b.length)/\Q (.ref a) H
theorem WW:SlR X^Ya X.K:=by
 intro k s Z H x v l m n o p Q I d e f g h;let#[a,t, rfl,i,u,q]:=h;cases d;let#[j, r,b,w]:=I.tuple i;have c:=r.length.symm;exact#[_,_,ip.lookup,b.typeIs,MY b e f g (by grind) #[.ref a,H,I,rfl,q]]
end
section

def T_(K:Frag):R2:=λx y H Q=>∃a b c,x=.ref a/\y=.ref b/\SqT K H a []/\SqT K H b c/\Q (.ref b) H
theorem UZ:OpR X (binaryOp .Add)^T_ X.K:=by
 intro M s Z H x y v u Q I l m h;let#[a,b,N, rfl,rfl,o,p,q]:=h;cases l;cases m;let#[r, t,w,_]:=I.tuple o;let#[g, O,z,_]:=I.tuple p;cases t;let#[#[A,B,i,C], j,D, n, E]:=id w;let#[#[k,G,d,J], c,e, L, f]:=id z;subst D E e f;exact concat_meets #[_,j,rfl] #[_,c,rfl] o8 seq_tuple_add PySem.F.slot_tuple_add PySem.F.entry_tuple_add (PySem.F.args_tuple_add_2 _ _) (tuple_addW0 a b _ _ n L B _ C _^by simp) #[j,c,#[.ref b,H,I,rfl,q]]
def bI(b:Bool):Int:=if b=r_ then 1 else 0
def eR(g:Int->Int->Int):R2:=λx y H Q=>∃k j,x=.bl k/\y=.int j/\Q (.int^g (bI k) j) H
def gK(g:Int->Int->Int):R2:=λx y H Q=>∃i k,x=.int i/\y=.bl k/\Q (.int^g i^bI k) H
theorem op_add_bi:OpR X (binaryOp .Add) (eR λi j=>i+j):=by
 intro c s Z H x y v u Q I a b h;let#[k,j, rfl,rfl,q]:=h;cases a;let#[t,rfl]:=b;exact PySem.IntBool.add_bool_int #[.int _,H,I.tok _,#[_,rfl],q]
theorem op_sub_bi:OpR X (binaryOp .Sub) (eR λi j=>i - j):=by
 intro c s Z H x y v u Q I a b h;let#[k,j, rfl,rfl,q]:=h;cases a;let#[t,rfl]:=b;exact PySem.IntBool.sub_bool_int #[.int _,H,I.tok _,#[_,rfl],q]
theorem RX:OpR X (binaryOp .Sub) (gK λi j=>i - j):=by
 intro c s Z H x y v u Q I a b h;let#[i,k, rfl,rfl,q]:=h;let#[t,rfl]:=a;cases b;exact PySem.IntBool.sub_int_bool #[.int _,H,I.tok _,#[_,rfl],q]
def YZ:t_ V->Hp->VK->Prop:=λa H Q=>(∃i,a=[.int i]/\i.natAbs.log2<1920/\Q (.str^toString i) H)\/∃b,a=[.bl b]/\Q (.str (if b then "True" else "False")) H
theorem SU:B5 X (.type "str") YZ:=by
 intro e s Z H a c Q I r h
 rcases h with h|⟨b,rfl,q⟩
 .exact L7 _ s Z H a c Q I r h
 .let#[u,rfl,d]:=vals1 r
  cases d;exact PySem.P.str_of_bool #[.str _,H,I.tok _,#[_,rfl],q]
end
end L2
namespace Dp
open L2
section
variable {K:Frag}{X:Cx}
def CD(d e:D)(P:D->Prop):Prop:=match d,e with
 |.int i,.int j=>P^.int (i+j)
 |.bl k,.int j=>P^.int (bI k+j)
 |.str i,.str j=>i.length+j.length<=sizeLine/\P^.str (i++j)
 |.tup i,.tup j=>i.length+j.length<=sizeLine/\P^.tup (i++j)
 |.lst i,.lst j=>i.length+j.length<=sizeLine/\P^.lst (i++j)
 |_,_=>False
def Yh(K:Frag):R2:=λx y H Q=>UB K x y H Q\/(eR λi j=>i+j) x y H Q\/T_ K x y H Q
theorem AY:OpR X (binaryOp .Add)^Yh X.K:=op_addU.or^op_add_bi.or UZ
set_option tactic.hygienic true in
theorem Ac:FN X.K .sh (Yh X.K) CD:=λU M H d e x y P Q c h f g w q=>by
 unfold CD at w
 split at w
 .exact .inl^ME U M H (.int _) (.int _) x y P Q c h f g w q
 .rename_i k j
  exact .inr^.inl #[k,j,f,g,q _ H (.int _) .refl rfl w]
 .exact .inl^ME U M H _ (.str _) x y P Q c h f g w q
 .rename_i i j
  cases i with
  |nil=>
   let#[a,r, rfl,n,o]:=f.tup;let#[b,l, rfl,m,p]:=g.tup;cases(o);exact .inr^.inr #[a,b,l,rfl,rfl,n.sq,m.sq,q _ H (.tup j) .refl #[b,l,rfl,m,p]^by grind]
  |cons s i=>exact .inl^ME U M H _ (.tup j) x y P Q c h f g #[(by grind),w] q
 .exact .inl^ME U M H (.lst _) (.lst _) x y P Q c h f g w q
 grind
def HU(d e:D)(P:D->Prop):Prop:=match d,e with
 |.int i,.int j=>P^.int (i - j)
 |.bl k,.int j=>P^.int (bI k - j)
 |.int i,.bl k=>P^.int (i - bI k)
 |_,_=>False
def YX:R2:=λx y H Q=>(HI λi j=>.int (i - j)) x y H Q\/(eR λi j=>i - j) x y H Q\/(gK λi j=>i - j) x y H Q
theorem Bb:OpR X (binaryOp .Sub) YX:=op_sub.or^op_sub_bi.or RX
set_option tactic.hygienic true in
theorem B9:FN K .sh YX HU:=λU M H d e x y P Q a f b c w q=>by
 unfold HU at w
 split at w
 .exact .inl^Vy U M H _ _ x y P Q a f b c w q
 .rename_i k j
  exact .inr^.inl #[k,j,b,c,q _ H (.int _) .refl rfl w]
 .rename_i i k
  exact .inr^.inr #[i,k,b,c,q _ H (.int _) .refl rfl w]
 grind
def VC(a:t_ D)(P:D->Prop):Prop:=match a with
 |[.int i]=>i.natAbs.log2<1920/\(jX^toString i).length<=sizeLine/\P^.str^toString i
 |[.bl b]=>P^.str (if b then "True" else "False")
 |_=>False
set_option tactic.hygienic true in
theorem a_:Cm K .sh YZ VC:=by
 intro U M H e f P Q d g c w q;unfold VC at w
 split at w
 .rename_i i
  let#[v, rfl,a]:=C4 c;rw[a.int];exact .inl #[i,rfl,w.1,q _ H (.str _) .refl #[rfl,w.2.1] w.2.2]
 .rename_i b
  let#[v, rfl,a]:=C4 c;rw[a.bl];refine .inr #[b,rfl,q _ H (.str _) .refl #[rfl,?_] w];cases b <;>(decide)
 grind
def E4(d:D)(a b:u_ Int)(P:D->Prop):Prop:=match d with
 |.str z=>P^.str^Txt.slice z a b
 |.lst c=>P^.lst^cutD c a b
 |.tup c=>P^.tup^cutD c a b
 |_=>False
def cM(K:Frag):V->u_ Int->u_ Int->Hp->VK->Prop:=λx a b H Q=>cJ x a b H Q\/cL K x a b H Q\/cK K x a b H Q\/Ya K x a b H Q
theorem Dt:SlR X^cM X.K:=sl_U.or^sl_list.or^sl_tup.or WW
theorem Qj(c d:u_ Int)(h:Ats K M H a b):Ats K M H (cutD a c d)^Nm b c d:=by
 delta cutD Nm;rw[h.length];exact(h.drop _).take _
set_option tactic.hygienic true in
theorem CH:gS K .sh (cM K) E4:=by
 intro U M H d x c f P Q h n i w q;unfold E4 at w
 split at w
 .rename_i z
  exact .inl #[z,i.str.1,i.str.2,q _ H (.str^Txt.slice z c f) .refl #[rfl,iU (Txt.slice_le z c f) i.str.2] w]
 .rename_i l
  let#[a,b, rfl,_,j,g]:=i;exact .inr^.inl #[a,b,rfl,.inl j,λp k=>q _ _ (.lst _) (Am k) ((Cg (U:=U) k^Qj c f g).vY h^by simp_all) w]
 .rename_i l
  let#[a,b, rfl,j,g]:=i.tup
  by_cases m:HT.sIx b.length 0 c=0/\HT.sIx b.length b.length f=b.length
  .refine .inr^.inr^.inr #[a,b,rfl,j.sq,m,?_]
   have e:cutD l c f=l:=by
    unfold cutD;rw[←g.length,m.1,m.2,oB,mi,g.length,mJ]
   rw[e]at w;exact q _ H (.tup l) .refl #[a,b,rfl,j,g] w
  .exact .inr^.inr^.inl #[a,b,rfl,j.sq,m,λp k=>q _ _ (.tup _) (Am k) (EG h k^Qj c f g) w]
 simp_all
def bn(f a:DW):DW:=λn c P=>f n c λd g=>a g c λi e=>i=.int (-1)/\match d with
 |.lst b=>P (.lst b.reverse) e
 |.tup b=>P (.tup b.reverse) e
 |_=>False
theorem ah{a B:iR}(e:DE X a G wa)(o:DE X B m c):DE X (.Subscript a (.Slice q_ q_ (P3 B) b) pos) .sh^bn wa c:=by
 let#[t, I,J]:=e;let#[u, L,N]:=o;refine#[_,Zt I L,λC M H n E Z P Q R w q=>?_];refine J C M H n E Z _ _ R w λv O d S r T W p=>?_;have s:=R.step r T;have Y:=W.vT R.dom R.vM;refine N C M O S E Z _ _ s p λi H2 z F f x r2 b=>?_;have h:=s.step f x;have j:=Y.qq (s.qq f) f R.uV;let#[rfl,b]:=b;exists Lr r2;cases d with
 |lst y=>
  let#[a,k, rfl,_,e,A]:=j;refine .inl #[a,k,rfl,.inl e,λp l=>?_];have g:zk H2^An H2 p^.lst k.reverse:=Am l;exact q _ _ (.lst y.reverse) F ((r.trans f).trans g.ext) (x.grow g) ((Cg (U:=C.V) l A.reverse).vY h.dom^by intro z; cases z) b
 |tup y=>
  let#[a,k, rfl,e,A]:=j.tup;refine .inr #[a,k,rfl,e.sq,λp l=>?_];have g:zk H2^An H2 p^.tup k.reverse:=Am l;exact q _ _ (.tup y.reverse) F ((r.trans f).trans g.ext) (x.grow g) (EG h.dom l A.reverse) b
 |_=>exact b.elim
def Yx:D->D->(D->Prop)->Prop:=eW λi j P=>i.length+j.length<=sizeLine/\P^.lst (i++j)
end
end Dp
namespace Nt
open L2 Dp
def Ji:W2:=λa n P=>∃m:Int,a=[.fd,.sh^.int m]/\1<=m/\m<1073741824/\1<=n/\∀r:Int,0<=r->r<m->P (.int r) (n - 1)
def cs(x:Str):t_ Nat:=x.cps.toList
theorem Vf(h:cs x=cs y):x=y:=by
 let#[a]:=x;unfold cs at h
 simp_all
theorem G9(x y:Str):cs (x++y)=cs x++cs y:=PySem.W.KT.app_list x y
def R0(x:Str):Prop:=1<=x.length/\x.length<=8/\∀c∈cs x,97<=c/\c<=122
def rising(a:t_ Str):Prop:=a.Pairwise λx y=>cs x<cs y
theorem Ul(a b:t_ Nat):ltCps a b=decide (a<b):=ltCps_eq a b
theorem HK:∀(l:t_ Str) (p:Str),risingS p l=r_->(p::l).Pairwise λa b=>¬cs b<cs a
 |[],p,_=>m6 _ _
 |x::r,p,h=>by
  have c:(!ltCps _ _&&risingS x r)=r_:=h;rw[iE,Bool.not_eq_true',Ul,decide_eq_false_iff_not]at c;have e:=HK r x c.2;refine i9.mpr #[λy d=>?_,e]
  rcases TW.mp d with rfl|d
  .exact c.1
  .exact List.le_trans c.1^(i9.mp e).1 y d
theorem Jp(h:sortedS l=r_)(nd:l.Nodup):rising l:=by
 have c:l.Pairwise λa b=>¬cs b<cs a:=by
  cases l with
  |nil=>simp_all
  |cons x r=>exact HK r x h
 exact(c.and nd).imp λ{a b} #[d,e]=>o4 λf=>e^Vf^List.le_antisymm d f
theorem Bj(a:Int)(n:Nat):(CJ a n).length=n:=by unfold CJ; simp_all
theorem Eo(h:d∈CJ a n):∃k:Nat,k<n/\d=.int (a+k):=by
 let#[k, b,rfl]:=Rs.mp h;exact#[k,jD.mp b,rfl]
end Nt
namespace L2
section
variable {K:Frag}
theorem XC.name(c:XC K n1 C U)(d:XC K n2 C U'):n1=n2:=by
 let#[f, g,_,_,h]:=c.cls;let#[a, b,_,_,e]:=d.cls
 simp_all
theorem XC.nameU(c:XC K n1 C U)(d:XC K n2 U U'):n2="ThinError":=by
 let#[q,N,i,j,b,k,f,l,m,n,o,p,r,s,e]:=c.up;let#[g, a,_,_,h]:=d.cls;unfold PySem.W.clsIn at a;simp only[e]at a
 grind
end
end L2
namespace Dp
open L2
def gQ(M:Db->Prop)(H:Hp)(a:u_ Db)(b:t_ Str)(c:t_ V):Prop:=a=q_/\b=[]/\c=[]\/∃d,a=P3 d/\¬M d/\H d=P3^.ext^XF d^b.zip c
abbrev PX:=Str->t_ Str->t_ D->Nat->Prop
abbrev WX:=t_ Slot->Nat->(D->Nat->Prop)->PX->Prop
def vw(K:Frag)(F:u_ Fd)(U M:Db->Prop)(H:Hp)(h:PX)(E:XK):Prop:=∀d C i b c e f a g,Ext U H a->qV K F M a g->XC K d C i->gQ M a f b e->b.length=c.length->Ats K M a c e->h d b c g->E (.ref C) f a
def fQ(K:Frag)(h:Kd)(W:WX)(i:Nat):Sp:=λb H Q E=>b.length=i/\∃(F:u_ Fd) (U c M:Db->Prop) (n:Nat) (e:t_ Slot) (P:D->Nat->Prop) (f:PX),bN K F U c M H n e b/\W e n P f /\
 (∀v a d g,Ext U H a->qV K F M a g->VR K c M H a h v d->P d g->Q v a)/\vw K F U M H f E
def bh(c:Fm->Prop)(X:Cx)(d:Kd)(e:jM)(w:Ab):Prop:=∃t,PS X e t/\∀(C:Fm) (M:Db->Prop) (H:Hp) (n:Nat) (a:t_ Slot) (Z:L2.St) (b:E2) (E:Ends),c C->Rel X.K C M H n a Z->Gh X.K C d b E->w b n a->t E Z H
def OF(c:Fm->Prop)(X:Cx)(d:Kd)(e:t_ jM)(w:Ab):Prop:=∃t,PSs X e t/\∀(C:Fm) (M:Db->Prop) (H:Hp) (n:Nat) (a:t_ Slot) (Z:L2.St) (b:E2) (E:Ends),c C->Rel X.K C M H n a Z->Gh X.K C d b E->w b n a->t E Z H
section
variable {st:Stmt}
theorem VQ(h:DS X κ st u):bh Φ X κ st u:=let #[t,a,b]:=h; #[t,a,λC M H n c Z d E _=>b C M H n c Z d E]
theorem QZ(h:MK X κ rest u):OF Φ X κ rest u:=let #[t,a,b]:=h; #[t,a,λC M H n c Z d E _=>b C M H n c Z d E]
theorem G8(d:bh Φ X κ st u)(e:OF Φ X κ rest v):OF Φ X κ (st::rest)^BO u v:=by
 let#[t, f,g]:=d;let#[j, h,i]:=e;exact#[_,Ao f h,λC M H n a Z b E c R L w=>g C M H n a Z {b with nx:=v b} _ c R #[λM H n a Z R w=>i C M H n a Z b E c R L w,L.rt,L.bk,L.ct] w]
theorem GX(a:bh Φ X κ st u):OF Φ X κ [st] u:=by
 let#[t, b,c]:=a;exact#[t,BR b,c]
theorem VS(k:DT X c wA)(l:OF Φ X κ a u)(m:OF Φ X κ b v):bh Φ X κ (.If c a b pos)^DU wA u v:=by
 let#[t, o,q]:=k;let#[A, r,s]:=l;let#[x, y,z]:=m;refine#[_,KQ o r y,λC M H n d Z e E f R L w=>?_];refine q C M H n d Z _ _ R w λb g h i j p=>?_;cases b with
 |true=>exact s C M g h d Z e E f (R.step i j) L p
 |false=>exact z C M g h d Z e E f (R.step i j) L p
end
def eB(P:iP)(w:iZ)(K:Frag)(b:Str->u_ Ev)(a:iG)(c:Str)(d:t_ Str)(k:Nat):Prop:=∃C U,XC K c C U/\b c=P3^.ref C /\
 ((d=[]/\PySem.W.findIn K (.ref C) "__init__"=P3^P3^.builtin "ValueError.__init__")\/∃e g f fd h i j,d=[e,g]/\PySem.W.findIn K (.ref C) "__init__"=P3^P3^.ref f/\PySem.W.typeIn K^.ref f=P3^.type "function"/\B_ P w K b a FO k f fd [h,i,j]^IX C e g/\Binds K fd [h,i,j] [])
def K9(d:Str)(a:t_ Str)(b:DR):E2->PX->Nat->t_ Slot->Prop:=λ_ e n g=>b n g λc f=>(a=[]/\c.length<=100/\e d [] [] f)\/(a.length=2/\c.length=2/\e d a c f)
abbrev bU:=E2->PX->Nat->t_ Slot->Prop
def e9(X:Cx)(d:Kd)(e:jM)(w:bU):Prop:=∃t,bZ X e t/\∀(C:Fm) (M:Db->Prop) (H:Hp) (n:Nat) (a:t_ Slot) (Z:L2.St) (b:E2) (E:Ends) (R:XK) (c:PX),Rel X.K C M H n a Z->Gh X.K C d b E->vw X.K C.F C.U M H c R->w b c n a->t E R Z H
def eG(X:Cx)(d:Kd)(e:t_ jM)(w:bU):Prop:=∃t,bO X e t/\∀(C:Fm) (M:Db->Prop) (H:Hp) (n:Nat) (a:t_ Slot) (Z:L2.St) (b:E2) (E:Ends) (R:XK) (c:PX),Rel X.K C M H n a Z->Gh X.K C d b E->vw X.K C.F C.U M H c R->w b c n a->t E R Z H
theorem vw.step{K:Frag}(h:vw K F U M H b E)(e:Ext U H a):vw K F U M a b E:=λc C d f g i j k l m=>h c C d f g i j k l^e.trans m
section
variable {st:Stmt}
theorem VP(a:e9 X κ st u):eG X κ [st] u:=by
 let#[t, b,c]:=a;exact#[t,UG b,c]
theorem Kt(G:eB X.prog X.w X.K X.mg X.base nm ks k)(D:qk (k+1) X.A)(I:Gl X nm)(ha:YJ X (e::es) was)(a:(nm==("__debug__":Str))=s_:=by decide)(J:starEach (e::es) X.env=(s_,eval e X.env)::starEach es X.env:=by rfl)(b:(backTo cpos^starEach es X.env).any (·.1)=s_:=by rfl)
  (c:(e::es).length<=sizeLine:=by decide):e9 X κ (.Raise (P3^.Call (.Name nm p) (e::es) [] cpos) q_ pos)^K9 nm ks was:=by
 let#[C,U, h,N,G]:=G;let#[t, O,P]:=ha
 rcases G with⟨rfl,s⟩|⟨Q,S,f,fd,p0,p1,p2,rfl,s,hf,F,hb⟩
 .refine#[_,Oc h s D.hd I N O a J b,λC0 M H n u Z D2 E R Pr r L l w=>?_]
  refine P C0 M H n u Z _ _ r w λT V W x i j m p=>?_
  rcases p with⟨_,c,p⟩|⟨z,_⟩
  .exact#[by simp only[m.length,PySem.sizeLine_eq]; lk,l nm C U [] [] [] q_ V x i j h (.inl #[rfl,rfl,rfl]) rfl rfl p]
  .cases z
 .refine#[_,Ob h s hf F hb D I N O a J b,λC0 M H n u Z D2 E R Pr r L l w=>?_]
  refine P C0 M H n u Z _ _ r w λT V W x i j m p=>?_
  rcases p with⟨z,_⟩|⟨_,c,p⟩
  .cases z
  .have Y:=m.length
   simp only[c]at Y
   match T,Y with
   | [y,B],_=>
    refine#[y,B,rfl,λd hd=>?_];have g:=Am (o:=.ext^XF d [(Q,y),(S,B)]) hd
    have nd:¬M d:=λz=>by
     let#[o, q]:=(r.step i j).dom d z;rw[hd]at q; cases q
    exact l nm C U [Q,S] W [y,B] (P3 d) _ x (i.trans g.ext) (j.grow g) h (.inr #[d,rfl,nd,AQ]) c.symm (m.qq g.qq) p
theorem JT(hx:F1 (Si X.prog X.w) X R)(q:vw X.K F0 l m o b R)(c:∀C,j C->C.F=F0/\C.U=l/\C.M0=m/\C.H0=o)(h:e9 X κ st w):bh j X κ st (λg=>w g b):=by
 let#[t, s,u]:=h;refine#[_,RP hx s,λC M H n x Z g E y r L w=>?_];let#[ rfl,rfl,rfl,rfl]:=c C y;refine u C M H n x Z g E R b r L (λnm A B ks D G I i J e f N xd O P p=>?_) w;have a:qQ M i _ i:=qQ.less r.sub;refine q nm A B ks D G I i J (r.ext.trans e) (f.qq a λ_ _ _ z=>z) N ?_ O (P.qq a) p
 rcases xd with z|⟨d,Q,S,T⟩
 .exact .inl z
 .exact .inr #[d,Q,λz=>S^r.sub d z,T]
def gg(X:Cx)(e:iR)(κ:Kd)(w:Nat->t_ Slot->(D->Nat->Prop)->PX->Prop):Prop:=∃t,gC X e t/\∀(C:Fm) (M:Db->Prop) (H:Hp) (n:Nat) (b:t_ Slot) (Z:L2.St) (P:D->Nat->Prop) (Q:VK) (R:XK) (c:PX),Rel X.K C M H n b Z->vw X.K C.F C.U M H c R->w n b P c->
 (∀v a d f,Ext C.U H a->qV X.K C.F M a f->VR X.K C.V M H a κ v d->P d f->Q v a)->t R Z H Q
def bS(P:iP)(w:iZ)(K:Frag)(c:Str->u_ Ev)(a:iG)(x:Str)(k:Nat)(b:t_ Str)(κ:Kd)(W:WX):Prop:=
 ∃f fd,B_ P w K c a (Si P w) k f fd b^fQ K κ W b.length/\c x=P3^.ref f/\keepIn K^.ref f=r_/\Binds K fd b []/\∀d n P e,W d n P e->d.length=b.length
def ZP(W:WX)(was:WB):Nat->t_ Slot->(D->Nat->Prop)->PX->Prop:=λn a P b=>was n a λc d=>W c d P b
theorem VY{was:WB}(G:bS X.prog X.w X.K X.mg X.base x k m h W)(o:qk k X.A)(s:Gl X x)(u:WC X (e::es) was)
  (c:(x==("__debug__":Str))=s_:=by decide) (y:starEach (e::es) X.env=(s_,eval e X.env)::starEach es X.env:=by rfl) (g:(backTo pos^starEach es X.env).any (·.1)=s_:=by rfl):
  gg X (.Call (.Name x p) (e::es) [] pos) h (ZP W was):=by
 let#[f,fd, G,z,B,D,E]:=G;let#[t, F,I]:=u;refine#[_,UQ G o s z B D F c y g,λC M H n J Z P Q R L r l w q=>?_];refine I C M H n J Z _ _ r w λvs H1 N O a i j p=>?_;have b:=r.step a i;exact#[(Paired.length j).trans^E _ _ _ _ p,_,_,_,M,O,N,P,L,#[b.dom,b.fU,b.uV,b.vM,i,j],p,λv H2 d S T U V Y=>q v H2 d S (a.trans T) U (VR.back a V) Y,l.step a]
abbrev bV:=E2->Str->t_ Str->t_ D->Nat->t_ Slot->Prop
def DH(X:Cx)(κ:Kd)(g:t_ mQ)(w:bV):Prop:=∃t,PH X g t/\∀(C:Fm) (M:Db->Prop) (H:Hp) (n:Nat) (b:t_ Slot) (Z:L2.St) (c:E2) (E:Ends) (nm:Str) (d h:Db) (ks:t_ Str) (a:t_ D) (e:t_ V) (f:u_ Db),
 Rel X.K C M H n b Z->Gh X.K C κ c E->XC X.K nm d h->gQ M H f ks e->ks.length=a.length->Ats X.K M H a e->w c nm ks a n b->t E d f Z H
def e_(c:bU)(d:bV):Ab:=λa n b=>c a (λnm ks e f=>d a nm ks e f b) n b
theorem aV(d:X.stack=X.env::X.outer)(g:X.env.frame=P3 X.env.locals)(hx:∀e s,X.xe e s->False)(m:eG X κ a h)(o:DH X κ (b::c) i):
  DS X κ (.Try a (b::c) [] [] pos) (e_ h i):=by
 let#[t, q,u]:=m;let#[K, x,y]:=o;exact#[_,Zo d g hx q x,λC M H n j Z k E r L w=>u C M H n j Z k E _ _ r L (λnm l z ks A B D F G e f I xd J c p=>#[l,rfl,y C M F G j Z k E nm l z ks A B D (r.step e f) L I xd J c p]) w]
def ZN:bV:=λ_ _ _ _ _ _=>False
theorem ac:DH X κ [] ZN:=#[_,Zr,λ_ _ _ _ _ _ _ _ _ _ _ _ _ _ _ _ _ _ _ _ _ w=>w.elim]
end
end Dp
namespace L2
def HX(A:ik)(H:Hp):Prop:=∃a C b u,A.handled=P3^.ref a/\H a=P3 u/\XT C b a u
structure gR (P:iP) (w:iZ) (K:Frag) (tg:iR) (J:It) (fp:List Db) (it:Db) (tn:Nat->iG->Prop):Prop where
 mem:it∈fp
 obj:∀i h,tn i h->∀b∈fp,∃o,h.get? b=P3 o/\∀v,o.data≠.cell v
 keep:∀i h h',tn i h->(∀b∈fp,∀o,h.get? b=P3 o->h'.get? b=P3 o)->tn i h'
 item:∀(X:Cx),X.prog=P->X.w=w->X.K=K->HX X.A X.H₀->∀(i:Nat) (zH:List (Db×Obj)) (s:No) (Z:St) (H:Hp) (E:Ev->No->Prop),Inv X zH Z H s->(∀b∈fp,F2 X zH H b)->tn i s.heap->J.go i H->
  wpAny (model P w) X.A (pyNext^.ref it) (λr s1=>∃u,r=P3 u /\
   wpAny (model P w) X.A (letOwnedTupleGo tg (.ref it) u) (λ_ s2=>∃x H',Inv X zH Z H' s2/\RelV x u/\J.yld i H x H'/\tn (i+1) s2.heap/\∀b∈fp,H' b=q_) E s1) E s
 done:∀(X:Cx),X.prog=P->X.w=w->X.K=K->HX X.A X.H₀->∀(i:Nat) (zH:List (Db×Obj)) (s:No) (Z:St) (H:Hp) (E:Ev->No->Prop),Inv X zH Z H s->(∀b∈fp,F2 X zH H b)->tn i s.heap->J.stop i H->
  wpAny (model P w) X.A (pyNext^.ref it) (λr s1=>r=q_/\Inv X zH Z H s1) E s
 self:∀(A:ik) (i:Nat) (s:No) (Q:Ev->No->Prop) (E:Ev->No->Prop),tn i s.heap->Q (.ref it) s->wpAny (model P w) A (pyIter^.ref it) Q E s
end L2
namespace Dp
open L2
end Dp
namespace L2
structure dw (k:Nat) (A:ik):Prop where
 dp:A.depth+3*k+5<recursionLimit
 un:A.units+16*k+200<cLine
 gd:A.guards=P3 []
structure gc (P:iP) (w:iZ) (K:Frag) (mg:Str->Option Ev) (base:iG) (k:Nat) (f:Db) (fd:jG) (ps:List Str) (sp:Sp):Prop where
 len:∀vs H Q E,sp vs H Q E->vs.length=ps.length
 run:∀(A:ik) (outer:List Env) (s:No) (H:Hp) (args:Args) (us:List Ev) (vs:List V) (Q:VK) (E:XK),dw k A->HX A H->vN P w K mg base A outer s H->n8 s fd args^ps.zip us->qz vs us->sp vs H Q E->
  codeAny (model P w) A (.call (.ref f) args) (CR FO outer P w H s Q E) s
end L2
namespace Dp
open L2
theorem fnX{K:Frag}{m:jM}{wb:PX->Ab}(F:Fun K x a m f fd)(S:A7 N i^AR m)(L:i.length<=N.length)
  (O:∀(c:Ev) (A:ik) (b:t_ Env) (s:No) (H:Hp) (E:XK) (g:PX) (r:u_ Fd) (U M:Db->Prop),vw K r U M H g E->qk k^A.deeper^envOfC a (AR m) s.heap.objs.size f c->
   OF (λC=>C.F=r/\C.U=U/\C.M0=M/\C.H0=H) (Ef (Si P w) P w K I e N a (AR m) f c A b s H E) o (BG m) (wb g))
  (hW:∀u n j g,u.length=i.length->W u n j g->wb g {nx:=λn _=>o=.sh/\j .non n,rt:=j} n (u++iN (N.length - i.length) .no)):
  B_ P w K I e (Si P w) (k+1) f fd i (fQ K o W i.length):=by
 let#[oc,od,kV,T,pm,an,c,ct,V,rfl,X,y]:=F.ex;refine Yq X y S (λY H Q E h=>h.1) λA b s H Y Q E Z h=>?_;let#[ hl, r,U,V',M,n,u,j,g, J,hw,q,l]:=h;let#[t,t1,t2]:=O c A _ s H E g r U M l Z;exists t,t1;have el:=Paired.length J.2.2.2.2.2;have R:=KP (N:=N) J (by lk);refine t2 _ M H n _ _ {nx:=λn _=>o=.sh/\j .non n,rt:=j} _ #[rfl,rfl,rfl,rfl] R #[λM1 B D zT zK G p=>?_,λv B d D e1 f1 r1 p=>q v B d D e1 f1 r1 p,λ_ _ _ _ _ _ z=>z.elim,λ_ _ _ _ _ _ z=>z.elim] ?_
 .let#[hk,p]:=p
  subst hk;exact q .non B .non D G.ext (G.feed.qq (qQ.less G.sub) λ_ _ _ z=>z) rfl p
 simp_all
end Dp
namespace So
open PySem.W
section

def KN(O:KeyOrd)(key:Nat->O.α)(p:Array Nat)(i:Nat):O.α:=key^p.getD i 0
def Srt(O:KeyOrd)(key:Nat->O.α)(p:Array Nat)(k:Nat):Prop:=∀i j,i<=j->j<k->O.kle (KN O key p i)^KN O key p j
def d9(O:KeyOrd)(key:Nat->O.α)(p:Array Nat)(k:Nat):Prop:=∀i j,i<=j->j<k->O.kle (KN O key p j)^KN O key p i
def ZF(O:KeyOrd)(key:Nat->O.α)(N:Nat)(cmp:Nat->Nat->(Bool->No->Prop)->No->Prop)(s:No):Prop:=∀(i j:Nat) (C:Bool->No->Prop),i<N->j<N->C (O.blt (key i)^key j) s->cmp i j C s
def Bd(N:Nat)(p:Array Nat):Prop:=0<N/\∀x∈p,x<N
theorem XD(p:Array Nat)(i:Nat):p.getD i 0=(p[i]?).getD 0:=by
 simp
theorem Bd.get(h:Bd N p)(i:Nat):p.getD i 0<N:=by
 rw[XD];cases e:p[i]? with
 |none=>exact h.1
 |some x=>exact h.2 x^Array.mem_of_getElem? e
theorem Bd.perm(h:Bd N p)(b:a.Perm p):Bd N a:=#[h.1,λx c=>h.2 x^b.mem_iff.mp c]
theorem FC(h:p[i]?=q[j]?):KN O key p i=KN O key q j:=by
 unfold KN
 simp_all
theorem K6(f:a<p.size)(hd:d<=a)(k:Nat):
  KN O key (bubble p a d) k=if k=a - d then KN O key p a else if a - d<k/\k<=a then KN O key p (k - 1)else KN O key p k:=by
 have e:=getElem?_bubble f d hd k
 by_cases b:k=a - d
 .rw[if_pos b]at e ⊢; exact FC e
 .rw[if_neg b]at e ⊢
  by_cases c:a - d<k/\k<=a
  .rw[if_pos c]at e ⊢; exact FC e
  .rw[if_neg c]at e ⊢; exact FC e
theorem HB(b:j<=p.size)(k:Nat):KN O key (kas_rev p i j) k=if i<=k/\k<j then KN O key p (i+j - 1 - k)else KN O key p k:=by
 have e:=getElem?_mirror_all (i:=i) b k
 by_cases a:i<=k/\k<j
 .rw[if_pos a]at e ⊢; exact FC e
 .rw[if_neg a]at e ⊢; exact FC e
theorem Bm(a:j<=p.size)(b:∀k,i<=k->k<j->KN O key p k=KN O key p (j - 1))(k:Nat):KN O key (kas_rev p i j) k=KN O key p k:=by
 rw[HB a]
 grind
theorem CZ(p:Array Nat)(i j:Nat):(kas_rev p i j).Perm p:=mirror_perm _ _ _ _
theorem yes{a b:KasT c}(h:a.kasWp cmp Q s):(if r_=r_ then a else b).kasWp cmp Q s:=by simp_all
theorem no{c:Type}{b a:KasT c}{Q:c->No->Prop}(h:a.kasWp cmp Q s):(if s_=r_ then b else a).kasWp cmp Q s:=by simp_all
theorem PU(q:ZF O key N cmp s)(d:Bd N p):∀(f n:Nat),1<=n->n+f=nrem->Srt O key p n->
  (∀m,n<=m->m<=nrem->Srt O key p m->(m=nrem\/O.klt (KN O key p m)^KN O key p (m - 1))->G m s)->(kas_asc p f n).kasWp cmp G s
 |0,n,_,e,b,h=>h n (Re _) (by lk) b^.inl^by omega
 | f+1,n,w,e,b,h=>by
  show cmp (p.getD n 0) (p.getD (n - 1) 0) (λc r=>(if c=r_ then KasT.ret n else kas_asc p f (n+1)).kasWp cmp G r) s;refine q _ _ _ (d.get n) (d.get _) ?_;cases a:O.blt (key^p.getD n 0)^key^p.getD (n - 1) 0 with
  |true=>exact yes^h n (Re _) (by lk) b^.inr a
  | false=>
   refine no^PU q d f (n+1) (by lk) (by lk) (λi j g x=>?_) λm y t u v=>h m (by lk) t u v
   by_cases k:j<n
   .exact b i j g k
   .have l:j=n:=by lk
    subst l
    by_cases o:i=j
    .subst o; exact jx _
    .exact nH (b i (j - 1) (by lk)^by lk) a
theorem II(D:ZF O key N cmp s):∀(f:Nat) (p:Array Nat) (n q:Nat),p.Perm p0->Bd N p->l<=p.size->1<=n->n+f=l->d9 O key p n->q+1<=n->
  (∀i,n - (q+1)<=i->i<n->KN O key p i=KN O key p (n - 1))->
  (∀g m v,g.Perm p0->Bd N g->g.size=p.size->n<=m->m<=l->d9 O key g m->v+1<=m->(∀i,m - (v+1)<=i->i<m->KN O key g i=KN O key g (m - 1))->G (g,m,v) s)->(kas_desc f p n q).kasWp cmp G s
 |0,p,n,q,C,u,Q,Y,e,x,R,E,h=>h p n q C u rfl (Re _) (by lk) x R E
 | f+1,p,n,q,C,u,Q,Y,e,x,R,E,h=>by
  show cmp (p.getD n 0) (p.getD (n - 1) 0) (λc S=>(if c=r_ then(if q > 0 then kas_desc f (kas_rev p (n - (q+1)) n) (n+1) 0 else kas_desc f p (n+1) 0)
   else .ask (p.getD (n - 1) 0) (p.getD n 0) λd=>if d=r_ then .ret (p,n,q)else kas_desc f p (n+1) (q+1)).kasWp cmp G S) s
  refine D _ _ _ (u.get n) (u.get _) ?_;cases o:O.blt (key^p.getD n 0)^key^p.getD (n - 1) 0 with
  | true=>
   have Z:O.klt (KN O key p n)^KN O key p (n - 1):=o
   have r:∀T:Array Nat,(∀k,KN O key T k=KN O key p k)->d9 O key T (n+1):=by
    intro T W i j y hj;simp only[W,W]
    by_cases z:j<n
    .exact x i j y z
    .have A:j=n:=by lk
     subst A
     by_cases B:i=j
     .subst B; exact jx _
     .exact nH (m9 Z)^x i (j - 1) (by lk)^by lk
   refine yes ?_;have U:n<=p.size:=by lk
   by_cases F:q > 0
   .rw[if_pos F]
    refine II D f _ (n+1) 0 ((CZ _ _ _).trans C) (u.perm^CZ _ _ _) (by simp only[kas_rev_size]; exact Q) (by lk) (by lk) (r _^Bm U E) (by lk) (λi a b=>by congr 1; lk) λg m v H I J X K L M P=>h g m v H I (J.trans^kas_rev_size _ _) (by lk) K L M P
   .rw[if_neg F]
    exact II D f _ (n+1) 0 C u Q (by lk) (by lk) (r _ λ_=>rfl) (by lk) (λi a b=>by congr 1; lk) λg m v H I J X K L M P=>h g m v H I J (by lk) K L M P
  | false=>
   refine no ?_;show cmp (p.getD (n - 1) 0) (p.getD n 0) (λd S=>(if d=r_ then KasT.ret (p,n,q)else kas_desc f p (n+1) (q+1)).kasWp cmp G S) s;refine D _ _ _ (u.get _) (u.get n) ?_;cases t:O.blt (key^p.getD (n - 1) 0)^key^p.getD n 0 with
   |true=>exact yes (h p n q C u rfl (Re _) (by lk) x R E)
   | false=>
    have w:KN O key p n=KN O key p (n - 1):=qF (O:=O) t o;refine no^II D f p (n+1) (q+1) C u Q (by lk) (by lk) (λi j y hj=>?_) (by lk) (λi a b=>?_) λg m v H I J X K L M P=>h g m v H I J (by lk) K L M P
    .by_cases z:j<n
     .exact x i j y z
     .have A:j=n:=by lk
      subst A
      by_cases B:i=j
      .subst B; exact jx _
      .rw[w]; exact x i (j - 1) (by lk)^by lk
    .rw[show n+1 - 1=n by lk]
     by_cases V:i=n
     .subst V; rfl
     .rw[w]; exact E i (by lk)^by lk
theorem Mc(e:ZF O key N cmp s)(f:p.Perm p0)(d:Bd N p)(r:a<=p.size)(g:1<=n)(t:n<=a)(k:d9 O key p n)
  (h:∀m b,b.Perm p0->Bd N b->b.size=p.size->1<=m->m<=a->Srt O key b m->G (m,b) s):(kas_tail3 n a p).kasWp cmp G s:=by
 unfold kas_tail3;simp only[KasT.kasWp_bind];have c:n<=p.size:=by lk
 refine PU e (d.perm^CZ _ _ _) _ n g (by omega) (λi j l u=>?_) λm v o q _=>h m _ ((CZ _ _ _).trans f) (d.perm^CZ _ _ _) (kas_rev_size _ _) (by lk) o q;rw[HB c,HB c,if_pos^by lk,if_pos^by lk];exact k _ _ (by omega)^by omega
theorem HZ(k:ZF O key N cmp s)(E:p.Perm p0)(F:Bd N p)(H:c<=p.size)(K:n+1<=c)(I:d9 O key p (n+1))
  (h:∀m d,d.Perm p0->Bd N d->d.size=p.size->1<=m->m<=c->Srt O key d m->G (m,d) s):(kas_descPart n c p).kasWp cmp G s:=by
 unfold kas_descPart;simp only[KasT.kasWp_bind];refine II (p0:=p0) k (c - (n+1)) p (n+1) 0 E F H (by lk) (by omega) I (by lk) (λi a b=>by grind) λd m l y z A L B C M D=>?_;have f:m<=d.size:=by lk
 show(if l > 0 then kas_tail3 m c^kas_rev d (m - (l+1)) m else kas_tail3 m c d).kasWp cmp G s
 by_cases g:l > 0
 .rw[if_pos g]
  refine Mc k ((CZ _ _ _).trans y) (z.perm^CZ _ _ _) (by simp only[kas_rev_size]; omega) (by lk) B (λi j o J=>?_) λq e r t u v w x=>h q e r t (u.trans^(kas_rev_size _ _).trans A) v w x;simp only[Bm f D,Bm f D];exact C i j o J
 .rw[if_neg g]
  exact Mc k y z (by omega) (by lk) B C λq e r t u v w x=>h q e r t (u.trans A) v w x
theorem Vg(y:ZF O key N cmp s)(z:p.Perm p0)(e:Bd N p)(H:nrem<=p.size)(W:1<=nrem)
  (h:∀m o,o.Perm p0->Bd N o->o.size=p.size->1<=m->m<=nrem->Srt O key o m->G (m,o) s):(kas_count nrem p).kasWp cmp G s:=by
 unfold kas_count;simp only[KasT.kasWp_bind];refine PU (nrem:=nrem) y e (nrem - 1) 1 (Re _) (by lk) (λi j q I=>by have:i=j:=(by lk); subst this; exact jx _) λn r t b A=>?_
 by_cases f:n=nrem
 .rw[if_pos^by simpa using f]
  exact h n p z e rfl r t b
 .rw [if_neg^by simpa using f]
  have u:O.klt (KN O key p n)^KN O key p (n - 1):=A.resolve_left f
  by_cases v:n > 1
  .rw[if_pos v]
   show cmp (p.getD 0 0) (p.getD (n - 1) 0) (λc J=>(if c=r_ then KasT.ret (n,p)else kas_descPart n nrem^kas_rev p 0 n).kasWp cmp G J) s;refine y _ _ _ (e.get _) (e.get _) ?_;cases g:O.blt (key^p.getD 0 0)^key^p.getD (n - 1) 0 with
   |true=>exact yes (h n p z e rfl r t b)
   | false=>
    have d:O.kle (KN O key p (n - 1))^KN O key p 0:=g;have w:n<=p.size:=by lk
    have a:∀k,0<=k->k<n->KN O key p k=KN O key p (n - 1):=by
     intro k _ K;have L:=b 0 k (by lk) K;have M:=b k (n - 1) (by lk) (by lk);exact qF M^nH d L
    refine no^HZ y ((CZ _ _ _).trans z) (e.perm^CZ _ _ _) (by simp only[kas_rev_size]; exact H) (by lk) (λi j q I=>?_) λP B Q R S T U V=>h P B Q R (S.trans^kas_rev_size _ _) T U V;simp only[Bm w a,Bm w a]
    by_cases C:j<n
    .rw[a i (by lk)^by lk,a j (by lk) C]; exact jx _
    .have D:j=n:=by lk
     subst D
     by_cases l:i=j
     .subst l; exact jx _
     .rw[a i (by lk)^by lk]; exact m9 u
  .rw[if_neg v]
   have x:n=1:=by lk
   subst x;refine HZ y z e H (by lk) (λi j q I=>?_) h
   by_cases l:i=j
   .subst l; exact jx _
   .have E:i=0:=by lk
    have F:j=1:=by lk
    subst E; subst F
    exact m9 u
theorem Ik(m:ZF O key N cmp s)(g:Bd N p)(j:Srt O key p k)
  (h:∀l,l<=k->(∀i,i<l->O.kle (KN O key p i)^KN O key p k)->(∀i,l<=i->i<k->O.klt (KN O key p k)^KN O key p i)->G l s):∀(f l r:Nat),l<=r->r<=k->r - l<=f->
  (∀i,i<l->O.kle (KN O key p i)^KN O key p k)->(∀i,r<=i->i<k->O.klt (KN O key p k)^KN O key p i)->(kas_place p k f l r).kasWp cmp G s
 |0,l,r,n,d,t,b,c=>by
  have:l=r:=by lk
  subst this;exact h l d b c
 | f+1,l,r,n,d,t,b,c=>by
  unfold kas_place
  by_cases e:l≥r
  .rw[if_pos e]
   have:l=r:=by lk
   subst this;exact h l d b c
  .rw[if_neg e]
   refine m _ _ _ (g.get _) (g.get _) ?_;cases a:O.blt (key^p.getD k 0)^key^p.getD ((l+r) / 2) 0 with
   |true=>
    have o:O.klt (KN O key p k)^KN O key p ((l+r) / 2):=a;exact yes^Ik m g j h f l ((l+r) / 2) (by lk) (by lk) (by omega) b λi q u=>KeyOrd.klt_of_klt_of_kle o^j _ _ q u
   |false=>
    have o:O.kle (KN O key p ((l+r) / 2))^KN O key p k:=a;exact no^Ik m g j h f ((l+r) / 2+1) r (by lk) (by omega) (by omega) (λi q=>nH (j i ((l+r) / 2) (by lk)^by lk) o) c
theorem EW(y:ZF O key N cmp s)(h:∀r,r.Perm p0->Srt O key r n->G r s):∀(f:Nat) (p:Array Nat) (k:Nat),p.Perm p0->Bd N p->n<=p.size->k+f=n->Srt O key p k->(kas_bin f p k).kasWp cmp G s
 |0,p,k,t,u,z,e,d=>h p t^by rw[←e]; exact d
 | f+1,p,k,t,u,z,e,d=>by
  rw[show kas_bin (f+1) p k=(kas_place p k k 0 k).bind λl=>kas_bin f (bubble p k (k - l)) (k+1)from rfl,KasT.kasWp_bind];refine Ik y u d (λl A v w=>?_) k 0 k (XV _) (Re _) (by lk) (λi B=>by lk) λi a b=>by lk
  have g:k<p.size:=by lk
  refine EW y h f _ (k+1) ((bubble_perm _ _ _).trans t) (u.perm^bubble_perm _ _ _) (by rw[bubble_size]; exact z) (by lk) λi j x C=>?_;rw[K6 g^by lk,K6 g^by lk,show k - (k - l)=l by lk]
  by_cases m:i=l
  .rw[if_pos m]
   by_cases c:j=l
   .rw[if_pos c]; exact jx _
   .rw[if_neg c,if_pos^by lk]
    exact m9^w (j - 1) (by lk)^by lk
  .rw [if_neg m]
   by_cases o:l<i/\i<=k
   .rw[if_pos o,if_neg^by lk,if_pos^by lk]
    exact d (i - 1) (j - 1) (by lk)^by lk
   .rw[if_neg o]
    by_cases c:j=l
    .rw[if_pos c]; exact v i^by lk
    .rw[if_neg c]
     by_cases q:l<j/\j<=k
     .rw[if_pos q]
      exact d i (j - 1) (by lk)^by lk
     .rw[if_neg q]
      exact d i j x^by lk
theorem sort_ok(b:1<=n)(c:ZF O key n cmp s)(h:∀p,p.Perm^ig^iM n->Srt O key p n->G p s):(kas_sort n).kasWp cmp G s:=by
 unfold kas_sort;simp only[KasT.kasWp_bind];have f:Bd n^ig^iM n:=#[b,λx k=>by simp_all];have g:(ig^iM n).size=n:=by simp
 refine Vg c (pP _) f (by lk) b λm d e i l o q j=>?_
 by_cases a:m<n
 .rw[if_pos a,show max m 1=m by lk]
  exact EW c h _ d m e i (by lk) (by lk) j
 .rw[if_neg a]
  exact h d e^by grind
end
end So
namespace L2
open PySem.W
def Z4:Key->Key->Bool
 |.inl i,.inl j=>decide (i<j)
 |.inr x,.inr y=>decide (x.cps.toList<y.cps.toList)
 |.inl _,.inr _=>r_
 |.inr _,.inl _=>s_
def CP:t_ Key->t_ Key->Bool
 |[],[]=>s_
 |[],_::_=>r_
 |_::_,[]=>s_
 |x::a,y::b=>if x=y then CP a b else Z4 x y
theorem O1:∀x:Key,Z4 x x=s_
 |.inl i=>decide_eq_false^Int.lt_irrefl i
 |.inr x=>decide_eq_false^j_ _
theorem Rl:∀x y z:Key,Z4 x y=r_->Z4 y z=r_->Z4 x z=r_
 |.inl i,.inl j,.inl k,a,b=>decide_eq_true^Int.lt_trans (of_decide_eq_true a)^of_decide_eq_true b
 |.inr i,.inr j,.inr k,a,b=>decide_eq_true^oa (of_decide_eq_true a)^of_decide_eq_true b
 |.inl i,.inl j,.inr k,_,_=>rfl
 |.inl i,.inr j,.inr k,_,_=>rfl
 |.inl i,.inr j,.inl k,_,h=>by cases h
 |.inr i,.inl j,_,h,_=>by cases h
 |.inr i,.inr j,.inl k,_,h=>by cases h
theorem KW:∀x y:Key,Z4 x y=s_->Z4 y x=s_->x=y
 |.inl i,.inl j,c,d=>congrArg _^by have a:=of_decide_eq_false c; have b:=of_decide_eq_false d; lk
 |.inr x,.inr y,c,d=>by
  have e:=List.le_antisymm (of_decide_eq_false d)^of_decide_eq_false c;let#[u]:=x
  simp_all
 |.inl i,.inr j,h,_=>by cases h
 |.inr i,.inl j,_,h=>by cases h
theorem Ew:∀x:t_ Key,CP x x=s_
 |[]=>rfl
 |x::a=>by unfold CP; rw[if_pos rfl]; exact Ew a
theorem DN:∀x y z:t_ Key,CP x y=r_->CP y z=r_->CP x z=r_
 |[],[],_,h,_=>by cases h
 |[],_::_,[],_,h=>by cases h
 |[],_::_,_::_,_,_=>rfl
 |_::_,[],_,h,_=>by cases h
 |_::_,_::_,[],_,h=>by cases h
 | x::f,y::g,z::i,a,b=>by
  unfold CP at a b ⊢
  by_cases d:x=y
  .subst d
   rw[if_pos rfl]at a
   by_cases c:x=z
   .subst c
    rw[if_pos rfl]at b ⊢;exact DN f g i a b
   simp_all
  .rw[if_neg d]at a
   by_cases c:y=z
   .grind
   .rw[if_neg c]at b
    have e:=Rl x y z a b
    by_cases j:x=z
    .subst j
     rw[O1]at e;cases e
    simp_all
theorem Ct:∀x y:t_ Key,CP x y=s_->CP y x=s_->x=y
 |[],[],_,_=>rfl
 |[],_::_,h,_=>by cases h
 |_::_,[],_,h=>by cases h
 | x::c,y::d,a,b=>by
  unfold CP at a b
  by_cases e:x=y
  .subst e
   rw[if_pos rfl]at a b;rw[Ct c d a b]
  .rw[if_neg e]at a
   rw[if_neg λz=>e z.symm]at b;exact absurd (KW x y a b) e
def RW:KeyOrd:=#[t_ Key,CP,Ew,DN,λa b c h=>by
 cases e:CP a b with
 |true=>exact .inl rfl
 |false=>
  cases d:CP b a with
  |true=>exact .inr^DN b a c d h
  |false=>rw[←Ct a b e d]; exact .inr h,Ct]
theorem Lo:∀x y:t_ Key,Bw x y=r_->G1 x y=CP x y
 |[],[],_=>rfl
 |[],_::_,_=>rfl
 |_::_,[],_=>rfl
 | x::b,y::c,h=>by
  have a:(KL x y&&Bw b c)=r_:=h;simp only[iE]at a;unfold G1 CP
  by_cases e:x=y
  .rw[if_pos e,if_pos e]; exact Lo b c a.2
  .rw[if_neg e,if_neg e]
   cases x with
   |inl i=>cases y with
    |inl j=>rfl
    |inr z=>cases a.1
   |inr i=>cases y with
    |inl j=>cases a.1
    |inr z=>rfl
section

theorem Up:∀(a c:t_ Key) (k l:t_ Ev) (i:Nat),qz (a.map kOf) k->qz (c.map kOf) l->Bw a c=r_->a.length+j=c.length+h->Q (G1 a c) s->
  KatLex prog w A b (decide (h<j)) Q (k.zip l) i s
 |[],[],k,l,i,o,p,_,g,q=>by
  cases o;cases p;refine kat_nil ?_;rw[show decide (h<j)=s_ from decide_eq_false^by simp only[jm]at g; lk];exact q
 |[],m::c,k,l,i,o,p,_,g,q=>by
  cases o;simp only[List.zip_nil_left];refine kat_nil ?_;rw[show decide (h<j)=r_ from decide_eq_true^by simp only[jm,UF]at g; lk];exact q
 |n::a,[],k,l,i,o,p,_,g,q=>by
  cases p;rw[List.zip_nil_right];refine kat_nil ?_;rw[show decide (h<j)=s_ from decide_eq_false^by simp only[jm,UF]at g; lk];exact q
 | n::a,m::c,k,l,i,o,p,F,g,q=>by
  have d:(KL n m&&Bw a c)=r_:=F;simp only[iE]at d;have f:Q (if n=m then G1 a c else eU n m) s:=q;cases o with
  | @cons _ u _ r t G=>
   cases p with
   | @cons _ v _ B C H=>
    simp only[oO];have D:n=m->KatLex prog w A b (decide (h<j)) Q (r.zip B) (i+1) s:=λe=>Up a c r B (i+1) G H d.2 (by simp only[UF]at g; lk) (by rw[if_pos e]at f; exact f);cases n with
    | inl x=>
     cases m with
     |inr y=>cases d.1
     | inl y=>
      let#[I,rfl]:=t;let#[J,rfl]:=C;refine kat_cons^wpAny_eqBool_int ?_
      by_cases e:x=y
      .rw[show(x==y)=r_ by simpa using e]
       exact kat_yes^D^by rw[e]
      .rw[show(x==y)=s_ by simpa using e]
       refine kat_no ?_;rw[if_neg λz=>e^Sum.inl.inj z]at f;cases K:(b&&i==0)with
       |true=>exact oneLt_int f
       |false=>exact kat_one _ _^pV (show PySem.W.BoolBack Q (.bool (decide (x<y))) s from f)
    | inr x=>
     cases m with
     |inl y=>cases d.1
     | inr y=>
      let#[I,rfl]:=t;let#[J,rfl]:=C;refine kat_cons^wpAny_eqBool_str ?_
      by_cases e:x=y
      .rw[show decide (x=y)=r_ by simpa using e]
       exact kat_yes^D^by rw[e]
      .rw[show decide (x=y)=s_ by simpa using e]
       refine kat_no ?_;rw[if_neg λz=>e^jU z]at f;cases K:(b&&i==0)with
       |true=>exact oneLt_str f
       |false=>exact kat_one _ _^PySem.P.lt_str (show PySem.W.BoolBack Q (.bool (decide (x.cps.toList<y.cps.toList))) s from f)
structure Q1 (h:iG) (ks:List Ev) (keys:List^List Key):Prop where
 at_:∀(i:Nat) (ns:List Key),keys[i]?=P3 ns->∃a o its n,ks[i]?=P3^.ref a/\h.get? a=P3 o/\o.cls=.type "tuple"/\o.data=.seq its n/\qz (ns.map kOf) its.toList
 len:ks.length=keys.length
 same:∀x∈keys,∀y∈keys,Bw x y=r_
 ne:∀x∈keys,x≠[]
def eL:Key->String
 |.inl _=>"int"
 |.inr _=>"str"
theorem firsts:∀(g:t_ Ev) (b:t_^t_ Key) (T:String),g.length=b.length->(∀(i:Nat) (u:t_ Key),b[i]?=P3 u->∃a o c n,g[i]?=P3^.ref a/\h.get? a=P3 o/\o.cls=.type "tuple"/\o.data=.seq c n/\qz (u.map kOf) c.toList)->
  (∀x∈b,∃k r,x=k::r/\eL k=T)->∃j:t_ Ev,KatTups h g j/\j.length=b.length/\∀v∈j,typeOf v=pure^.type T
 |[],[],T,_,_,_=>#[[],trivial,rfl,λv l=>by cases l]
 |[],_::_,T,m,_,_=>by cases m
 |_::_,[],T,m,_,_=>by cases m
 | k::g,x::b,T,m,z,B=>by
  let#[j, F,G,H]:=firsts g b T (by simpa using m) (λi u e=>by
   let#[a,o,c,n, p,r]:=z (i+1) u (by simpa using e);exact#[a,o,c,n,by simpa using p,r]) λy I=>B y^TM _ I
  let#[a,o,c,n, p,J,K,L,q]:=z 0 x rfl;have p:k=.ref a:=by simpa using p
  subst p;let#[k,r, rfl,C]:=B x Sc;rw[iQ]at q;cases d:c.toList with
  |nil=>simp only[d]at q; cases q
  | cons f M=>
   simp only[d]at q;cases q with
   | cons D N=>
    refine#[f::j,KatTups.cons J K L (by rw[←nP,d]; rfl) F,by simp only[UF,UF,G],λv l=>?_]
    rcases TW.mp l with rfl|l
    .cases k with
     |inl i=>let#[t, rfl]:=D; subst C; rfl
     |inr i=>let#[t, rfl]:=D; subst C; rfl
    .exact H v l
theorem KA(K:Q1 s.heap c keys)(h2:2<=c.length)(h:∀p,p.Perm^ig^iM c.length->So.Srt RW (λi=>keys.getD i []) p c.length->G p s):
  wpAny (model prog w) A (keyKind' c.toArray) (λN P=>(kas_sort c.length).kasWp (kas_ask prog w A N c) G P) (λ_ _=>False) s:=by
 obtain⟨f,I,Q⟩:∃f I,keys=f::I:=by
  cases e:keys with
  |nil=>have:=K.len; rw[e]at this; simp only[jm]at this; lk
  |cons x r=>exact#[x,r,rfl]
 have J:f∈keys:=by rw[Q]; exact Sc
 obtain⟨m,R,S⟩:∃k r,f=k::r:=by
  cases e:f with
  |nil=>exact absurd e^K.ne f J
  |cons k r=>exact#[k,r,rfl]
 have y:∀x∈keys,∃k r,x=k::r/\eL k=eL m:=λx L=>by
  cases e:x with
  |nil=>exact absurd e^K.ne x L
  | cons k r=>
   exists k,r,rfl;have b:=K.same x L f J;simp only[e,S]at b;have b:(KL k m&&Bw r R)=r_:=b;simp only[iE]at b;cases k with
   |inl i=>cases m with
    |inl j=>rfl
    |inr j=>cases b.1
   |inr i=>cases m with
    |inl j=>cases b.1
    |inr j=>rfl
 let#[fs, z,B,T]:=firsts c keys (eL m) K.len K.at_ y;refine kat_kind z (by simp only[B,←K.len]; lk) (λv U=>by simp only[T v U]; exact Looks.now) (by simp) ?_;refine So.sort_ok (O:=RW) (key:=λi=>keys.getD i []) (by lk) (λi j C V W X=>?_) h;have g:i<keys.length:=by rw[←K.len]; exact V
 have l:j<keys.length:=by rw[←K.len]; exact W
 let#[a,o,q,n, Y,Z,e3,e4,M]:=K.at_ i keys[i] (On g);let#[a',o',d,n', D,F,a0,H,t]:=K.at_ j keys[j] (On l);unfold kas_ask;rw[show c.getD i ie=.ref a by rw[iT,Y]; rfl,show c.getD j ie=.ref a' by rw[iT,D]; rfl];have b:=K.same _ (jB g) _^jB l;refine kat_lt Z e4 F H (Up keys[i] keys[j] _ _ 0 M t b ?_ ?_)
 .have l1:=M.length
  have l2:=t.length;have l3:(keys[i].map kOf).length=keys[i].length:=FM ..;have l4:(keys[j].map kOf).length=keys[j].length:=FM ..;have l5:q.toList.length=q.size:=jb;have l6:d.toList.length=d.size:=jb;lk
 .rw[Lo _ _ b]
  have z:keys.getD i []=keys[i]:=by rw[iT,On g]; rfl
  have B:keys.getD j []=keys[j]:=by rw[iT,On l]; rfl
  have u:C (CP (keys.getD i [])^keys.getD j []) s:=X;simp only[z,B]at u;exact u
theorem EK(d:argsOk "sorted" #[[v],kw])(e:∀x,argsOk "list.sort" #[[.ref x],kw])
  (j:wpAny (model prog w) A.in1 (collect v) (λf a=>f.length<=sizeLine/\wpAny (model prog w) A.in1.in1 (j9.«list.sort» #[[.ref a.heap.objs.size],kw]) (λb g=>b=.done^.ret .none/\Q (.ref a.heap.objs.size) g) E {a with heap:=a.heap.push^seqObj "list" f.toArray 0}) E s):
  wpAny (model prog w) A (call (.builtin "sorted") [v] kw) Q E s:=call_function_entry_kw kind_sorted plain_sorted entry_sorted d^Ch^Op^Ch^i8 j (λf a h=>Ch^og (Ch^i6^wpAny_call_entry_kw PyProof.Rows.slot_list_sort #[_,Uf _ rfl,rfl] PyProof.Rows.entry_list_sort (i8 h.2 (λb g i=>#[_,i.1,Op #[_,rfl,i.2]]) λ_ _ x=>x)^e _) h.1) λ_ _ x=>x
def DZ(h:iG)(D:Db)(a:t_ Ev):iG:=((h.update D^jd λ_=>(#[]:Array Ev)).push^seqObj "tuple" a.toArray 0).push^seqObj "list" #[] 0
theorem Gp(c:b≠D)(e:h.get? b=P3 o):(DZ h D a).get? b=P3 o:=
 Go _ (Go _^(ii _ _^iz c).trans e)
theorem IY(d:h.get? D=P3^seqObj "list" c.toArray n):∃a,(DZ h D c).get? D=P3^seqObj "list" #[] a/\(h.update D^jd λ_=>(#[]:Array Ev)).get? D=P3^seqObj "list" #[] a:=by
 obtain⟨a,b⟩:∃a,(h.update D _).get? D=P3^seqObj _ _ a:=#[_,lZ d _];exact#[a,Go _^Go _ b,b]
theorem NM{G:Array Nat->Prop}(r:s.heap.get? D=P3^seqObj "list" a.toArray n)(t:a.length<64)
  (u:2<=a.length->wpAny (model prog w) A (keyKind' a.toArray) (λJ k=>(kas_sort a.length).kasWp (kas_ask prog w A J a) (λp v=>v={s with heap:=DZ s.heap D a}/\G p) k) (λ_ _=>False) {s with heap:=DZ s.heap D a})
  (L:a.length<2->G^ig^iM a.length) (l:∀(p:Array Nat) (y:iG) (c:Nat),p.size=a.length->G p->(∀b o,b≠D->s.heap.get? b=P3 o->y.get? b=P3 o)->y.get? D=P3^seqObj "list" (ig^p.toList.map λi=>a.getD i ie) c->P (.done^.ret .none) {s with heap:=y}):
  wpAny (model prog w) A (j9.«list.sort» #[[.ref D],[]]) P E s:=by
 let#[V, d,z]:=IY r
 have m:∀(p:Array Nat),p.size=a.length->G p->P (.done^.ret .none) {s with heap:=(DZ s.heap D a).update D^jd λ_=>ig^p.toList.map λi=>a.getD i ie}:=λp q B=>by
  obtain⟨C,F⟩:∃C,((DZ s.heap D a).update D^jd λ_=>ig^p.toList.map λi=>a.getD i ie).get? D=P3^seqObj "list" (ig^p.toList.map λi=>a.getD i ie) C:=#[_,lZ d λ_=>ig^p.toList.map λi=>a.getD i ie];exact l p _ C q B (λb o K e=>(ii _ _^iz K).trans^Gp K e) F
 rw[list_sort_plain];refine Ch (ng r rfl ?_);refine Ch (k9 r rfl ?_ (by rw[iK,jJ]; omega) (XV _));refine Ch (oG z rfl ?_);refine Ch (oA ?_^by show a.length<=_; rw[jJ]; omega);refine Ch^og ?_^XV _;refine i6 ?_;show wpAny (model prog w) A _ P E {s with heap:=DZ s.heap D a}
 dsimp only
 by_cases H:a.length<2
 .have f:a.toArray.size<2:=by rw[iK]; exact H
  rw[if_pos f,if_pos f];refine Ch^Op ?_;rw[StateT.run_pure];refine Ch^Op ?_
  dsimp only
  refine Ch (oG d rfl ?_);have h:(ig^iM a.length).size=a.length:=by simp
  have g:(arrOf^SortSt.mk' general' (a.toArray.zip a.toArray) #[] 7 q_).map (·.2)=ig ((ig^iM a.length).toList.map λi=>a.getD i ie):=by
   refine kat_snds rfl ?_;have e:=kas_range^a.toArray.zip a.toArray;rw[show(a.toArray.zip a.toArray).size=a.length by simp]at e;exact e.symm
  rw[g];refine Ch (k9 d rfl ?_ (XV _) (by rw[iK,FM,jb,h,jJ]; lk));simp only[bne_self_eq_false,jR,if_false];exact Op^m _ h^L H
 .have f:¬a.toArray.size<2:=by rw[iK]; exact H
  rw[if_neg f,if_neg f];refine Ch^i8 (u^by lk) (λJ W u=>?_) λ_ _ x=>x.elim
  refine Ch (i8 (kat_run (Q:=λj k=>∃p:Array Nat,p.size=a.length/\arrOf j=p.map^kas_item^a.toArray.zip a.toArray/\failedOf j=q_/\k={s with heap:=DZ s.heap D a}/\G p)
   rfl (by lk) t (λN j k O R S T=>#[N,O,R,S,T]) u) ?_ λ_ _ e=>e)
  rintro⟨⟨⟩,j⟩ k ⟨p,q,I,U,rfl,B⟩
  dsimp only
  have g:=kat_snds rfl I;have h:(ig^p.toList.map λi=>a.getD i ie).size=a.length:=by simp only[iK,FM,jb,q]
  rw[g];refine Ch (oG d rfl ?_);refine Ch (k9 d rfl ?_ (XV _) (iU (mX h)^by rw[jJ]; lk));rw[U];simp only[bne_self_eq_false,jR,if_false];exact Op^m p q B
theorem Rn(U:s.heap.get? D=P3^seqObj "list" a.toArray n)(Y:a.length<64)(J:t_ Ev->No->Prop)(h:Db)(M:h=s.heap.objs.size+1)
  (h0:∀r,(DZ s.heap D a).get? D=P3^seqObj "list" #[] r->J [] {s with heap:=DZ s.heap D a})
  (z:∀(d:t_ Ev) (g:No) (e:Nat) (v:Ev),J d g->g.heap.get? h=P3^seqObj "list" d.toArray e->a[d.length]?=P3 v->wpAny (model prog w) A (call f [v]) (λk l=>l.heap.get? h=P3^seqObj "list" d.toArray e/\J (d++[k]) {l with heap:=l.heap.update h (jd (·.push k))}) (λ_ _=>False) g)
  (N:∀(r:Nat),(DZ s.heap D a).get? D=P3^seqObj "list" #[] r->∀(d:t_ Ev) (g:No),J d g->d.length=a.length->g.heap.get? D=P3^seqObj "list" #[] r/\∃G:Array Nat->Prop,
   (2<=a.length->wpAny (model prog w) A (keyKind' d.toArray) (λκ O=>(kas_sort a.length).kasWp (kas_ask prog w A κ d) (λp l=>l=g/\G p) O) (λ_ _=>False) g)/\(a.length<2->G^ig^iM a.length) /\
   ∀(p:Array Nat) (V:iG) (c:Nat),p.size=a.length->G p->(∀b o,b≠D->b≠h->g.heap.get? b=P3 o->V.get? b=P3 o)->V.get? D=P3^seqObj "list" (ig^p.toList.map λi=>a.getD i ie) c->(∃o,V.get? h=P3 o)->P (.done^.ret .none) {g with heap:=V}):
  wpAny (model prog w) A (ksk_tree D f s_) P E s:=by
 let#[r, R,Z]:=IY U;have u:((s.heap.update D^jd λ_=>(#[]:Array Ev)).push^seqObj "tuple" a.toArray 0).objs.size=h:=by simp only[size_push',Heap.size_update,M]
 have hD:D<s.heap.objs.size:=Tk U;have S:D≠h:=by simp only[M]; exact iJ^kc hD
 have a0:(DZ s.heap D a).get? h=P3^seqObj "list" #[] 0:=by rw[←u]; exact Uf _ rfl
 unfold ksk_tree;refine Ch (ng U rfl ?_);refine Ch (k9 U rfl ?_ (by rw[iK,jJ]; omega) (XV _));refine Ch (oG Z rfl ?_);refine Ch (oA ?_^by show a.length<=_; rw[jJ]; omega);refine Ch^og ?_^XV _;refine i6 ?_;show wpAny (model prog w) A (ksk_rest D f s_ a.toArray r^.ref ((s.heap.update D^jd λ_=>(#[]:Array Ev)).push^seqObj "tuple" a.toArray 0).objs.size) P E {s with heap:=DZ s.heap D a};rw[u];unfold ksk_rest;refine Ch^mG ?_
 first
  |rw[oQ]
  |(rw[←Array.forIn_toList]; simp only[List.toList_toArray])
  |rw[←Array.forIn_toList]
 refine Ch^ksk_fold (I:=λi g=>∃d e,li d=i/\J d g/\g.heap.get? h=P3^seqObj "list" d.toArray e) a 0 _ #[[],0,rfl,h0 r R,a0] (λj x g hx hI=>?_) λg hI=>?_
 .let#[d,e,t,hJ,C]:=hI
  have hj:j<a.length:=(f8.mp hx).1;have t:d.length=j:=by lk
  refine Ch^lT^i8 (z d g e x hJ C^by rw[t]; exact hx) (λk l F=>?_) λ_ _ hF=>hF.elim;have ea:(ig d).push k=ig (d++[k]):=by simp
  obtain⟨H,K⟩:∃H,(l.heap.update h (jd (·.push k))).get? h=P3^seqObj "list" (ig (d++[k])) H:=#[_,by simp only[←ea]; exact lZ F.1 (·.push k)]
  try dsimp only
  refine Ch (k9 F.1 rfl ?_ (by simp only[iK,jJ]; omega) (iU (mX (Array.size_push ..))^by rw[iK,jJ]; omega));exact Op #[rfl,d++[k],H,by simp only[ZB,iB]; lk,F.2,K]
 .let#[d,e,t,hJ,C]:=hI
  have t:d.length=a.length:=by lk
  let#[ a5, G, g2,g1,g3]:=N r R d g hJ t
  try dsimp only
  refine Ch (ng C rfl ?_)
  have y:∀(W:SortSt) (p:Array Nat),p.size=a.length->G p->(arrOf W).map (·.2)=ig (p.toList.map λi=>a.getD i ie)->failedOf W=q_->wpAny (model prog w) A (ksk_tail D s_ r (.ref h) W) P E g:=λW p X hg T hf=>by
   have a6:(ig^p.toList.map λi=>a.getD i ie).size=a.length:=by simp only[iK,FM,jb,X]
   obtain⟨ck,a7⟩:∃ck,(g.heap.update h^jd λ_=>(#[]:Array Ev)).get? h=P3^seqObj "list" #[] ck:=#[_,lZ C λ_=>#[]];have L:(g.heap.update h^jd λ_=>(#[]:Array Ev)).get? D=P3^seqObj "list" #[] r:=(ii _ _^iz S).trans a5;obtain⟨H,K⟩:∃H,((g.heap.update h^jd λ_=>(#[]:Array Ev)).update D^jd λ_=>ig^p.toList.map λi=>a.getD i ie).get? D=P3^seqObj "list" (ig^p.toList.map λi=>a.getD i ie) H:=#[_,lZ L λ_=>ig^p.toList.map λi=>a.getD i ie];unfold ksk_tail
   try dsimp only
   rw[T];refine Ch (k9 C rfl ?_ (by simp only[iK,jJ]; lk) (XV _));refine Ch^pZ ?_;refine Ch (oG L rfl ?_);refine Ch (k9 L rfl ?_ (XV _) (iU (mX a6)^by rw[jJ]; lk));simp only[hf];simp only[bne_self_eq_false,jR,if_false];refine Op^g3 p _ H X hg (λb o a8 a9 e=>(ii _ _^iz a8).trans^(ii _ _^iz a9).trans e) K #[_,(ii _ _ S).trans a7]
  unfold ksk_end
  try dsimp only
  simp only[jR,if_false]
  by_cases h2:a.length<2
  .have m:a.toArray.size<2:=by rw[iK]; exact h2
   rw[if_pos m,if_pos m];refine Ch^Op ?_;simp only[StateT.run_pure];refine Ch^Op ?_
   try dsimp only
   refine y _ (ig^iM a.length) (by simp) (g1 h2) (kat_snds t ?_) rfl;have er:=kas_range^d.toArray.zip a.toArray;rw[show(d.toArray.zip a.toArray).size=a.length by simp[t]]at er;exact er.symm
  .have m:¬a.toArray.size<2:=by rw[iK]; exact h2
   rw[if_neg m,if_neg m];refine Ch^i8 (g2^by lk) (λκ s0 C=>?_) λ_ _ x=>x.elim
   refine Ch (i8 (kat_run (Q:=λq O=>∃p:Array Nat,p.size=a.length/\arrOf q=p.map^kas_item^d.toArray.zip a.toArray/\failedOf q=q_/\O=g/\G p)
    t (by lk) Y (λp' q O a1 a2 a3 a4=>#[p',a1,a2,a3,a4]) C) ?_ λ_ _ e=>e)
   rintro⟨⟨⟩,q⟩ O ⟨p,X,b0,hf,rfl,hg⟩
   try dsimp only
   exact y q p X hg (kat_snds t b0) hf
end
section

structure Sh (X:Cx) (zH:List (Db×Obj)) (D:Db):Prop where
 new:X.s₀.heap.objs.size<=D
 loc:D≠X.env.locals
 cell:∀x c,X.env.cells.lookup x=P3 c->c≠D
 pin:∀p∈X.pn++zH,p.1≠D
 fs:D∉X.fs
theorem Inv.mine(I:Inv X zH Z H s)(h:s.heap.objs.size<=D):Sh X zH D:=by
 refine#[iU I.sz h,λz=>?_,λx c e z=>?_,λp a z=>?_,I.nofs h]
 .have:=I.lt
  rw[←z]at this;exact absurd this^nW.mpr h
 .let#[v,o,b,_]:=I.cell x c e
  have:=Tk b
  rw[z]at this;exact absurd this^nW.mpr h
 .let#[e,_]:=I.pin p a
  have:=Tk e
  rw[z]at this;exact absurd this^nW.mpr h
structure vg (K:Frag) (H:Hp) (vs:List V) (keys:List^List Key):Prop where
 len:vs.length=keys.length
 at_:∀(i:Nat) (ns:List Key),keys[i]?=P3 ns->∃a,vs[i]?=P3^.ref a/\SqT K H a (ns.map kOf)
 same:∀x∈keys,∀y∈keys,Bw x y=r_
 ne:∀x∈keys,x≠[]
def He(a:t_^t_ Key)(b:t_ Nat):Prop:=b.Perm^iM a.length/\∀i j,i<=j->j<a.length->CP (a.getD (b.getD j 0) [])^a.getD (b.getD i 0) []=s_
theorem vg.vj(I:Inv X zH Z H s)(r:qz d f)(k:vg X.K H d c)(g:∀b o,s.heap.get? b=P3 o->h'.get? b=P3 o):Q1 h' f c:=by
 refine#[λi h e=>?_,r.length.symm.trans k.len,k.same,k.ne];let#[a, j,l]:=k.at_ i h e;let#[u, m,p]:=r.get j;subst p;let#[q, x,#[o, t,v, n, w],_]:=I.tuple l;exact#[a,o,_,n,m,g a o t,v,w,by simp_all]
theorem Gk:∀{a:t_ V}{b:t_ Ev},qz a b->∀i:Nat,RelV (a.getD i .non)^b.getD i ie
 |_,_,.nil,i=>by simp[RelV]
 |_,_,.cons r t,0=>by simpa using r
 |_,_,.cons r t,i+1=>by simpa using Gk t i
theorem IR(h:∀i,RelV (f i)^g i):∀a:t_ Nat,qz (a.map f)^a.map g
 |[]=>.nil
 |i::a=>.cons (h i)^IR h a
theorem getD_list(p:Array Nat)(i:Nat):p.getD i 0=p.toList.getD i 0:=by simp
theorem UY(c:a.length=n)(d:p.Perm^ig^iM n)(e:So.Srt RW (λi=>a.getD i []) p n):He a p.toList:=by
 subst c;refine#[Array.perm_iff_toList_perm.mp d,λi j b f=>?_];have h:=e i j b f;unfold So.KN at h;rw[getD_list,getD_list]at h;exact h
theorem KJ(I:Inv X zH Z H s)(r:qz d f)(B:d.length<64)(k:vg X.K H d keys)
  (q:∀(v:t_ Nat) (l:Db),He keys v->H l=q_->Q (.ref l)^An H l^.lst^v.map λi=>d.getD i .non):
  wpAny (model X.prog X.w) z (j9.«list.sort» #[[.ref s.heap.objs.size],[]]) (λm C=>m=.done^.ret .none/\EP X zH Z Q (.ref s.heap.objs.size) C) A {s with heap:=s.heap.push^seqObj "list" f.toArray 0}:=by
 have x:=r.length;have t:keys.length=f.length:=k.len.symm.trans x;refine NM (G:=λp=>p.Perm _/\So.Srt RW (λi=>keys.getD i []) p f.length) (n:=0) (Uf _ rfl) (by lk) (λD=>?_) (λL=>#[pP _,λi j E M=>?_]) λp h' c N y g F=>#[rfl,?_]
 .refine KA (keys:=keys) (k.vj I r λb o e=>?_) D λp a b=>#[rfl,a,b]
  exact Gp (iJ^Tk e)^Go _ e
 .have:i=j:=by lk
  subst this;exact jx _
 .have J:H s.heap.objs.size=q_:=I.fresh
  have u:(p.toList.map λi=>d.getD i .non).length=f.length:=by simp_all
  refine#[.ref s.heap.objs.size,An H s.heap.objs.size^.lst _,I.laid (t':=s.toks) (λb o e=>g b o (iJ^Tk e)^Go _ e) (Re _) #[by simp only[u,←x,jJ]; lk,_,c,IR (Gk r) p.toList,F],rfl,q _ _ (UY t y.1 y.2) J]
theorem Nq(e:IsTup s.heap l b.toArray)
  (h:Q b {s with heap:=(s.heap.push^seqObj "list" #[] 0).update s.heap.objs.size (jd (·++b.toArray))}) (g:b.length<=sizeLine):
  wpAny (model c w) A (collect^.ref l) Q E s:=by
 let#[o, i,j, n, k]:=id e;unfold collect;refine Ch^wpAny_runValue^ky entry_proto_collect' ?_;show wpAny _ _ (do again (.builtin "list.__iadd__" #[[←newList [],.ref l],[]])) _ _ s;refine Ch^og^Op #[lY _ (by decide +kernel),ky entry_list_iadd' ?_];show wpAny _ _ (oR (.ref s.heap.objs.size) (.ref l)^.ref s.heap.objs.size) _ _ {s with heap:=s.heap.push^seqObj "list" #[] 0};unfold oR;have d:(s.heap.push^seqObj "list" #[] 0).get? l=P3 o:=Go _ i;refine Ch^ko (T:="tuple") #[o,d,j] ?_;have m:(mF "tuple"==mF "tuple")=r_:=by rfl
 rw[if_pos^by rw[m]; simp];refine Ch^ng d k ?_;refine Ch (ng (xs:=#[]) (n:=0) (Uf _ rfl) rfl ?_);rw[if_neg^by simp];refine Ch (k9 (xs:=#[]) (n:=0) (Uf _ rfl) rfl ?_ (XV _) (by show(#[]++b.toArray).size<=sizeLine+1; simp only[Array.size_append,iK,jm]; lk));refine Op ?_
 show wpAny (model c w) A (do
   let o ←load s.heap.objs.size
   match o.data with
   |.seq xs _=>pure xs.toList
   |_=>unsupported "internal:collect") Q E {s with heap:=(s.heap.push^seqObj "list" #[] 0).update s.heap.objs.size (jd (·++b.toArray))}
 refine Ch^wpAny_load (lZ (Uf _ rfl) _) ?_;show wpAny _ _ (pure ((#[]:Array Ev)++b.toArray).toList) Q E _;rw[show((#[]:Array Ev)++b.toArray).toList=b by simp];exact Op h
theorem Nv{h:iG}(e:h.get? b=P3 o):((h.push^seqObj "list" #[] 0).update h.objs.size^jd g).get? b=P3 o:=
 (ii _ _^iz^iJ^Tk e).trans (Go _ e)
theorem Nu(I:Inv X zH Z H s)(h:SqK g X.K H p c)(q:∀i j,qz c i->c.length<=sizeLine->Inv X zH Z H j->Q i j):
  wpAny (model X.prog X.w) k (collect^.ref p) Q l s:=by
 cases g with
 |true=>
  let#[d, r,f,a]:=I.list h;exact collect_list f.isList (q _ _ r a^I.kept λb o e=>Nv e)^by rw[←r.length]; exact a
 |false=>
  let#[d, r,f,a]:=I.tuple h;exact Nq f (q _ _ r a^I.kept λb o e=>Nv e)^by rw[←r.length]; exact a
def T5(K:Frag):t_ V->Hp->VK->Prop:=λd H Q=>∃(e:Bool) (p:Db) (b:t_ V) (a:t_^t_ Key),d=[.ref p]/\SqK e K H p b/\b.length<64/\vg K H b a /\
 ∀(c:t_ Nat) (l:Db),He a c->H l=q_->Q (.ref l)^An H l^.lst^c.map λi=>b.getD i .non
theorem Jc:B5 X (.builtin "sorted")^T5 X.K:=by
 intro zH s Z H k d Q I r h;let#[l,p,m,b, rfl,e,a,f,q]:=h;let#[u, rfl,g]:=vals1 r;subst g;exact EK (args_sorted1 _) (λx=>args_list_sort _)^Nu I e λd n c i j=>#[by rw[←c.length]; exact i,KJ j c a f q]
end
section

theorem P5(hc:X.calm=r_)(N':t_ Str)(js:t_^u_ Nat)(hi:PI X tg iter wi)
  (hB:GZ sc X.env.scope X.N N' js=r_) (hN:X.N.Nodup) (a0:X.N[i]?=P3 x) (hx:Loc X.env.scope x)
  (a1:swapsWith (.ListComp elt [#[tg,iter,ifs,0]] sc pos) (P3^.Name x pos') spos.line X.env=pure r_)
  (hs:∀x,foldedSetIterable iter X.env x=pure x:=by intro _; rfl)
  (hf:X.fn x=r_\/X.env.scope.names.lookup x=P3 .local:=by first|exact .inl rfl|exact .inr rfl|assumption):
  PS X (.Assign [.Name x pos'] (.ListComp elt [#[tg,iter,ifs,0]] sc pos) spos) (Me (TY X sc N' js tg elt ifs wi)^HS i):=by
 intro M s Z H D I h;have O:vq X sc N' js:=vq.of hB;let#[P, t,a2,R]:=JZ (scope:=sc) (env:=X.env) λx hx=>I.ok.has x^O.free x hx;rw[exec_Assign_Name_used _ _ _ _ a1];refine Ch^mO^Ch ?_;show wpAny _ _ (do let _ ←comprehension (.ListComp elt [#[tg,iter,ifs,0]] sc pos) sc X.env _ (newList []) s_ (eval iter X.env)^P3^assign (.Name x pos') X.env) _ _ s
 refine Ch (i8 (wpAny_comprehension_free (Q:=λ_ p=>SP X M D .next p) (use:=P3^assign (.Name x pos') X.env) rfl hs t O.kind O.names (thn (hi M s Z H _ I h) λv s1 h1=>thn h1 λa5 c h2=>?_))
  (λ_ p hq=>Op^Op hq) λ_ _ e=>e)
 let#[it,fp,tn,J,H2, e,G,T,u,f2,hq]:=h2;subst e
 have B:X.K.lookup c.heap.objs.size=q_:=by
  cases q:X.K.lookup c.heap.objs.size with
  |none=>rfl
  |some o=>exact absurd (Tk^G.kIn _ _ q)^jN _
 let#[g,tt,te,W, hg,ht,he,#[m0, w0],hW]:=hq c.heap.objs.size (G.hok.fresh^Re _) B P (c.heap.objs.size+1) c H2 fp;refine jp^wpAny_newFunctionEnv O.cell (by intro y hy; simp at hy) (λj f d=>?_) O.kind
 dsimp only at f d ⊢
 generalize C:c.heap.push {cls:=.type "list",dict:=q_,data:=.seq ([]:t_ Ev).toArray}=Hh at f d ⊢;have k:Hh.objs.size=c.heap.objs.size+1:=by rw[←C,jV]
 have S:∀b∈fp,b<c.heap.objs.size:=λb l=>by
  let#[o, e,_]:=T.obj _ _ u b l;exact Tk e
 have U:∀b o,c.heap.get? b=P3 o->j.get? b=P3 o:=λb o e=>d.extBut b o (by rw[k]; exact iJ^kc^Tk e)^Go _ (C▸Go _ e);have hD:∃n,j.get? c.heap.objs.size=P3 {cls:=.type "list",data:=.seq #[] n}:=#[_,d.extBut _ _ (by rw[k]; exact iJ^o_ _)^Go _ (C▸Uf _ rfl)]
 have I3:∀L,Inv (Av X sc N' P (c.heap.objs.size+1) c H2 fp) [] (Cs js Z) (An H2 c.heap.objs.size^.lst []) {c with heap:=j,toks:=L}:=λL=>
  NX G hc O a2 R f2 (λb l=>let #[o,e,_]:=T.obj _ _ u b l; #[o,e]) (by rw[←k]; exact f) U hD
 have V:tn 0 j:=T.keep _ _ _ u λb l o e=>U b o e
 have a3:∀b∈fp,An H2 c.heap.objs.size (.lst []) b=q_:=λb l=>by
  rw[AH^iJ^S b l];exact(f2 b l).1
 have r:∀L,codeAny (model X.prog X.w) X.A (.compLoop (.ListComp elt [#[tg,iter,ifs,0]] sc pos) 0 (.ref it) (.ref c.heap.objs.size)^compEnvC sc P (c.heap.objs.size+1) X.env)
   (compPost (model X.prog X.w) X.A X.xe (P3^assign (.Name x pos') X.env) (λ_ p=>SP X M D .next p) (.ref c.heap.objs.size) (c.heap.objs.size+1)) {c with heap:=j,toks:=L}:=λL=>by
  refine Ku (W:=W) (m0:=m0) (Q:=λv H1=>HS i v Z H1 λzU H2=>D.nx zU H2) G f2 S (jT _) T hg ht he hW (λzZ H' p J' q'=>?_) (I3 L) V a3 w0;let#[m, hn,_]:=J'.loc;have Y:H' (c.heap.objs.size+1)=q_:=J'.free;have I4:Inv X M Z H' p:=JJ (h':=p.heap) G f2 (jT _) J' λb _=>rfl;let#[ g1,g2,g3,g4,g5,g6]:=G.fpOk (b:=c.heap.objs.size+1) (jT _) Y;show wpAny (model X.prog X.w) X.A (assign (.Name x pos') X.env^.ref c.heap.objs.size) (λ_ E=>∃m,E.heap.Ns (c.heap.objs.size+1) m/\∀h',kQ (c.heap.objs.size+1) E.heap h'->SP X M D .next {E with heap:=h'}) X.xe p;refine wpAny_assign_Name (KG (v:=.ref c.heap.objs.size) I4 hN a0 hx rfl (λs5 I5 zz=>?_) hf);let#[a, F,ha]:=zz
  have na:c.heap.objs.size+1≠a:=by
   rcases ha with rfl|ha
   .exact g2
   .exact λz=>g5 _ _ ha z.symm
  refine#[m,hn.sameBut F na,λh' a4=>?_];exact#[_,H',I5.turned (t':=s5.toks) (it:=c.heap.objs.size+1) (λb o l e=>a4.extBut b o l e) Y g2 g4 g5 g6,q']
 rw[show(newEnv sc Hh.objs.size X.env.globals P X.env.qual q_ .none (P3 X.env) builtinsNs).locals=c.heap.objs.size+1 from k];show codeAny (model X.prog X.w) X.A (.compStart (.ListComp elt [#[tg,iter,ifs,0]] sc pos) 0 (.ref it) (.ref c.heap.objs.size)^compEnvC sc P (c.heap.objs.size+1) X.env) _ _;exact codeAny_compStart_list (r _)^T.self _ 0 _ _ _ V^r _
end
end L2
namespace Dp
open L2
section

theorem Vh(hc:X.calm=r_)(N':t_ Str)(js:t_^u_ Nat)(hi:ZE X tg iter src)(hg:∀L C s H O,DG (Av X sc N' L C s H O) tg b)(ht:∀L C s H O,bW (Av X sc N' L C s H O) ifs tt)(he:∀L C s H O,DE (Av X sc N' L C s H O) elt zS te)
  (hB:GZ sc X.env.scope X.N N' js=r_) (hk:zS≠.tp:=by intro z; cases z)
  (hs:∀x,foldedSetIterable iter X.env x=pure x:=by intro _; rfl):∃wi,PI X tg iter wi/\∀(C:Fm) (M:Db->Prop) (H:Hp) (n:Nat) (ρ:t_ Slot) (Z:L2.St) (P:D->Nat->Prop) (Q:VK),Rel X.K C M H n ρ Z->D8 js src b tt te n ρ P->
   (∀v r d S,Ext C.U H r->qV X.K C.F M r S->VR X.K C.V M H r .fr v d->P d S->Q v r)->TY X sc N' js tg elt ifs wi Z H Q:=by
 let#[wi, a1,a2]:=hi;refine#[wi,a1,λC M H n ρ Z P Q R w q=>?_];refine a2 C M H n ρ Z _ _ R w λJ T u n1 B f1 y w1=>?_;let#[ b4,w1]:=w1;have R1:=R.step B f1;intro l hl b6 L Ca s0 H0 O;let#[g, g1,g2]:=hg L Ca s0 H0 O;let#[tc, c1,c2]:=ht L Ca s0 H0 O;let#[tx, x1,x2]:=he L Ca s0 H0 O
 have a6:¬C.U l:=λz=>by
  let#[o, z]:=R1.udom l z;rw[hl]at z; cases z
 generalize W:(λb=>M b\/b=l)=M';have a7:M' l:=by rw[←W]; exact .inr rfl
 have M'of:∀b,M b->M' b:=λb z=>by rw[←W]; exact .inl z
 have a4:∀b,M' b->M b\/b=l:=λb z=>by rw[←W]at z; exact z
 have b1:∀b,C.V b\/b=l->M' b:=λb z=>z.elim (λz=>M'of b^R1.vM b z) λz=>by rw[z]; exact a7
 have b5:js.length=N'.length:=E9 (vq.of hB).cap
 exists g,tc,tx,λi m zZ r=>m=u.length - i/\i<=u.length/\∃S zW k G,Rel X.K #[M',C.F,C.U,λb=>C.V b\/b=l,T,[],[]] M' r S zW zZ/\r l=P3^.lst G/\Ats X.K M' r k G/\k.length<=i/\qQ M T M' r /\
   Di b tt te (λk n2=>P (.lst k) n2) (u.drop i) k S zW,g1,c1,x1,#[u.length,by rfl,XV _,n1,GP js ρ,[],[],?_]
 .have I:zk T^An T l^.lst []:=Am hl
  have Y:qQ M T M'^An T l^.lst []:=#[λb o e _=>I.all b o e,λb z=>(a4 b z).elim .inl λz=>.inr (by rw[z]; exact hl),λb G e=>I.all b _ e];refine#[#[?_,λa z=>z,λa z=>?_,I.ext,R1.fU,λa z=>.inl^R1.uV a z,b1,f1.qq Y λf o _ e=>I.all f.1 o e,?_,λp hp=>absurd hp^by simp,λi d a q z=>QK R1.sl q z,λi s a q o _=>absurd o (by rw[ER q]; decide),λi j s t a q o _ _ _ _=>absurd o (by rw[ER q]; decide),λp hp=>absurd hp^by simp],AQ,rfl,XV _,Y,w1]
  .unfold GP Cs
   rw[FM,FM]
  .rcases a4 a z with z|z
   .let#[o,z]:=R1.dom a z
    exact#[o,I.all a o z]
   .subst z
    exact#[_,AQ]
  .refine NO R1.sl Y λd v h=>h.same Y (λa o _ e=>I.all a o e) λa e n1 z=>z.elim n1 λz=>?_
   subst e;let#[o, w]:=h.lies;rw[z,hl]at w;cases w
 .rintro i m zZ r ⟨rfl,hi,S,zW,k,G,R',a8,a0,a9,Y,w'⟩
  by_cases a3:i<u.length
  .have ed:u.drop i=u[i]::u.drop (i+1):=jL a3
   rw[ed]at w';let#[ go,yl]:=(y i M' r Y R'.ext R'.dom).1 u[i] (On a3);refine .inr #[go,λx H2 hy=>?_];let#[ I,hx]:=yl x H2 hy;have b2:=R'.step I.ext^R'.feed.grow I;refine g2 _ M' H2 S zW zZ u[i] x _ _ b2 hx w' λzO zV R3 w3=>?_;refine c2 _ M' H2 S zO zV _ _ R3 w3 λc H4 n4 e4 f4 w4=>?_;have R4:=R3.step e4 f4;have p4:qQ M' r M' H4:=I.qq.trans^R3.qq e4;have l4:H4 l=P3^.lst G:=e4.keep (I.all _ _ a8) a6;cases c with
   |false=>exact#[u.length - (i+1),by lk,rfl,a3,n4,zO,k,G,R4,l4,a0.qq p4,by lk,Y.trans p4,w4]
   | true=>
    refine x2 _ M' H4 n4 zO zV _ _ R4 w4 λyv H5 d5 n5 e5 f5 r5 w5=>?_;have E:=R4.step e5 f5;have p5:qQ M' H4 M' H5:=R4.qq e5;have l5:H5 l=P3^.lst G:=e5.keep l4 a6;have b3:=r5.vY R4.dom hk;have a5:=(a0.qq p4).qq p5;have pu:qQ M' H5 M'^An H5 l^.lst (G++[yv]):=FG a7 l5;have b7:G.length=k.length:=a0.length;refine#[G,l5,by simp only[jJ]; lk,u.length - (i+1),by lk,rfl,a3,n5,zO,k++[d5],G++[yv],?_,AQ,(a5.append^Ats.one b3).qq pu,by simp only[ZB,iB]; lk,(Y.trans p4).trans^p5.trans pu,w5];refine#[E.len,E.sub,λa z=>?_,λb o e=>?_,E.fU,E.uV,E.vM,?_,λj s hs=>?_,λp hp=>absurd hp^by simp,E.br0,E.new,E.two,λp hp=>absurd hp^by simp]
    .by_cases ha:a=l
     .subst ha; exact#[_,AQ]
     .rw[AH ha]; exact E.dom a z
    .let#[o',q1,q2]:=E.ext b o e
     by_cases hb:b=l
     .subst hb
      have e':T b=P3 o:=e;rw[hl]at e'; cases e'
     .exact#[o',by rw[AH hb]; exact q1,q2]
    .refine f5.qq pu λf o hf e=>?_
     rw[AH λz=>a6^by simp only[←z]; exact R1.fU f hf];exact e
    .have A:=E.sl j s hs
     cases s with
     |no=>trivial
     |sh d=>let#[v, B,h2]:=A; exact#[v,B,h2.qq pu]
     |ex a nm ks u=>let#[ B,h2]:=A; exact#[B,h2.qq pu]
     | br d=>
      let#[v, B,h2]:=A;refine#[v,B,h2.same pu (λa o z e=>?_) λ_ _ z=>z];subst z;let#[o3, w]:=E.br0 j d a hs B
      have a9:a≠l:=λz=>by
       have w':T a=P3 o3:=w;rw[z,hl]at w'; cases w'
      rw[AH a9]; exact e
     |ow d=>
      let#[a, B,h2,_]:=A;exact absurd h2 (E.new j _ a hs rfl B).1
     |lt a d=>
      let#[ B,h2,_]:=A;exact absurd h2 (E.new j _ a hs rfl B).1
     |fd=>exact A
     |wd ks u=>exact A
  .have e:i=u.length:=by lk
   subst e;rw[mI]at w';refine .inl #[(y _ M' r Y R'.ext R'.dom).2 (Re _),?_];have eb:Ext C.U T r:=R'.ext;have b0:qQ M' r M r:=qQ.less M'of;refine q _ r (.lst k) S (B.trans eb) (R'.feed.qq b0 λ_ _ _ z=>z) (VR.back B ?_) w';exact#[l,rfl,hl,G,a8,by rw[W]; exact a0]
theorem Lz(r:X.N.Nodup)(j:X.N[i]?=P3 x)(hx:Loc X.env.scope x)(l:X.calm=r_)(e:t_ Str)(h:t_^u_ Nat)(t:ZE X tg iter src)(u:∀f C s H g,DG (Av X sc e f C s H g) tg b)(y:∀f C s H g,bW (Av X sc e f C s H g) ifs tt)(A:∀f C s H g,DE (Av X sc e f C s H g) elt zS te)
  (m:GZ sc X.env.scope X.N e h=r_) (k:swapsWith (.ListComp elt [#[tg,iter,ifs,0]] sc pos) (P3^.Name x a) c.line X.env=pure r_:=by rfl) (B:zS≠.tp:=by intro z; cases z)
  (o:∀x,foldedSetIterable iter X.env x=pure x:=by intro _; rfl)
  (D:X.fn x=r_\/X.env.scope.names.lookup x=P3 .local:=by first|exact .inl rfl|exact .inr rfl|assumption):DS X q (.Assign [.Name x a] (.ListComp elt [#[tg,iter,ifs,0]] sc pos) c)^CS i^D8 h src b tt te:=by
 let#[S, F,G]:=Vh l e h t u y A m B o;exact#[_,P5 l e h F m r j hx k o D,λC M H n I Z T E R L w=>G C M H n I Z _ _ R w λv J d K O P Q p=>L.nx M J K _ _ ((R.step O P).set^Q.vY R.dom^by simp_all) p]
end
end Dp
namespace L2
def T8:R2:=λy x H Q=>∃a o,x=.ref a/\vK H a y o/\Q (.bl (!o.isSome)) H
def Yg:R2:=λx y H Q=>∃a v,x=.ref a/\vK H a y^P3 v/\Q v H
theorem Gy(b:qk k X.A):OpR X (compareOp .NotIn) T8:=by
 intro f s Z H y x h u Q I c d #[a,i,ex,g,q];subst ex;obtain rfl:u=iF a:=d;exact X1 (HR b) I g c λj e=>#[.bl _,H,e,rfl,q]
end L2
namespace Dp
open L2
def CN:t_ Key->t_ D->Key->u_ D
 |a::b,d::c,k=>if a=k then P3 d else CN b c k
 |_,_,_=>q_
section
variable {K:Frag}
set_option tactic.hygienic true in
theorem Hy:∀{ks:t_ Key}{b:t_ D}{a:t_ V},Ats K M H b a->
  match CN ks b k with
  |some z=>∃v,CV (ks.zip a) k=P3 v/\At K M H z v
  |none=>CV (ks.zip a) k=q_
 |[],b,a,h=>by exact rfl
 |c::ks,[],a,h=>by cases h; exact rfl
 | c::ks,d::b,a,h=>by
  let#[v,r,rfl,f,g]:=h;have i:=Hy (k:=k) (ks:=ks) g;unfold CN
  by_cases e:c=k
  .rw[if_pos e]
   refine#[v,?_,f];show CV ((c,v)::ks.zip r) k=P3 v;rw[D9 e]
  .have:CV ((c,v)::ks.zip r) k=CV _ k:=D_ e
   simp_all
def keyOf:D->u_ Key
 |.int i=>P3^.inl i
 |.str x=>P3^.inr x
 |_=>q_
theorem GS(e:keyOf d=P3 k)(h:AtT K U M H d v):v=kV k:=by
 cases d with
 |int i=>injection e with e;subst e; exact h
 |str x=>injection e with e;subst e; exact h.str.1
 |_=>cases e
def VU:D->u_ (t_ Key×t_ D)
 |.dic a b=>P3 (a,b)
 |.fdi a b=>P3 (a,b)
 |_=>q_
theorem VT(e:VU d=P3 (g,i))(h:AtT K U M H d x):∃a b,x=.ref a/\Rd H a^.dK^g.zip b/\Ats K M H i b:=by
 cases d with
 |dic j k=>cases e; let#[a,b, rfl,_,c,_,f]:=h; exact#[a,b,rfl,.inl c,f]
 |fdi j k=>cases e; let#[a,b, rfl,#[o, _,c],_,f]:=h; exact#[a,b,rfl,.inr #[o,c],f]
 |_=>cases e
theorem Qe(e:Rd H a^.dK b):vK H a (kV k)^CV b k:=.inl #[_,k,e,rfl,rfl]
def dL(a:Bool)(e d:D)(P:D->Prop):Prop:=∃b c k,VU d=P3 (b,c)/\keyOf e=P3 k/\P^.bl (if a then !(CN b c k).isSome else(CN b c k).isSome)
def HV(d e:D)(P:D->Prop):Prop:=∃a b k z,VU d=P3 (a,b)/\keyOf e=P3 k/\CN a b k=P3 z/\P z
theorem N7:FN K .sh T8^dL r_:=λU M H e d y x P Q b o f g w q=>by
 let#[ks,i,k, j,l,w]:=w;let#[a,p, rfl,m,n]:=VT j g;refine#[a,_,rfl,by rw[GS l f]; exact Qe m,q _ H (.bl _) .refl rfl ?_];have h:=Hy (k:=k) (ks:=ks) n;cases c:CN ks i k with
 |none=>simp_all
 |some z=>rw[c]at h w; let#[v, r,_]:=h; simp_all
theorem bD:FN K .sh Yg HV:=λU M H d e x y P Q b p c f w q=>by
 let#[ks,r,k,z, g,i,j,w]:=w;let#[a,s, rfl,l,m]:=VT g c;have h:=Hy (k:=k) (ks:=ks) m;rw[j]at h;let#[v, n,o]:=h;exact#[a,v,rfl,by simp only[GS i f,←n]; exact Qe l,q v H z .refl o w]

theorem Cj(g:qk k X.A)(h:DE X a zR wa)(i:DE X b zN wb)(j:Sg b:=by intro _ _; rfl):DE X (.Subscript a b pos) .sh^BE HV wa wb:=by
 let#[m, c,d]:=h;let#[o, e,f]:=i;exact#[_,FE (HR g) c e j,λC M H n l Z P Q R w q=>EW bD d f C M H n l Z P Q R w q]
end
def YO(i:Nat)(w:DW):Ab:=λe n c=>∃a:Int,c[i]?=P3^.sh^.int a/\w n c λd f=>∃b:Int,d=.int b/\e.nx f^c.set i^.sh^.int (a+b)
theorem Xo(k:X.N.Nodup)(l:X.N[i]?=P3 x)(hx:Loc X.env.scope x)(m:DE X e j g)
  (o:X.fn x=r_\/X.env.scope.names.lookup x=P3 .local:=by first|exact .inl rfl|exact .inr rfl|assumption):DS X h (.AugAssign (.Name x c) .Add e pos)^YO i g:=by
 let#[t, q,r]:=m;refine#[_,Zq k l hx q aF o,λC M H n s Z F E R L w=>?_];let#[a, u,w]:=w;let#[v, f,y]:=R.sl i _ u;cases(y);refine#[_,getD_some f,r C M H n s Z _ _ R w λv z d A f B D p=>?_];let#[b,rfl,p]:=p;exact#[a,b,rfl,Lr D,L.nx M z A _ _ ((R.step f B).set (d:=.int _) rfl) p]
end Dp
namespace L2
open PySem.W
section

theorem Inv.adopt2(I:Inv X zH Z H s)(m:Sh X zH D)(h:H D=q_)(i:Sh X zH e)(j:H e=q_)(l:D≠e)(k:∀b u,b≠D->b≠e->s.heap.get? b=P3 u->h'.get? b=P3 u)(new:qU X.prog X.w (An H D o) h' D o):Inv X zH Z (An H D o) {s with heap:=h'}:=by
 have a:∀b,b∉[D,e]->b≠D/\b≠e:=λb d=>#[λz=>d (by rw[z]; exact Sc),λz=>d^by rw[z]; exact TM _ (h_.mpr rfl)]
 refine I.step (g':=s.gens) (d':=s.drawn) (t':=s.toks) (ch:=[D,e]) (λb g=>?_) (λb u _ _ d q _=>k b u (a b d).1 (a b d).2 q) (λb u _ _ d q _=>#[u.slots,k b u (a b d).1 (a b d).2 q]) (λb u d q n=>?_)
  (λb u d q=>#[u,k b u (a b d).1 (a b d).2 q]) (λb p q=>?_) (λb u v q=>?_) (λb B q=>#[#[],?_]) (λC t=>?_) (λb u q=>?_) I.bare
 .rcases TW.mp g with rfl|g
  .exact#[.inr m.new,m.loc,m.cell,m.pin]
  .rw[h_.mp g]
   exact#[.inr i.new,i.loc,i.cell,i.pin]
 .rw[AH (a b d).1]; exact n
 .rw[AH^Af q h]; exact q
 .rw[AH^Af q h]; exact q
 .rw[AH^Af q h,q]; rfl
 .let#[u,x,y,A,r]:=t
  exact#[u,x,y,k _ u (iz m.loc) (iz i.loc) A,r]
 .by_cases g:b=D
  .subst g; rw[AQ]at q; injection q with q;subst q; exact new
  .rw[AH g]at q
   refine(I.hok b u q).vL (λc v d f=>k c v ?_ ?_ f) (λc f=>by rw[AH^Af f h]; exact f) λc p f=>by rw[AH^Af f h]; exact f
   .grind
   lia
def ZX(K:Frag)(sp:Sp)(f:TE):TE:=λZ H Q=>f Z H λx d=>∃(g:Bool) (l:Db) (c:t_ V) (a:t_^t_ Key) (J:t_ V->Hp->Prop),x=.ref l/\SqK g K d l c/\c.length<64/\J [] d /\
 (∀b H2 v,J b H2->c[b.length]?=P3 v->sp [v] H2 (λk h=>J (b++[k]) h) E0) /\
 ∀b H2,J b H2->b.length=c.length->vg K H2 b a/\∀(e:t_ Nat) (l:Db),He a e->H2 l=q_->Q (.ref l)^An H2 l^.lst^e.map λi=>c.getD i .non
theorem UR(F:B_ X.prog X.w X.K X.mg X.base FO k f fd [pn] sp)(hr:qk (k+2) X.A)(hg:Gl X "sorted")(hm:X.mg "sorted"=q_)
  (a9:Gl X fn) (b0:X.mg fn=P3^.ref f) (hb:Binds X.K fd [pn] []) (he:PE X e te) (hs:starEach [e] X.env=[(s_,eval e X.env)]:=by rfl) (b1:(fn==("__debug__":Str))=s_:=by decide):
  PE X (.Call (.Name "sorted" p) [e] [#[P3 "key",.Name fn fp,kp]] pos) (ZX X.K sp te):=by
 intro zH s Z H Q I h;refine jl^Dz I hg hm oH ?_
 refine callWith_kw (thn (Ap he BH hs pos zH s Z H (λC T=>∃x,C=[x]/\∃(κ:Bool) (l:Db) (C:t_ V) (keys:t_^t_ Key) (J:t_ V->Hp->Prop),x=.ref l/\SqK κ X.K T l C/\C.length<64/\J [] T /\
   (∀B H2 v,J B H2->C[B.length]?=P3 v->sp [v] H2 (λk H3=>J (B++[k]) H3) E0) /\
   ∀B H2,J B H2->B.length=C.length->vg X.K H2 B keys/\∀(ix:t_ Nat) (l:Db),He keys ix->H2 l=q_->Q (.ref l)^An H2 l^.lst^ix.map λi=>C.getD i .non) I ?first) λt s1 #[xs,T,I1,r1,q1]=>kws_cons^Dk I1 a9 b0 (kws_nil ?_) b1) (by rw[hs]; rfl)^by rw[hs]; rfl
 case first=>
  show te Z H _;refine cast (congrArg (te Z H) ?_) h
  funext x T
  refine propext #[λz=>#[x,rfl,z],fun#[y,e,z]=>?_];injection e with e;subst e;exact z
 let#[x,rfl,κ,l,C,keys,J,rfl,hq,b2,j0,U,a0]:=q1;let#[u, rfl,ru]:=vals1 r1;subst ru;show wpAny (model X.prog X.w) X.A (call (.builtin "sorted") [.ref l] [(jX "key",.ref f)]) _ _ s1;refine EK (ksk_s1 _ _) (λx=>ksk_l1 _ _)^Nu I1 hq λt R r2 hz I2=>#[by rw[←r2.length]; exact hz,?_];simp only[ksk_t1];have hl:=r2.length;generalize W:R.heap.objs.size=D;have a1:(R.heap.push^seqObj "list" t.toArray 0).objs.size=D+1:=by rw[size_push',W]
 have a2:(R.heap.push^seqObj "list" t.toArray 0).get? D=P3^seqObj "list" t.toArray 0:=by simp only[←W]; exact Uf _ rfl
 have mD:Sh X zH D:=I2.mine (by rw[W]; exact Re _);have mK:Sh X zH (D+2):=I2.mine (by rw[W]; exact nI _ _);have nD:T D=q_:=I2.hok.fresh (by rw[W]; exact Re _);have nK:T (D+2)=q_:=I2.hok.fresh (by rw[W]; exact nI _ _);have a3:D≠D+2:=iJ^kc^o_ D;have S:∀b,Sh X zH b->b∉Kl X.stack:=λb m z=>(TW.mp^I2.vA b z).elim m.loc m.fs
 refine Rn (s:={R with heap:=R.heap.push^seqObj "list" t.toArray 0}) (n:=0) a2 (by rw[←hl]; exact b2)
  (λB N=>∃O E,qz O B/\J O E/\Inv X zH Z E N/\E D=q_/\E (D+2)=q_/\N.heap.get? D=(DZ (R.heap.push^seqObj "list" t.toArray 0) D t).get? D) (D+2) (by show D+2=(R.heap.push _).objs.size+1; rw[a1]) (λe1 a4=>?_) (λB N e v Y hk hv=>?_) λe1 a4 B N Y L=>?_
 .refine#[[],T,.nil,j0,?_,nD,nK,rfl]
  exact I2.kept (t':=R.toks) λb o q=>Gp (by simp only[←W]; exact iJ^Tk q)^Go _ q
 .let#[O,E,rk,Y,I',n1,n2,P]:=Y
  have hi:B.length<t.length:=(f8.mp hv).1;have a5:C[O.length]?=P3 (C[O.length]'(by rw[rk.length]; lk)):=On _;let#[u', e2,ru]:=r2.get a5;rw[rk.length,hv]at e2;injection e2 with e2;subst e2;have b3:=U O E _ Y a5;have E1:vN X.prog X.w X.K X.mg X.base X.A.in1.in1 X.stack N E:=I'.env0.in1.in1;refine mH^l_ (F.run X.A.in1.in1 X.stack N E #[[v],[]] [v] _ _ E0 (hr.in1).in1 E1 (by simpa using hb N [v] I'.kIn rfl) (.cons ru .nil) b3) λr g M=>?_;cases r with
  |error e=>exact jj M
  | ok fl=>
   cases fl with
   |next=>exact jj M
   |brk=>exact jj M
   |cont=>exact jj M
   | ret u=>
    let#[w',H3, os,a6,un,b4,b5,q3]:=id M
    obtain⟨oD,eD⟩:∃o,N.heap.get? D=P3 o:=by
     let#[c, hc,_]:=IY a2;exact#[_,P.trans hc]
    have kD:g.heap.get? D=P3 oD:=un.keep D oD eD n1 (S D mD) (by simp);have kK:g.heap.get? (D+2)=P3^seqObj "list" B.toArray e:=un.keep _ _ hk n2 (S _ mK) (by simp);have f1:H3 D=q_:=un.free D oD eD n1 (by simp);have f2:H3 (D+2)=q_:=un.free _ _ hk n2 (by simp);have I3:Inv X zH Z H3 g:=I'.call' os un b4 a6 (λb z=>absurd z^by simp);exists kK,O++[w'],H3,rk.append^.cons b5 .nil,q3,?_,f1,f2
    .exact I3.turned (t':=g.toks) (λb o hb q=>(ii _ _^iz hb).trans q) f2 mK.loc (.inr mK.new) mK.cell mK.pin
    .show(g.heap.update (D+2) _).get? D=_
     simp only[ii _ _^iz a3,kD,←eD,P]
 .let#[O,E,rk,Y,I',n1,n2,P]:=Y
  let#[a7,q]:=a0 O E Y (by simp only[rk.length,L,hl]);have b6:keys.length=t.length:=by simp only[←a7.len,rk.length,L]
  refine#[P.trans a4,λp=>p.Perm^ig^iM t.length/\So.Srt RW (λi=>keys.getD i []) p t.length,λh2=>?_,λh1=>#[pP _,λi j b9 hj=>?_],λp h' c hp hg a8 b7 _=>#[rfl,?_]]
  .have ts:=KA (prog:=X.prog) (w:=X.w) (A:=X.A.in1.in1) (keys:=keys) (a7.vj I' rk λb o e=>e) (by lk) (G:=λp g=>g=N/\p.Perm^ig^iM t.length/\So.Srt RW (λi=>keys.getD i []) p t.length) λp a b=>#[rfl,by rw[←L]; exact a,by simp only[←L]; exact b]
   rw[L]at ts;exact ts
  .have:i=j:=by lk
   subst this;exact jx _
  .have b8:(p.toList.map λi=>C.getD i .non).length=t.length:=by simp only[FM,jb,hp]
   refine#[.ref D,An E D^.lst^p.toList.map λi=>C.getD i .non,I'.adopt2 mD n1 mK n2 a3 a8 #[by simp only[b8,←hl,jJ]; lk,_,c,IR (Gk r2) p.toList,b7],rfl,q _ _ (UY b6 hg.1 hg.2) n1]
theorem Mz:∀{c:t_ e}{d:t_ f}{j:Nat}{a:e}{b:f},Paired F c d->c[j]?=P3 a->d[j]?=P3 b->F a b
 |_,_,_,_,_,.nil,h,_=>by simp at h
 |_,_,0,_,_,.cons r t,g,i=>by
  simp_all
 |_,_,j+1,_,_,.cons r t,g,i=>Mz (j:=j) t (by simp_all)^by simp_all
theorem J8:∀b:t_ Db,qz (b.map V.ref)^b.map iF
 |[]=>.nil
 |a::b=>.cons rfl (J8 b)
end
end L2
namespace Dp
open L2
section
variable {K:Frag}
def VE(a:t_ D)(P:D->Prop):Prop:=match a with
 |[.int i,.int j]=>P^.int (if j > i then j else i)
 |_=>False
def Yu(a:t_ D)(P:D->Prop):Prop:=match a with
 |[.int i,.int j]=>P^.int (if j<i then j else i)
 |_=>False
def aN(a:t_ D)(P:D->Prop):Prop:=match a with
 |[.int i]=>P^.int (if i<0 then -i else i)
 |_=>False
set_option tactic.hygienic true in
theorem Vw:Cm K .sh (λa H Q=>∃i j,a=[.int i,.int j]/\Q (.int (if j > i then j else i)) H) VE:=by
 intro U M H h k P Q b l c w q;unfold VE at w
 split at w
 .rename_i i j
  cases c with
  | cons d e=>cases e with
   |cons f g=>
    cases g;cases d.int;cases f.int;exact#[i,j,rfl,q _ H (.int _) .refl rfl w]
 simp_all
set_option tactic.hygienic true in
theorem Vv:Cm K .sh (λa H Q=>∃i j,a=[.int i,.int j]/\Q (.int (if j<i then j else i)) H) Yu:=by
 intro U M H h k P Q b l c w q;unfold Yu at w
 split at w
 .rename_i i j
  cases c with
  | cons d e=>cases e with
   |cons f g=>
    cases g;cases d.int;cases f.int;exact#[i,j,rfl,q _ H (.int _) .refl rfl w]
 simp_all
set_option tactic.hygienic true in
theorem Vz:Cm K .sh (λa H Q=>∃i,a=[.int i]/\Q (.int (if i<0 then -i else i)) H) aN:=by
 intro U M H f g P Q b h c w q;unfold aN at w
 split at w
 .rename_i i
  cases c with
  |cons d e=>
   cases e;cases d.int;exact#[i,rfl,q _ H (.int _) .refl rfl w]
 simp_all
end
end Dp
namespace L2
def Fs(H:Hp)(L:t_ Db)(f:Db->Obj):Hp:=λb=>if b∈L then(H b).map^HO.frz^f b else H b
theorem ED(h:b∉L):Fs H L f b=H b:=by unfold Fs; rw[if_neg h]
theorem QP(h:b∈L)(e:H b=P3 o):Fs H L f b=P3^.frz (f b) o:=by unfold Fs; simp_all
section

theorem Inv.frz{L:t_ Db}(I:Inv X zH Z H s)(k:∀b∈L,∃d,H b=P3^.dK d):∃f,Inv X zH Z (Fs H L f) s:=by
 have a:∀(f:Db->Obj) b o,H b=P3 o->(∀d,o≠.dK d)->Fs H L f b=P3 o:=λf b o e n=>by
  rw[ED λx=>by grind];exact e
 exists λb=>(s.heap.get? b).getD {cls:=.none,data:=.fields #[]};refine I.step (g':=s.gens) (d':=s.drawn) (t':=s.toks) (h':=s.heap) (ch:=[]) (λ_ z=>nomatch z) (λ_ _ _ _ _ e _=>e) (λb o _ _ _ e _=>#[o.slots,e]) (λb o _ e n=>?_) (λb o _ e=>#[o,e]) (λb l e=>a _ b _ e λ_ z=>by cases z) (λb o u e=>a _ b _ e λ_ z=>by cases z) (λb A e=>#[#[],by simp_all]) (λ_ h=>h) (λb u e=>?_) I.bare
 .unfold Fs
  simp_all
 .by_cases g:b∈L
  .let#[d,i]:=k b g
   rw[QP g i]at e;injection e with e;subst e;let#[ z,y, m, r, p,t,v, j,c]:=(show qU X.prog X.w H s.heap b^.dK d from I.hok b _ i);exact#[by rw[j]; rfl,z,y,m,r,p,t,v,j,c]
  .rw[ED g]at e
   exact(I.hok b u e).vL (λ_ _ _ q=>q) (λc q=>a _ c _ q λ_ z=>by cases z) λc l q=>a _ c _ q λ_ z=>by cases z
def fO(t:TE):TE:=λZ H Q=>t Z H λv c=>∃L:t_ Db,(∀b∈L,∃a,c b=P3^.dK a)/\∀f:Db->Obj,Q v^Fs c L f
theorem Zv(h:PE X e t):PE X e^fO t:=by
 intro zH s Z H Q I a;refine thn (h _ s Z H _ I a) λu g zz=>?_;let#[v,i, b,r, L, c,q]:=zz;let#[f, d]:=b.frz c;exact#[v,_,d,r,q f]
end
end L2
namespace Dp
open L2
def D4:D->u_^t_ Key
 |.tup a=>HP a
 |_=>q_
def Hf(c:D->u_^t_ Key)(f:t_ D):Prop:=f.Pairwise λa b=>∀d e,c a=P3 d->c b=P3 e->CP e d=s_
def Keyed(a:D->u_^t_ Key)(b:t_ D):Prop:=(∀x∈b,∃k,a x=P3 k/\k≠[])/\∀x∈b,∀y∈b,∀c d,a x=P3 c->a y=P3 d->Bw c d=r_
theorem range_getD(a:t_ D):(iM a.length).map (λi=>a.getD i .non)=a:=by
 apply nJ
 .simp
 simp_all
theorem QH(m:a.length=c.length)(r:∀(i:Nat) (x:D),c[i]?=P3 x->∃k,a[i]?=P3 k/\kf x=P3 k)(h:He a b):
  (b.map λi=>c.getD i .non).Perm c/\Hf kf (b.map λi=>c.getD i .non):=by
 let#[ d,s]:=h;constructor
 .have:=d.map λi=>c.getD i D.non
  rw[m,range_getD]at this;exact this
 .unfold Hf
  rw[kO];intro i j n f l t u o p;rw[List.getElem_map]at o p;rw[FM]at n f;have v:b.length=a.length:=by rw[d.length_eq,kC]
  have g:∀i (h:i<b.length) k,kf (c.getD b[i] .non)=P3 k->a.getD (b.getD i 0) []=k:=λi h k e=>by
   have w:b[i]<a.length:=jD.mp^d.mem_iff.mp^jB h;have q:b[i]<c.length:=by rw[←m]; exact w
   let#[C, y,z]:=r b[i] c[b[i]] (On q);have A:c.getD b[i] .non=c[b[i]]:=by rw[iT,On q]; rfl
   rw[A,z]at e;have B:b.getD i 0=b[i]:=by rw[iT,On h]; rfl
   rw[B,iT,y];exact iA e
  have:=s i j (l9 l)^by rw[←v]; exact f
  rw[g i n t o,g j f u p]at this;exact this
theorem G4{b:D->u_^t_ Key}:∀{xs:t_ D},(∀x∈xs,∃k,b x=P3 k/\k≠[])->∃a:t_^t_ Key,a.length=xs.length/\(∀(i:Nat) (x:D),xs[i]?=P3 x->∃k,a[i]?=P3 k/\b x=P3 k/\k≠[])
 |[],_=>#[[],rfl,λi x e=>by simp at e]
 | x::xs,h=>by
  let#[k, d,f]:=h x Sc;let#[a, l,g]:=G4 (xs:=xs) λy c=>h y^TM _ c;refine#[k::a,by simp_all,λi y e=>?_];cases i with
  |zero=>
   simp_all
  |succ i=>
   simp_all
section
variable {K:Frag}
theorem Ats.getD:∀{b:t_ D}{a:t_ V},Ats K M H b a->∀i:Nat,At K M H (b.getD i .non)^a.getD i .non
 |[],a,h,i=>by cases(h); simp[At]
 |d::b,a,h,0=>by
  let#[v,r, e,f,c]:=h
  simp_all
 |d::b,a,h,i+1=>by
  let#[v,r, e,f,c]:=h;subst e
  simpa using Ats.getD c i
theorem Ats.pick(h:Ats K M H b c):∀a:t_ Nat,Ats K M H (a.map λi=>b.getD i .non)^a.map λi=>c.getD i .non
 |[]=>rfl
 |i::a=>#[_,_,rfl,h.getD i,Ats.pick h a]
theorem Ke(p:∀d k v,d∈f->o d=P3 k->At K M H d v->∃a,v=.ref a/\SqT K H a^k.map kOf)(u:Ats K M H f t)(z:Keyed o f)(w:c.length=f.length)(A:∀(i:Nat) (x:D),f[i]?=P3 x->∃k,c[i]?=P3 k/\o x=P3 k/\k≠[]):vg K H t c:=by
 have b:∀(i:Nat) (h:t_ Key),c[i]?=P3 h->∃x,f[i]?=P3 x/\o x=P3 h/\h≠[]:=λi h e=>by
  have l:i<f.length:=by simp only[←w]; exact(f8.mp e).1
  let#[k, g,m,n]:=A i f[i] (On l);rw[e]at g;injection g with g;subst g;exact#[f[i],On l,m,n]
 refine#[u.length.trans w.symm,λi h e=>?_,λx q y B=>?_,λx q=>?_]
 .let#[d,g,m,_]:=b i h e
  let#[v, n,C]:=u.get g;let#[a, rfl,E]:=p d h v (iu g) m C;exact#[a,n,E]
 .let#[i,l]:=jz.mp q
  let#[j,F]:=jz.mp B;let#[d, g,m,_]:=b i x l;let#[G, r,s,_]:=b j y F;exact z.2 d (iu g) G (iu r) x y m s
 .let#[i,l]:=jz.mp q
  let#[d, g,m,n]:=b i x l;exact n
theorem Kf(e:D4 d=P3 k)(h:At K M H d v):∃a,v=.ref a/\SqT K H a^k.map kOf:=by
 cases d with
 |tup g=>
  let#[a,i, b,c,f]:=h
  have:=GR (e) f
  subst this;exact#[a,b,c.sq]
 |_=>cases e
def VD(c:t_ D)(P:D->Prop):Prop:=∃d b,c=[d]/\Gr d=P3 b/\b.length<64/\Keyed D4 b/\∀a:t_ D,a.Perm b->Hf D4 a->P^.lst a
theorem Qs:Cm K .fr (T5 K) VD:=by
 intro U M H E F P Q o p r w q;let#[d,G,rfl,e,c,g,w]:=w;let#[v, rfl,s]:=C4 r;let#[t,a,u, rfl,f,y]:=Gq s e (λ_ z=>z) p;let#[h, j,m]:=G4 g.1;refine#[t,a,u,_,rfl,y M H (qQ.refl _ _)^Ext.refl _ _,by rw[f.length]; exact c,Ke (λd k v _=>Kf) f g j m,λA l B n=>?_];let#[ C,D]:=QH (kf:=D4) j (λi x e=>by let#[k, a,b,_]:=m i x e; simp_all) B;exact q _ _ _ (Am n) (Cg n^f.pick A)^w _ C D
end
section

def Sz(W:W2)(wa:DW):DW:=λn h P=>wa n h λd e=>∃(c:t_ D) (f:D->D),Gr d=P3 c/\c.length<64/\(∀x∈c,∀g:D->Nat->Prop,g (f x) e->W [.sh x] e g)/\Keyed (λx=>D4^f x) c /\
 ∀b:t_ D,b.Perm c->Hf (λx=>D4^f x) b->P (.lst b) e
theorem Nk(G:Got X.prog X.w X.K X.mg X.base fn k [pn] .sh W)(hr:qk (k+2) X.A)(hg:Gl X "sorted")(hm:X.mg "sorted"=q_)(a0:Gl X fn)(he:DE X e zR wa)
  (J:starEach [e] X.env=[(s_,eval e X.env)]:=by rfl) (a1:(fn==("__debug__":Str))=s_:=by decide):DE X (.Call (.Name "sorted" p) [e] [#[P3 "key",.Name fn fp,kp]] pos) .fr^Sz W wa:=by
 let#[f,fd, F,a2,b1,hb,hW]:=G;let#[t, h1,h2]:=he;refine#[_,UR F hr hg hm a0 a2 hb h1 J a1,λC M H n ρ Z P Q R w q=>?_];refine h2 C M H n ρ Z _ _ R w λv H1 d Y e1 f1 r1 p=>?_;let#[j,B, hd,a3,hw,hK,w]:=p;have L:=R.step e1 f1;let#[κ,l,us, rfl,J,sq]:=Gq (U:=C.U) (r1.vT R.dom R.vM) hd R.uV L.vM;let#[N, hl,hk]:=G4 hK.1;have s:=J.length;refine#[κ,l,us,N,λc H2=>Ext C.U H1 H2/\qV X.K C.F M H2 Y/\c.length<=j.length/\∀(i:Nat) (k:V),c[i]?=P3 k->∃x,j[i]?=P3 x/\At X.K M H2 (B x) k,rfl,sq M H1 (qQ.refl _ _)^Ext.refl _ _,by rw[s]; exact a3,#[Ext.refl _ _,f1,XV _,λi k z=>absurd (show(q_:u_ V)=P3 k from z) λh=>nomatch h],λc H2 v hJ hv=>?_,λc H2 hJ a4=>?_]
 .let#[ex,u,a5,E]:=hJ
  have m:=L.step ex u;have hi:c.length<j.length:=by simp only[←s]; exact(f8.mp hv).1
  have O:j[c.length]?=P3 j[c.length]:=On hi;let#[v', e2,hA]:=(J.qq^L.qq ex).get O;rw[hv]at e2;injection e2 with e2;subst e2;refine#[rfl,C.F,C.U,C.V,M,Y,[.sh j[c.length]],λd n=>d=B j[c.length]/\n=Y,#[m.dom,m.fU,m.uV,m.vM,u,.cons #[#[v,rfl,hA],rfl] .nil],hw _ (jB hi) _ #[rfl,rfl],λr H3 d n' S f3 vr hd=>?_];let#[ rfl,rfl]:=hd;refine#[ex.trans S,f3,by simp only[ZB,iB]; lk,λi k o=>?_]
  by_cases a6:i<c.length
  .rw[lA a6]at o
   let#[x, h3,h4]:=E i k o;exact#[x,h3,h4.qq^m.qq S]
  .rw[ji^by lk]at o
   have a7:i=c.length:=by
    have:=(f8.mp o).1
    simp only[iB]at this;omega
   subst a7;rw[mE]at o;cases(show P3 r=P3 k from o);exact#[_,O,vr]
 .let#[ex,u,a5,E]:=hJ
  have m:=L.step ex u;have a8:c.length=j.length:=by simp only[a4,s]
  have a9:Ats X.K M H2 (j.map B) c:=by
   have go:∀(j:t_ D) (c:t_ V),c.length=j.length->(∀(i:Nat) (k:V),c[i]?=P3 k->∃x,j[i]?=P3 x/\At X.K M H2 (B x) k)->Ats X.K M H2 (j.map B) c:=by
    intro j
    induction j with
    |nil=>intro c h _; exact lP.mp h
    | cons x j ih=>
     intro c h hh;cases c with
     |nil=>cases h
     | cons k c=>
      let#[T, e3,h3]:=hh 0 k rfl;cases(show P3 x=P3 T from e3)
      exact#[k,c,rfl,h3,ih c (by simpa using h) λi k' e4=>by
       let#[y, e5,h5]:=hh (i+1) k' (by simpa using e4);exact#[y,by simpa using e5,h5]]
   exact go j c a8 E
  have b0:Keyed D4^j.map B:=by
   refine#[λy hy=>?_,λy hy z hz ka kb ea eb=>?_]
   .let#[x,hx,rfl]:=Rs.mp hy
    exact hK.1 x hx
   .let#[x,hx,rfl]:=Rs.mp hy
    let#[T, I,rfl]:=Rs.mp hz;exact hK.2 x hx T I ka kb ea eb
  refine#[Ke (λd k v _=>Kf) a9 b0 (by simp only[hl,FM]) λi x e=>?_,λix l ho hn=>?_]
  .rw[T0]at e
   let#[T, I,rfl]:=iX.mp e;exact hk i T I
  .let#[o1,o2]:=QH (kf:=λx=>D4^B x) hl (λi x e=>by let#[k, a,b,_]:=hk i x e; exact#[k,a,b]) ho
   have g:zk H2 (An H2 l^.lst^ix.map λi=>us.getD i .non):=Am hn;refine q _ _ (.lst^ix.map λi=>j.getD i .non) Y ((e1.trans ex).trans g.ext) (u.grow g) (VR.back (e1.trans ex) ?_)^w _ o1 o2;exact Cg hn^(J.qq^L.qq ex).pick ix
def fv:Key->D
 |.inl i=>.int i
 |.inr x=>.str x
def GU:Key->Prop
 |.inl _=>True
 |.inr x=>x.length<=sizeLine
theorem ak{K:Frag}(h:GU k):At K M H (fv k)^kOf k:=by
 cases k with
 |inl i=>exact rfl
 |inr x=>exact#[rfl,h]
end
end Dp
namespace L2
end L2
namespace Dp
open L2
def ZK(c:Gi)(i:Ab):Ab:=λd n a=>∃W:Nat->Nat->t_ Slot->Prop,(∃m,W m n a)/\∀m n a,W m n a->
 c n a λb e=>if b=r_ then ∃N:Nat->t_ Slot->Prop,(∀f g,N f g->∃h,h<m/\W h f g)/\i {d with nx:=N,ct:=N,bk:=d.nx} e a else d.nx e a
section

theorem Ng(G:nL (model X.prog X.w) X.A X.env X.xe)(I:DT X c wc)(J:MK X κ body wb):DS X κ (.While c body [] pos)^ZK wc wb:=by
 let#[tc, O,P]:=I;let#[tb, Q,S]:=J;refine#[_,UH G O Q,λC M H n T Z y E R L w=>?_];let#[W, #[U, V],g]:=w;exists λm h t=>∃i j a,Rel X.K C i t j a h/\W m j a,#[U,M,n,T,R,V];rintro m h t ⟨i,j,a,z,Y⟩;refine P C i t j a h _ _ z (g m j a Y) λb H2 B e f p=>?_;have R2:=z.step e f;cases b with
 | true=>
  rw[if_pos rfl]at p ⊢;let#[N, hN,p]:=p;exists λD F=>∃u k l,Rel X.K C u F k l D/\N k l,λD F #[u,k,l,R3,w3]=>?_
  .let#[m',hm,d]:=hN k l w3
   exact#[m',hm,u,k,l,R3,d]
  .exact S C i H2 B a h {y with nx:=N,ct:=N,bk:=y.nx} _ R2 #[λo v q r x s d=>#[o,q,r,s,d],L.rt,λo v q r x s d=>L.nx o v q r x s d,λo v q r x s d=>#[o,q,r,s,d]] p
 |false=>
  rw[if_neg^by cbv]at p ⊢;exact L.nx i H2 B a h R2 p
end
def YM(i:Nat)(b:BW)(c:Ab):Ab:=λf n d=>∃e,d[i]?=P3^.ow^.lst e/\∀a,Bc b c {f with nx:=λn d=>d[i]?=P3^.lt a^.lst e/\f.nx n^d.set i^.ow^.lst e} e n^d.set i^.lt a^.lst e
section

theorem Xn(hp:nL (model X.prog X.w) X.A X.env X.xe)(hc:X.calm=r_)(h:PE X (.Name x p)^BN i)(hg:DG X tg b)(hb:MK X κ body wb)
  (hs:∀y,foldedSetIterable (.Name x p) X.env y=pure y:=by intro _; rfl):DS X κ (.For tg (.Name x p) body [] pos)^YM i b wb:=by
 let#[g, g1,g2]:=hg;let#[tb, b1,b2]:=hb;refine#[_,Dw hp hc (LN h) g1 b1 hs,λC M H n o Z Y E R L w=>?_];let#[c, hi,w]:=w;let#[a, e1,hm,nv, j, hH,D]:=R.sl i _ hi;have hk:∀q∈C.kp,q.1≠a:=λq F z=>(R.kept q F).2.2.2 i _ hi (by simp only[e1,z]);have R1:=(R.lend hi e1 hH).pinned;refine#[.ref a,getD_some e1,.inl #[a,rfl,#[j,.inl^.inl hH],?_]];have w1:=w a;generalize G:({Y with nx:=λn o=>o[i]?=P3^.lt a^.lst c/\Y.nx n^o.set i^.ow^.lst c}:E2)=l at w1
 have L3:∀M H n o Z,Rel X.K {C with kp:=(a,.lst j)::C.kp} M H n o Z->l.nx n o->E.nx Z H:=λM H n o Z R w=>by
  rw[←G]at w;exact L.nx M H n _ Z (R.unlend w.1 hk) w.2
 have a0:l.rt=Y.rt:=by rw[←G]
 exists λk m S t=>m=c.length - k/\k<=c.length/\∃u B I,Rel X.K {C with kp:=(a,.lst j)::C.kp,zH:=(M,H)::C.zH} u t B I S/\Bc b wb l (c.drop k) B I,#[c.length,by rfl,XV _,M,n,_,R1,w1];rintro k m S t ⟨rfl,a3,u,B,I,T,U⟩;have pr:qQ M H u t:=T.pin (M,H) Sc;have a1:t a=P3^.lst j:=(T.kept (a,.lst j) Sc).1;have F:SqL X.K t a j:=.inl^.inl a1
 by_cases s:k<c.length
 .have ed:c.drop k=c[k]::c.drop (k+1):=jL s
  rw[ed]at U;let#[v,ev,hv]:=(D.qq pr).get^On s;refine .inr #[#[j,v,F,ev],λzU H2=>∃M2 V W,Rel X.K {C with kp:=(a,.lst j)::C.kp,zH:=(M,H)::C.zH} M2 H2 V W zU/\Bc b wb l (c.drop (k+1)) V W,λzU H2 #[M2,V,W,a2,w2]=>#[c.length - (k+1),by omega,rfl,s,M2,V,W,a2,w2],λy H2 hy=>?_];let#[e2,hy]:=hy;subst e2
  have:P3 v=P3 y:=ev.symm.trans^hy j F
  injection this with this;subst this;refine g2 _ u H2 B I S c[k] v _ _ T hv U λzO zV R3 w3=>?_;refine b2 _ u H2 B zO zV {l with nx:=Bc b wb l^c.drop (k+1),ct:=Bc b wb l^c.drop (k+1),bk:=l.nx} _ R3 #[λJ H4 N O zP P Q=>#[J,N,O,P,Q],λv H d n e f r p=>L.rt v H d n e f r (by rw[←a0]; exact p),λJ H4 N O zP P Q=>L3 J H4 N O zP P.v7 Q,λJ H4 N O zP P Q=>#[J,N,O,P,Q]] w3
 .have e:k=c.length:=by lk
  subst e;rw[mI]at U;exact .inl #[#[j,F,by rw[D.length]; exact Re _],L3 u t B I S T.v7 U]
end
end Dp
namespace L2
open PySem.W
end L2
namespace Dp
open L2
end Dp
namespace Nt
open L2 Dp
theorem KU{c i:Type}{f:c->i}:∀{l:t_ c},l.Nodup->(∀a∈l,∀b∈l,f a=f b->a=b)->(l.map f).Nodup
 |[],_,_=>jI
 |a::l,h,d=>by
  rw[iV]at h;rw[iQ,iV];refine#[λj=>?_,KU h.2 λx k y m=>d x (TM _ k) y^TM _ m];let#[b, g,e]:=Rs.mp j;exact h.1 (d a Sc b (TM _ g) e.symm▸g)
theorem N5(a:t_ Str):PY^a.map .str=P3 a:=by
 induction a with
 |nil=>rfl
 |cons y r b=>
  rw[iQ];unfold PY
  simp_all
theorem B2(I:t_ D->Nat->t_ Slot->Prop)(i:∀n c,I all n c->l.nx n c)
  (f:∀(a:t_ D) (d:D) (j:t_ D) (n:Nat) (c:t_ Slot) (nx:Nat->t_ Slot->Prop),all=a++d::j->I a n c->(∀m o,I (a++[d]) m o->nx m o)->b d c λp=>g {l with nx:=nx,ct:=nx,bk:=l.nx} n p):
  ∀(k a:t_ D) (n:Nat) (c:t_ Slot),all=a++k->I a n c->Bc b g l k n c
 |[],a,n,c,e,h=>by
  simp only[im]at e;subst e;exact i n c h
 |d::k,a,n,c,e,h=>f _ d k n c _ e h λm o q=>B2 I i f k _ m _ (by simp_all) q
theorem F_(h:CJ c n=a++d::b):d=.int (c+(a.length:Int))/\a.length<n:=by
 have f:=congrArg li h;rw[Bj]at f;have e:(CJ c n)[a.length]?=P3 d:=by simp_all
 unfold CJ at e
 simp_all
structure AZ where
 a:Str
 b:Str
 len:Int
structure Net where
 ps:List Str
 ts:List AZ
def AO(t:AZ):D:=.tup [.str t.a,.str t.b,.int t.len]
def Bl(N:Net):D:=.tup [.tup^N.ps.map .str,.tup^N.ts.map AO]
def BJ(s t:AZ):Prop:=cs s.a<cs t.a\/(s.a=t.a/\cs s.b<cs t.b)
structure Net.Ok (N:Net):Prop where
 names:∀x∈N.ps,R0 x
 rise:rising N.ps
 tin:∀t∈N.ts,t.a∈N.ps/\t.b∈N.ps/\cs t.a<cs t.b/\1<=t.len/\t.len<=1000000
 zq:N.ts.Pairwise BJ
structure Ix where
 i:Nat
 j:Nat
 len:Int
def EN(c:t_ AZ)(p:Str):t_ (Str×Int):=c.flatMap λt=>(if t.a=p then [(t.b,t.len)]else [])++(if t.b=p then [(t.a,t.len)]else [])
def cr(a:t_ AZ)(p:Str):D:=.fdi ((EN a p).map λx=>.inr x.1)^(EN a p).map λx=>.int x.2
def Gn(N:Net):D:=.dic (N.ps.map .inr)^N.ps.map^cr N.ts
def V3:W2:=λa n P=>∃N:Net,a=[.sh^Bl N]/\N.Ok/\N.ps.length<=1000/\N.ts.length<=1000/\P (Gn N) n
def kv(x:Str×Int):Key×V:=(.inr x.1,.int x.2)
structure Stp (H:Hp) (d:Db) (as:List (Str×Db)) (tb:Str->List (Key×V)) (H':Hp):Prop where
 old:∀b o,H b=P3 o->H' b=P3 o
 new:H d=q_
 top:H' d=P3 (.dK^as.map λx=>(.inr x.1,.ref x.2))
 inn:∀x∈as,H x.2=q_/\x.2≠d/\H' x.2=P3 (.dK^tb x.1)
 ads:(as.map (·.2)).Nodup
 nms:(as.map (·.1)).Nodup
theorem Hv{b:t_ (Str×Db)}(c:(b.map (·.1)).Nodup)(h:(p,a)∈b):CV (b.map λx=>((.inr x.1:Key),V.ref x.2))^.inr p=P3^.ref a:=by
 induction b with
 |nil=>cases h
 | cons x r d=>
  rw[iQ,iV]at c
  rcases TW.mp h with e|h
  .rw[←e]
   exact D9 rfl
  .exact(D_ λe=>c.1^by rw[jU e]; exact Rs.mpr #[_,h,rfl]).trans^d c.2 h
theorem Oa{a:t_ (Str×Db)}(h:p∉a.map (·.1)):putK (a.map λx=>((.inr x.1:Key),V.ref x.2)) (.inr p) v=(a.map λx=>((.inr x.1:Key),V.ref x.2))++[(.inr p,v)]:=by
 unfold putK
 simp_all
theorem P4(h:p∉a.map (·.1)):putK (a.map kv) (.inr p)^.int l=(a++[(p,l)]).map kv:=by
 unfold putK;rw[if_neg,ij]
 .rfl
 .rw[kj]
  rintro⟨y,b,e⟩;let#[x, c,rfl]:=Rs.mp b;exact h^Rs.mpr #[x,c,jU^of_decide_eq_true e]
theorem Stp.more(s:Stp H d l n m)(i:m q=q_)(v:p∉l.map (·.1))(A:n p=[]):
  Stp H d (l++[(p,q)]) n (An (An m q^.dK []) d^.dK^putK (l.map λx=>((.inr x.1:Key),V.ref x.2)) (.inr p)^.ref q):=by
 have w:q≠d:=λe=>by simp only[e,s.top]at i; cases i
 have k:H q=q_:=by
  cases c:H q with
  |none=>rfl
  |some o=>rw[s.old q o c]at i; cases i
 exists λb o e=>?_,s.new,?_,λx f=>?_,?_
 .have B:b≠d:=λz=>by simp only[z,s.new]at e; cases e
  have r:b≠q:=λz=>by simp only[z,k]at e; cases e
  rw[AH B,AH r];exact s.old b o e
 .rw[AQ,Oa v,ij]; rfl
 .rcases iH.mp f with f|f
  .let#[y,t,j]:=s.inn x f
   have r:x.2≠q:=λz=>by rw[z,i]at j; cases j
   exact#[y,t,by rw[AH t,AH r]; exact j]
  .rw[h_.mp f]
   exact#[k,w,by rw[AH w,AQ,A]]
 .rw[ij,jh]
  refine#[s.ads,iV.mpr #[(λh=>by cases h),jI],λa u b g e=>?_];let#[x, f,rfl]:=Rs.mp u;have g:b=q:=h_.mp g;let#[ y,t,j]:=s.inn x f;simp only[e,g,i]at j;cases j
 .rw[ij,jh]
  refine#[s.nms,iV.mpr #[(λh=>by cases h),jI],λa u b g e=>?_];have g:b=p:=h_.mp g;exact v^by simp only[←g,←e]; exact u
theorem Rf{c:t_ (Str×Db)}(d:(c.map (·.1)).Nodup)(e:(p,a)∈c)(f:(p,b)∈c):a=b:=by
 have:=(Hv d e).symm.trans^Hv d f
 simp_all
theorem Rc{b:t_ (Str×Db)}(c:(b.map (·.2)).Nodup)(e:(p,a)∈b)(f:(q,a)∈b):p=q:=by
 induction b with
 |nil=>cases e
 | cons x r i=>
  rw[iQ,iV]at c
  rcases TW.mp e with j|g
  .rcases TW.mp f with h|d
   .grind
   .exact absurd (Rs.mpr #[_,d,by rw[←j]]) c.1
  .rcases TW.mp f with h|d
   .exact absurd (Rs.mpr #[_,g,by rw[←h]]) c.1
   .exact i c.2 g d
theorem Stp.put(s:Stp H d c h g)(f:(p,a)∈c)(i:tb2 p=kvs)(j:∀q,q≠p->tb2 q=h q):
  Stp H d c tb2 (An g a^.dK kvs):=by
 let#[ u,k,v]:=s.inn _ f;refine#[λb o e=>?_,s.new,?_,λx l=>?_,s.ads,s.nms]
 .have m:b≠a:=λz=>by simp_all
  rw[AH m];exact s.old b o e
 .rw[AH^iz k]
  exact s.top
 .let#[n,r,t]:=s.inn x l
  exists n,r
  by_cases e:x.2=a
  .have:=Rc s.ads (show(x.1,a)∈c by grind) f
   simp only[e,AQ,this,i]
  .have:x.1≠p:=λz=>e^Rf s.nms (show(p,x.2)∈c by grind) f
   rw[AH e,j _ this];exact t
theorem NH(c:t_ AZ)(t:AZ)(p:Str):EN (c++[t]) p=EN c p++((if t.a=p then [(t.b,t.len)]else [])++(if t.b=p then [(t.a,t.len)]else [])):=by
 unfold EN
 simp_all
theorem Lm(h:q∈(EN d p).map (·.1)):∃t∈d,(t.a=p/\t.b=q)\/(t.b=p/\t.a=q):=by
 let#[x, c,rfl]:=Rs.mp h;let#[t, e,c]:=kH.mp c;exists t,e
 rcases iH.mp c with c|c
 .simp_all
 simp_all
theorem QI(c:t_ AZ)(p:Str):(EN c p).length<=2*c.length:=by
 induction c with
 |nil=>exact XV _
 |cons t r d=>
  unfold EN at d ⊢;simp only[m_,ZB,ZB];have e:(if t.a=p then [(t.b,t.len)]else []).length<=1:=by grind
  grind
theorem VH(i:(d++[t]).Pairwise BJ)(f:∀s∈d++[t],cs s.a<cs s.b):t.b∉(EN d t.a).map (·.1)/\t.a∉(EN d t.b).map (·.1):=by
 rw[lE]at i
 have g:∀s∈d,¬((s.a=t.a/\s.b=t.b)\/(s.b=t.a/\s.a=t.b)):=λs c e=>by
  have j:=i.2.2 s c t (h_.mpr rfl);have m:=f s^jA _ c;have n:=f t^iL _ (h_.mpr rfl)
  rcases e with⟨k,l⟩|⟨k,l⟩
  .unfold BJ at j
   grind
  grind
 refine#[λh=>?_,λh=>?_]
 .let#[s,c,e]:=Lm h
  exact g s c e
 .let#[s,c,e]:=Lm h
  exact g s c^e.elim (λz=>.inr #[z.2,z.1]) λz=>.inl #[z.2,z.1]
theorem EL(h:rising c):c.Nodup:=h.imp λ{a b} d e=>by grind
theorem Ot{a:t_ Str}(h:a.Nodup)(c:i<a.length):a[i]∉a.take i:=by
 have e:a=a.take i++a[i]::a.drop (i+1):=by
  simp_all
 intro b;rw[e,jh]at h;exact h.2.2 _ b _ Sc rfl
theorem Stp.at_{K:Frag}(t:∀a,M a->∃o,H a=P3 o)(s:Stp H d c (λp=>(EN N.ts p).map kv) q)(u:c.map (·.1)=N.ps)(f:Db->Obj):At K M (Fs q (c.map (·.2)) f) (Gn N)^.ref d:=by
 have v:∀b,H b=q_->¬M b:=λb e m=>by let#[o, h]:=t b m; rw[h]at e; cases e
 have i:∀c:t_ (Str×Db),(c.map λx=>((.inr x.1:Key),V.ref x.2))=((c.map (·.1)).map (.inr:Str->Key)).zip (c.map λx=>V.ref x.2):=λc=>by
  grind
 refine#[d,c.map λx=>.ref x.2,rfl,#[v d s.new,by rw[ED (λw=>by let#[x,j,e]:=Rs.mp w; exact(s.inn x j).2.1 e),s.top,i,u]],by simp only[FM,FM],?_];rw[←u]
 have z:∀k:t_ (Str×Db),(∀x∈k,x∈c)->Ats K M (Fs q (c.map (·.2)) f) ((k.map (·.1)).map^cr N.ts) (k.map λx=>V.ref x.2):=λk=>by
  induction k with
  |nil=>intro _; rfl
  | cons x r l=>
   intro j;refine#[.ref x.2,r.map λx=>V.ref x.2,rfl,?_,l λy A=>j y^TM _ A];let#[ B,D,C]:=s.inn x^j x Sc
   have n:∀g:t_ (Str×Int),g.map kv=(g.map λx=>(.inr x.1:Key)).zip (g.map λx=>V.int x.2):=λg=>by
    induction g with
    |nil=>rfl
    |cons x r l=>rw[iQ,l]; rfl
   refine#[x.2,(EN N.ts x.1).map λx=>V.int x.2,rfl,#[f x.2,v _ B,by rw[QP (Rs.mpr #[x,j x Sc,rfl]) C,n]],by simp only[FM,FM],?_];generalize EN N.ts x.1=g
   induction g with
   |nil=>rfl
   |cons x r l=>exact#[.int x.2,_,rfl,rfl,l]
 exact z c λ_ h=>h
end Nt
namespace L2
end L2
namespace Dp
open L2
theorem J_:∀{b:t_ Key}{ds:t_ D}{k:Key},b.length=ds.length->k∈b->∃z,CN b ds k=P3 z
 |[],ds,k,_,h=>by cases h
 |a::b,[],k,h,_=>by cases h
 | a::b,d::ds,k,c,h=>by
  unfold CN
  by_cases e:a=k
  .simp_all
  .rw[if_neg e]
   exact J_ (by simp_all)^(TW.mp h).resolve_left λz=>e z.symm
section

def PB(a:Bool)(d e:D)(P:D->Prop):Prop:=e=.non/\P^.bl (if a then !U1 d else U1 d)
theorem K3{K:Frag}:FN K .sh (λx y H Q=>y=.non/\Q (.bl (decide (x=.non))) H)^PB s_:=λU M H d e x y P Q a f b c w q=>by
 let#[rfl,w]:=w;exact#[c,q _ H _ .refl (by rw[NW b]; rfl) w]
theorem MC{K:Frag}:FN K .sh (λx y H Q=>y=.non/\Q (.bl (!decide (x=.non))) H)^PB r_:=λU M H d e x y P Q a f b c w q=>by
 let#[rfl,w]:=w;exact#[c,q _ H _ .refl (by rw[NW b]; rfl) w]
end
end Dp
namespace L2
open AutoSeq1 (wpAny_loadPart')
end L2
namespace Dp
open L2
end Dp
namespace L2
end L2
namespace Dp
open L2
end Dp
namespace L2
open AutoSeq1 (wpAny_loadPart')
theorem boot_enumerate:bootBuiltins "enumerate"=P3^.type "enumerate":=by decide +kernel
section

theorem SJ(m:A.handled=q_)(f l:Db)(g:l≠f)(c:Array Ev):Draws prog w A f [f,l] c.size (λi v=>c[i]?=P3 v) (λi h=>qy κ h f l i/\qw κ h l c) where
 live:=λ_ _ d=>let #[o,n,_]:=d.1.lies; #[o,n]
 frame:=λ_ _ _ d k=>#[d.1.mv λo e=>k f (by simp) o e,d.2.mv λo e=>k l (by simp) o e]
 item:=λi s Q E j d p=>DC d.1 d.2 (x:=c[i]) (by simp[j]) λq a b=>p _ q s.toks (by simp[j]) #[a,d.2.eb b.extBut g] b
 done:=λs Q E d r=>E5 m d.1 d.2 (by simp) r
theorem PC(d:A.handled=q_)(c l:Db)(a:Array Ev)(k:Nat)(f:a[k]?=q_):Draws prog w A c [c,l] k (λ_ _=>True) (λi h=>qy κ h c l i/\qw κ h l a/\i=k) where
 live:=λ_ _ b=>let #[o,g,_]:=b.1.lies; #[o,g]
 frame:=λ_ _ _ b k=>#[b.1.mv λo e=>k c (by simp) o e,b.2.1.mv λo e=>k l (by simp) o e,b.2.2]
 item:=λi s Q E j b n=>absurd b.2.2^iJ j
 done:=λs Q E b m=>E5 d b.1 b.2.1 f m
set_option tactic.hygienic true in
theorem Ug(κ:Bool)(l:Db)(items:Array Ev):Meets (j9.«enumerate.__new__» #[[.type "enumerate",.ref l],[]]) (λ_ R s=>qw κ s.heap l items /\
   R (.ok^.ret^.ref (s.heap.push^HQ κ l).objs.size) {s with heap:=(s.heap.push^HQ κ l).push {cls:=.type "enumerate",data:=.fields #[ .none,.bool s_,.ref s.heap.objs.size,rawInt 0,.none,.none]}}):=
 .of_wp λprog w A R s h=>by
  let#[hp,g,d,tk,os]:=s; let#[hl,h]:=h
  have hsub:=sub_enumerate;cases κ with
  | true=>
   have hL:pc (lm #[hp,g,d,tk,os]) l items:=hl;let#[#[c,dct,dt,sl],ho,hc,n,hd]:=id hL;replace hc:c=.type "list":=hc;replace hd:dt=.seq items n:=hd;subst hc hd
   wp_walk using kF ho
   refine wpAny_stack_any λst=>Op ?_
   split
   .rename_i c _ _ _ _ _
    cases(c==mF "enumerate") <;>(wp_walk using kF ho,jv hL; exact#[_,rfl,h])
   ·(wp_walk using kF ho,jv hL; exact#[_,rfl,h])
  | false=>
   have hL:pC (lm #[hp,g,d,tk,os]) l items:=hl;let#[#[c,dct,dt,sl],ho,hc,n,hd]:=id hL;replace hc:c=.type "tuple":=hc;replace hd:dt=.seq items n:=hd;subst hc hd
   wp_walk using kF ho
   refine wpAny_stack_any λst=>Op ?_
   split
   .rename_i c _ _ _ _ _
    cases(c==mF "enumerate") <;>(wp_walk using kF ho,jk hL; exact#[_,rfl,h])
   ·(wp_walk using kF ho,jk hL; exact#[_,rfl,h])
theorem J0(j:qw c s.heap l a)
  (h:∀d,IsEnum d (s.heap.objs.size+1) s.heap.objs.size 0 .none->qy c d s.heap.objs.size l 0->(∀b o,s.heap.get? b=P3 o->d.get? b=P3 o)->Q (.ref (s.heap.objs.size+1)) {s with heap:=d}):
  wpAny (model prog w) A (call (.type "enumerate") [.ref l]) Q E s:=by
 refine callType_new F.called_enumerate (by cbv) (F.typeCall_enumerate_1 _) (F.newCall_enumerate_1 _) (λf=>F.args_object_init_2 f _) F.entry_enumerate_new (Ug c l a) #[j,?_];have g:(s.heap.push^HQ c l).objs.size=s.heap.objs.size+1:=jV ..;have i:((s.heap.push^HQ c l).push {cls:=.type "enumerate",data:=.fields #[ .none,.bool s_,.ref s.heap.objs.size,rawInt 0,.none,.none]}).get? (s.heap.push^HQ c l).objs.size=P3 _:=Uf _ rfl;rw[g]at i;exists#[_,by rw[g]; exact i,rfl];rw[g];exact h _ i ((JI c s.heap l).mv λo e=>Go _ e) λb o e=>Go _^Go _ e
end
def be(K:Frag)(c:Bool)(a:Db)(b:t_ V):It:=
 #[λi H=>SqK c K H a b/\i<b.length,λi H x d=>∃T p,x=.ref T/\H T=q_/\d=An H T^.tup [.int i,p]/\b[i]?=P3 p,λi H=>SqK c K H a b/\b.length<=i]
structure bT (κ:Bool) (e it a:Db) (k:Nat) (h:iG):Prop where
 e:∃old,IsEnum h e it (k:Int) old
 i:qy κ h it a k
theorem Q7{K:Frag}(κ:Bool)(e f a:Db)(S:t_ V)(r:e≠f)(ae:a≠e)(ai:a≠f):
  Turn P w K (.Tuple es j pos) (be K κ a S) [e,f] e (bT κ e f a) where
 mem:=by simp
 obj:=λi h d c b=>by
  simp only[TW,iC,or_false]at b
  rcases b with rfl|rfl
  .let#[o,q]:=d.e
   exact#[_,q,λv q=>by cases q]
  .exact d.i.lies
 keep:=λi h T d k=>by
  let#[o, q]:=d.e;exact#[#[o,k e (by simp) _ q],d.i.mv λo e=>k f (by simp) o e]
 item:=by
  intro X t y B b i U s Z H E I m d C;subst t y B;let#[ D,F]:=C;let#[n, p,G]:=D.at I;let#[u, hu,ru]:=p.get^On F;let#[l, g]:=d.e;have l1:=p.length;refine wpAny_pyNext_enum_itemD (SJ (κ:=κ) (A:=X.A.in1) (I.ok.hd b) f a ai n.toArray) g #[d.i,G] (by simp; lk) r (by simp[r,ae.symm]) λx T J hp a1 a2 a3 a4 a5=>#[_,rfl,?_]
  have L:x=u:=by
   have W:n[i]?=P3 x:=by simpa using hp
   rw[hu]at W;exact(iA W).symm
  subst L;refine wpAny_letOwnedTupleGo_enum a1 λY b1 M=>?_;have hT:H s.heap.objs.size=q_:=I.hok.fresh^Re _
  have N:∀c o,c∉[e,f]->s.heap.get? c=P3 o->Y.get? c=P3 o:=λc o b z=>by
   simp only[TW,iC,or_false,not_or]at b;exact M.extBut _ _ b.1^a5 c o b.1 b.2 z
  have I2:Inv X U Z (An H s.heap.objs.size^.tup [.int i,S[i]]) {s with heap:=Y,toks:=J+1}:=by
   refine I.turnLaid (t':=J+1) (ch:=[e,f]) m N (Re _) ?_;have nT:s.heap.objs.size≠e:=kR^Tk g;exact#[by show 2<=sizeLine; decide,[.int i J,x],.cons #[_,rfl]^.cons ru .nil,#[_,M.extBut _ _ nT a3,rfl,_,rfl,rfl,rfl]]
  refine#[.ref s.heap.objs.size,_,I2,rfl,#[_,_,rfl,hT,rfl,On F],#[#[_,b1],a2.1.eb M.extBut r.symm],λc b=>?_];have O:H c=q_:=(m c b).1
  have R:c≠s.heap.objs.size:=λz=>by
   obtain⟨o,ho⟩:∃o,s.heap.get? c=P3 o:=by
    simp only[TW,iC,or_false]at b
    rcases b with rfl|rfl
    .exact#[_,g]
    .let#[o,q,_]:=d.i.lies; exact#[o,q]
   rw[z]at ho;exact jN _^Tk ho
  rw[AH R]; exact O
 done:=by
  intro X t y B b i U s Z H E I m d C;subst t y B;let#[ D,F]:=C;let#[n, p,G]:=D.at I;let#[l, g]:=d.e;have l1:=p.length;refine wpAny_pyNext_enum_endD (PC (κ:=κ) (A:=X.A.in1) (I.ok.hd b) f a n.toArray i^by simp; lk) g #[d.i,G,rfl] λT N=>#[rfl,?_];refine I.turnedL (t':=s.toks) (ch:=[e,f]) m λc o b e=>?_;simp only[TW,iC,or_false,not_or]at b;exact N c o b.2 e
 self:=λA i s Q E d h=>by
  let#[l, g]:=d.e;exact wpAny_pyIter_enum g h
section

def cz(K:Frag)(te:TE):TI:=λZ H R=>te Z H λv b=>∃c a d,v=.ref a/\SqK c K b a d/\R (be K c a d) b
theorem Wm(t:Gl X "enumerate")(v:X.mg "enumerate"=q_)(w:PE X e1 te)(g:starEach [e1] X.env=[(s_,eval e1 X.env)]:=by rfl):
  PI X (.Tuple es j tpos) (.Call (.Name "enumerate" p) [e1] [] pos) (cz X.K te):=by
 intro y s Z H R I h;refine jl^Dz I t v boot_enumerate ?_;refine jf ?_ g rfl;rw[g];refine oK^thn (w y s Z H _ I h) λu b zz=>?_;let#[x,z, f,A, i,a,k, ex,B,q]:=zz;refine oj ?_;subst ex;subst A;let#[F, C,l]:=B.at f;have m:a<b.heap.objs.size:=by let#[o, e]:=l.lies; exact Tk e
 refine J0 l λG n D E=>?_;refine wpAny_pyIter_enum n ?_;refine#[b.heap.objs.size+1,[b.heap.objs.size+1,b.heap.objs.size],_,be X.K i a k,z,rfl,f.kept (t':=b.toks) E,Q7 i _ _ a k (by show(_:Nat)≠(_:Nat); lk) (iJ^kc m)^iJ m,#[#[_,n],D],λc r=>?_,q]
 have d:b.heap.objs.size<=c:=by
  simp only[TW,iC,or_false]at r
  rcases r with rfl|rfl
  .exact jT _
  .exact Re _
 exact f.fpOk d^f.hok.fresh d
end
end L2
namespace Dp
open L2
def FX:Nat->t_ D->t_ D
 |_,[]=>[]
 |k,x::r=>.tup [.int (k:Int),x]::FX (k+1) r
theorem Kq:∀(k:Nat) (a:t_ D),(FX k a).length=a.length
 |_,[]=>rfl
 |k,x::r=>by show(FX (k+1) r).length+1=r.length+1; rw[Kq (k+1) r]
theorem Kr:∀(k:Nat) (a:t_ D) (i:Nat),(FX k a)[i]?=(a[i]?).map λx=>.tup [.int ((k+i:Nat):Int),x]
 |_,[],i=>by simp[FX]
 |k,x::r,0=>rfl
 |k,x::r,i+1=>by
  show(FX (k+1) r)[i]?=(r[i]?).map _;rw[Kr (k+1) r i,show k+1+i=k+(i+1) by lk]
section
variable {K:Frag}
theorem Nd(m:Ats K M H e c)(s:qQ M H j b)(n:SqK g K b a c)(k:∀a,j a->∃o,b a=P3 o):
  (∀d,(FX 0 e)[i]?=P3 d->(be K g a c).go i b/\∀x H2,(be K g a c).yld i b x H2->zk b H2/\At K j H2 d x)/\((FX 0 e).length<=i->(be K g a c).stop i b):=by
 have z:=m.length;refine#[λd f=>?_,λt=>#[n,by rw[Kq]at t; omega]];rw[Kr,Nat.zero_add]at f;cases h:e[i]? with
 |none=>rw[h]at f; cases f
 |some u=>
  rw[h]at f;have l:D.tup [.int (i:Int),u]=d:=iA f;have A:i<e.length:=(f8.mp h).1;refine#[#[n,by omega],λx H2 y=>?_];let#[T,p, rfl,q,rfl,v]:=y;let#[B, r,w]:=(m.qq s).get h;rw[v]at r;injection r with r;subst r;subst l;exact#[Am q,EG k q #[.int (i:Int),[p],rfl,rfl,p,[],rfl,w,rfl]]
end
section

def YN(wa:DW):DR:=λn b P=>wa n b λd c=>∃a,Gr d=P3 a/\P (FX 0 a) c
theorem Xv(g:Gl X "enumerate")(k:X.mg "enumerate"=q_)(h:DE X e1 κ wa)(l:κ≠.tp:=by intro z; cases z)(m:starEach [e1] X.env=[(s_,eval e1 X.env)]:=by rfl):
  DI X (.Tuple es j tpos) (.Call (.Name "enumerate" p) [e1] [] pos) (YN wa):=by
 let#[t, o,r]:=h;refine#[_,Wm g k o m,λC M H n s Z P J R w q=>?_];refine r C M H n s Z _ _ R w λv c d u x y A p=>?_;let#[K, B,p]:=p;let#[D,a,E, rfl,F,e]:=OR (A.vY R.dom l) B;exact#[D,a,E,rfl,e M c^qQ.refl _ _,q _ c _ u x y (λi G I f b=>Nd F f (e G I f) b) p]
end
end Dp
namespace L2
open PySem.W
theorem PD:mroOf^.type "dict"=pure [.type "dict",.type "object"]:=by rw[mroOf_type]; kernel_rfl
theorem aZ:typeLookup (.type "dict") "__new__"=pure^P3^.builtin "dict.__new__":=by rw[typeLookup_type,builtinLookup_eq_fast]; kernel_rfl
theorem vP:TypeCalled "dict" "dict.__new__" "dict.__init__":=
 #[by decide +kernel,by decide +kernel,#[_,_,PD],madeBy_type PD aZ (by decide +kernel),by decide +kernel,by rw[isSubtype_type]; kernel_rfl,PySem.F.slot_dict_init]
theorem Qa(a:Ev):checkTypeCall "dict" #[[a],[]]=pure ():=by kernel_rfl
theorem Xp(a:Ev):checkBuiltinCall "dict.__new__" #[[.type "dict",a],[]]=pure ():=by kernel_rfl
theorem L0:entryFor table "dict.__new__"=P3 j9.«dict.__new__»:=entryFor_of_tree^by kernel_rfl
theorem GY:plainId "dict.__new__"=r_:=by decide +kernel
theorem Cw:entryFor table "dict.update.loop"=P3 j9.«dict.update.loop»:=entryFor_of_tree^by kernel_rfl
theorem BM:plainId "dict.update.loop"=r_:=by decide +kernel
theorem Xr:typeLookup (.type "list") "keys"=pure q_:=am_miss_of_fast^by decide +kernel
section

theorem HY(a:Ev)(h:Q₁ (.ref s.heap.objs.size) {s with heap:=s.heap.push {cls:=.type "dict",data:=.dict #[]}}):
  codeAny (model prog w) A (.call (.builtin "dict.__new__") #[[.type "dict",a],[]]) (wants Q₁ E) s:=by
 refine pO ?_;show wpAny _ A.in1 (do checkBuiltinCall "dict.__new__" #[[.type "dict",a],[]]; again^.builtin "dict.__new__" #[[.type "dict",a],[]]) _ _ s;refine Ch^pX (Xp a)^Op #[nF GY _,ky L0 ?_];rw[lF GY _];unfold j9.«dict.__new__»;have hsub:=vP.sub;have hmro:=PD;let#[hp,g,d,tk,os]:=s
 wp_walk
 exact h
theorem Xq(hx:s.heap.get? a=P3 {cls:=.type "list",dict:=q_,data:=.seq xs k,slots:=sl})(hA:A.handled=q_)
  (h:∀h' tk,(∀b o,s.heap.get? b=P3 o->h'.get? b=P3 o)->Q q_ {s with heap:=h',toks:=tk}):wpAny (model prog w) A (getAttr? (.ref a) "keys") Q E s:=by
 let#[hp,g,d,tk,os]:=s;have hT:∀tk',(#[hp,g,d,tk',os]:No).TypeIs (.ref a) "list":=λ_=>#[_,hx,rfl];have f1:=sub_AttributeError;have f3:=PySem.F.slot_list_getattribute.lookup;have f4:=PySem.F.slot_list_getattribute.bind^.ref a;have f5:=am_list_getattr_none;delta getAttr? getAttrBy? getAttrBy
 repeat (any_goals (first|assumption|exact hT _|((with_reducible show wpAny _ _ (call (Value.builtin "list.__getattribute__") _ _) _ _ _); refine nV PySem.F.slot_list_getattribute (hT _) am_entry_list_getattribute (PySem.F.args_list_getattribute_2 _ _) (meets_getattribute_miss_list a xs k sl "keys" _ Xr (by decide +kernel)^by decide +kernel) #[hx,hA,λh' tk' e hx'=>?_])|wp_step))
 let#[t',u', he]:=hx'.there;show wpAny _ _ (getattributeRaised _ _ _ _ _ _ _) _ _ _;unfold getattributeRaised
 repeat (any_goals (first|assumption|wp_step))
 exact h _ _ hx'.keeps
end
section
variable {K:Type}[DecidableEq K]
theorem stored_new{k:K}(h:k∉a.map (·.1)):stored a k v=a++[(k,v)]:=by
 unfold stored;rw[if_neg];intro z;let#[p, b,e]:=kj.mp z;exact h^Rs.mpr #[p,b,of_decide_eq_true e]
end
end L2
namespace Dp
open L2
end Dp
namespace L2
end L2
namespace Dp
open L2
section

mutual
theorem At.frz{K:Frag}{M:Db->Prop}{H:Hp}{a:Db}{f:Db->Obj}{kvs:t_ (Key×V)}(ha:H a=P3^.dK kvs):∀{d:D}{v:V},Ce d=r_->At K M H d v->At K M (Fs H [a] f) d v
 |.non,v,_,h=>h
 |.bl b,v,_,h=>h
 |.int i,v,_,h=>h
 |.str x,v,_,h=>h
 |.tup ds,v,hn,h=>by
  let#[b,vs,e,n2,hs]:=h;refine#[b,vs,e,?_,Ats.frz ha hn hs];unfold NdT at n2 ⊢;rw[ED λz=>by rw[h_.mp z,ha]at n2; cases n2];exact n2
 |.lst ds,v,hn,h=>by
  let#[b,vs,e,#[n1,n2],hs]:=h;refine#[b,vs,e,#[n1,?_],Ats.frz ha hn hs];rw[ED λz=>by rw[h_.mp z,ha]at n2; cases n2];exact n2
 |.dic _ _,v,hn,h=>by cases hn
 |.fdi _ _,v,hn,h=>by cases hn
 |.dit _ _,v,hn,h=>by cases hn
theorem Ats.frz{K:Frag}{M:Db->Prop}{H:Hp}{a:Db}{f:Db->Obj}{kvs:t_ (Key×V)}(ha:H a=P3^.dK kvs):∀{ds:t_ D}{vs:t_ V},Bx ds=r_->Ats K M H ds vs->Ats K M (Fs H [a] f) ds vs
 |[],vs,_,h=>h
 |d::ds,vs,hn,h=>by
  let#[v,r,e,h1,h2]:=h;have hn:(Ce d&&Bx ds)=r_:=hn;rw[iE]at hn;exact#[v,r,e,At.frz ha hn.1 h1,Ats.frz ha hn.2 h2]
end
end
def CM:t_^t_ Key->t_ D->t_ Key->u_ D
 |a::b,d::c,k=>if a=k then P3 d else CM b c k
 |_,_,_=>q_
def NU:t_ D->u_^t_ Key
 |[]=>P3 []
 |d::a=>match keyOf d,NU a with
  |some k,P3 b=>P3 (k::b)
  |_,_=>q_
def keysOf:D->u_^t_ Key
 |.tup a=>NU a
 |_=>q_
section
variable {K:Frag}
set_option tactic.hygienic true in
theorem IT:∀{ks:t_^t_ Key}{b:t_ D}{a:t_ V},Ats K M H b a->
  match CM ks b k with
  |some z=>∃v,CV (ks.zip a) k=P3 v/\At K M H z v
  |none=>CV (ks.zip a) k=q_
 |[],b,a,h=>by exact rfl
 |c::ks,[],a,h=>by cases h; exact rfl
 | c::ks,d::b,a,h=>by
  let#[v,r,rfl,f,g]:=h;have i:=IT (k:=k) (ks:=ks) g;unfold CM
  by_cases e:c=k
  .rw[if_pos e]
   refine#[v,?_,f];show CV ((c,v)::ks.zip r) k=P3 v;rw[D9 e]
  .have:CV ((c,v)::ks.zip r) k=CV _ k:=D_ e
   simp_all
theorem Uw(e:keyOf d=P3 k)(h:At K M H d v):v=kV k:=by
 cases d with
 |int i=>injection e with e;subst e; exact h
 |str x=>injection e with e;subst e; exact h.1
 |_=>cases e
theorem NT:∀{a:t_ D}{b:t_ V}{c:t_ Key},NU a=P3 c->Ats K M H a b->b=c.map kV
 |[],b,c,e,h=>by injection e with e;subst e; exact h
 | d::a,b,c,e,h=>by
  let#[v,r, rfl,i,j]:=h;unfold NU at e;cases f:keyOf d with
  |none=>simp_all
  | some k=>
   cases g:NU a with
   |none=>simp_all
   |some l=>
    simp only[f,g]at e;injection e with e;subst e;simp only[NT g j,Uw f i];rfl
theorem FH(e:keysOf d=P3 k)(h:AtT K U M H d v):∃b,v=.ref b/\H b=P3^.tup^k.map kV:=by
 cases d with
 |tup g=>
  let#[a,i, rfl,c,f]:=h.tup;exists a,rfl;rw[←NT e f];exact c
 |_=>cases e
theorem PJ(h:AtT K U M H (.dit c d) x):∃a b,x=.ref a/\Rd H a^.dT^c.zip b/\Ats K M H d b:=by
 let#[a,b, rfl,_,e,_,f]:=h;exact#[a,b,rfl,.inl e,f]
theorem Qd(e:Rd H a^.dT c)(eb:H b=P3^.tup^k.map kV):vK H a (.ref b)^CV c k:=.inr #[_,k,b,e,rfl,eb,rfl]
def dC(a:Bool)(e d:D)(P:D->Prop):Prop:=∃b c k,d=.dit b c/\keysOf e=P3 k/\P^.bl (if a then !(CM b c k).isSome else(CM b c k).isSome)
def VB(d e:D)(P:D->Prop):Prop:=∃a b k z,d=.dit a b/\keysOf e=P3 k/\CM a b k=P3 z/\P z
theorem Vs:FN K .sh T8^dC r_:=λU M H e d y x P Q f p g i w q=>by
 let#[ks,j,k,rfl,l,w]:=w;let#[a,r, rfl,m,n]:=PJ i;let#[b, rfl,o]:=FH l g;refine#[a,_,rfl,Qd m o,q _ H (.bl _) .refl rfl ?_];have h:=IT (k:=k) (ks:=ks) n;cases c:CM ks j k with
 |none=>simp_all
 |some z=>rw[c]at h w; let#[v, s,_]:=h; simp_all
theorem a9:FN K .sh Yg VB:=λU M H d e x y P Q c r f g w q=>by
 let#[ks,s,k,z,rfl,i,j,w]:=w;let#[a,t, rfl,l,m]:=PJ f;let#[b, rfl,n]:=FH i g;have h:=IT (k:=k) (ks:=ks) m;rw[j]at h;let#[v, o,p]:=h;exact#[a,v,rfl,by rw[←o]; exact Qd l n,q v H z .refl p w]

theorem Qg(g:qk k X.A)(h:DE X a zR wa)(i:DE X b zN wb)(j:Sg b:=by intro _ _; rfl):DE X (.Subscript a b pos) .sh^BE VB wa wb:=by
 let#[m, c,d]:=h;let#[o, e,f]:=i;exact#[_,FE (HR g) c e j,λC M H n l Z P Q R w q=>EW a9 d f C M H n l Z P Q R w q]
end
def Kk(a:t_^t_ Key)(k:t_ Key):Bool:=a.any λb=>decide (b=k)
theorem v8:Kk a k=r_↔k∈a:=by
 unfold Kk
 simp_all
def Cd(a:t_^t_ Key)(k:t_ Key):t_^t_ Key:=if Kk a k=r_ then a else a++[k]
def Cb{a:Type}(b:t_^t_ Key)(c:t_ a)(k:t_ Key)(d:a):t_ a:=if Kk b k=r_ then mh (λe f=>if e=k then d else f) b c else c++[d]
theorem Vq{d:t_ V}(j:c.length=d.length)(k:t_ Key):((c.zip d).any λf=>decide (f.1=k))=Kk c k:=by
 rw[jW,kj,v8];constructor
 .rintro⟨⟨a,b⟩,g,e⟩
  have e:=of_decide_eq_true e;simp only[←e];exact(lX g).1
 .intro h
  let#[i,l,e]:=mL.mp h;exact#[(c[i],d[i]'(by lk)),mL.mpr #[i,by grind,by simp],by simp_all]
theorem RN(f:c.length=d.length)(k:t_ Key)(v:V):putK (c.zip d) k v=(Cd c k).zip^Cb c d k v:=by
 delta putK Cd Cb;rw[Vq f]
 by_cases h:Kk c k=r_
 .have l:∀(c:t_ _) (d:t_ V),((c.zip d).map λe=>if e.1=k then(e.1,v)else e)=c.zip^mh (λg i=>if g=k then v else i) c d:=by
   intro c
   induction c with
   |nil=>intro d; rfl
   | cons a c j=>
    intro d;cases d with
    |nil=>rfl
    |cons b d=>
     show(if a=k then(a,v)else(a,b))::_=(a,if a=k then v else b)::_;exact List.cons_eq_cons.mpr #[by split <;>rfl,j d]
  simp_all
 .rw[if_neg h,if_neg h,if_neg h,List.zip_append f]
  rfl
theorem Ats.putU{K:Frag}(hd:At K M H d v):∀{c:t_^t_ Key}{f:t_ D}{b:t_ V},Ats K M H f b->Ats K M H (mh (λg i=>if g=k then d else i) c f)^mh (λg i=>if g=k then v else i) c b
 |[],f,b,h=>rfl
 |a::c,[],b,h=>by cases(h); rfl
 |a::c,e::f,b,h=>by
  let#[u,r, rfl,l,j]:=h;refine#[_,_,rfl,?_,Ats.putU hd j]
  grind
theorem Ats.putXU{K:Frag}(hd:At K M H d v)(h:Ats K M H b c):Ats K M H (Cb a b k d)^Cb a c k v:=by
 unfold Cb
 split
 .exact Ats.putU hd h
 .exact h.append^Ats.one hd
theorem Mq(e:a.length=c.length):(Cd a k).length=(Cb a c k d).length:=by
 delta Cd Cb
 grind
theorem IS:∀{b:t_^t_ Key}{c:t_ D}{k:t_ Key},k∉b->CM b c k=q_
 |[],c,k,_=>by rfl
 |a::b,[],k,_=>rfl
 |a::b,d::c,k,h=>by
  unfold CM;rw[if_neg λe=>h^by simp_all];exact IS λz=>h^TM _ z
theorem Fb:∀{b:t_^t_ Key}{c:t_ D}{k:t_ Key},b.length=c.length->k∈b->∃z,CM b c k=P3 z
 |[],c,k,_,h=>by cases h
 |a::b,[],k,h,_=>by cases h
 | a::b,d::c,k,f,h=>by
  unfold CM
  by_cases e:a=k
  .simp_all
  .rw[if_neg e]
   exact Fb (by simp_all)^(TW.mp h).resolve_left λz=>e z.symm
section

def ZO:DW:=λn _ P=>P (.dit [] []) n
theorem Va:DE X (.Dict [] [] pos) .fr ZO:=by
 refine#[_,US,λC M H n d Z P Q R w q=>λp c=>?_];have g:zk H^An H p^.dT []:=Am c;exact q _ _ (.dit [] []) n g.ext (R.feed.grow g) #[p,rfl,c,[],AQ,rfl,rfl] w
def bi(i:Nat)(h j:DW):Ab:=λl n e=>∃f g,e[i]?=P3^.ow^.dit f g/\j n e λd m=>h m e λk o=>∃c,keysOf k=P3 c/\f.length<sizeLine/\l.nx o^e.set i^.ow^.dit (Cd f c)^Cb f g c d
theorem Xk(O:qk k X.A)(hx:PE X x^BN i)(P:DE X a zR wa)(Q:DE X b zN wb)(S:zN≠.tp:=by intro z; cases z)
  (T:swapsWith b (P3^.Subscript x a pos') pos.line X.env=pure s_:=by rfl):DS X κ (.Assign [.Subscript x a pos'] b pos)^bi i wa wb:=by
 let#[t, U,V]:=P;let#[u, W,Y]:=Q;refine#[_,GD (HR O) hx U W T,λC M H n D Z D2 E R L w=>?_];let#[l,ds, o,w]:=w;refine Y C M H n D Z _ _ R w λv H1 d n1 e1 f1 r1 p=>?_;have f:=R.step e1 f1;let#[F, q,m,nv,tt]:=f.sl i _ o;exists .ref F,getD_some q;refine V C M H1 n1 D Z _ _ f p λy H2 kk n2 G f2 r2 p=>?_;let#[c, g,a0,p]:=p;have R2:=f.step G f2;let#[a1, h,m',a2,r]:=R2.sl i _ o;rw[q]at h;cases h;let#[I, J,N,j]:=r;have s:At X.K M H2 d v:=(r1.vY R.dom S).qq^f.qq G;have B:l.length=I.length:=by simp only[N,j.length]
 let#[b, rfl,eb]:=FH g^r2.vT f.dom f.vM;refine#[F,_,rfl,v3.t J eb (by rw[kz]; lk),L.nx M _ n2 _ Z (R2.mut (e:=.dit (Cd l c)^Cb l ds c d) o q #[Cb l I c v,by rw[AQ,RN B],Mq N,(j.putXU s).qq^FG m' J]) p]
end
end Dp
namespace L2
open PySem.W
abbrev D6(h:iG)(z TI TO:Db)(a:Ev)(b:Bool):Prop:=h.get? z=P3 {cls:=.type "zip",dict:=q_,data:=.fields #[ a,.bool b,.bool s_,.ref TI,.ref TO],slots:=#[]}
theorem Hs:typeLookup (.type "zip") "__getattr__"=pure q_:=by rw[typeLookup_type,builtinLookup_eq_fast]; kernel_rfl
theorem Ee:entryFor table "zip.__getattribute__"=P3 j9.«object.__getattribute__»:=
 entryFor_alias (id':="object.__getattribute__") (by kernel_rfl) (by decide +kernel) (by decide +kernel) (by kernel_rfl)
theorem Xc:typeLookup (.type "zip") "keys"=pure q_:=am_miss_of_fast^by decide +kernel
theorem VM(a:Db)(xs:Array Ev)(name:Str)(u:Tok)(hmiss:typeLookup (.type "zip") name=pure q_)(hname:(["__module__","__name__","__qualname__","__doc__","__annotations__"]:t_ Str).contains name=s_)(hsz:name.length+100<=sizeLine:=by size_fits):
  Meets (j9.«object.__getattribute__» #[[.ref a,.str name u],[]]) (λA R s=>s.heap.get? a=P3 {cls:=.type "zip",dict:=q_,data:=.fields xs,slots:=#[]}/\raisesAttr (.ref a) name A R s):=
 Meets.of_wp λprog w A R s hs=>by
  let#[hp,g,d,tk,os]:=s;let#[ hx,hs]:=hs;have hT:(#[hp,g,d,tk,os]:No).TypeIs (.ref a) "zip":=#[_,hx,rfl];unfold j9.«object.__getattribute__»
  repeat (any_goals (first|assumption|wp_step))
  simp only[hname,jR,if_false]
  repeat (any_goals (first|assumption|wp_step))
  exact wpAny_raiseAttrError hs.1 hs.2^attrMsg_fits (by decide +kernel) hsz
section

theorem Xb(hx:s.heap.get? a=P3 {cls:=.type "zip",dict:=q_,data:=.fields xs,slots:=#[]})(hA:A.handled=q_)
  (h:∀h' tk,(∀b o,s.heap.get? b=P3 o->h'.get? b=P3 o)->Q q_ {s with heap:=h',toks:=tk}):wpAny (model prog w) A (getAttr? (.ref a) "keys") Q E s:=by
 let#[hp,g,d,tk,os]:=s;have hT:∀tk',(#[hp,g,d,tk',os]:No).TypeIs (.ref a) "zip":=λ_=>#[_,hx,rfl];have f1:=sub_AttributeError;have f3:=PySem.F.slot_zip_getattribute.lookup;have f4:=PySem.F.slot_zip_getattribute.bind^.ref a;have f5:=Hs;delta getAttr? getAttrBy? getAttrBy
 repeat (any_goals (first|assumption|exact hT _|((with_reducible show wpAny _ _ (call (Value.builtin "zip.__getattribute__") _ _) _ _ _); refine nV PySem.F.slot_zip_getattribute (hT _) Ee (PySem.F.args_zip_getattribute_2 _ _) (VM a xs "keys" _ Xc (by decide +kernel)^by decide +kernel) #[hx,hA,λh' tk' e hx'=>?_])|wp_step))
 let#[t',u', he]:=hx'.there;show wpAny _ _ (getattributeRaised _ _ _ _ _ _ _) _ _ _;unfold getattributeRaised
 repeat (any_goals (first|assumption|wp_step))
 exact h _ _ hx'.keeps
theorem VN(b:s.heap.get? a=P3 o)(h:Q (P3 o) s):wpAny (model prog w) A (loadIfAlive a) Q E s:=by
 have c:Q (s.heap.get? a) s:=by rw[b]; exact h
 exact λ_ _ _=>c
theorem QW{z TI TO a:Db}(f:D6 s.heap z TI TO (rawInt (a:Nat)) b)(i:s.heap.get? a=P3 o)
  (h:∀g,D6 g z TI TO (rawInt (a:Nat)) r_->kQ z s.heap g->Q s_ {s with heap:=g}):wpAny (model prog w) A (iw^.ref z) Q E s:=by
 unfold iw;refine Ch (io f rfl (x:=rawInt a) rfl ?_);show wpAny _ _ (loadIfAlive^(a:Int).toNat >>=_) _ _ _;rw[jg];refine Ch^VN i ?_;simp only[Option.isNone_some,jR,if_false];refine Ch (io f rfl (x:=.bool b) rfl ?_);cases b with
 |true=>
  rw[if_neg (show ¬((lV r_ !=lV r_)=r_)from iI)];exact Op^h _ f^Heap.SameBut.refl _ _
 |false=>
  rw[if_pos (show(lV s_ !=lV r_)=r_ from rfl)];refine Ch^kL f (by simp) λe c d=>?_;exact Op^h e c d
theorem Xd{z TI TO i j n p a:Db}{Q:Ev->No->Prop}(D:Sl z TI TO i j n p)
  (u:D6 s.heap z TI TO (rawInt (a:Nat)) b) (M:s.heap.get? a=P3 o) (B:jS s.heap TI (.ref i)^.ref j) (N:qy r s.heap i n k) (O:qy t s.heap j p k) (C:qw r s.heap n xs) (F:qw t s.heap p L) (hx:xs[k]?=P3 x) (P:L[k]?=P3 y)
  (R:∀l,D6 l z TI TO (rawInt (a:Nat)) r_->qy r l i n (k+1)->qy t l j p (k+1)->jS l s.heap.objs.size x y->(∀c o,c≠z->c≠i->c≠j->s.heap.get? c=P3 o->l.get? c=P3 o)->Q (.ref s.heap.objs.size) {s with heap:=l}):
  wpAny (model prog w) A (j9.«zip.__next__» #[[.ref z],[]]) (λh S=>∃v,h=.done^.ret v/\Q v S) E s:=by
 show wpAny (model prog w) A (field (.ref z) 2 >>=_) _ _ _; refine Ch (io u rfl (x:=.bool s_) rfl ?_)
 show wpAny (model prog w) A (field (.ref z) 3 >>=_) _ _ _; refine Ch (io u rfl (x:=.ref TI) rfl ?_); refine Ch (jr B rfl ?_)
 show wpAny (model prog w) A (iw^.ref z >>=_) _ _ _;refine Ch^QW u M λM G d=>?_;simp only[jR,if_false];refine Ch ?_;simp only[oQ,kx,n_];refine Ch^Ch^i6 ?_; show wpAny (model prog w) _ (jE^.ref i >>=_) _ _ _
 refine Ch^DC (N.eb d.extBut D.i1z) (C.eb d.extBut D.l1z) hx λX H f=>Op ?_;refine Op ?_;refine Ch^Ch^i6 ?_; show wpAny (model prog w) _ (jE^.ref j >>=_) _ _ _
 refine Ch^DC ((O.eb d.extBut D.i2z).eb f.extBut D.i12.symm) ((F.eb d.extBut D.l2z).eb f.extBut D.l2i1) P λq I g=>Op ?_;refine Op^Op ?_;refine Ch (oA ?_^by show 2<=sizeLine; decide);have m:q.objs.size=s.heap.objs.size:=by simp only[g.1,f.1,d.1]
 have J:D6 q z TI TO (rawInt (a:Nat)) r_:=g.extBut _ _ D.i2z.symm^f.extBut _ _ D.i1z.symm G
 have T:jS (q.push {cls:=.type "tuple",data:=.seq #[ x,y]}) s.heap.objs.size x y:=by
  show Heap.get? _ _=_;rw[←m];exact Uf _ rfl
 have h:=R _ (Go _ J) ((H.eb g.extBut D.i12).mv λo e=>Go _ e) (I.mv λo e=>Go _ e) T λc o U V W e=>Go _^g.extBut _ _ W^f.extBut _ _ V^d.extBut _ _ U e;refine Op #[_,rfl,?_];show Q (.ref q.objs.size) _;rw[m];exact h
theorem aS{n zX:Bool}{z TI TO f p g t a:Db}{q ys:Array Ev}(u:A.handled=q_)(D:Sl z TI TO f p g t)
  (h:D6 s.heap z TI TO (rawInt (a:Nat)) b) (r:s.heap.get? a=P3 o) (i:jS s.heap TI (.ref f)^.ref p) (v:qy n s.heap f g k) (j:qw n s.heap g q) (hx:q[k]?=q_)
  (y:∀l e,(∀c o,c≠z->c≠f->s.heap.get? c=P3 o->l.get? c=P3 o)->(∃o,l.get? e=P3 o/\o.cls=.type "StopIteration")->E (.ref e) {s with heap:=l}):
  wpAny (model prog w) A (j9.«zip.__next__» #[[.ref z],[]]) Q E s:=by
 show wpAny (model prog w) A (field (.ref z) 2 >>=_) _ _ _; refine Ch (io h rfl (x:=.bool s_) rfl ?_)
 show wpAny (model prog w) A (field (.ref z) 3 >>=_) _ _ _; refine Ch (io h rfl (x:=.ref TI) rfl ?_); refine Ch (jr i rfl ?_)
 show wpAny (model prog w) A (iw^.ref z >>=_) _ _ _;refine Ch^QW h r λr B d=>?_;simp only[jR,if_false];refine Ch ?_;simp only[oQ,kx,n_];refine Ch^Ch^i6 ?_; show wpAny (model prog w) _ (jE^.ref f >>=_) _ _ _
 refine Ch^E5 u (v.eb d.extBut D.i1z) (j.eb d.extBut D.l1z) hx λC e m F=>?_;exact y C e (λc o G H x=>m _ _ H^d.extBut _ _ G x) F
theorem Ly{z TI TO e f g h a:Db}(D:Sl z TI TO e f g h)
  (r:D6 s.heap z TI TO (rawInt (a:Nat)) b) (u:s.heap.get? a=P3 o) (l:jS s.heap TI (.ref e)^.ref f) (v:qy i s.heap e g k) (B:qy j s.heap f h k) (m:qw i s.heap g p) (n:qw j s.heap h q) (hx:p[k]?=P3 x) (C:q[k]?=P3 y)
  (F:∀d,D6 d z TI TO (rawInt (a:Nat)) r_->qy i d e g (k+1)->qy j d f h (k+1)->jS d s.heap.objs.size x y->(∀c o,c≠z->c≠e->c≠f->s.heap.get? c=P3 o->d.get? c=P3 o)->Q (P3^.ref s.heap.objs.size) {s with heap:=d}):
  wpAny (model prog w) A (pyNext^.ref z) Q E s:=by
 have t:s.TypeIs (.ref z) "zip":=#[_,r,rfl];unfold pyNext
 exact Ch (lT (jC (name:=jX "__next__") t kW (jY kW t nG
  (Xd D r u l v B m n hx C λd G H I J K=>Op^F d G H I J K) (m8 _))))
theorem Nf{z TI TO f m g r a:Db}(t:A.handled=q_)(D:Sl z TI TO f m g r)
  (p:D6 s.heap z TI TO (rawInt (a:Nat)) b) (u:s.heap.get? a=P3 o) (h:jS s.heap TI (.ref f)^.ref m) (v:qy l s.heap f g k) (i:qw l s.heap g n) (hx:n[k]?=q_)
  (x:∀j,(∀c o,c≠z->c≠f->s.heap.get? c=P3 o->j.get? c=P3 o)->Q q_ {s with heap:=j}):wpAny (model prog w) A (pyNext^.ref z) Q E s:=by
 have q:s.TypeIs (.ref z) "zip":=#[_,p,rfl];unfold pyNext;refine Ch^lT^jC (name:=jX "__next__") q kW^jY kW q nG (aS (zX:=r_) (ys:=#[]) t D p u h v i hx λj e y B=>?_)^m8 _;let#[o, C,F]:=B;exact Ch^pD (T:="StopIteration") (b:=r_) #[o,C,F] isSubtype_stop^Op^x _ y
end
structure PrW (prog:iP) (w:iZ) (A:ik) (I d:Db) (n:Nat) (base:iG) (key:Nat->Db) (val:Nat->Ev) (ch:Db->Prop) (St:Nat->iG->Prop):Prop where
 new:∀b,ch b->base.get? b=q_
 item:∀(i:Nat) (s:No) (Q:Option Ev->No->Prop) (E:Ev->No->Prop),i<n->St i s.heap->(∀b o,base.get? b=P3 o->s.heap.get? b=P3 o)->(∃o,s.heap.get? d=P3 o)->
  (∀h' tk a o c,h'.get? a=P3 o->o.cls=.type "tuple"->o.data=.seq #[ .ref^key i,val i] c->St (i+1) h'->(∀b o,¬ch b->s.heap.get? b=P3 o->h'.get? b=P3 o)->Q (P3^.ref a) {s with heap:=h',toks:=tk})->wpAny (model prog w) A (pyNext^.ref I) Q E s
 done:∀(s:No) (Q:Option Ev->No->Prop) (E:Ev->No->Prop),St n s.heap->(∀b o,base.get? b=P3 o->s.heap.get? b=P3 o)->(∀h' tk,(∀b o,¬ch b->s.heap.get? b=P3 o->h'.get? b=P3 o)->Q q_ {s with heap:=h',toks:=tk})->wpAny (model prog w) A (pyNext^.ref I) Q E s
 frame:∀i h h',St i h->kQ d h h'->St i h'
 dch:¬ch d
section
variable {St:Nat->Heap->Prop}
theorem Gm(x:(tupleKind^Al prog w).is h f a)(k:∀b o,h.get? b=P3 o->e.get? b=P3 o):(tupleKind^Al prog w).is e f a:=by
 let#[o,c,n, g,r]:=x;exact#[o,c,n,k _ _ g,r]
theorem JU{h a:iG}(x:h.DictOfH (tupleKind^Al prog w) d b)(k:∀o,h.get? d=P3 o->a.get? d=P3 o)(c:∀y∈b,(tupleKind^Al prog w).is a y.1 y.2.1):a.DictOfH (tupleKind^Al prog w) d b:=by
 let#[o,e,f, g,i,j,l,_,m]:=x;exact#[o,e,f,k _ g,i,j,l,c,m]
theorem VI(W:PrW prog w A.in1 I d n base key val ch St)(X:A.units+1<cLine)(xs:t_ (t_ Key×Db×Ev))(Q:xs.length=n)(nd:(xs.map (·.1)).Nodup)(hsz:n<=sizeLine)(G:base.get? d=q_)
  (H:∀(i:Nat) y,xs[i]?=P3 y->y.2.1=key i/\y.2.2=val i) (g:∀y∈xs,(tupleKind^Al prog w).is base y.1 y.2.1):
  ∀(k i:Nat) (s:No),n - i=k->i<=n->St i s.heap->(∀b o,base.get? b=P3 o->s.heap.get? b=P3 o)->s.heap.DictOfH (tupleKind^Al prog w) d^xs.take i->
   (∀l F,l.DictOfH (tupleKind^Al prog w) d xs->(∀b o,base.get? b=P3 o->l.get? b=P3 o)->R (.ok^.ret .none) {s with heap:=l,toks:=F})->
   codeAny (model prog w) A (.builtin "dict.update.loop" #[[.ref d,.ref I,rawInt (i:Int),.none],[]]) R s:=by
 have v:∀{h l:iG},(∀b o,base.get? b=P3 o->h.get? b=P3 o)->(∀b o,¬ch b->h.get? b=P3 o->l.get? b=P3 o)->∀b o,base.get? b=P3 o->l.get? b=P3 o:=λY Z b o e=>Z b o (λz=>by rw[W.new b z]at e; cases e)^Y b o e;intro k
 induction k with
 |zero=>
  intro i s hk hi r f x J;have K:i=n:=by lk
  subst K;refine ky Cw ?_;rw[lF BM _];show wpAny _ A.in1 (pyNext^.ref I >>=_) _ _ s;refine Ch^W.done s _ _ r f λl F j=>?_;show wpAny _ A.in1 (pF d [] >>=λ_=>ret ie) _ _ _;have u:=v f j;rw[kG^by lk]at x;exact Ch^Op^Op^J l F (JU x (λo e=>j d o W.dch e) λy B=>Gm (g y B) u) u
 | succ k ih=>
  intro i s hk hi r f x J;have C:i<n:=by lk
  refine ky Cw ?_;rw[lF BM _];show wpAny _ A.in1 (pyNext^.ref I >>=_) _ _ s;refine Ch^W.item i s _ _ C r f (by let#[o,_,_, h,_]:=x; exact#[o,h]) λl F a o c S hc hd D j=>?_;have E:xs[i]?=P3 (xs[i]'(by lk)):=On (by lk);have m:xs[i]'(by lk)∈xs:=jB _;generalize xs[i]'(by lk)=p at E m;let#[ U,k2]:=H i p E;have u:=v f j;have L:=JU x (λo e=>j d o W.dch e) λy B=>Gm (g y^lG B) u;show wpAny _ A.in1 (holding [iF a] _ >>=_) _ _ _;refine Ch^i6 ?_;show wpAny _ A.in1 (tryCatch (ln^.ref a) _ >>=_) _ _ _;refine Ch^wpAny_tryCatch ?_;unfold ln;refine Ch^ko (T:="tuple") #[o,S,hc] ?_;show wpAny _ A.in1 (seqItems?^.ref a >>=_) _ _ _;refine Ch^jr S hd^Op ?_;show wpAny _ A.in1 (holding [iF^key i,val i]^dictSet d (.ref^key i)^val i) _ _ _;refine i6^wpAny_dictSet_heap (knd:=tupleKind^Al prog w) (k:=p.1) (xs:=xs.take i) (hsz:=by rw[jo]; lk) (mZ X) (by simp only[←U]; exact Gm (g p m) u) L λa0 q V=>?_
  have M:p.1∉(xs.take i).map (·.1):=λz=>by
   have e:xs.map (·.1)=(xs.take i).map (·.1)++p.1::(xs.drop (i+1)).map (·.1):=by
    have:=j7 i xs
    rw[jL (by lk:i<xs.length)]at this;rw[On (by lk:i<xs.length)]at E;injection E with E;subst E
    conv=>lhs; rw[←this]
    simp only[ij,iQ]
   rw[e,jh]at nd;exact nd.2.2 p.1 z p.1 Sc rfl
  have e2:xs.take (i+1)=xs.take i++[p]:=by rw[oy,E]; rfl
  have e3:storedH (xs.take i) p.1 (key i)^val i=xs.take (i+1):=by
   rw[storedH_new,e2]
   .have:p=(p.1,key i,val i):=by simp only[←U,←k2]
    rw[←this]
   .unfold atKey
    rw[oS.mpr λy B z=>M^by simp only[←of_decide_eq_true z]; exact Rs.mpr #[y,B,rfl]]; rfl
  simp only[e3]at q;refine Op #[nF BM _,?_];have N:((i:Int)+1)=((i+1:Nat):Int):=by lk
  rw[N];refine ih (i+1) _ (by lk) C (W.frame _ _ _ D V) (λb o e=>?_) q λh3 O P t=>J h3 O P t;exact(V.2 b λz=>by rw[z,G]at e; cases e).trans^u b o e
theorem PrW.of(W:Walks prog w A I u wr n P St)(hd:d∉u)(x:∀b∈wr,base.get? b=q_)(m:∀i v,P i v->∃a o c,v=.ref a/\base.get? a=P3 o/\o.cls=.type "tuple"/\o.data=.seq #[ .ref^key i,val i] c):PrW prog w A I d n base key val (λb=>b∈wr) St where
 new:=x
 item:=λi s Q E y g f _ h=>W.item i s Q E y g λv k p B q l=>by
  let#[a,o,c, rfl,r,C,j]:=m i v B;exact h k p a o c (l a o (λz=>by rw[x a z]at r; cases r)^f a o r) C j q λb o t e=>l b o t e
 done:=λs Q E g f h=>W.done s Q E g λk p l=>h k p λb o t e=>l b o t e
 frame:=λi h k g D=>W.frame _ _ _ g λb F o e=>(D.2 b λz=>hd^by rw[←z]; exact F).trans e
 dch:=λz=>hd^W.sub _ z
def ZS(f g:Bool)(z TI TO c e j k d:Db)(i:Nat)(h:iG):Prop:=jS h TI (.ref c)^.ref e/\qy f h c j i/\qy g h e k i/\((lD h z TI TO .none/\∃a b,jS h TO a b)\/∃(a:Nat) (b:Bool) (o:Obj),D6 h z TI TO (rawInt (a:Nat)) b/\h.get? a=P3 o/\a≠z/\a≠TO/\a≠c/\a≠e/\a≠d)
end
section

theorem SK{h:iG}(hd:h.get? d=P3 {cls:=.type "dict",data:=.dict #[]}):h.DictOfH (tupleKind^Al prog w) d ([]:t_ (t_ Key×Db×Ev)):=#[_,_,0,hd,#[rfl,rfl,rfl],rfl,rfl,(λx a=>by cases a),jI]
theorem Xs{key:Nat->Db}{val:Nat->Ev}(V:A.handled=q_)(hu:A.units+8<cLine)(W:s.heap.get? l=P3 {cls:=.type "list",dict:=q_,data:=.seq g c,slots:=U})(X:g.size=n)
  (J:∀(i:Nat) (v:Ev),g[i]?=P3 v->∃a o c,v=.ref a/\s.heap.get? a=P3 o/\o.cls=.type "tuple"/\o.data=.seq #[ .ref^key i,val i] c)
  (u:t_ (t_ Key×Db×Ev)) (x:u.length=n) (nd:(u.map (·.1)).Nodup) (K:n<=sizeLine) (L:∀(i:Nat) y,u[i]?=P3 y->y.2.1=key i/\y.2.2=val i) (B:∀y∈u,(tupleKind^Al prog w).is s.heap y.1 y.2.1)
  (h:∀C M,C.DictOfH (tupleKind^Al prog w) s.heap.objs.size u->(∀b o,s.heap.get? b=P3 o->C.get? b=P3 o)->Q (.ref s.heap.objs.size) {s with heap:=C,toks:=M}):
  wpAny (model prog w) A (call (.type "dict") [.ref l]) Q E s:=by
 refine callType_codes (Q₁:=λD p=>D=.ref s.heap.objs.size/\p={s with heap:=s.heap.push {cls:=.type "dict",data:=.dict #[]}}) vP (Qa _) PySem.F.entry_dict_init (HY _ #[rfl,rfl]) ?_;rintro D p ⟨rfl,rfl⟩;have j:(s.heap.push {cls:=.type "dict",data:=.dict #[]}).get? s.heap.objs.size=P3 {cls:=.type "dict",data:=.dict #[]}:=Uf _ rfl;have r:(s.heap.push {cls:=.type "dict",data:=.dict #[]}).get? l=P3 {cls:=.type "list",dict:=q_,data:=.seq g c,slots:=U}:=Go _ W;have t:l<s.heap.objs.size:=Tk W
 have d:∀b,s.heap.objs.size<=b->s.heap.get? b=q_:=λb N=>by
  cases e:s.heap.get? b with
  |none=>rfl
  |some o=>exact absurd (ic (Tk e) N)^jN _
 exists#[_,j,rfl],PySem.F.args_dict_init_2 _ _;unfold j9.«dict.__init__»;refine Ch ?_;unfold pG;refine Ch^nQ #[_,j,rfl] ?_;show wpAny _ _ (pure (s.heap.objs.size,[iF l])) _ _ _;refine Op ?_;show wpAny _ _ (lQ "dict.__init__" s.heap.objs.size (.ref l) [] .none) _ _ _;unfold lQ;refine Ch^ko (T:="list") #[_,r,rfl] ?_;rw[if_pos^by cbv];have G:A.in1.in1.handled=q_:=by simp[V]
 have Y:A.in1.handled=q_:=by simp[V]
 refine Ch^Xq r G λf O k=>?_;show wpAny _ _ (rule _ >>=_) _ _ _;refine Ch^mG ?_;have Z:∀b o,s.heap.get? b=P3 o->f.get? b=P3 o:=λb o e=>k b o^Go _ e;have H:f.IsList l g:=#[_,k l _ r,rfl,c,rfl];refine Ch^jv (s:={s with heap:=f,toks:=O}) H ?_;have m:s.heap.objs.size<f.objs.size:=Tk^k _ _ j;have I:l≠f.objs.size:=λz=>jN _^mY m^by rw[←z]; exact t
 have P:s.heap.objs.size∉[f.objs.size,l]:=λR=>by
  rcases TW.mp R with z|R
  .rw[←z]at m; exact jN _ m
  .rw[←h_.mp R]at t; exact jN _ t
 refine Op #[nF BM _,?_];subst X;refine VI (A:=A.in1) (PrW.of (base:=s.heap) (key:=key) (val:=val) (Walks.list (A:=A.in1.in1) G f.objs.size l I g) P (λb N=>d b^by simp only[h_.mp N]; exact l9 m) J) (by simp; lk) u x nd K (d _^Re _) L B _ 0 _ (mi _) (XV _) #[#[_,Uf _ rfl,rfl,rfl],H.push _] (λb o e=>Go _^Z b o e) (by simp only[List.take_zero]; exact SK^Go _^k _ _ j) λC M hD S=>?_;exact#[rfl,h C M hD S]
theorem ML{H:Hp}:∀{b:t_^t_ Key}{c:t_ Db}{e:t_ V}{f:t_ Ev},c.length=b.length->qz e f->(∀(i:Nat) x k,c[i]?=P3 x->b[i]?=P3 k->H x=P3^.tup^k.map kV)->
  Paired (fun(p:t_ Key×V) (q:t_ Key×Db×Ev)=>p.1=q.1/\H q.2.1=P3^.tup^p.1.map kV/\RelV p.2 q.2.2) (b.zip e) (b.zip^c.zip f)
 |[],_,_,_,_,_,_=>.nil
 |k::b,[],_,_,d,_,_=>by cases d
 |k::b,a::c,[],[],d,r,g=>.nil
 |k::b,a::c,w::e,u::f,d,r,g=>by
  cases r with
  |cons h j=>exact .cons #[rfl,g 0 a k rfl rfl,h]^ML (mj d) j λi x k l m=>g (i+1) x k l m
end
section

theorem Xg{a:t_^t_ Key}{d:t_ Db}(I:Inv X f Z H s)(h:s.heap.objs.size<=l)(m:(l==sysModules)=s_)(n:∀b o,s.heap.get? b=P3 o->c.get? b=P3 o)(p:d.length=a.length)(F:e.length=a.length)(G:a.length<=sizeLine)(r:qz e g)(q:∀(i:Nat) x k,d[i]?=P3 x->a[i]?=P3 k->H x=P3^.tup^k.map kV)
  (t:c.DictOfH (tupleKind^Al X.prog X.w) l^a.zip^d.zip g):Inv X f Z (An H l^.dT^a.zip e) {s with heap:=c,toks:=j}:=by
 let#[o,u,v, y,z,A,B,_,C]:=t;refine I.laid n h #[by simp_all,m,_,ML p r λi x k D E=>?_,o,u,v,y,z,A,B,C]
 have:=q i x k D E
 rw[AH^Af this^I.hok.fresh h];exact this
theorem Sr{d e f:Type}{a:t_ d}{b:t_ e}{c:t_ f}(g:b.length=a.length)(h:c.length=a.length):(a.zip^b.zip c).map (·.1)=a:=by
 rw[pH]
 simp_all
theorem WG{a:t_^t_ Key}{b:t_ Db}{i:Nat}{y:t_ Key×Db×Ev}(e:(a.zip^b.zip c)[i]?=P3 y):a[i]?=P3 y.1/\b[i]?=P3 y.2.1/\c[i]?=P3 y.2.2:=by
 rw[mU,mU]at e;omega
def T9(K:Frag):t_ V->Hp->VK->Prop:=λf H Q=>∃(p:Db) (c d:t_ Db) (e:t_ V) (b:t_^t_ Key),f=[.ref p]/\SqL K H p^c.map V.ref/\c.length=b.length/\d.length=b.length/\e.length=b.length/\(∀(i:Nat) q a v,c[i]?=P3 q->d[i]?=P3 a->e[i]?=P3 v->H q=P3^.tup [.ref a,v])/\(∀(i:Nat) x k,d[i]?=P3 x->b[i]?=P3 k->H x=P3^.tup^k.map kV)/\b.Nodup/\∀l,H l=q_->Q (.ref l)^An H l^.dT^b.zip e
theorem Ir(ok:HOk P w H h):∀{qs as:t_ Db}{ws:t_ V},qs.length=as.length->ws.length=as.length->(∀(i:Nat) q a v,qs[i]?=P3 q->as[i]?=P3 a->ws[i]?=P3 v->H q=P3^.tup [.ref a,v])->
  ∃f:t_ Ev,qz ws f/\∀(i:Nat) q,qs[i]?=P3 q->∃o c,h.get? q=P3 o/\o.cls=.type "tuple"/\o.data=.seq #[ .ref^as.getD i 0,f.getD i .none] c
 |[],[],[],_,_,_=>#[[],.nil,λi q e=>by simp at e]
 | q::qs,a::as,v::ws,b,d,g=>by
  let#[f, r,m]:=Ir ok (qs:=qs) (as:=as) (ws:=ws) (mj b) (mj d) λi q a v j k l=>g (i+1) q a v j k l;let#[ _, s, t, o, j,k, n, l,_]:=(show qU P w H h q^.tup [.ref a,v] from ok q _ (g 0 q a v rfl rfl rfl));cases t with
  | @cons _ u _ C x y=>
   cases y with
   |@cons _ z _ D A B=>
    cases B;cases(show u=iF a from x);refine#[z::f,.cons A r,λi p e=>?_];cases i with
    |zero=>simp_all
    |succ i=>exact m i p e
 |[],[],_::_,_,d,_=>by cases d
 |[],_::_,_,b,_,_=>by cases b
 |_::_,[],_,b,_,_=>by cases b
 |_::_,_::_,[],_,d,_=>by cases d
theorem PP(M:X.calm=r_)(O:qk N X.A):B5 X (.type "dict")^T9 X.K:=by
 intro zH s Z H xs k Q I r h;let#[p,d,z,ws,a,rfl,P,R,f,B,S,C,T,q]:=h;let#[u, rfl,U]:=vals1 r;subst U;let#[l, D,#[#[V,dt,E,sl],n, m,g,t,F],W]:=I.list P;simp only at g t F;subst g t F;have b:=D.length;rw[FM]at b W;let#[k, G,Y]:=Ir I.hok (R.trans f.symm) (B.trans f.symm) S;have lu:=G.length;have a0:=O.un;refine Xs (n:=a.length) (key:=λi=>z.getD i 0) (val:=λi=>k.getD i .none) (I.ok.hd M) (by lk) m (by rw[iK]; lk) (λi v e=>?_) (a.zip^z.zip k) (by rw[kz,kz]; lk) (by rw[Sr f^by lk]; exact T) (by lk) (λi y e=>?_) (λy hy=>?_) λh2 tk hD w=>?_
 .have J:l[i]?=P3 v:=by simpa using e
  have j:i<d.length:=by simp only[b]; exact(f8.mp J).1
  let#[u, L,g2]:=D.get (i:=i) (x:=.ref d[i]) (by simp only[T0,On j]; rfl);rw[J]at L;injection L with L;subst L;let#[o,c, a1,a2,a3]:=Y i d[i] (On j);exact#[d[i],o,c,g2,a1,a2,a3]
 .grind
 .let#[i,j]:=jz.mp hy
  let#[ m,g,t]:=WG j;exact JG I.hok^C i _ _ g m
 .exact#[.ref s.heap.objs.size,_,Xg I (Re _) (beq_eq_false_iff_ne.mpr^iz^iJ I.big) w f B (by lk) G C hD,rfl,q _^I.hok.fresh^Re _]
end
end L2
namespace Dp
open L2
section
variable {K:Frag}
theorem Rw(e:keysOf d=P3 k)(h:At K M H d v):∃b,v=.ref b/\H b=P3^.tup^k.map kV:=FH (U:=λ_=>False) e^h.tp λ_ z=>z.elim
theorem Xt(g:H l=q_)(h:d.length=e.length)(i:Ats K M H e c):∃a,V.ref l=.ref a/\H a=q_/\zL K (λb=>M b\/b=a) (An H l^.dT^d.zip c) a^.dit d e:=#[l,rfl,g,c,AQ,h,i.qq #[λb o f j=>by rw[AH λz=>by simp_all]; exact f,λb z=>z.elim .inl λz=>.inr^by simp_all,λb c f=>by rw[AH λz=>by grind]; exact f]]
def RQ:t_ D->u_ (t_^t_ Key×t_ D)
 |[]=>P3 ([],[])
 |.tup [k,v]::r=>match keysOf k,RQ r with
  |some a,P3 p=>P3 (a::p.1,v::p.2)
  |_,_=>q_
 |_=>q_
def aM(d:t_ D)(P:D->Prop):Prop:=∃b a c,d=[.lst b]/\RQ b=P3 (a,c)/\a.Nodup/\P^.dit a c
set_option tactic.hygienic true in
theorem P6:∀{j:t_ D}{l:t_ V}{ks:t_^t_ Key}{vs:t_ D},RQ j=P3 (ks,vs)->Ats K M H j l->∃(f g:t_ Db) (c:t_ V),l=f.map V.ref/\ks.length=vs.length/\f.length=ks.length/\g.length=ks.length/\c.length=ks.length/\Ats K M H vs c /\
  (∀(i:Nat) q a v,f[i]?=P3 q->g[i]?=P3 a->c[i]?=P3 v->H q=P3^.tup [.ref a,v])/\∀(i:Nat) x k,g[i]?=P3 x->ks[i]?=P3 k->H x=P3^.tup^k.map kV
 |[],l,ks,vs,e,h=>by
  cases(show P3 (([],[]):t_^t_ Key×t_ D)=P3 (ks,vs)from e);exact#[[],[],[],h,rfl,rfl,rfl,rfl,rfl,(λi a q v e=>by simp at e),λi a q e=>by simp at e]
 | d::j,l,ks,vs,e,h=>by
  let#[u,r, rfl,w,y]:=h;unfold RQ at e
  split at e
  .cases ‹d::j=[]›
  .rename_i k v Y m
   cases m
   split at e
   .rename_i z p A B
    cases e;let#[f,g,c, C,E,F,G,I,J,L,Z]:=P6 (ks:=p.1) (vs:=p.2) B y;let#[q,N, rfl,O,P]:=w;let#[x1,r1, rfl,Q, s,R, rfl,S,T]:=P;cases(show R=[]from T);let#[b, rfl,hb]:=Rw A Q;refine#[q::f,b::g,s::c,by rw[C]; rfl,by simp only[UF,UF,E],by simp only[UF,UF,F],by simp only[UF,UF,G],by simp only[UF,UF,I],#[s,c,rfl,S,J],λi U W X n o t=>?_,λi x' k' n o=>?_]
    .cases i with
     |zero=>injection n with n;subst n; injection o with o;subst o; injection t with t;subst t; exact O
     |succ i=>exact L i U W X n o t
    grind
   .cases e
  .cases e
theorem X_:Cm K .fr (T9 K) aM:=by
 intro U M H y z P Q c A d w q;let#[B,f,C,rfl,e,g,w]:=w;let#[v, rfl,h]:=C4 d;let#[a,D, rfl,_,i,j]:=h;let#[k,m,n, rfl,o,p,r,s,t,u,x]:=P6 e j;exact#[a,k,m,n,f,rfl,.inl i,p,r,s,u,x,g,λl b=>q _ _ _ (Am b) (Xt b o t) w]
end
end Dp
namespace L2
end L2
namespace Dp
open L2
end Dp
namespace L2
end L2
namespace Dp
open L2
end Dp
namespace L2
end L2
namespace Dp
open L2
end Dp
namespace L2
end L2
namespace Dp
open L2
end Dp
namespace L2
end L2
namespace Dp
open L2
section

theorem Xj(I:∀C p,v C->v {C with zH:=p})(V:nL (model X.prog X.w) X.A X.env X.xe)(W:X.calm=r_)(P:DI X tg iter src)(Y:DG X tg b)(hb:OF v X κ body wb)
  (hs:∀x,foldedSetIterable iter X.env x=pure x:=by intro _; rfl):bh v X κ (.For tg iter body [] pos)^MR src b wb:=by
 let#[wi, a1,a2]:=P;let#[g, g1,g2]:=Y;let#[tb, b1,b2]:=hb;refine#[_,Dw V W a1 g1 b1 hs,λC M H n Q Z h E hC R L w=>?_];refine a2 C M H n Q Z _ _ R w λJ z a n1 e1 f1 y w1=>?_;have R1:=R.step e1 f1;exists λi m B j=>m=a.length - i/\i<=a.length/\∃c k o,Rel X.K {C with zH:=(M,z)::C.zH} c j k o B/\Bc b wb h (a.drop i) k o,#[a.length,by rfl,XV _,M,n1,Q,R1.pinned,w1];rintro i m B j ⟨rfl,P,c,k,o,l,D⟩;have S:qQ M z c j:=l.pin (M,z) Sc
 by_cases d:i<a.length
 .have ed:a.drop i=a[i]::a.drop (i+1):=jL d
  rw[ed]at D;let#[go,yl]:=(y i c j S l.dom).1 a[i] (On d);refine .inr #[go,λT H2=>∃M2 F G,Rel X.K {C with zH:=(M,z)::C.zH} M2 H2 F G T/\Bc b wb h (a.drop (i+1)) F G,λT H2 #[M2,F,G,f,w2]=>#[a.length - (i+1),by omega,rfl,d,M2,F,G,f,w2],λx H2 hy=>?_];let#[ U,hx]:=yl x H2 hy;have f:=l.step U.ext^l.feed.grow U;refine g2 _ c H2 k o B a[i] x _ _ f hx D λzO zV R3 w3=>?_;refine b2 _ c H2 k zO zV {h with nx:=Bc b wb h^a.drop (i+1),ct:=Bc b wb h^a.drop (i+1),bk:=h.nx} _ (I C _ hC) R3 #[λq N r s O t u=>#[q,r,s,t,u],L.rt,λq N r s O t u=>L.nx q N r s O t.v7 u,λq N r s O t u=>#[q,r,s,t,u]] w3
 .have e:i=a.length:=by lk
  subst e;rw[mI]at D;exact .inl #[(y _ c j S l.dom).2 (Re _),L.nx c j k o B l.v7 D]
end
end Dp
namespace L2
section

def ZY(K:Frag)(Dc:Db)(ts:Db->TS)(th:TH):TH:=λD C b Z H=>∃nm U,XC K nm C U/\((C=Dc\/U=Dc)/\(∀a,ts a D Z H)\/C≠Dc/\U≠Dc/\th D C b Z H)
theorem UP(t:Gl X x)(w:X.mg x=P3^.ref Dc)(y:bg X.K Dc)(E:X.stack=X.env::X.outer)(F:X.env.frame=P3 X.env.locals)
  (G:∀a,PSs (X.YP^X.A.mark^P3^.ref a) (b₀::suite)^ts a) (b:PH X rest th) (hd:(x==("__debug__":Str))=s_:=by decide):
  PH X (.ExceptHandler (P3^.Name x np) q_ (b₀::suite) pos::rest) (ZY X.K Dc ts th):=by
 intro o Z D a C L B M O H s I c h;let#[nm,U, P,h]:=h;have J:=c.inv I;have k:(X.A.mark^P3^.ref a).frames=P3 X.stack:=I.ok.frames;have Q:=J.YP k;refine wpAny_handleBy_cons (codeAny_handlers_test ?_) (by intro q; cases q);refine Dk (X:=X.YP^X.A.mark^P3^.ref a) Q t w ?_ hd;let#[R,q',N',S,T,V,W,p,Y,r,a0,l0,l1,l2,l3,l5,eD,hB]:=y;let#[q,N,bs,sn,a1,ab,a2,dd,k0,k1,k2,k3,k5,eC]:=P.obj;let#[vs,sl,tb, hx,h2,h1,hT]:=c.fly.obj;let#[hh,g,dr,tk,os]:=s;refine SG (J.kIn _ _ eC) (J.kIn _ _ eD) hB hx rfl ?_;rw[Np]
 rcases h with⟨m,h⟩|⟨n1,n2,h⟩
 .have e:(decide (C=Dc)||decide (U=Dc))=r_:=by rcases m with z|z <;>simp[z]
  rw[e];refine codeAny_handlers_suite ?_;refine Ft (s:=#[hh,g,dr,tk,os]) c.fly λh' f' u'=>?_;have c2:=c.step f' u';have J2:=c2.inv I;have n:=G a o _ Z H _ (J2.YP k)^h a;refine i8 n (λf s5 l=>?_) λe s5 z=>z.elim;cases f with
  |next=>
   let#[d,i, j,q]:=l;exact#[d,i,j.v9 I.ok,q]
  |brk=>
   let#[d,i, j,q]:=l;exact#[d,i,j.v9 I.ok,q]
  |cont=>
   let#[d,i, j,q]:=l;exact#[d,i,j.v9 I.ok,q]
  |ret u=>
   let#[v,d,i, j,rv,q]:=l;exact#[v,d,i,j.v9 I.ok,rv,q]
 .have e:(decide (C=Dc)||decide (U=Dc))=s_:=by simp[n1,n2]
  rw[e];exact b o Z D a C L B M O H _ I c h
end
end L2
namespace Dp
open L2
section

def S2(b:Str)(f:Db->Ab)(g:bV):bV:=λc d h i n e=>if d=b\/b="ThinError" then ∀a,f a c n e else g c d h i n e
theorem VX(G:Gl X d)(I:X.mg d=P3^.ref k)(B:nsIn X.K mainGlobals d=P3^P3^.ref k)
  (o:d="ThinError"/\bg X.K k\/d ≠ "ThinError"/\∃U,XC X.K d k U) (p:X.stack=X.env::X.outer) (s:X.env.frame=P3 X.env.locals)
  (u:∀a,MK (X.YP^X.A.mark^P3^.ref a) κ (f::b)^m a) (J:DH X κ j y) (hd:(d==("__debug__":Str))=s_:=by decide):
  DH X κ (.ExceptHandler (P3^.Name d np) q_ (f::b) pos::j) (S2 d m y):=by
 let#[W, N,O]:=J;have v:∀a,∃t,PSs (X.YP^X.A.mark^P3^.ref a) (f::b) t/\∀(C:Fm) (M:Db->Prop) (H:Hp) (n:Nat) (h:t_ Slot) (Z:L2.St) (i:E2) (E:Ends),Rel X.K C M H n h Z->Gh X.K C κ i E->m a i n h->t E Z H:=u;refine#[_,UP (ts:=λa=>(v a).choose) G I (o.elim (λz=>z.2) fun#[_,U,c]=>c.isX) p s (λa=>(v a).choose_spec.1) N hd,λC M H n h Z i E l P D Q R S T r L g xd x j w=>#[l,D,g,?_]];unfold S2 at w
 by_cases e:l=d\/d="ThinError"
 .rw[if_pos e]at w
  refine .inl #[?_,λa=>(v a).choose_spec.2 C M H n h Z i E r L^w a]
  rcases o with⟨z,_⟩|⟨z,U,c⟩
  .subst z
   have q:=g.atU.symm.trans B;cases q;exact .inr rfl
  .rcases e with e|e
   .subst e
    have q:=g.at_.symm.trans B;cases q;exact .inl rfl
   .exact absurd e z
 .rw[if_neg e]at w
  have V:l≠d:=λz=>e^.inl z;have F:d ≠ "ThinError":=λz=>e^.inr z
  rcases o with⟨z,_⟩|⟨_,U,c⟩
  .exact absurd z F
  .refine .inr #[λz=>?_,λz=>?_,O C M H n h Z i E l P D Q R S T r L g xd x j w]
   .subst z
    exact V^g.name c
   .subst z
    exact F^g.nameU c
end
end Dp
namespace L2
section

def bz(te:bM):Y_:=λD R Z H=>te R Z H D.rt
theorem Wg(a:gC X e te):bZ X (.Return (P3 e) pos)^bz te:=λg s Z H D R I h=>wpAny_Return_some^thn (a _ s Z H _ R I h) λv i #[x,b,c,d,f]=>#[x,Z,b,c,d,f]
end
end L2
namespace Dp
open L2
section

def bo(w:Nat->t_ Slot->(D->Nat->Prop)->PX->Prop):bU:=λa b n c=>w n c (λd e=>a.rt d e) b
theorem Xi(h:gg X e .sh w):e9 X .sh (.Return (P3 e) pos)^bo w:=by
 let#[t, a,b]:=h;exact#[_,Wg a,λC M H n c Z k E R f r L l w=>b C M H n c Z _ _ R f r l w λv m d o g i j p=>Ts r L g i j (by intro z; cases z) p]
end
section

theorem SN(G:Got X.prog X.w X.K X.mg X.base x k c a W)
  (e:qk k X.A) (g:Gl X x) (b:(x==("__debug__":Str))=s_:=by decide):DE X (.Call (.Name x p) [] [] pos) a^A0 W A3:=by
 let#[f,fd, G,h,i,j,l]:=G;refine#[_,UT G e g h i j .nil QD b,λC M H n u Z P Q R w q=>?_];show RD X.K a W c.length ([]++[]) H Q E0;rw[im];refine#[l _ _ _ w,C.F,C.U,C.V,M,n,[],P,#[R.dom,R.fU,R.uV,R.vM,R.feed,.nil],w,λv H2 d m o r s t=>?_];exact q v H2 d m o r s t
end
abbrev Fu(K:Frag)(x:Str)(a:jM)(f:Db)(fd:jG):Prop:=Fun K x x a f fd
theorem gN{K:Frag}{c:jM}(F:Fu K x c f fd)(S:A7 N d^AR c)
  (m:∀{e:Ev}{A:ik}{b:t_ Env}{s:No}{H:Hp}{E:XK},qk k^A.deeper^envOfC x (AR c) s.heap.objs.size f e->MK (Ef FO P w K j a N x (AR c) f e A b s H E).nox g (BG c) l)
  (o:∀{ss n Pd},W ss n Pd->l {nx:=λn _=>g=.sh/\Pd .non n,rt:=Pd} n (ss++iN (N.length - d.length) .no)) (i:d.length<=N.length:=by decide):
  B_ P w K j a FO (k+1) f fd d (RD K g W d.length):=fk F S i (λ_ _ _ _ _ _ h=>m h) λ_ _ _ _ h=>o h
section

theorem cg(g:qk m X.A)(G:Got X.prog X.w X.K X.mg X.base x k h f W)(i:WC X (e::a) b)(j:k<=m:=by decide)(l:Gl X x:=by rfl)
  (c:(x==("__debug__":Str))=s_:=by decide) (n:starEach (e::a) X.env=(s_,eval e X.env)::starEach a X.env:=by rfl) (d:(backTo pos^starEach a X.env).any (·.1)=s_:=by rfl):DE X (.Call (.Name x p) (e::a) [] pos) f^A0 W b:=Ae G (g.mono j) l i c n d

theorem g9(a:t_ Str)(c:t_^u_ Nat)(d:ZE X tg iter src)(e:∀{cl C s H fp},DG (Av X sc a cl C s H fp) tg b)(f:∀{cl C s H fp},bW (Av X sc a cl C s H fp) ifs tt)(g:∀{cl C s H fp},DE (Av X sc a cl C s H fp) elt zS te)
  (h:GZ sc X.env.scope X.N a c=r_) (i:X.calm=r_:=by rfl) (j:zS≠.tp:=by intro z; cases z) (k:∀x,foldedSetIterable iter X.env x=pure x:=by intro _; rfl):DE X (.ListComp elt [#[tg,iter,ifs,0]] sc pos) .fr^D8 c src b tt te:=Xz i a c d (λ_ _ _ _ _=>e) (λ_ _ _ _ _=>f) (λ_ _ _ _ _=>g) h j k
end
theorem Km{K:Frag}{o:jM}{W:Nat->W2}{u:W2->Ab}(c:Nat)(F:Fu K x o f fd)(S:A7 N e^AR o)(m:q x=P3^.ref f)(b:Binds K fd e [])
  (r:∀{k:Nat}{p:W2}{i:Ev}{A:ik}{d:t_ Env}{s:No}{H:Hp}{E:XK},c+1<=k->Got P w K q a x k e .sh p->qk k^A.deeper^envOfC x (AR o) s.heap.objs.size f i->MK (Ef FO P w K q a N x (AR o) f i A d s H E).nox .sh (BG o)^u p)
  (t:∀{p j g n Pd},(∀g n P,j≠0->W (j - 1) g n P->p g n P)->W j g n Pd->u p {nx:=λn _=>Kd.sh=.sh/\Pd .non n,rt:=Pd} n (g++iN (N.length - e.length) .no)) (v:∀j g n P,W j g n P->g.length=e.length) (l:e.length<=N.length:=by decide):
  ∀j,B_ P w K q a FO (c+2+j) f fd e^RD K .sh (W j) e.length
 |0=>fk (k:=c+1) F S l (λ_ _ _ _ _ _ h=>r (Re _) (U8 (W:=λ_ _ _=>False) F m b (λ_ _ _ h=>h.elim)^F.ok (k:=c) S (λy H Q E h=>h.1) λi A d s H y Q E C h=>by let#[ _, _,_,_,_,_,_,_, _,B,_]:=h; exact B.elim) h) λ_ _ _ _ h=>t (λ_ _ _ z _=>absurd rfl z) h
 |j+1=>fk (k:=c+2+j) F S l (λ_ _ _ _ _ _ h=>r (by lk) (U8 F m b (v j)^Km c F S m b r t v l j) h) λ_ _ _ _ h=>t (j:=j+1) (λ_ _ _ _ h=>h) h
end Dp
namespace K63
open L2 Dp Nt
def top(i:Nat):jM:=PySem.Challenge.pw_thinnet_k63_answers_of_others.main.body.getD i^.Pass #[0,0,0,0]
def cw(s:jM):jM:=match s with
 |.ClassDef _ _ _ b _ _ _ _ _ _ _=>b.getD 0^.Pass #[0,0,0,0]
 |_=>.Pass #[0,0,0,0]
abbrev Fg:jM:=top 9
abbrev HE:jM:=top 27
abbrev Ib:jM:=top 32
abbrev Ie:jM:=top 33
abbrev Em:jM:=top 38
abbrev Dd:jM:=top 39
abbrev Fh:jM:=top 46
abbrev F8:jM:=top 57
abbrev HF:jM:=top 61
abbrev HG:jM:=top 64
abbrev Ic:jM:=top 71
abbrev CY:jM:=cw^top 2
structure Txt (K:Frag) (mg:Str->Option Ev):Prop where
 Gap:mg "abs"=q_
 Gak:mg "all"=q_
 Gaj:mg "bool"=q_
 Gas:mg "dict"=q_
 Gao:mg "enumerate"=q_
 Gal:mg "int"=q_
 Gaa:mg "isinstance"=q_
 Gac:mg "len"=q_
 Gaf:mg "list"=q_
 Gaq:mg "max"=q_
 Gar:mg "min"=q_
 Gad:mg "range"=q_
 Gai:mg "repr"=q_
 Gae:mg "sorted"=q_
 Gam:mg "str"=q_
 Gab:mg "tuple"=q_
 Gan:mg "zip"=q_
 Gah:∃t,mg "MOST_DEEP"=P3 (.int 15 t)
 Gag:∃t,mg "MOST_CASES"=P3 (.int 4000 t)
 x_NoPaper:∃C U,XC K "NoPaper" C U/\mg "NoPaper"=P3 (.ref C)
 x_ThinError:∃U,bg K U/\mg "ThinError"=P3^.ref U/\nsIn K mainGlobals "ThinError"=P3^P3^.ref U
section
variable {K:Frag}
theorem qL:A7 ["_law_feed_here","_law_many","_law_digit","_law_at","_law_cell","_law_first"] ["_law_feed_here","_law_many"]^AR Dd:=#[rfl,rfl,rfl,by decide +kernel,rfl,by decide +kernel,by decide +kernel]
theorem Wx(F:Fun K "_law_next" "_law_next" Dd f fd)(ml:mg "len"=q_):B_ P w K mg base FO 1 f fd ["_law_feed_here","_law_many"]^RD K .sh Ji 2:=by
 refine F.ok qL (λvs H Q E h=>h.1) λa0 A a1 s H vs Q E hr h=>?_;let#[hl,F0,U,V',M,n,ss,Pd,ra,#[m,rfl,a8,S,hn,hP],q]:=h;let#[ a9,fU,uV,vM,a2,T]:=ra;cases T with
 |cons r1 T=>
 cases T with
 |cons r2 T=>
 cases T;let#[#[d,c,tg], e0,hF,ht]:=r1.1;cases(show tg=q_ from ht);injection e0 with e0;subst e0;let#[v2, e2,Z]:=r2.1;injection e2 with e2;subst e2;cases(show _=V.int m from Z);let#[ _, a,r,u, J,L,hc,a3,a4,b0]:=(a2 #[d,c,q_] hF).resolve_right fun#[_,_,_,z,_]=>by cases z
 have N:∀(W r' z:Int) (y:Hp),(∀b o,H b=P3 o->b≠d->y b=P3 o)->y d=P3^.lst [.ref c,.int W,.int r']->0<=W->W<=a+1->0<=z->z<m->Q (.int z) y:=by
  intro W r' z y hk X h0 h1 a5 a6;refine q (.int z) y (.int z) (n - 1) (λb o e=>?_) (λg hg=>?_) rfl (hP z a5 a6)
  .by_cases v:b=d
   .subst v
    exact#[_,X,λnu=>absurd (fU #[b,c,q_] hF) nu,λvs z=>by simp only[z,J]at e; cases e]
   .exact#[o,hk b o e v,λ_=>rfl,λ_ _=>rfl]
  .have:g=#[d,c,q_]:=iA^hg.symm.trans hF
   subst this;exact .inl #[rfl,W,r',u,X,L,#[hc.1,hk c _ hc.2 L],a3,h0,by lk]
 have hu:(A.deeper^envOfC "_law_next" (AR Dd) s.heap.objs.size f a0).units<cLine:=hr.units0;have l:∀{y:Hp}{xs:t_ V},y d=P3^.lst xs->SqL K y d xs:=λh=>SqL.of h;have R:∀z:Int,0<=z % m/\z % m<m:=λz=>#[pQ _^by lk,oU _^by lk]
 exists _,Ao (KQ (C7 Yl (BZ qj (pv 0) Au λ_ _=>rfl) Au^BI _)
   (Ao (Dv (i:=2) qL.nd rfl (jK rfl) (Bk DM (BZ qj (pv 0) Au λ_ _=>rfl)^pv 1))
   (Ao (Er (Bk GF (BZ qj (pv 0) Au λ_ _=>rfl)^pv 1)^Fj (pv 0) Au set_list)
   (BR^Fi^pv 2))) GC)
  (Ao (Dv (i:=3) qL.nd rfl (jK rfl) (BZ qj (pv 0) Au λ_ _=>rfl))
  (Ao (Er (Bk vW (pv 3) Au)^Fj (pv 0) Au set_list)
  (Ao (Dv (i:=4) qL.nd rfl (jK rfl) (Mu (C7 (RY hu) (BZ qj (pv 0) Au λ_ _=>rfl) (Gv BH)^BI _)
   (BZ qj (BZ qj (pv 0) Au λ_ _=>rfl) (Bk DM (pv 3) (Es Gb rfl ml PySem.boot_len (Ap (BZ qj (pv 0) Au λ_ _=>rfl) BH))) λ_ _=>rfl) Au))
  (Ao (KQ (PW.pt^OZ (C7 Ym (pv 4) (Bk Gw Au Au)^BI _)^LM^C7 op_lt (pv 3) (Es Gb rfl ml PySem.boot_len (Ap (BZ qj (pv 0) Au λ_ _=>rfl) BH))^BI _)
   (Ao (Er (Bk GF (pv 4)^pv 1)^Fj (pv 0) Au set_list)
   (BR^Fi^Bk DM (pv 4)^pv 1)) GC)
  (Ao (Dv (i:=5) qL.nd rfl (jK rfl) (Bk DM (Bk vV (Bk vW (Bk vW (Bk vW (Bk DM (pv 4) Au)^Bk vV (Bk vV Au^pv 3)^pv 3)^Bk vV Au^pv 3) Au) Au) Au))
  (BR^Fi^Bk DM (Bk GF (Bk DM (Bk vV (Bk vW (pv 5)^Bk vV Au^pv 3) Au) Au) Au)^pv 1))))))
 exists _,rfl,d,_,2,_,rfl,rfl,l J,rfl,_,_,rfl,rfl,_,rfl;refine CQ (λc1=>?_) λc1=>?_
 .exists _,rfl,d,_,2,_,rfl,rfl,l J,rfl,_,rfl,_,_,rfl,rfl,(by show(0:Int)<m; omega)
  exists _,rfl,d,_,2,_,rfl,rfl,l J,rfl,_,rfl,_,_,rfl,rfl,#[(by show(0:Int)<m; omega),S],_,rfl,d,_,2,2,rfl,rfl,J,rfl;exists _,rfl;exact N a _ _ _ (λb o e v=>by rw[AH v]; exact e) AQ a4 (by lk) (R _).1 (R _).2
 ·-- at=feed[1]; feed[1]=at+1
  exists _,rfl,d,_,1,_,rfl,rfl,l J,rfl;exists _,rfl,_,_,rfl,rfl,_,rfl,d,_,1,1,rfl,rfl,J,rfl;generalize Y:An H d^.lst^[V.ref c,V.int a,V.int r].set 1^V.int (a+1)=H1;have f1:H1 d=P3^.lst [.ref c,.int (a+1),.int r]:=by rw[←Y]; exact AQ
  have k1:∀b o,H b=P3 o->b≠d->H1 b=P3 o:=λb o e v=>by rw[←Y,AH v]; exact e
  have B:H1 c=P3^.lst^u.map V.int:=k1 c _ hc.2 L
  have D:∀(z:Int) (H2:Hp),(∀b o,H1 b=P3 o->H2 b=P3 o)->
    (ON (b_ (cF (TV^DY (HI λi j=>V.bl (decide (j<=i))) (BN 4)^DY (rI YK λi j=>V.int (i ^ j.toNat)) (tC^V.int 10)^tC^V.int 18)^TV^DY (HI λi j=>V.bl (decide (i<j))) (BN 3)^eO (λxs H Q=>∃x n,xs=[x]/\bR K x H n/\Q (V.int n) H)^Md (DY (RL K) (BN 0)^tC^V.int 0) RB) (ON (Me (DY (rI YL λi j=>V.int (i / j)) (BN 4)^BN 1)^aG (BN 0) (tC^V.int 2) T7)^WO^DY (rI (λ_ j=>0<j) λi j=>V.int (i % j)) (BN 4)^BN 1) YT)^ON (Me (DY (rI (λ_ j=>0<j) λi j=>V.int (i % j)) (DY (rI zh λi j=>V.int (i*j)) (DY (HI λi j=>V.int (i+j)) (DY (HI λi j=>V.int (i+j)) (DY (HI λi j=>V.int (i+j)) (DY (rI (λ_ j=>0<j) λi j=>V.int (i % j)) (BN 4)^tC^V.int 1000003)^DY (rI zh λi j=>V.int (i*j)) (DY (rI zh λi j=>V.int (i*j)) (tC^V.int 41)^BN 3)^BN 3)^DY (rI zh λi j=>V.int (i*j)) (tC^V.int 17)^BN 3)^tC^V.int 3)^tC^V.int 51749)^tC^V.int 999917)^HS 5)^WO^DY (rI (λ_ j=>0<j) λi j=>V.int (i % j)) (DY (rI YL λi j=>V.int (i / j)) (DY (rI (λ_ j=>0<j) λi j=>V.int (i % j)) (DY (rI zh λi j=>V.int (i*j)) (DY (HI λi j=>V.int (i+j)) (BN 5)^DY (rI zh λi j=>V.int (i*j)) (tC^V.int 8111)^BN 3)^tC^V.int 39373)^tC^V.int 2097143)^tC^V.int 3)^BN 1)
     {nx:=λ_ y=>Q .non y,rt:=Q} [P3^.ref d,P3^.int m,q_,P3^.int a,P3^.int z,q_] H2:=by
   intro z H2 k2;have f2:=k2 _ _ f1;have c2:=k2 _ _ B
   have t:∀H3:Hp,H3=H2->(ON (Me (DY (rI (λ_ j=>0<j) λi j=>V.int (i % j)) (DY (rI zh λi j=>V.int (i*j)) (DY (HI λi j=>V.int (i+j)) (DY (HI λi j=>V.int (i+j)) (DY (HI λi j=>V.int (i+j)) (DY (rI (λ_ j=>0<j) λi j=>V.int (i % j)) (BN 4)^tC^V.int 1000003)^DY (rI zh λi j=>V.int (i*j)) (DY (rI zh λi j=>V.int (i*j)) (tC^V.int 41)^BN 3)^BN 3)^DY (rI zh λi j=>V.int (i*j)) (tC^V.int 17)^BN 3)^tC^V.int 3)^tC^V.int 51749)^tC^V.int 999917)^HS 5)^WO^DY (rI (λ_ j=>0<j) λi j=>V.int (i % j)) (DY (rI YL λi j=>V.int (i / j)) (DY (rI (λ_ j=>0<j) λi j=>V.int (i % j)) (DY (rI zh λi j=>V.int (i*j)) (DY (HI λi j=>V.int (i+j)) (BN 5)^DY (rI zh λi j=>V.int (i*j)) (tC^V.int 8111)^BN 3)^tC^V.int 39373)^tC^V.int 2097143)^tC^V.int 3)^BN 1)
     {nx:=λ_ y=>Q .non y,rt:=Q} [P3^.ref d,P3^.int m,q_,P3^.int a,P3^.int z,q_] H3:=by
    intro H3 e3;subst e3;have v:zh (41*a) a:=.inr #[by lk,by lk];exists _,rfl,_,_,rfl,rfl,(by show(0:Int)<1000003; decide),_,rfl,_,_,rfl,rfl,.inl #[by cbv,by cbv],_,rfl,_,_,rfl,rfl,v,_,_,rfl,rfl,_,rfl,_,_,rfl,rfl,.inl #[by cbv,by cbv],_,_,rfl,rfl,_,_,rfl,rfl,_,_,rfl,rfl,.inr #[by cbv,by cbv],_,_,rfl,rfl,(by show(0:Int)<999917; decide);exists _,rfl,_,rfl,_,_,rfl,rfl,.inl #[by cbv,by cbv],_,_,rfl,rfl,_,_,rfl,rfl,.inr #[by cbv,by cbv],_,_,rfl,rfl,(by show(0:Int)<2097143; decide),_,_,rfl,rfl,#[by cbv,by cbv],_,rfl,_,_,rfl,rfl,(by show(0:Int)<m; lk);exact N (a+1) r _ _ (λb o e v=>k2 b o^k1 b o e v) f2 (by lk) (by lk) (R _).1 (R _).2
   exists _,rfl,_,_,rfl,rfl,#[by cbv,by cbv,by cbv],_,_,rfl,rfl,_,rfl;refine CQ (λc3=>?_) λc3=>?_
   .exists _,rfl,_,rfl,d,_,0,_,rfl,rfl,l f2,rfl,_,_,rfl,.inl #[_,SqL.of c2,rfl],_,_,rfl,rfl,_,rfl
    refine CQ (λc4=>?_) λc4=>t H2 rfl;exists _,rfl,_,rfl,_,_,rfl,rfl,#[(by show(0:Int)<m; omega),S],_,rfl,d,_,2,2,rfl,rfl,f2,rfl;exists _,rfl,_,rfl,_,_,rfl,rfl,(by show(0:Int)<m; omega);exact N (a+1) _ _ _ (λb o e v=>by rw[AH v]; exact k2 b o^k1 b o e v) AQ (by lk) (by lk) (R _).1 (R _).2
   .refine CQ (λc4=>absurd c4^by decide) λ_=>t H2 rfl
  refine#[_,rfl,d,_,0,_,rfl,rfl,l f1,rfl,(by show 0<=sizeLine; decide),λp hp=>?_];have O:∀b o,H1 b=P3 o->An H1 p (.lst []) b=P3 o:=λb o e=>by rw[AH^Af e hp]; exact e
  exists c,p,_,rfl,rfl,SqL.of^O _ _ B,SqL.of AQ,_,rfl;cases u with
  |nil=>exact As^D 0 _ O
  | cons G C=>
   refine Ar ?_;have a7:(((G::C).map V.int).length:Int)=(C.length:Int)+1:=by simp
   have I:(0:Int)<(((G::C).map V.int).length:Int):=by lk
   obtain⟨z,hz⟩:∃z,atI ((G::C).map V.int) (a % (((G::C).map V.int).length:Int))=P3^.int z:=by
    have h1:=pQ a (show(((G::C).map V.int).length:Int)≠0 by lk);have Z:=oU a I;generalize a % (((G::C).map V.int).length:Int)=j at h1 Z;obtain⟨k,rfl⟩:∃k:Nat,j=(k:Int):=#[j.toNat,by lk];have hk:k<(G::C).length:=by rw[FM]at Z; lk
    refine#[(G::C)[k],AD ?_];simp only[T0,On hk];rfl
   exists _,rfl,d,_,0,_,rfl,rfl,l^O _ _ f1,rfl,_,rfl,_,rfl,d,_,0,_,rfl,rfl,l^O _ _ f1,rfl,_,_,rfl,.inl #[_,SqL.of^O _ _ B,rfl],_,_,rfl,rfl,I,c,_,_,_,rfl,rfl,SqL.of^O _ _ B,hz;exact D z _ O
end
end K63
namespace Dp
open L2
section

theorem Bu(i:Nat)(c:X.N.Nodup)(d:DE X e zS wa)(f:X.N[i]?=P3 x:=by rfl)(hx:Loc X.env.scope x:=by first|exact .inl rfl|exact .inr rfl)(g:zS≠.tp:=by intro z; cases z)(h:swapsWith e (P3^.Name x pos') pos.line X.env=pure s_:=by rfl)
  (j:X.fn x=r_\/X.env.scope.names.lookup x=P3 .local:=by first|exact .inl rfl|exact .inr rfl|assumption):DS X κ (.Assign [.Name x pos'] e pos)^CS i wa:=aW c f hx d g h j
theorem aU(i:Nat)(c:X.N.Nodup)(d:DE X e .fr wa)(f:X.N[i]?=P3 x:=by rfl)(hx:Loc X.env.scope x:=by first|exact .inl rfl|exact .inr rfl)(g:swapsWith e (P3^.Name x pos') pos.line X.env=pure s_:=by rfl)
  (h:X.fn x=r_\/X.env.scope.names.lookup x=P3 .local:=by first|exact .inl rfl|exact .inr rfl|assumption):DS X κ (.Assign [.Name x pos'] e pos)^J7 i wa:=Xl c f hx d g h
theorem Co(i:Nat)(c:X.N.Nodup)(d:X.N[i]?=P3 x:=by rfl)(hx:Loc X.env.scope x:=by first|exact .inl rfl|exact .inr rfl)(e:X.fn x=r_\/X.env.scope.names.lookup x=P3 .local:=by first|exact .inl rfl|exact .inr rfl|assumption):DG X (.Name x pos)^A5 i:=IH c d hx e
theorem Xw(h:eI X es bs)(d:X.calm=r_:=by rfl)(e:(assignEach es X.env).length=es.length:=by rfl)(c:(assignEach es X.env).findIdx? (·.1)=q_:=by rfl):DG X (.Tuple es j pos)^L_ es.length bs:=af d h e c
theorem BA(h:DE X e κ wa)(c:WC X es was)(d:κ≠.tp:=by intro z; cases z)(f:starEach (e::es) X.env=(s_,eval e X.env)::starEach es X.env:=by rfl):WC X (e::es)^AL (AT wa) was:=AU (dS h d) c f
theorem Ax(i:Nat)(d:WC X es was)(e:X.N[i]?=P3 x:=by rfl)(f:YH X.env.scope x:=by first|exact jK rfl|exact kJ (jK rfl)|exact kJ (kJ rfl))(hd:(x==("__debug__":Str))=s_:=by decide)(c:(x==("__classdict__":Str))=s_:=by decide)
  (g:starEach (.Name x pos::es) X.env=(s_,eval (.Name x pos) X.env)::starEach es X.env:=by rfl):WC X (.Name x pos::es)^AL (AT^AJ i) was:=BA (dv i e f hd c) d (by intro z; cases z) g
theorem Ah(c:DE X a zR wa)(d:DE X b zN wb)(e:MI b:=by intro _ _; rfl):DE X (.Subscript a b pos) .sh^BE D7 wa wb:=dR aB f9 c d e
theorem Hb(c:t_ Str)(d:t_^u_ Nat)(e:ZE X tg iter src)(f:∀{cl C s H fp},c.Nodup->DG (Av X sc c cl C s H fp) tg bb)(g:∀{cl C s H fp},bW (Av X sc c cl C s H fp) ifs tt)(h:∀{cl C s H fp},DE (Av X sc c cl C s H fp) elt zS te)
  (i:GZ sc X.env.scope X.N c d=r_:=by kernel_rfl) (j:c.Nodup:=by decide +kernel) (k:X.calm=r_:=by rfl) (l:zS≠.tp:=by intro z; cases z) (m:∀x,foldedSetIterable iter X.env x=pure x:=by intro _; rfl):DE X (.ListComp elt [#[tg,iter,ifs,0]] sc pos) .fr^D8 d src bb tt te:=g9 c d e (f j) g h i k l m
theorem B4(d:OpR X (compareOp c) r)(e:FN X.K .sh r f)(g:DE X a zR wa)(h:DE X b zN wb)(i:behindInMarks c b=s_:=by first|exact BI _|with_unfolding_all rfl):DT X (.Compare a [c] [b] j)^A8^BE f wa wb:=aT d e g h i
theorem FY(c:X.mg "len"=q_)(d:DE X e κ wa)(f:Gl X "len":=by rfl)(he:starEach [e] X.env=[(s_,eval e X.env)]:=by rfl):DE X (.Call (.Name "len" pos') [e] [] pos) .sh^Hu Nb^AK wa Ad:=Ak Gb dY f c PySem.boot_len (AM d AS he) (he:=he)
theorem Sk(c:X.mg "tuple"=q_)(d:DE X e κ wa)(f:Gl X "tuple":=by rfl)(he:starEach [e] X.env=[(s_,eval e X.env)]:=by rfl):DE X (.Call (.Name "tuple" pos') [e] [] pos) .sh^Hu FJ^AK wa Ad:=Be Jz Vt f c boot_tuple (AM d AS he) (he:=he)
def cb:=PySem.F.plainAttrs_list
def eQ:=PySem.F.slot_list_append
def eN:=PySem.F.type_list_append
end
section
variable {K:Frag}{st:Stmt}
theorem fj(F:Fu K x st f fd)(N:t_ Str)
  (g:∀{b:Ev}{A:ik}{a:t_ Env}{s:No}{H:Hp}{E:XK},N.Nodup->qk k^A.deeper^envOfC x (AR st) s.heap.objs.size f b->MK (Ef FO P w K mg base N x (AR st) f b A a s H E).nox c (BG st) e)
  (h:∀{ss n Pd},W ss n Pd->e {nx:=λn _=>c=.sh/\Pd .non n,rt:=Pd} n (ss++iN (N.length - ps.length) .no)) (S:A7 N ps^AR st:=by constructor <;>first|rfl|decide +kernel) (d:ps.length<=N.length:=by decide):
  B_ P w K mg base FO (k+1) f fd ps (RD K c W ps.length):=gN F S (g S.nd) h d
end
end Dp
namespace Nt
open L2 Dp
abbrev EE(a:D->Nat->Prop):E2:={nx:=λn _=>Kd.sh=.sh/\a .non n,rt:=a}
theorem Az(g:D->D)(I:t_ Slot->Prop):∀(e a:t_ D) (n:Nat) (c:t_ Slot),
  (∀d∈e,∀(c:t_ Slot) (n:Nat) (l:D->Nat->t_ Slot->Prop),I c->(∀i,I i->l (g d) n i)->b d c λm=>k n m λy p=>l y p m)->I c->P (a++e.map g) n->Di b Gj k P e a n c
 |[],a,n,c,_,_,h=>by simp only[pI,im]at h; exact h
 |d::e,a,n,c,o,j,h=>o d Sc c n _ j λi f=>
  Az g I e _ n _ (λd q=>o d^TM _ q) f (by simp_all)
theorem JQ{b:Type}{l:t_ b}{p:b->Bool}(h:P^.bl^l.all p):XY [.lst^l.map λa=>.bl^p a] P:=
 #[_,_,rfl,Ge p l,by simp_all]
theorem PV{k:(D->Nat->Prop)->Prop}(a:b1=r_->P (.bl b2) n->k P)(h:P (.bl (b1&&b2)) n):(match (.bl b1:D)with|.bl r_=>k P|.bl s_=>P (.bl s_) n|_=>False):=Vl a h
abbrev Wb(g:D->Bool):W2:=Yj 1 λa=>.bl^g^a.getD 0 .non
theorem Wb.out(h:Wb g a n P):∃d,a=[.sh d]/\P (.bl^g d) n:=by
 let#[b,c,rfl,h]:=h
 match b,c with
 |[d],_=>simp_all
def Sw:D->Bool
 |.int _=>r_
 |_=>s_
def tupleOfB(k:Int):D->Bool
 |.tup a=>((a.length:Int)==k)
 |_=>s_
def WD(d e:D):u_ Bool:=match d,e with
 |.int i,.int j=>P3 (decide (i<j))
 |.str i,.str j=>P3 (decide (cs i<cs j))
 |.tup c,.tup f=>match HP c,HP f with
  |some a,P3 b=>if Bw a b then P3^G1 a b else q_
  |_,_=>q_
 |_,_=>q_
set_option tactic.hygienic true in
theorem XQ(h:WD d e=P3 b)(p:P^.bl b):O_ d e P:=by
 unfold WD at h
 split at h
 .cases h; exact p
 .cases h; exact p
 .split at h
  .rename_i a c f g
   split at h
   .rename_i i
    injection h with h;subst h;exact#[a,c,f,g,i,p]
   .cases h
  .cases h
 .cases h
def X7:t_ D->Bool
 |x::y::r=>(WD x y==P3 r_)&&X7 (y::r)
 |_=>r_
abbrev bE:W2:=Wb Sw
abbrev N_:W2:=λa n P=>∃k d,a=[.sh^.int k,.sh d]/\P (.bl^tupleOfB k d) n
abbrev Qx:W2:=λc n P=>∃d a,c=[.sh d]/\Gr d=P3 a/\a.length<=200000/\(∀x∈a,∀y∈a,∃b,WD x y=P3 b)/\P (.bl^X7 a) n
def N0:Ab:=(CT^Hu XY^AK (D8 [q_,q_] (ZJ^AK (AJ 0)^AK (OG E4 (AJ 0) (C3^wC^D.int 1) Ba) Ad) (L_ 2^B8 (A5 0)^B8 (A5 1) Hd) Gj^BE O_ (AJ 0)^AJ 1) Ad)
section

theorem ao(a:t_ b):Dp.cutD a (P3 1) q_=a.drop 1:=by
 unfold Dp.cutD;simp only[HT.zy,show 1=((1:Nat):Int)from rfl,HT.zF]
 by_cases h:1<=a.length
 .rw[k6 h]
  exact kG^by simp_all
 simp_all
theorem Qr:∀c:t_ D,((Fa c^c.drop 1).all λd=>match d with|.tup [a,b]=>WD a b==P3 r_|_=>s_)=X7 c
 |[]=>rfl
 |[x]=>rfl
 |x::y::r=>by
  have e:=Qr (y::r);show((Fa _ (y::r)).all _)=_;unfold Fa X7;rw[List.zipWith_cons_cons,lS]
  congr 1
theorem WF(h:d∈Fa c e):∃a∈c,∃b∈e,d=.tup [a,b]:=by
 unfold Fa at h;let#[i, f]:=List.getElem?_of_mem h;rw[ph]at f;cases g:c[i]? with
 |none=>simp_all
 | some a=>
  cases j:e[i]? with
  |none=>simp_all
  |some b=>
   simp only[g,j]at f;exact#[a,iu g,b,iu j,(iA f).symm]
set_option tactic.hygienic true in
theorem LK(h:Qx ss n Pd):N0 (EE Pd) n (ss++iN 0 .no):=by
 let#[d,c,rfl,e,A,f,h]:=h
 have i:(Fa c^c.drop 1).length<=10000000/\Di (L_ 2^B8 (A5 0)^B8 (A5 1) Hd) Gj (BE O_ (AJ 0)^AJ 1) (λg k=>XY [.lst g] λz=>Pd z k) (Fa c^c.drop 1) [] n [.no,.no]:=by
  refine#[by unfold Fa; rw[List.length_zipWith]; omega,?_];refine Az (λd=>.bl (match d with|.tup [a,b]=>WD a b==P3 r_|_=>s_)) (λj=>∃s t,j=[s,t]) _ _ _ _ ?_ #[_,_,rfl] ?_
  .rintro z l j m o ⟨s,t,rfl⟩ q
   let#[a,u,b,v,rfl]:=WF l;let#[r,w]:=f a u b^List.mem_of_mem_drop v;exists rfl,rfl;show O_ a b λy=>o y m [.sh a,.sh b];refine XQ w ?_
   simp_all
  .rw[iD]
   refine JQ (p:=fun(d:D)=>match d with|.tup [a,b]=>WD a b==P3 r_|_=>s_) ?_;rw[Qr];exact h
 cases d with
 |lst x=>
  cases e;exact#[_,_,c,c.drop 1,rfl,rfl,by rw[ao]; rfl,i]
 |tup x=>
  cases e;exact#[_,_,c,c.drop 1,rfl,rfl,by rw[ao]; rfl,i]
 |_=>cases e
end
def strsOf(a:t_ D):t_ Str:=(PY a).getD []
theorem Vr{a:Type}(p:a->Bool)(l:t_ a):(l.map p).all id=l.all p:=by simp_all
theorem Mf(h:∀c∈cs x,c<1114112):PyData.strOk x=r_:=by
 unfold PyData.strOk;rw[←Array.all_toList,jH];intro c a;exact decide_eq_true^h c a
theorem JF(h:R0 x):By^.str x:=#[rfl,Mf λc a=>by have:=h.2.2 c a; lk,XV _]
theorem NR{a:t_ Str}(h:∀p∈a,R0 p):Bx^a.map .str=r_/\kd^BB^a.map .str=r_/\jn^BB^a.map .str=0:=by
 induction a with
 |nil=>exact#[rfl,rfl,rfl]
 | cons p r b=>
  let#[ e,c,f]:=b λq d=>h q^TM _ d;exists by assumption,?_
  .rw[iQ,BB,kd,c,lU]
   exact(JF^h p Sc).2.1
  assumption
theorem EC{ps:t_ Str}(h:∀p∈ps,R0 p):By^.tup^ps.map .str:=by
 let#[ a,b,c]:=NR h;exists a,b;show jn _+1<=100
 simp_all
theorem FK(x y:Str):BS (.str x)^.str y=(x==y):=rfl
theorem Bv(a:t_ Str):strsOf^a.map .str=a:=by unfold strsOf; rw[N5]; rfl
section
theorem fF(h:tupleOfB 2 d=r_):∃a b,d=.tup [a,b]:=by
 cases d with
 |tup c=>
  have:=eq_of_beq h
  match c,this with
  |[a,b],_=>grind
  |[],h=>cases h
  |[_],h=>cases h
  |_::_::_::r,h=>grind
 |_=>cases h
end
mutual
def qh(B:Nat):D->Prop
 |.int i=>i.natAbs<=B
 |.str x=>∀c∈cs x,c<1114112
 |.tup ds=>GV B ds
 |.lst ds=>GV B ds
 |.dic _ _=>False
 |.fdi _ _=>False
 |.dit _ _=>False
 |_=>True
def GV(B:Nat):t_ D->Prop
 |[]=>True
 |d::ds=>qh B d/\GV B ds
end
mutual
def Bz:D->Nat
 |.int _=>200
 |.str x=>x.length
 |.tup ds=>CO ds
 |.lst ds=>CO ds
 |_=>0
def CO:t_ D->Nat
 |[]=>0
 |d::ds=>Bz d+1+CO ds
end
mutual
def Br:D->Nat
 |.tup ds=>ES ds+1
 |.lst ds=>ES ds+1
 |_=>0
def ES:t_ D->Nat
 |[]=>0
 |d::ds=>max (Br d)^ES ds
end
theorem qv{B:Nat}:∀{b:t_ D},GV B b↔∀d∈b,qh B d
 |[]=>#[(λ_ d h=>by cases h),λ_=>trivial]
 | d::b=>by
  have c:=@qv B b;constructor
  .rintro⟨f,g⟩ e a
   rcases TW.mp a with rfl|a
   .exact f
   .exact c.mp g e a
  .exact λh=>#[h d Sc,c.mpr λe a=>h e^TM _ a]
theorem qg{k:Nat}:∀{a:t_ D},ES a<=k↔∀d∈a,Br d<=k
 |[]=>#[(λ_ d h=>by cases h),λ_=>XV _]
 | d::a=>by
  have c:=@qg k a;show max (Br d)^ES a<=k↔_;rw[Nat.max_le,c];constructor
  .rintro⟨f,g⟩ e b
   rcases TW.mp b with rfl|b
   .exact f
   .exact g e b
  .exact λh=>#[h d Sc,λe b=>h e^TM _ b]
theorem CW:∀(b a:t_ D),CO (b++a)=CO b+CO a
 |[],a=>by simp[CO]
 |d::b,a=>by
  simp only[kI];show Bz d+1+CO (b++a)=Bz d+1+CO b+CO a;rw[CW b a]; lk
theorem Ps:∀(a:t_ D),CO a.reverse=CO a
 |[]=>rfl
 |d::a=>by
  simp only[l7,CW,Ps a];show CO a+(Bz d+1+0)=Bz d+1+CO a;lk
theorem TZ(a:t_ D)(k:Nat):CO^a.take k<=CO a:=by
 have:=CW (a.take k)^a.drop k
 rw[j7]at this;lk
theorem Ta(a:t_ D)(k:Nat):CO^a.drop k<=CO a:=by
 have:=CW (a.take k)^a.drop k
 rw[j7]at this;lk
theorem LC(h:d∈c):Bz d+1<=CO c:=by
 let#[a,b, rfl]:=List.append_of_mem h;simp only[CW];show _<=_+(Bz d+1+CO b);lk
theorem C6:∀(a:t_ D),a.length<=CO a
 |[]=>XV _
 |d::a=>by
  have:=C6 a
  show a.length+1<=Bz d+1+CO a;lk
theorem F6(a:t_ D)(b c:u_ Int):CO^Dp.cutD a b c<=CO a:=iU (TZ _ _)^Ta _ _
theorem EU{b c:u_ Int}{d:D}(h:d∈Dp.cutD a b c):d∈a:=List.mem_of_mem_drop^lG h
theorem G7(h:B<=C):∀(n:Nat),(∀d:D,sizeOf d<=n->qh B d->qh C d)/\∀a:t_ D,sizeOf a<=n->GV B a->GV C a:=by
 intro n
 induction n with
 |zero=>
  refine#[λd e _=>?_,λa e _=>?_]
  .cases d <;>simp at e
  .cases a <;>simp at e
 | succ n f=>
  refine#[λd e c=>?_,λa e c=>?_]
  .cases d with
   |int i=>exact iU (show i.natAbs<=B from c) h
   |str x=>exact c
   |tup a=>exact f.2 a (by simp at e; omega) c
   |lst a=>exact f.2 a (by simp at e; omega) c
   |dic g a=>exact(show False from c).elim
   |fdi g a=>exact(show False from c).elim
   |dit g a=>exact(show False from c).elim
   |non=>trivial
   |bl b=>trivial
  .cases a with
   |nil=>trivial
   |cons d a=>exact#[f.1 d (by simp at e; omega) c.1,f.2 a (by simp at e; omega) c.2]
theorem qh.mono(a:qh B d)(h:B<=C):qh C d:=(G7 h _).1 d (Re _) a
mutual
theorem ID{B:Nat}(hB:B<10 ^ 45):∀{d:D},qh B d->Ce d=r_/\(toPy d).showable=r_/\(toPy d).canLay0=r_/\(toPy d).depth=Br d/\(toPy d).leavesShort 60=r_/\(toPy d).weight<=Bz d
 |.non,_=>#[rfl,rfl,rfl,rfl,rfl,Re _]
 |.bl b,_=>#[rfl,rfl,rfl,rfl,rfl,Re _]
 | .int i,h=>by
  have h':i.natAbs<=B:=h;have hlt:i.natAbs<10 ^ 45:=kq h' hB;have h2:i.natAbs<2 ^ 150:=mY hlt^by cbv
  have hl:i.natAbs.log2<150:=by
   by_cases h0:i.natAbs=0
   .rw[h0]; decide
   .exact(Nat.log2_lt h0).mpr h2
  refine#[rfl,?_,rfl,rfl,?_,?_]
  .show decide (i.natAbs.log2<1920)=r_
   exact decide_eq_true^by lk
  .show decide ((PyData.shown^.int i).length<=60)=r_
   refine decide_eq_true ?_
   have:=int_text_length_le10 (a:=i) (k:=45) (by cbv) hlt
   show(jX^toString i).length<=60;rw[PySem.ofString_length];lk
  .show(if i==0 then 0 else i.natAbs.log2+1)<=200
   split <;>lk
 |.str x,h=>by
  have h':∀c∈cs x,c<1114112:=h;refine#[rfl,rfl,Mf h',rfl,?_,Re _];show(x.cps.toList.all λc=>decide (c<16 ^ 8))=r_;rw[jH];intro c hc;exact decide_eq_true^mY (h' c hc)^by cbv
 |.tup ds,h=>by
  let#[h1,h2,h3,h4,h5,h6]:=JO hB (ds:=ds) h;refine#[h1,h2,h3,?_,h5,h6];show jn^BB ds+1=ES ds+1;rw[h4]
 |.lst ds,h=>by
  let#[h1,h2,h3,h4,h5,h6]:=JO hB (ds:=ds) h;refine#[h1,h2,h3,?_,h5,h6];show jn^BB ds+1=ES ds+1;rw[h4]
 |.dic ks ds,h=>(show False from h).elim
 |.fdi ks ds,h=>(show False from h).elim
 |.dit ks ds,h=>(show False from h).elim
theorem JO{B:Nat}(hB:B<10 ^ 45):∀{ds:t_ D},GV B ds->Bx ds=r_/\PyData.showableAll^BB ds=r_/\kd^BB ds=r_/\jn^BB ds=ES ds/\pi 60^BB ds=r_/\PyData.weightAll^BB ds<=CO ds
 |[],_=>#[rfl,rfl,rfl,rfl,rfl,Re _]
 | d::ds,h=>by
  let#[h1,h2,h3,h4,h5,h6]:=ID hB (d:=d) h.1;let#[g1,g2,g3,g4,g5,g6]:=JO hB (ds:=ds) h.2;refine#[?_,?_,?_,?_,?_,?_]
  .show(Ce d&&Bx ds)=r_
   rw[h1,g1]; rfl
  .show((toPy d).showable&&PyData.showableAll^BB ds)=r_
   rw[h2,g2]; rfl
  .show((toPy d).canLay0&&kd^BB ds)=r_
   rw[h3,g3]; rfl
  .show max (toPy d).depth^jn^BB ds=max (Br d)^ES ds
   rw[h4,g4]
  .show((toPy d).leavesShort 60&&pi 60^BB ds)=r_
   rw[h5,g5]; rfl
  .show(toPy d).weight+1+PyData.weightAll^BB ds<=Bz d+1+CO ds
   lk
end
theorem Tc(a:B<10 ^ 45)(h:qh B d)(hd:Br d<=100)(g:Bz d<=270000):HD d:=by
 let#[ b,c,i,e,f,j]:=ID a h;exists b,c,by rw[e]; exact hd
 have:=PyData.shown_le 60 (by cbv) (toPy d) f
 simp only[PySem.sizeLine_eq]
 have:62*(toPy d).weight<=62*270000:=Nat.mul_le_mul_left _^by lk
 lk
theorem Py(a:B<10 ^ 45)(h:qh B d)(hd:Br d<=100)(b:Bz d<=200000):HD d:=Tc a h hd^by lk
theorem D1(a:B<10 ^ 45)(h:qh B d)(hd:Br d<=100):By d:=by
 let#[ b,f,c,e,g,i]:=ID a h;exact#[b,c,by rw[e]; exact hd]
theorem R8(i:Int):∀c∈cs^jX^toString i,c<1114112:=by
 intro c a
 by_cases h:c=45\/(48<=c/\c<=57)
 .lk
 .exact absurd a^int_text_free' c (by lk) i
theorem Vc(b:t_ D)(a:Nat):Dp.cutD b q_^P3 (a:Int)=b.take^min a b.length:=by
 unfold Dp.cutD;simp only[HT.zy,HT.zF,oB,mi]
theorem Ve(b:t_ D)(a:Nat):Dp.cutD b (P3 (a:Int)) q_=b.drop^min a b.length:=by
 unfold Dp.cutD;simp only[HT.zy];exact kG^by simp_all
theorem Zl{a:Nat}(h:a<b.length)(e:D):CO (Dp.cutD b q_^P3 (a:Int)++[e]++Dp.cutD b (P3 ((a:Int)+1)) q_)+Bz b[a]=CO b+Bz e:=by
 have c:Dp.cutD b (P3 (a+1)) q_=b.drop (a+1):=by
  rw[show((a:Int)+1)=(a+1:Nat) by lk,Ve,k6^by lk]
 rw[Vc b a,c,k6^by lk,CW,CW];have d:=CW (b.take a)^b.drop a;rw[j7,jL h]at d;have f:CO (b[a]::b.drop (a+1))=Bz _+1+CO _:=rfl;have g:CO [e]=Bz e+1+0:=rfl;lk
theorem Kc{b:Type}(p:b->Bool)(l:t_ b):Bx (l.map λa=>D.bl^p a)=r_/\kd (BB^l.map λa=>D.bl^p a)=r_/\jn (BB^l.map λa=>D.bl^p a)=0:=by
 induction l with
 |nil=>exact#[rfl,rfl,rfl]
 |cons a r c=>
  assumption
theorem aP(b:Bool):BS (.bl b)^.bl s_=!b:=by cases b <;>rfl
theorem az{b:Type}(p:b->Bool)(l:t_ b):((l.map λa=>D.bl^p a).any λy=>BS y^.bl s_)=!(l.all p):=by
 induction l with
 |nil=>rfl
 |cons a r c=>simp only[iQ,oY,lS,c,aP,Bool.not_and]
theorem U6{c:Type}{p:c->Bool}{l:t_ c}(h:P^.bl (if b then l.all p else !(l.all p))):XW b (.bl s_) (.lst^l.map λa=>.bl^p a) P:=by
 let#[ d,e,f]:=Kc p l;exists#[rfl,rfl,XV _],#[d,e,?_],_,rfl
 .show jn _+1<=100
  simp_all
 .rw[az,Bool.not_not]
  exact h
def item(d:D):Prop:=qh 1000001 d/\Bz d<=450/\Br d<=1
theorem EJ:∀{a:t_ D},(∀d∈a,Bz d+1<=k)->CO a<=k*a.length
 |[],_=>XV _
 |d::a,h=>by
  have c:=EJ λe b=>h e^TM _ b;show Bz d+1+CO a<=k*(a.length+1)
  grind
theorem DP(h:∀d∈a,qh B d):qh B^.tup a:=qv.mpr h
theorem item_str(b:x.length<=8)(a:∀c∈cs x,c<1114112):item^.str x:=#[a,by show x.length<=450; lk,XV _]
theorem G6(h:R0 x):item^.str x:=item_str h.2.1 λc a=>by have:=h.2.2 c a; lk
theorem Uz(e:item^.str a)(f:item^.str b)(h:a.length<=8)(i:b.length<=8)(g:l.natAbs<=1000001):item^.tup [.str a,.str b,.int l]:=by
 exists DP λd c=>?_,?_
 .simp at c
  rcases c with rfl|rfl|rfl
  .exact e.1
  .exact f.1
  .exact g
 .show a.length+1+(b.length+1+(200+1+0))<=450
  lk
 .show max 0^max 0^max 0 0+1<=1
  decide
theorem Cf{N:Net}(ok:N.Ok):∀d∈N.ts.map AO,item d:=λd c=>by
 let#[t, e,rfl]:=Rs.mp c;let#[ f,g,_,h,i]:=ok.tin t e;have a:=ok.names _ f;have b:=ok.names _ g;exact Uz (G6 a) (G6 b) a.2.1 b.2.1^by omega
theorem IB{N:Net}(ok:N.Ok):∀d∈N.ps.map D.str,item d:=λd a=>by
 let#[x, b,rfl]:=Rs.mp a;exact G6^ok.names x b
theorem S9(hx:∀d∈b,item d)(e:∀d∈c,item d)(f:b.length<=26)(g:c.length<=80):qh 1000001^.tup [.tup b,.tup c]/\Bz^.tup [.tup b,.tup c]<=48000/\Br^.tup [.tup b,.tup c]<=3:=by
 have h:=EJ λd a=>jZ (hx d a).2.1;have i:=EJ λd a=>jZ (e d a).2.1;have j:=qg.mpr λd a=>(hx d a).2.2;have k:=qg.mpr λd a=>(e d a).2.2;exists DP λd a=>?_,?_
 .simp at a
  rcases a with rfl|rfl
  .exact DP λd a=>(hx d a).1
  .exact DP λd a=>(e d a).1
 .show CO b+1+(CO c+1+0)<=48000
  lk
 .show max (ES b+1)^max (ES c+1) 0+1<=3
  lk
theorem Vp{p:D->Prop}(h:∀d∈xs,p d)(b:0<=o)(c:o<(xs.length:Int)):∃z,atI xs o=P3 z/\p z:=by
 obtain⟨k,rfl⟩:∃k:Nat,o=k:=#[o.toNat,by lk];have a:k<xs.length:=by lk
 exact#[_,AD^On a,h _^jB a]
theorem BU(x:Str):¬cs x<cs x:=j_ _
theorem z1:1<=sizeLine:=by cbv
theorem z2:2<=sizeLine:=by cbv
theorem z3:3<=sizeLine:=by cbv
theorem z0:0<=sizeLine:=XV _
theorem gz:YK 10 6:=#[by cbv,by cbv,by cbv]
def bw(s t:AZ):Decidable (s=t):=
 if h:s.a=t.a/\s.b=t.b/\s.len=t.len then .isTrue (by let#[a,b,l]:=s; let#[g,i,j]:=t; let#[c,d,f]:=h; simp only at c d f; subst c d f; rfl)else .isFalse λe=>h^by rw[e]; exact#[rfl,rfl,rfl]
instance:DecidableEq AZ:=bw
abbrev EF(a:D->Nat->Prop):E2:={nx:=λn _=>Kd.fr=.sh/\a .non n,rt:=a}
def Mm(t:AZ):t_ Key:=[.inl t.len,.inr t.a,.inr t.b]
def FA(a:t_ AZ):Prop:=a.Pairwise λs t=>CP (Mm t)^Mm s=s_
def YW:D->D
 |.tup [x,y,z]=>.tup [z,x,y]
 |d=>d
abbrev Qy:W2:=λa n P=>∃x y z:D,a=[.sh^.tup [x,y,z]]/\P (.tup [z,x,y]) n
def Pa:W2:=λc n P=>∃(d:D) (b:t_ AZ),c=[.sh d]/\Gr d=P3^b.map AO/\b.length<64/\∀a:t_ AZ,a.Perm b->FA a->P (.lst^a.map AO) n
def SY:Ab:=(CT^Bt^AK (BE D7 (AJ 0)^wC^D.int 2)^AK (BE D7 (AJ 0)^wC^D.int 0)^AK (BE D7 (AJ 0)^wC^D.int 1) Ad)
def Jf:Ab:=(CT^Sz Qy^AJ 0)
theorem Tq(h:Mm s=Mm t):s=t:=by
 let#[a,b,l]:=s;let#[c,d,e]:=t;unfold Mm at h
 grind
theorem LP{g:Type}{R:g->g->Prop}(c:∀a b,R a b->R b a->a=b):∀{d f:t_ g},d.Perm f->d.Pairwise R->f.Pairwise R->d=f
 |[],f,p,_,_=>(List.nil_perm.mp p).symm
 |a::d,[],p,_,_=>absurd (List.perm_nil.mp p)^mM _ _
 | a::d,b::f,p,i,j=>by
  have e:a=b:=by
   rcases TW.mp^p.mem_iff.mp Sc with e|h
   .exact e
   .rcases TW.mp^p.mem_iff.mpr^Sc with e|k
    .exact e.symm
    .exact c a b ((i9.mp i).1 b k)^(i9.mp j).1 a h
  subst e;rw[LP c ((List.perm_cons a).mp p) (i9.mp i).2 (i9.mp j).2]
theorem Ep(p:c.Perm d)(e:FA c)(f:FA d):c=d:=LP (λa b x y=>Tq^Ct _ _ y x) p e f
theorem S7{b:Type}{f:b->D}{g:D->b}(e:∀x,g^f x=x){d:t_ b}(h:c.Perm^d.map f):∃a:t_ b,a.Perm d/\c=a.map f:=by
 exists c.map g,?_
 .have:=h.map g
  simp only[i_,show g∘f=id from funext e,km]at this;exact this
 .rw[i_]
  have:∀x∈c,(f∘g) x=x:=λx i=>by
   let#[t, _,rfl]:=Rs.mp^h.mem_iff.mp i
   simp_all
  simp only[jF this,List.map_id']
def ag:D->AZ
 |.tup [.str a,.str b,.int l]=>#[a,b,l]
 |_=>#["","",0]
section

theorem Ih(h:Qy ss n Pd):SY (EE Pd) n (ss++iN 0 .no):=by
 let#[x,y,z, rfl,p]:=h;exact#[_,AD rfl,_,AD rfl,_,AD rfl,z3,p]
theorem UW(h:Hf (λx=>D4^YW x)^a.map AO):FA a:=by
 unfold Hf at h;rw[ke]at h;exact h.imp λ{s t} z=>z _ _ rfl rfl
theorem HH(h:Pa ss n Pd):Jf (EF Pd) n (ss++iN 0 .no):=by
 let#[d,e, rfl,f,b,p]:=h;unfold Jf;refine#[e.map AO,YW,f,by rw[FM]; exact b,λx a Q i=>?_,#[λx a=>?_,λx a y j k l m o=>?_],λq r s=>?_]
 .let#[t,_,rfl]:=Rs.mp a
  exact#[_,_,_,rfl,i]
 .let#[t,_,rfl]:=Rs.mp a
  exact#[Mm t,rfl,mM _ _]
 .let#[t,_,rfl]:=Rs.mp a
  let#[u, _,rfl]:=Rs.mp j;cases(show P3^Mm t=P3 k from m);cases(show P3^Mm u=P3 l from o);rfl
 .let#[c,v,rfl]:=S7 (g:=ag) (λ_=>rfl) r
  exact p c v^UW s
theorem Ou{N:Net}(ok:N.Ok)(h:p∈EN N.ts x):p.1∈N.ps/\1<=p.2/\p.2<=1000000/\∃t∈N.ts,t.len=p.2/\((t.a=x/\t.b=p.1)\/(t.b=x/\t.a=p.1)):=by
 let#[t, c,h]:=kH.mp h;let#[ g,i,j,d,f]:=ok.tin t c
 rcases iH.mp h with h|h
 .split at h
  .rename_i e
   rw[h_.mp h];exact#[i,d,f,t,c,rfl,.inl #[e,rfl]]
  .cases h
 .split at h
  .rename_i e
   rw[h_.mp h];exact#[g,d,f,t,c,rfl,.inr #[e,rfl]]
  .cases h
theorem IE(s t:AZ):BS (AO s)^AO t=r_↔s=t:=by
 let#[a,b,l]:=s;let#[c,d,e]:=t;show(a==c&&(b==d&&(l==e&&r_)))=r_↔_
 simp_all
theorem Rv(h:∀d∈a,item d):By^.lst a:=by
 have c:=qg.mpr λd b=>(h d b).2.2;exact D1 (by cbv) (qv.mpr λd b=>(h d b).1)^by show ES a+1<=100; lk
theorem Xa{N:Net}(ok:N.Ok)(j:s∈N.ts)(k:t∈N.ts)(e:BJ s t)(l:(s.a=x/\s.b=o)\/(s.b=x/\s.a=o))(m:(t.a=x/\t.b=o)\/(t.b=x/\t.a=o)):False:=by
 have i:=(ok.tin s j).2.2.1;have lt:=(ok.tin t k).2.2.1;have c:∀a,¬cs a<cs a:=λa=>j_ _
 rcases l with⟨d,f⟩|⟨d,f⟩ <;>rcases m with⟨g,h⟩|⟨g,h⟩ <;>rw[d,f]at i <;>rw[g,h]at lt
 .rcases e with e|⟨_,e⟩
  .rw[d,g]at e; exact c _ e
  grind
 .grind
 .exact c _^oa i lt
 .rcases e with e|⟨_,e⟩
  .rw[f,h]at e; exact c _ e
  grind
theorem Rh{N:Net}(ok:N.Ok)(x:Str):((EN N.ts x).map (·.1)).Nodup:=by
 have m:∀c:t_ AZ,(∀t∈c,t∈N.ts)->c.Pairwise BJ->((EN c x).map (·.1)).Nodup:=by
  intro c
  induction c with
  |nil=>intro _ _; exact jI
  | cons t c o=>
   intro d l;have k:=o (λs i=>d s^TM _ i) (i9.mp l).2;have lt:=(ok.tin t^d t Sc).2.2.1
   have f:∀y,((t.a=x/\t.b=y)\/(t.b=x/\t.a=y))->y∉(EN c x).map (·.1):=λy p q=>by
    let#[s, i,h]:=Lm q;exact Xa ok (d t Sc) (d s^TM _ i) ((i9.mp l).1 s i) p h
   have e:EN (t::c) x=((if t.a=x then [(t.b,t.len)]else [])++(if t.b=x then [(t.a,t.len)]else []))++EN c x:=by
    unfold EN;simp only[m_]
   rw[e]
   by_cases j:t.a=x
   .have g:¬t.b=x:=λz=>by rw[j,z]at lt; exact j_ _ lt
    rw[if_pos j,if_neg g,im,kM,iQ,iV];exact#[f _^.inl #[j,rfl],k]
   .rw[if_neg j,iD]
    by_cases g:t.b=x
    .rw[if_pos g,kM,iQ,iV]
     exact#[f _^.inr #[g,rfl],k]
    .rw[if_neg g,iD]
     exact k
 exact m N.ts (λ_ h=>h) ok.zq
end
theorem OQ:∀c,97<=c->c<=122->jQ 39 c=[c]:=by
 have:∀c<123,97<=c->jQ 39 c=[c]:=by decide +kernel
 grind
theorem JM:∀(l:t_ Nat) (a:Array Nat),(∀c∈l,97<=c/\c<=122)->(l.foldl (λb c=>b++(jQ 39 c).toArray) a).toList=a.toList++l
 |[],a,_=>by simp
 |c::l,a,h=>by
  have e:=h c Sc;simp only[pM,JM l _ λd f=>h d^TM _ f,OQ c e.1 e.2];simp
theorem JB(h:R0 x):∀c∈cs x,97<=c/\c<=122:=λc a=>by
 have:=h.2.2 c a
 omega
theorem X2(h:R0 x):cs^reprText x=39::(cs x++[39]):=by
 have a:=JB h
 have b:reprQuote x=39:=by
  unfold reprQuote
  have:x.cps.contains 39=s_:=by
   rw[iS];intro c
   have d:39∈cs x:=by
    have:=Array.contains_iff_mem.mp c
    exact p9.mpr this
   grind
  simp_all
 unfold reprText;rw[b];show((x.cps.foldl _ #[ 39]).push 39).toList=_;rw[←Array.foldl_toList,Array.toList_push,JM x.cps.toList _ a];rfl
theorem aq:cs (", ":Str)=[44,32]:=by decide +kernel
theorem ar(b:Bool):cs ((if b=r_ then ",)" else ")":String):Str)=if b=r_ then [44,41]else [41]:=by
 cases b
 .decide +kernel
 .decide +kernel
theorem Nn(a:t_ Str):cs^tupleText a=40::(cs^Str.join ", " a++(if(a.length==1)=r_ then [44,41]else [41])):=by
 unfold tupleText;simp only[G9,G9,ar];rfl
theorem JY(n:Nat):cs ((toString (n:Int):String):Str)=(pJ 10 n).map mw:=by
 rw[pd];show(toString _).toList.map _=_
 have:toString (n:Int)=Nat.repr n:=rfl
 simp_all
theorem Vk{a b:Char}(h:a.toNat=b.toNat):a=b:=Char.ext^UInt32.toNat_inj.mp h
theorem NL:∀{a b:t_ Char},a.map mw=b.map mw->a=b
 |[],[],_=>rfl
 |[],_::_,h=>by cases h
 |_::_,[],h=>by cases h
 |x::a,y::b,h=>by
  have h:=iO h;simp only[Vk h.1,NL h.2]
theorem R9{i j:Int}(b:0<=i)(c:0<=j)(h:cs ((toString i:String):Str)=cs ((toString j:String):Str)):i=j:=by
 let#[n, rfl]:=ju b;let#[m, rfl]:=ju c;simp only[JY,JY]at h
 have:=congrArg (λl=>Nat.ofDigitChars 10 l 0)^NL h
 simp_all
def Ds(t:AZ):t_ Key:=[.inr t.a,.inr t.b,.inl t.len]
def dO(t:AZ):t_ Key:=[.inr t.a,.inr t.b]
def Je(a:t_ AZ):Prop:=a.Pairwise λs t=>CP (Ds t)^Ds s=s_
def Pc(N:Net)(d:D):Prop:=∃a:t_ AZ,d=.tup [.tup^N.ps.map .str,.tup^a.map AO]/\(∀t∈a,t∈N.ts)/\a.Pairwise BJ
noncomputable def zQ(N:Net)(d:D):Bool:=@decide (Pc N d)^lR _
theorem zg:zQ N d=r_↔Pc N d:=by
 unfold zQ
 simp_all
theorem Nc(h:b=r_↔Pc N d):b=zQ N d:=by
 rw[jW,zg];exact h
def bv(N:Net)(d:D):Prop:=∃s∈N.ts,d=AO s
noncomputable def DV(N:Net)(d:D):Bool:=@decide (bv N d)^lR _
theorem qT:DV N d=r_↔bv N d:=by
 unfold DV
 simp_all
theorem Y1(h:BS (.str a) x=r_):x=.str a:=by
 cases x with
 |str b=>
  have h:(a==b)=r_:=h
  simp_all
 |_=>cases h
theorem QV(h:BS x^.str a=r_):x=.str a:=by
 cases x with
 |str b=>
  have h:(b==a)=r_:=h
  simp_all
 |_=>cases h
theorem HW:∀{a:t_ D}{b:t_ Str},oh (BB a)^BB^b.map .str=r_->a=b.map .str
 |[],[],_=>rfl
 |[],_::_,h=>by cases h
 |_::_,[],h=>by cases h
 |x::a,p::b,h=>by
  have h:(jq _ _&&oh _ _)=r_:=h;simp only[iE]at h;simp only[QV h.1,HW h.2];rfl
theorem eqvAll_refl:∀a:t_ Str,oh (BB^a.map .str)^BB^a.map .str=r_
 |[]=>rfl
 |p::a=>by
  show((p==p)&&oh _ _)=r_;rw[beq_self_eq_true,eqvAll_refl a];rfl
theorem vO{ps:t_ Str}:BS p^.tup^ps.map .str=r_↔p=.tup^ps.map .str:=by
 constructor
 .intro h
  cases p with
  |tup a=>rw[HW h]
  |_=>cases h
 .rintro rfl
  exact eqvAll_refl ps
theorem Kp(h:BS (AO s) d=r_):∃z,d=.tup [.str s.a,.str s.b,z]/\∀i,z=.int i->i=s.len:=by
 cases d with
 | tup c=>
  match c,h with
  |[x,y,z],h=>
   have h:(jq (toPy^.str s.a)^toPy x&&(jq (toPy^.str s.b)^toPy y&&(jq (.int s.len)^toPy z&&r_)))=r_:=h;simp only[lU,iE,iE]at h;refine#[z,by rw[Y1 (a:=s.a) (x:=x) h.1,Y1 (a:=s.b) (x:=y) h.2.1],λi e=>?_];subst e;have f:(s.len==i)=r_:=h.2.2
   simp_all
  |[],h=>cases h
  |[x],h=>exact absurd h^by show ¬((jq (toPy^.str s.a)^toPy x&&s_)=r_); simp
  |[x,y],h=>exact absurd h^by show ¬((jq (toPy^.str s.a)^toPy x&&(jq (toPy^.str s.b)^toPy y&&s_))=r_); simp
  |x::y::z::u::r,h=>exact absurd h^by show ¬((jq (toPy^.str s.a)^toPy x&&(jq (toPy^.str s.b)^toPy y&&(jq (.int s.len)^toPy z&&s_)))=r_); simp
 |_=>cases h
theorem Lw(s:AZ):BS (AO s)^AO s=r_:=(IE s s).mpr rfl
theorem MB{k:AZ->t_ Key}(d:∀s t,WD (f s)^f t=P3^CP (k s)^k t):∀{ts:t_ AZ},X7^ts.map f=r_↔ts.Pairwise λs t=>CP (k s)^k t=r_
 |[]=>#[λ_=>.nil,λ_=>rfl]
 |[t]=>#[λ_=>m6 _ _,λ_=>rfl]
 | s::t::r=>by
  show((WD _ _==P3 _)&&X7^(t::r).map f)=r_↔_;rw[iE,MB d (ts:=t::r),d,i9 (a:=s)];constructor
  .rintro⟨b,e⟩
   have b:=iA^eq_of_beq b;refine#[λu c=>?_,e]
   rcases TW.mp c with rfl|c
   .exact b
   .exact DN _ _ _ b^(i9.mp e).1 u c
  simp_all
theorem O0(s t:AZ):WD (AO s)^AO t=P3^CP (Ds s)^Ds t:=by
 show(if(r_&&(r_&&(r_&&r_)))=r_ then P3^G1 (Ds s)^Ds t else q_)=_;rw[if_pos (show(r_&&(r_&&(r_&&r_)))=r_ from rfl),Lo _ _ rfl]
theorem ekey_iff:CP (dO s)^dO t=r_↔BJ s t:=by
 show(if ir _=.inr _ then(if ir _=.inr _ then s_ else decide (cs _<cs _))else decide (cs _<cs _))=r_↔(cs _<cs _\/(s.a=t.a/\cs _<cs _))
 by_cases c:s.a=t.a
 .rw[if_pos^by rw[c]]
  by_cases d:s.b=t.b
  .simp_all
  .rw[if_neg λe=>d^jU e,decide_eq_true_eq,c]
   constructor
   .intro h; simp_all
   grind
 simp_all
theorem Jy(s:AZ):¬BJ s s:=by
 rintro(h|⟨_,h⟩) <;>exact BU _ h
theorem LA(h:BJ s t):CP (Ds s)^Ds t=r_:=by
 show(if ir _=.inr _ then(if ir _=.inr _ then(if o5 _=.inl _ then s_ else decide _)else decide (cs _<cs _))else decide (cs _<cs _))=r_
 rcases h with h|⟨h,c⟩
 .rw[if_neg λe=>BU s.a^by simp_all,decide_eq_true h]
 .rw[if_pos (by rw[h]),if_neg λe=>BU s.b^by simp_all,decide_eq_true c]
theorem Gs:∀{e:t_ AZ},e.Pairwise BJ->∀s∈e,∀t∈e,s.a=t.a->s.b=t.b->s=t
 |[],_,s,c,_,_,_,_=>by cases c
 | x::e,h,s,c,t,d,g,i=>by
  have h:=i9.mp h
  rcases TW.mp c with j|c
  .rcases TW.mp d with f|d
   .rw[j,f]
   .rcases h.1 t d with h|⟨_,h⟩
    .grind
    grind
  .rcases TW.mp d with f|d
   .rcases h.1 s c with h|⟨_,h⟩
    .rw[←f,g]at h; exact absurd h^BU _
    grind
   .exact Gs h.2 s c t d g i
theorem XZ{N:Net}(ok:N.Ok)(f:s∈N.ts)(g:t∈N.ts)(h:CP (Ds s)^Ds t=r_):BJ s t:=by
 have h:(if ir _=.inr _ then(if ir _=.inr _ then(if o5 _=.inl _ then s_ else decide _)else decide _)else decide _)=r_:=h
 by_cases c:s.a=t.a
 .rw[if_pos^by rw[c]]at h
  by_cases d:s.b=t.b
  .rw[if_pos (by rw[d]),if_pos^by rw[Gs ok.zq s f t g c d]]at h
   cases h
  .rw[if_neg λe=>d^jU e,decide_eq_true_eq]at h
   exact .inr #[c,h]
 .rw[if_neg λe=>c^jU e,decide_eq_true_eq]at h
  exact .inl h
theorem CK{a:t_ AZ}(h:a.Pairwise BJ):a.Nodup:=h.imp λ{s t} h e=>by rw[e]at h; exact Jy _ h
theorem sub_len{l m:t_ AZ}(a:l.Nodup)(b:m.Nodup)(h:∀t∈l,t∈m):l.length<=m.length:=by
 have:l.Perm (m.filter λt=>decide (t∈l)):=(oi a^b.filter _).mpr λt=>by
  simp_all
 rw[this.length_eq];exact j8 _ _
theorem Zd{N:Net}(ok:N.Ok)(h:∀t∈a,t∈N.ts)(b:a.Pairwise BJ):Net.Ok #[N.ps,a]:=#[ok.names,ok.rise,λt c=>ok.tin t^h t c,b]
theorem KC{P:AZ->Prop}:∀{b:t_ D},(∀d∈b,∃s,P s/\d=AO s)->∃a:t_ AZ,b=a.map AO/\∀t∈a,P t
 |[],_=>#[[],rfl,λt h=>by cases h]
 |d::b,h=>by
  let#[s, f,rfl]:=h d Sc;let#[a, rfl,g]:=KC λe c=>h e^TM _ c;refine#[s::a,rfl,λt z=>?_]
  grind
theorem Mb(h:a.all^DV N=r_):∃b:t_ AZ,a=b.map AO/\∀t∈b,t∈N.ts:=
 KC λd c=>by
  let#[s, f,e]:=qT.mp^jH.mp h d c;exact#[s,f,e]
theorem RA(ok:N.Ok)(p:D)(b:t_ D):(BS p^.tup^N.ps.map .str&&(b.all^DV N&&X7 b))=zQ N^.tup [p,.tup b]:=by
 refine Nc #[λh=>?_,λh=>?_]
 .rw[iE,iE]at h
  let#[f, rfl,a]:=Mb h.2.1;exists f,by rw[vO.mp h.1],a
  have:=(MB O0).mp h.2.2
  exact this.imp_of_mem λ{s t} g c z=>XZ ok (a s g) (a t c) z
 .let#[f,e,a,i]:=h
  cases e;simp only[iE,iE];refine#[vO.mpr rfl,jH.mpr λd j=>?_,(MB O0).mpr^i.imp λ{s t} z=>LA z];let#[t, c,rfl]:=Rs.mp j;exact qT.mpr #[t,a t c,rfl]
theorem Eh(h:∀p a,d≠.tup [p,.tup a]):zQ N d=s_:=by
 rw[iS];intro z;let#[b, e,_]:=zg.mp z;exact h _ _ e
end Nt
namespace L2
open PySem.W
end L2
namespace Dp
open L2
end Dp
namespace Nt
open L2 Dp
def look(a:t_ AZ)(x y:Str):u_ Int:=((EN a x).find? λz=>decide (z.1=y)).map (·.2)
def Ey(a:t_ AZ):Str->t_ Str->Int->u_ Int
 |_,[],s=>P3 s
 |x,y::r,s=>match look a x y with
  |some l=>Ey a y r (s+l)
  |none=>q_
def OT:u_ Int->D
 |some i=>.int i
 |none=>.non
def B6:D->Bool
 |.str _=>r_
 |_=>s_
def Rq(N:Net):t_ Str->D
 |x::r=>if x∈N.ps then OT^Ey N.ts x r 0 else .non
 |[]=>.non
def O2(N:Net):D->D
 |.tup a=>if a.all B6 then Rq N^strsOf a else .non
 |_=>.non
def U0(d:D):Prop:=qh (10 ^ 40) d/\Bz d<=160000/\Br d<=50
abbrev gA:W2:=λa n P=>∃(N:Net) (d:D),a=[.sh^Bl N,.sh d]/\N.Ok/\N.ps.length<=26/\N.ts.length<=60/\U0 d/\P (O2 N d) n
theorem Ei:∀{b:t_ D},b.all B6=r_->∃a:t_ Str,b=a.map .str
 |[],_=>#[[],rfl]
 |d::r,h=>by
  simp only[lS,iE]at h;let#[a,e]:=Ei h.2;cases d with
  |str x=>exact#[x::a,by simp_all]
  |_=>cases h.1
theorem all_strs(a:t_ Str):(a.map D.str).all B6=r_:=by rw[List.all_map]; exact jH.mpr λ_ _=>rfl
theorem Hw:∀{a:t_ Str},CN (a.map .inr) (a.map g)^.inr x=if x∈a then P3^g x else q_
 |[]=>rfl
 |p::a=>by
  show(if ir p=.inr x then P3 _ else CN _ _ _)=_;rw[Hw]
  grind
theorem K_:∀{a:t_ (Str×Int)},CN (a.map λx=>.inr x.1) (a.map λx=>.int x.2)^.inr y=((a.find? λz=>decide (z.1=y)).map (·.2)).map .int
 |[]=>rfl
 |p::b=>by
  show(if ir _=.inr y then P3 _ else CN _ _ _)=_;rw[K_]
  by_cases e:p.1=y
  .simp_all
  simp_all
theorem Uo{N:Net}(ok:N.Ok)(h:look N.ts x y=P3 l):y∈N.ps/\1<=l/\l<=1000000:=by
 unfold look at h;cases c:(EN N.ts x).find? λz=>decide (z.1=y)with
 |none=>simp_all
 |some z=>
  have d:=pR c;let#[t, b,a]:=kH.mp^mV c;let#[ e,f,_,g,i]:=ok.tin t b
  rcases iH.mp a with a|a
  .simp_all
  simp_all
section

theorem NN(ok:N.Ok):∀(r:t_ Str) (x:Str) (s:Int) (a b:Slot),x∈N.ps->(match Ey N.ts x r s with|some l=>∀a b,d.nx n [e,f,.sh^Gn N,.sh^.int l,a,b]|none=>d.rt .non n)->
  Bc (L_ 2^B8 (A5 4)^B8 (A5 5) Hd) (BO (DU (A8^BE (dL r_) (AJ 5)^BE HV (AJ 2)^AJ 4) (CT^wC D.non) CA)^YO 3^BE HV (BE HV (AJ 2)^AJ 4)^AJ 5) d (Fa ((x::r).map .str)^r.map .str) n [e,f,.sh^Gn N,.sh^.int s,a,b]
 |[],x,s,a,b,g,h=>h a b
 | y::r,x,s,a,b,g,h=>by
  have i:CN (N.ps.map .inr) (N.ps.map^cr N.ts)^.inr x=P3^cr N.ts x:=by rw[Hw,if_pos g]
  exists rfl,rfl;exists _,_,.inr x,_,rfl,rfl,i,_,_,.inr y,rfl,rfl;rw[K_];unfold Ey at h;have j:((EN N.ts x).find? λz=>decide (z.1=y)).map (·.2)=look N.ts x y:=rfl;rw[j];cases c:look N.ts x y with
  |none=>simp only[c]at h; exact Ar h
  |some l=>
   rw[c]at h;have k:CN ((EN N.ts x).map λz=>.inr z.1) ((EN N.ts x).map λz=>.int z.2)^.inr y=P3^.int l:=by simp only[K_,j,c]; rfl
   refine As #[s,rfl,_,_,.inr x,_,rfl,rfl,i,_,_,.inr y,_,rfl,rfl,k,l,rfl,?_];exact NN ok r y (s+l) _ _ (Uo ok c).1 h
theorem CC(c:D->Bool)(g:D->D)(I:t_ Slot->Prop):∀(j e:t_ D) (n:Nat) (f:t_ Slot),
  (∀d∈j,∀(f:t_ Slot) (n:Nat) (r:D->Nat->t_ Slot->Prop) (s:Nat->t_ Slot->Prop),I f->(∀i,I i->c d=r_->r (g d) n i)->(∀i,I i->c d=s_->s n i)->b d f λk=>p n k λc t=>if c=r_ then q t k λy u=>r y u k else s t k)->I f->P (e++(j.filter c).map g) n->Di b p q P j e n f
 |[],e,n,f,_,_,h=>by simp only[List.filter_nil,pI,im]at h; exact h
 |d::j,e,n,f,l,m,h=>l d Sc f n _ _ m
  (λi a v=>CC c g I j _ n _ (λd o=>l d^TM _ o) a^by simp_all)
  (λi a v=>CC c g I j _ n _ (λd o=>l d^TM _ o) a^by simp_all)
end
def f_:W2:=λa n P=>∃(N:Net) (d:D),a=[.sh^Bl N,.sh d]/\N.Ok/\By d/\P (.bl^DV N d) n
def Y6:W2:=λa n P=>∃(N:Net) (d:D),a=[.sh^Bl N,.sh d]/\N.Ok/\N.ps.length<=24/\N.ts.length<=60/\qh (10 ^ 41) d/\Bz d<=200000/\Br d<=90/\P (.bl^zQ N d) n
def V7:W2:=λc n P=>∃(N:Net) (b:t_ AZ),c=[.sh^Bl N,.sh^Bl #[N.ps,b]]/\N.Ok/\N.ts.length<64/\(∀t∈b,t∈N.ts)/\∀a:t_ AZ,a.Perm (N.ts.filter λt=>decide (t∉b))->FA a->P (.lst^a.map AO) n
theorem QG(h:Hf D4^a.map AO):Je a:=by
 unfold Hf at h;rw[ke]at h;exact h.imp λ{s t} z=>z _ _ rfl rfl
theorem Cy{N:Net}(ok:N.Ok){a:t_ AZ}(h:∀t∈a,t∈N.ts):By^.tup^a.map AO/\By^.lst^a.map AO:=by
 have c:∀d∈a.map AO,item d:=λd b=>by
  let#[t, e,rfl]:=Rs.mp b;exact Cf ok _^Rs.mpr #[t,h t e,rfl]
 have f:ES^a.map AO<=1:=qg.mpr λd b=>(c d b).2.2;exact#[D1 (B:=1000001) (by cbv) (qv.mpr λd b=>(c d b).1) (by show ES^a.map AO+1<=100; lk),Rv c]
theorem Bi{N:Net}(ok:N.Ok)(h:t∈N.ts):By^AO t:=by
 have a:=Cf ok _^Rs.mpr #[t,h,rfl];exact D1 (B:=1000001) (by cbv) a.1^by have:=a.2.2; lk
theorem B3{a:t_ AZ}:((a.map AO).any λy=>BS y^AO t)=decide (t∈a):=by
 rw[jW,kj,decide_eq_true_eq];constructor
 .rintro⟨d,b,e⟩
  let#[s, c,rfl]:=Rs.mp b;rw[←(IE s t).mp e];exact c
 .intro h
  exact#[AO t,Rs.mpr #[t,h,rfl],(IE t t).mpr rfl]
theorem QL:∀a:t_ D,a.length<=CO a
 |[]=>XV _
 |x::a=>by
  have:=QL a
  show a.length+1<=Bz x+1+CO a;lk
theorem NP:∀c:t_ AZ,200*c.length<=CO^c.map AO
 |[]=>XV _
 |t::c=>by
  have:=NP c
  show 200*(c.length+1)<=t.a.length+1+(t.b.length+1+(200+1+0))+1+CO^c.map AO;lk
theorem TQ(h:Ds s=Ds t):s=t:=by
 let#[a,b,l]:=s;let#[c,d,e]:=t;unfold Ds at h;simp only[List.cons.injEq,Sum.inl.injEq,Sum.inr.injEq,and_true]at h;let#[rfl,rfl,rfl]:=h;rfl
theorem IV(p:c.Perm d)(e:Je c)(f:Je d):c=d:=LP (λa b x y=>TQ^Ct _ _ y x) p e f
theorem Fw(h:a.Pairwise BJ):Je a:=h.imp λ{s t} z=>by
 cases e:CP (Ds t)^Ds s with
 |false=>rfl
 |true=>
  have:=DN _ _ _ (LA z) e
  rw[Ew]at this;cases this
def Qw:W2:=λa n P=>∃l t b x:Int,a=[.sh^.int l,.sh^.tup [.int t,.int b],.sh^.int x]/\1<=b/\b<=1000000/\1<=t/\t<=1000000/\P (.bl (decide (l*b<=x*t))) n
section
theorem fw(a:0<=j)(b:j<=1000000):zh i j:=.inr #[by lk,by lk]
end
def Ed(N:Net)(x y:Str)(l:Int):Prop:=(y,l)∈EN N.ts x
inductive Wk (N:Net) (s:Str):Str->Int->Prop
 |nil:Wk N s s 0
 |snoc {x y:Str}{d l:Int}:Wk N s x d->Ed N x y l->Wk N s y (d+l)
def OD(N:Net)(s x:Str)(d:Int):Prop:=Wk N s x d/\∀a,Wk N s x a->d<=a
theorem Ed.pos(ok:N.Ok)(h:Ed N x y l):1<=l/\l<=1000000:=by
 let#[ _,a,b,_]:=Ou ok h
 simp_all
theorem Ed.ins{N:Net}(ok:N.Ok){x y:Str}{l:Int}(h:Ed N x y l):y∈N.ps:=(Ou ok h).1
theorem Wk.pos(ok:N.Ok)(h:Wk N s x d):0<=d:=by
 induction h with
 |nil=>lk
 |snoc _ a b=>have:=a.pos ok; lk
theorem Wk.ins{N:Net}(ok:N.Ok){s x:Str}{d:Int}(a:s∈N.ps)(h:Wk N s x d):x∈N.ps:=by
 cases h with
 |nil=>exact a
 |snoc _ b=>exact b.ins ok
theorem Ci(c:t∈N.ts):Ed N t.a t.b t.len/\Ed N t.b t.a t.len:=by
 constructor
 .exact kH.mpr #[t,c,jA _^by simp_all]
 .exact kH.mpr #[t,c,iL _^by simp_all]
theorem Ed.tie(ok:N.Ok)(h:Ed N x y l):∃t∈N.ts,t.len=l/\((t.a=x/\t.b=y)\/(t.b=x/\t.a=y)):=by
 let#[ _,_,_, t, c,e,h]:=Ou ok h;exact#[t,c,e,h]
structure gE (ks:List Key) (ds:List D) (Bl:α->D) (F:Str->Option α):Prop where
 len:ks.length=ds.length
 at_:∀x:Str,CN ks ds^.inr x=(F x).map Bl
 dom:∀k∈ks,∃x:Str,k=.inr x
 nd:ks.Nodup
abbrev e8:=Str->u_ (Int×u_ Str)
structure Dj (N:Net) (s:Str) (F:e8) (Wt:List Str):Prop where
 start:F s=P3 (0,q_)
 ins:∀x,F x≠q_->x∈N.ps
 wk:∀x d p,F x=P3 (d,p)->Wk N s x d
 prev:∀x d p,F x=P3 (d,p)->(p=q_/\x=s)\/∃y dy q l,p=P3 y/\F y=P3 (dy,q)/\y∉Wt/\Ed N y x l/\d=dy+l
 wfound:∀x∈Wt,F x≠q_
 nd:Wt.Nodup
 done:∀x d p y l,F x=P3 (d,p)->x∉Wt->Ed N x y l->∃dy q,F y=P3 (dy,q)/\dy<=d+l
 near:∀x d p y dy q,F x=P3 (d,p)->x∉Wt->F y=P3 (dy,q)->y∈Wt->d<=dy
structure Dm (N:Net) (s:Str) (F:e8) (Wt:List Str) (v:Str) (dv:Int) (seen:List (Str×Int)):Prop where
 start:F s=P3 (0,q_)
 ins:∀x,F x≠q_->x∈N.ps
 wk:∀x d p,F x=P3 (d,p)->Wk N s x d
 prev:∀x d p,F x=P3 (d,p)->(p=q_/\x=s)\/∃y dy q l,p=P3 y/\F y=P3 (dy,q)/\y∉Wt/\Ed N y x l/\d=dy+l
 wfound:∀x∈Wt,F x≠q_
 nd:Wt.Nodup
 done:∀x d p y l,F x=P3 (d,p)->x∉Wt->x≠v->Ed N x y l->∃dy q,F y=P3 (dy,q)/\dy<=d+l
 near:∀x d p y dy q,F x=P3 (d,p)->x∉Wt->F y=P3 (dy,q)->y∈Wt->d<=dy
 here:∃p,F v=P3 (dv,p)
 out:v∉Wt
 least:∀x d p,F x=P3 (d,p)->x∉Wt->d<=dv
 gone:∀y l,(y,l)∈seen->∃dy q,F y=P3 (dy,q)/\dy<=dv+l
structure Told (N:Net) (s:Str) (F:e8):Prop where
 start:F s=P3 (0,q_)
 ins:∀x,F x≠q_->x∈N.ps
 least:∀x d p,F x=P3 (d,p)->OD N s x d
 all:∀x d,Wk N s x d->F x≠q_
 prev:∀x d p,F x=P3 (d,p)->(p=q_/\x=s)\/∃y dy q l,p=P3 y/\F y=P3 (dy,q)/\Ed N y x l/\d=dy+l
abbrev Kn:=Str->u_ Int
structure Bf (N:Net) (s:Str) (c:Nat) (K:Kn):Prop where
 start:∃d,K s=P3 d/\d<=0
 ins:∀x,K x≠q_->x∈N.ps
 wk:∀x d,K x=P3 d->Wk N s x d
 top:∀x d,K x=P3 d->d<=1000000*(c:Int)
structure gZ (N:Net) (s:Str) (K:Kn):Prop where
 ins:∀x,K x≠q_->x∈N.ps
 least:∀x d,K x=P3 d->OD N s x d
 all:∀x d,Wk N s x d->K x≠q_
 top:∀x d,K x=P3 d->d<=30000000
def walk(N:Net):t_ Str->Int->Prop
 |[],_=>False
 |[_],d=>d=0
 |x::y::r,d=>∃l e,Ed N x y l/\walk N (y::r) e/\d=l+e
def okN(N:Net):Prop:=N.Ok/\N.ps.length<=25/\N.ts.length<=60
structure hU (N:Net) (F:e8) (b:Str) (db:Int) (acc:List Str) (pl:Option Str):Prop where
 st:(acc=[]/\pl=P3 b)\/∃z r dz,acc.reverse=z::r/\F z=P3 (dz,pl)/\walk N acc.reverse (db - dz)/\acc.reverse.getLast?=P3 b
 nd:acc.Nodup
 ins:∀x∈acc,x∈N.ps
 less:∀y dy q,pl=P3 y->F y=P3 (dy,q)->∀x∈acc,∃dx qx,F x=P3 (dx,qx)/\dy<dx
 fnd:∀y,pl=P3 y->F y≠q_
theorem GQ{w:t_ Str}(h:w.getLast?=P3 b):atI (w.map D.str) (-1)=P3^.str b:=by
 let#[a, rfl]:=mW.mp h;rw[ij];exact N3 _ _
def ends(t:AZ):Str×Str:=(t.a,t.b)
theorem Dn(f:a->e)(b:t_ a)(c d:u_ Int):Dp.cutD (b.map f) c d=(Dp.cutD b c d).map f:=by
 unfold Dp.cutD
 simp_all
theorem Tp(a:Int)(k:Nat):CJ a (k+1)=.int a::CJ (a+1) k:=by
 unfold CJ;simp only[nA,iQ,i_];refine List.cons_eq_cons.mpr #[by simp_all,jF λi _=>?_]
 grind
def sub(N:Net)(kept:t_ AZ):Net:=#[N.ps,N.ts.filter λu=>decide (u∈kept)]
def cn(N:Net)(t b:Int)(u:AZ):Prop:=∃d,OD N u.a u.b d/\d*b<=u.len*t
def bH:W2:=λc n P=>∃(N:Net) (z:D) (b:t_ AZ),c=[.sh^Bl N,.br z]/\Gr z=P3^b.map AO/\b.length<64/\∀a:t_ AZ,a.Perm b->Je a->P (Bl #[N.ps,a]) n
theorem Wk.mono(h:∀t∈N.ts,t∈a.ts)(b:Wk N s x d):Wk a s x d:=by
 induction b with
 |nil=>exact .nil
 |snoc _ c e=>
  refine .snoc e ?_;let#[t, f,z]:=kH.mp c;exact kH.mpr #[t,h t f,z]
theorem Iz{f g:Type}:∀{l:t_ (f×g)},(l.map (·.1)).Nodup->∀{p q:f×g},p∈l->q∈l->p.1=q.1->p=q
 |a::l,d,p,q,h,i,e=>by
  rw[iQ,iV]at d
  rcases TW.mp h with b|b <;>rcases TW.mp i with c|c
  .rw[b,c]
  .grind
  .exact absurd (Rs.mpr #[p,b,by rw[e,c]]) d.1
  .exact Iz d.2 b c e
theorem QJ(ok:N.Ok)(h:Ed N x y l):look N.ts x y=P3 l:=by
 unfold look;cases e:(EN _ x).find? _ with
 |none=>exact absurd (oS.mp e _ h)^by simp
 |some q=>
  have a:=of_decide_eq_true^pR (p:=λz=>decide _) e;rw[Iz (Rh ok x) (mV e) h a];rfl
theorem MP(ok:N.Ok):∀{r:t_ Str}{x:Str}{s d:Int},walk N (x::r) d->Ey N.ts x r s=P3 (s+d)
 |[],x,s,d,h=>by
  have:=h
  subst this;show P3 s=P3 _
  simp_all
 |y::r,x,s,d,h=>by
  let#[l,e, a,b,rfl]:=h;show(match look _ x y with|some l=>Ey _ y r _|none=>q_)=_;rw[QJ ok a];show Ey _ y r _=_;rw[MP ok b,Int.add_assoc]
end Nt
namespace L2
open PySem.AutoSeq1 (wpAny_loadPart')
theorem WM(t:Db)(items:Array Ev)(n:Nat)(x:Ev)(e:Ev->Bool)(j:Nat)(hj:j<items.size)(hit:e items[j]=r_)(hno:∀m (hm:m<items.size),m<j->e items[m]=s_)
  (hl:s.heap.get? t=P3 {cls:=.type "tuple",dict:=q_,data:=.seq items n,slots:=#[]}) (he:∀y,y∈items->PySem.SeqAt.EqAt A.in1 s y x^e y)
  (h:R (.ok^.ret^.int (j:Int) s.toks) {s with toks:=s.toks+1}):
  wpAny (model prog w) A.in1 (j9.«tuple.index» #[[.ref t,x],[]]) (λfin s'=>match fin with|.done f=>R (.ok f) s'|.again c'=>c'.quiet=r_/\codeAny (model prog w) A c' R s') (λe s'=>R (.error e) s') s:=by
 let#[hp,g,d,tk,os]:=s
 wp_walk using kF hl
 have go:∀(Q:u_ _×Unit->No->Prop) (E:Ev->No->Prop),(∀r,Q (P3 r,()) #[hp,g,d,tk+1,os]\/True)->∀(k i:Nat),i<=j->i+k=items.size->
   (∀r:Fin,r=.done^.ret^.int (j:Int) tk->Q (P3 r,()) #[hp,g,d,tk+1,os])->
   wpAny (model prog w) A.in1 (forIn (List.range' i k 1) ((q_:u_ Fin),()) (fun(i:Nat) __s=>match items[i]? with
      | some y=>do
       let __do_lift ←eqBool y x
       if __do_lift=r_ then do
         let __do_lift ←retInt (i:Int)
         pure (ForInStep.done (P3 __do_lift,()))
        else pure^kU (q_,())
      |x=>pure^kU (q_,()))) Q E #[hp,g,d,tk,os]:=by
  intro Q E _ k
  induction k with
  |zero=>intro i h1 h2; lk
  | succ k ih=>
   intro i h1 h2 hQ;have hlt:i<items.size:=by lk
   rw[List.range'_succ,kx];have hi:items[i]?=P3 items[i]:=lC hlt;simp only[hi];refine Ch^Ch^he _ (Array.getElem_mem hlt) prog w _ _ ?_
   by_cases c:i=j
   .subst c
    rw[hit]
    wp_walk
    exact hQ _ rfl
   .rw[hno i hlt^by lk]
    wp_walk
    exact ih (i+1) (by lk) (by lk) hQ
 show wpAny (model prog w) A.in1 (forIn [:min items.size items.size] ((q_:u_ Fin),()) _) _ _ _;rw[Std.Legacy.Range.forIn_eq_forIn_range']
 have er:List.range' (Std.Legacy.Range.start [:min items.size items.size]) (pk [:min items.size items.size])^Std.Legacy.Range.step [:min items.size items.size]=List.range' 0 items.size 1:=by
  simp[pk]
 rw[er];refine go _ _ (λ_=>.inr trivial) items.size 0 (XV _) (Nat.zero_add _) λr er=>?_;subst er;exact Op h
section

def Wd:V->t_ V->Hp->VK->Prop:=λx g H Q=>∃(a:Db) (c:t_ V) (y:V) (b:t_ md) (d:md) (j:Nat),x=.ref a/\g=[y]/\H a=P3^.tup c/\RVs H b c/\RV H d y/\kd b=r_/\d.canLay0=r_/\d.depth<=100 /\
 (∃e,b[j]?=P3 e/\jq e d=r_)/\(∀m f,m<j->b[m]?=P3 f->jq f d=s_)/\Q (.int (j:Int)) H
theorem JC(O:qk k X.A):eh X "tuple.index" Wd:=by
 intro P s Z H x vs v us Q I S T h;let#[l,U,y,b,d,j,rfl,rfl,V,f,W,C,Y,dd,#[dj,hj,a0],g,q]:=h;subst S;let#[u, rfl,ru]:=T.one;let#[z,a,r,#[#[a1,dt,D,sl],e,E,n,G,J,K]]:=(show qU X.prog X.w H s.heap l^.tup U from I.hok l _ V);simp only at E G J K;subst E G J K;let#[as, ra]:=RVs.reads I f r;let#[bs, rb]:=RV.reads I W ru;have L:=PySem.SeqAt.readsAll_map b a as C ra;have M:b.length=a.length:=by simp only[←L,FM]
 have hu:=O.un;have N:min (jn b) d.depth<=d.depth:=pB _ _
 have i:∀m o,b[m]?=P3 o->∀(h:m<a.toArray.size),PySem.SeqAt.readOf s.heap a.toArray[m]=o:=λm o e h=>by
  rw[←L,T0]at e;have h':m<a.length:=by simpa using h
  simp_all
 have a2:j<a.length:=by grind
 have p:=WM (prog:=X.prog) (w:=X.w) (A:=X.A) (R:=wants (EP X P Z Q) X.xe) l a.toArray n u _ j (by lk) (by simp_all) (λm t B=>by
  have c:m<b.length:=by simp_all
  rw[i m b[m] (On c) t];exact g m b[m] B (On c)) e (PySem.SeqAt.items_eqAt (vs:=a.toArray) (by lk) rb C Y^by lk) #[.int j,H,I.tok _,#[_,rfl],q]
 exact mH^nX PySem.F.slot_tuple_index.plain PySem.F.entry_tuple_index^PySem.F.slot_tuple_index.check _ _ _ _ _ _ _ _ #[_,e,rfl] (PySem.F.args_tuple_index_2 _ _) p
def bx(r:V->t_ V->Hp->VK->Prop)(to:TE)(t:TA):TE:=λZ H Q=>to Z H λx c=>(∃a b,x=.ref a/\c a=P3^.tup b)/\t Z c λb H2=>r x b H2 Q
theorem Ip{l:String}(j:Slot "tuple" name l)(p:typeOf^.builtin l=pure^.type "method_descriptor")(A:eh X l r)(B:PE X o to)(C:PA X (e::f) t)
  (g:attributeBase o name X.env^eval o X.env=eval o X.env:=by rfl)
  (k:((backTo c^starEach (e::f) X.env).all (λx=>!x.1)&&(backToKw c^keywordEach [] X.env).all (λx=>x.1.isSome)
   && decide ((e::f).length+([]:t_ mB).length+(if([]:t_ mB).isEmpty then 0 else 1)<30))=r_:=by rfl)
  (i:(d.endLine==c.line)=r_:=by rfl) (D:starEach (e::f) X.env=(s_,eval e X.env)::starEach f X.env:=by rfl) (m:(backTo c^starEach f X.env).any (·.1)=s_:=by rfl):
  PE X (.Call (.Attribute o name d) (e::f) [] c) (bx r to t):=by
 intro q s Z H Q I h;refine wpAny_Call_method_late g k i rfl (thn (B q s Z H _ I h) λv E zz=>?_);let#[x,G, u,w,#[a,Y, ex,J],K]:=zz;subst ex;have L:v=iF a:=w;subst L;let#[ z, M, _, o, N,O, n, e3,e4,e5]:=(u.hok a _ J);refine#["tuple",l,PySem.F.plainAttrs_tuple,j,p,#[o,N,O],λb eb=>by simp_all,?_];have y:=C c q E Z G _ u K;rw[D]at y ⊢;refine pW (by simp_all)^p_ ?_;refine thn y λP R zz=>?_;let#[S,H2, T,U,W]:=zz;exact A q R Z H2 (.ref a) S (.ref a) P Q T w U W
end
end L2
namespace Dp
open L2
section

def dD(d:D)(c:t_ D)(P:D->Prop):Prop:=∃(b:t_ D) (y:D) (j:Nat),d=.tup b/\c=[y]/\By^.tup b/\By y/\(∃x,b[j]?=P3 x/\BS x y=r_)/\(∀m x,m<j->b[m]?=P3 x->BS x y=s_)/\P^.int (j:Int)
def fA(c:DW)(ws:DR):DW:=λn b P=>c n b λd e=>(∃f,d=.tup f)/\ws e b λg h=>dD d g λz=>P z h
theorem dX{K:Frag}:hV K .sh "tuple" Wd dD:=by
 intro U M H d F x G P Q k I l n w q;let#[h,y,j,rfl,rfl,#[o,r,_],#[s,t,u],#[J,b,c],f,w]:=w;let#[v, rfl,z]:=C4 n;let#[a,A, rfl,B,C]:=l.tup
 have g:∀(m:Nat) (p:md),(BB h)[m]?=P3 p->∃x,h[m]?=P3 x/\p=toPy x:=λm p e=>by
  simp only[DA,T0]at e;let#[x, i,rfl]:=iX.mp e
  simp_all
 refine#[a,A,v,_,_,j,rfl,rfl,B,C.rv o,z.rv s,r,t,u,#[_,by simp only[DA,T0,b]; rfl,c],λm p D e=>?_,q _ H (.int j) .refl rfl w];let#[E, i,rfl]:=g m p e;exact f m E D i
theorem D5(E:qk k X.A)(G:DE X a zR wa)(I:WE X (e::es) ws)
  (h:attributeBase a "index" X.env^eval a X.env=eval a X.env:=by rfl)
  (j:((backTo b^starEach (e::es) X.env).all (λx=>!x.1)&&(backToKw b^keywordEach [] X.env).all (λx=>x.1.isSome)
   && decide ((e::es).length+([]:t_ mB).length+(if([]:t_ mB).isEmpty then 0 else 1)<30))=r_:=by rfl)
  (i:(f.endLine==b.line)=r_:=by rfl) (s:starEach (e::es) X.env=(s_,eval e X.env)::starEach es X.env:=by rfl) (c:(backTo b^starEach es X.env).any (·.1)=s_:=by rfl):
  DE X (.Call (.Attribute a "index" f) (e::es) [] b) .sh (fA wa ws):=by
 let#[t, J,K]:=G;let#[u, L,N]:=I;refine#[_,Ip PySem.F.slot_tuple_index PySem.F.type_tuple_index (JC E) J L h j i s c,λC M H n y Z P Q R w q=>?_];refine K C M H n y Z _ _ R w λx O d S o T U p=>?_;have r:=R.step o T;have B:=U.vT R.dom R.vM;let#[#[W,rfl],p]:=p;refine#[by let#[a,Y, rfl,hn,s]:=B.tup; exact#[a,Y,rfl,hn],?_];refine N C M O S y Z _ _ r p λvs H2 ds n2 l D r2 p2=>?_;have m:=r.step l D;refine dX C.V M H2 (.tup W) ds x vs _ _ m.dom m.vM (B.qq (r.qq l) l R.uV) r2 p2 λv H3 z g vr pz=>?_;exact q v H3 z n2 ((o.trans l).trans g.ext) (D.grow g) (VR.back (o.trans l) vr) pz
end
end Dp
namespace Nt
open L2 Dp
def JK:D->Bool
 |.int i=>decide (0<=i)
 |_=>s_
def bY(N:Net):D->Bool
 |.tup a=>((a.length:Int)==(N.ps.length:Int))&&a.all JK
 |_=>s_
def fW:D->Int
 |.int i=>i
 |_=>0
def Cq(N:Net)(b:t_ D)(a:Str):Int:=fW^(CN (N.ps.map .inr) b^.inr a).getD .non
def CG(i:Int):Int:=if i<0 then -i else i
def EZ(N:Net):D->Bool
 |.tup c=>bY N^.tup c&&N.ts.all λt=>decide (CG (Cq N c t.a - Cq N c t.b)<=t.len)
 |_=>s_
def B7(m:Int):u_ Int->Int
 |some d=>if d<m then d else m
 |none=>m
def YD:W2:=λa n P=>∃(N:Net) (d:D),a=[.sh^Bl N,.sh d]/\okN N/\P (.bl^bY N d) n
def dk:W2:=λd n P=>∃(N:Net) (c:t_ D) (a b:Str),d=[.sh^Bl N,.sh^.tup c,.sh^.str a,.sh^.str b]/\okN N/\c.length=N.ps.length/\(∀x∈c,JK x=r_)/\a∈N.ps/\b∈N.ps/\P (.int^CG (Cq N c a - Cq N c b)) n
def Y9:W2:=λa n P=>∃(N:Net) (d:D),a=[.sh^Bl N,.sh d]/\okN N/\P (.bl^EZ N d) n
theorem Pm:∀{b:t_ Key}{a:t_ D}{k:Key}{z:D},CN b a k=P3 z->z∈a
 |[],_,k,z,h=>by cases h
 |_::_,[],k,z,h=>by cases h
 |e::b,d::a,k,z,h=>by
  have c:(if e=k then P3 d else CN b a k)=P3 z:=h
  split at c
  .grind
  .exact TM _^Pm c
theorem OK:∀{b:t_ Str}{c:t_ D}{j:Nat}{a:Str},b.Nodup->b[j]?=P3 a->CN (b.map .inr) c^.inr a=c[j]?
 |[],c,j,a,_,h=>by simp at h
 |p::b,[],j,a,_,h=>by rfl
 | p::b,x::c,j,a,d,h=>by
  rw[iV]at d;show(if ir p=.inr a then P3 x else CN _ c _)=_;cases j with
  |zero=>
   simp_all
  |succ j=>
   rw[if_neg λz=>d.1 (by simp only[jU z]; exact iu h),OK d.2 h];rfl
theorem ge_int(h:JK d=r_):∃i,d=.int i/\0<=i:=by
 cases d with
 |int i=>exact#[i,rfl,of_decide_eq_true h]
 |_=>cases h
theorem LJ(h:rising c):c.Nodup:=List.Pairwise.imp (λ{a b} z e=>by grind) h
theorem S6(f:b.length=N.ps.length)(d:∀x∈b,JK x=r_)(e:a∈N.ps):CN (N.ps.map .inr) b^.inr a=P3^.int^Cq N b a:=by
 let#[z,c]:=J_ (ds:=b) (by simp_all)^Rs.mpr #[a,e,rfl];let#[i, rfl,_]:=ge_int^d z^Pm c;unfold Cq;rw[c];rfl
section
theorem Yp(b:okN N){d:t_ D}(k:d.length=N.ps.length)(l:∀x∈d,JK x=r_)(f:a∈N.ps):∃j:Nat,d[j]?=P3^.int^Cq N d a/\By^.tup^N.ps.map .str/\By^.str a/\(∃x,(N.ps.map D.str)[j]?=P3 x/\BS x^.str a=r_)/\∀(m:Nat) (x:D),m<j->(N.ps.map D.str)[m]?=P3 x->BS x^.str a=s_:=by
 have g:=LJ b.1.rise;let#[j,h]:=jz.mp f;refine#[j,by rw[←OK g h,S6 k l f],EC b.1.names,?_,#[.str a,by simp_all,by simp only[FK,beq_self_eq_true]],λm x r i=>?_]
 .exact D1 (B:=0) (by cbv) (λc n=>by have:=(b.1.names a f).2.2 c n; lk)^XV _
 .rw[T0]at i
  let#[y, o,rfl]:=iX.mp i;rw[FK,beq_eq_false_iff_ne];intro e;subst e;let#[s, p]:=f8.mp o;let#[t, q]:=f8.mp h
  have:=(o6 g).mp^p.trans q.symm
  lk
end
theorem al(a:0<=m)(b:∀d,o=P3 d->0<=d):0<=B7 m o/\B7 m o<=m:=by
 cases o with
 |none=>exact#[a,kn _]
 |some d=>
  show 0<=(if d<m then d else m)/\(if d<m then d else m)<=m
  grind
end Nt
set_option maxHeartbeats 400000
namespace Nt
open L2 Dp
inductive Ca where
 |en
 |fa (u:AZ) (p:List Int)
 |sp (u:AZ) (c d:Ca)
def Ca.cnt:Ca->Nat
 |.sp _ c d=>1+c.cnt+d.cnt
 |_=>1
def Ca.dep:Ca->Nat
 |.sp _ c d=>1+max c.dep d.dep
 |_=>1
def Ca.D:Ca->D
 |.en=>.tup [.str "enough"]
 |.fa u p=>.tup [.str "far",AO u,.tup^p.map .int]
 |.sp u c d=>.tup [.str "split",AO u,c.D,d.D]
def Bp(N:Net)(a:t_ AZ):Net:=#[N.ps,N.ts.filter λt=>decide (t∉a)]
def Na(N:Net)(t b:Int)(c:t_ AZ)(u:AZ)(p:t_ Int):Bool:=EZ (Bp N c)^.tup^p.map .int&&decide (u.len*t<CG (Cq N (p.map .int) u.a - Cq N (p.map .int) u.b)*b)
def Wy(N:Net)(t b:Int)(f:Nat):t_ AZ->t_ AZ->Ca->Bool
 |e,_,.en=>decide (f<=e.length)
 |_,a,.fa u p=>decide (u∈N.ts)&&decide (u∈a)&&Na N t b a u p
 |e,a,.sp u c d=>decide (u∈N.ts)&&decide (u∉e)&&decide (u∉a)&&Wy N t b f (e++[u]) a c&&Wy N t b f e (a++[u]) d
def Jn(N:Net)(t b:Int)(S:t_ AZ):Prop:=∀u∈N.ts,∃d,Wk #[N.ps,S] u.a u.b d/\d*b<=u.len*t
theorem LR(ok:N.Ok)(a:t_ AZ):(Bp N a).Ok:=#[ok.names,ok.rise,λt b=>ok.tin t (jt.mp b).1,ok.zq.sublist mT]
inductive Made (N:Net) (t b:Int) (many:Nat):List AZ->List AZ->List AZ->Ca->Prop
 |en {kept gone left:List AZ}:many<=kept.length->Made N t b many kept gone left .en
 |fa {kept gone left:List AZ}{u:AZ}{p:List Int}:u∈gone->Na N t b gone u p=r_->Made N t b many kept gone left (.fa u p)
 |no {kept gone:List AZ}:(∀u∈gone,∃d,Wk (Bp N gone) u.a u.b d/\d*b<=u.len*t)->Made N t b many kept gone [] .en
 |sp {kept gone left rest:List AZ}{u:AZ}{c d:Ca}:left.Perm (u::rest)->Made N t b many (kept++[u]) gone rest c->Made N t b many kept (gone++[u]) rest d->Made N t b many kept gone left (.sp u c d)
theorem Made.dep(h:Made N t b a kept d left c):c.dep<=left.length+1/\c.cnt+1<=2 ^ (left.length+1):=by
 induction h with
 |@en _ _ left _=>exact#[jZ^XV _,by have:=lc left.length; show 1+1<=_; lk]
 |@fa _ _ left _ _ _ _=>exact#[jZ^XV _,by show 1+1<=_; grind]
 |no _=>exact#[Re _,Re _]
 | sp i _ _ f g=>
  have e:=i.length_eq;simp only[UF]at e;rw[e];let#[j,k]:=f;let#[l,m]:=g;exists ?_
  .show 1+max _ _<=_
   lk
  .show 1+_+_+1<=_
   lk
theorem Made.shows(ok:N.Ok)(H:0<=b)(m:b<=t)(y:∀S:t_ AZ,S.Sublist N.ts->Jn N t b S->g<=S.length)(h:Made N t b g f e left c)(i:(f++e++left).Perm N.ts):Wy N t b g f e c=r_:=by
 have n:N.ts.Nodup:=CK ok.zq
 induction h with
 |en h=>exact decide_eq_true h
 |fa j A=>
  unfold Wy;simp only[A,decide_eq_true j,decide_eq_true^i.subset^jA _^iL _ j];rfl
 | @no f e B=>
  rw[im]at i;have o:=i.nodup_iff.mpr n;refine decide_eq_true ?_
  have C:Jn N t b (Bp N e).ts:=λu j=>by
   by_cases w:u∈e
   .exact B u w
   .have p:u∈(Bp N e).ts:=jt.mpr #[j,decide_eq_true w]
    refine#[u.len,?_,ni m^by have:=(ok.tin u j).2.2.2.1; lk]
    have:=Wk.snoc (Wk.nil (N:=Bp N e) (s:=u.a)) (Ci p).1
    simp only[ja]at this;exact this
  have I:=y (Bp N e).ts mT C
  have J:(Bp N e).ts.length<=f.length:=by
   refine sub_len (n.sublist mT) (jh.mp o).1 λx l=>?_;let#[ D,E]:=jt.mp l
   rcases iH.mp^i.symm.subset D with z|z
   .exact z
   .exact absurd z^of_decide_eq_true E
  lk
 | @sp f e left k u c d q _ _ r v=>
  have j:u∈left:=q.symm.subset Sc;have o:=i.nodup_iff.mpr n;have l:u∉f++e:=λz=>(jh.mp o).2.2 u z u j rfl
  have F:(f++[u]++e++k).Perm N.ts:=by
   refine kX ?_ i;refine kX ?_^kN _ q.symm;simp only[i7,kM];exact kN _^pK.symm
  have G:(f++(e++[u])++k).Perm N.ts:=by
   refine kX ?_ i;refine kX ?_^kN _ q.symm;simp only[i7,kM];exact oC _
  unfold Wy;simp only[r F,v G,decide_eq_true^i.subset^iL _ j,decide_eq_true (show ¬u∈f from λz=>l^jA _ z),decide_eq_true (show ¬u∈e from λz=>l^iL _ z)];rfl
end Nt
namespace Dp
open L2
theorem S5{k:Key}(h:CV l k=P3 v):CV (l++m) k=P3 v:=by
 unfold CV at h ⊢
 grind
theorem XH{a:t_ Key}{b:t_ V}(h:k∉a):((a.zip b).find? λc=>decide (c.1=k))=q_:=oS.mpr λp d=>by
 rw[decide_eq_true_eq];exact λz=>h (z▸(lX d).1)
theorem FD{k:Key}{v:V}(c:a.length=b.length):(a++[k]).zip (b++[v])=a.zip b++[(k,v)]:=List.zip_append c
theorem S4{a:t_ Key}(h:k∉a):CV (a.zip b++[(k,v)]) k=P3 v:=by
 unfold CV;simp only[List.find?_append,XH h];simp
theorem UE{a:t_ Key}(h:k∉a):putK (a.zip b++[(k,c)]) k v=a.zip b++[(k,v)]:=by
 unfold putK;rw[if_pos^by simp,ij]
 congr 1
 .have:∀p∈a.zip b,(if p.1=k then(p.1,v)else p)=p:=λp d=>if_neg fun(z:p.1=k)=>h (z▸(lX d).1)
  exact(jF this).trans^km _
 .simp
theorem Rel.world{K:Frag}(R:Rel K C M H n d Z){i:Nat}(hd:d[i]?=P3^.wd b c):∃f a,Z[i]?=P3^P3^.ref f.1/\C.F=P3 f/\f.t=P3 (b,c,a)/\ZD K M H f.1 b c a n:=by
 let#[f,a, g,e,j]:=R.sl i _ hd;exists f,a,getD_some g,e,j
 rcases R.feed f e with⟨k,_⟩|⟨l,m,o,k,h⟩
 .grind
 simp_all
section

def ZL(i:Nat)(wb:DW):DW:=λn c P=>∃d e,c[i]?=P3^.wd d e/\wb n c λk f=>∃a z,keyOf k=P3 a/\CN d e a=P3 z/\P z f
theorem E7(B:qk k X.A)(hx:PE X x^BN i)(D:DE X b zN wb)(E:Sg b:=by intro _ _; rfl):DE X (.Subscript x b pos) .sh^ZL i wb:=by
 let#[Y, g,h]:=D;refine#[_,FE (HR B) hx g E,λC M H n F Z P Q R w q=>?_];let#[ks,ds, o,w]:=w;let#[f,vs, G,I,J,_]:=R.world o;exists .ref f.1,G;refine h C M H n F Z _ _ R w λy K kk L s t N p=>?_;let#[j,z, O,S,p]:=p;have T:=R.step s t;let#[f',U, _,a,c, r, u,W,d,_]:=T.world o;rw[I]at a;injection a with a;subst a;simp only[J]at c;cases c;have e:=Hy (k:=j) (ks:=ks) d;rw[S]at e;let#[v, e,l]:=e;rw[FD^by simp only[W,d.length]]at u;refine#[f.1,v,rfl,?_,q v K z L s t l p];simp only[GS O^N.vT R.dom R.vM,←S5 (m:=[((ir "room":Key),V.int r)]) e];exact vK.k u
def bj(i:Nat):DW:=λn c P=>∃a d,c[i]?=P3^.wd a d/\(ir "room":Key)∉a/\∀r:Int,(n:Int)<=r->r<=100000->P (.int r) n
theorem Qh{jc cp}(e:qk k X.A)(hx:PE X x^BN i)(g:Sg^.Constant (.str "room") jc cp:=by intro _ _; rfl):DE X (.Subscript x (.Constant (.str "room") jc cp) pos) .sh^bj i:=by
 refine#[_,FE (HR e) hx Dx g,λC M H n p Z P Q R w q=>?_];let#[s,t, h,a,w]:=w;let#[f,u, j,v,y, r, d,l,c,m,o,_]:=R.world h;rw[FD^by simp only[l,c.length]]at d;refine#[_,j,_,_,rfl,?_,q _ H (.int r) n (Ext.refl _ _) R.feed rfl (w r m o)]
 have:=vK.k (k:=.inr "room") d
 rw[S4 a]at this;exact this
def S1(i:Nat)(wb:DW):Ab:=λf n a=>∃c g,a[i]?=P3^.wd c g/\(ir "room":Key)∉c/\c.length<=10/\wb n a λd h=>∃(r:Int) (e:Nat),d=.int r/\(e:Int)<=r/\r<=100000/\f.nx e a
theorem Xm{jc cp}(I:qk k X.A)(hx:PE X x^BN i)(J:DE X b zN wb)(K:zN≠.tp:=by intro z; cases z)
  (N:swapsWith b (P3^.Subscript x (.Constant (.str "room") jc cp) pos') pos.line X.env=pure s_:=by rfl):DS X κ (.Assign [.Subscript x (.Constant (.str "room") jc cp) pos'] b pos)^S1 i wb:=by
 let#[u, O,P]:=J;refine#[_,GD (HR I) hx Dx O N,λC M H n Q Z D2 E R L w=>?_];let#[q,S, T,s,D,w]:=w;refine P C M H n Q Z _ _ R w λv F d n1 U W Y p=>?_;let#[r,n2,rfl,h1,h2,p]:=p;have e:=R.step U W;let#[f,j, ea,t,ht, r0, l,G,h,_,_,y]:=e.world T;have hv:v=.int r:=Y.vY R.dom K;have a:q.length=j.length:=by simp only[G,h.length]
 rw[FD a]at l;have mf:M f.1:=e.vM _^e.uV _^e.fU f t;have a0:=PySem.sizeLine_eq;exists .ref f.1,ea,f.1,_,rfl,v3.k (k:=.inr "room") l (by rw[ZB,kz]; show _+1<_; lk);rw[hv,UE s];have pr:qQ M F M^An F f.1^.dK (q.zip j++[((ir "room":Key),V.int r)]):=FG mf l;refine L.nx M _ n2 _ Z (e.step (λc o B=>?_) λg hg=>?_) p
 .by_cases m:c=f.1
  .rw[m,l]at B
   injection B with B;subst B;exact#[_,by rw[m]; exact AQ,λnu=>absurd (m▸e.fU f t) nu,λj z=>by cases z]
  .exact#[o,by rw[AH m]; exact B,λ_=>rfl,λ_ _=>rfl]
 .have:g=f:=iA^hg.symm.trans t
  subst this;exact .inr #[q,S,j,ht,r,by rw[FD a]; exact AQ,G,h.qq pr,h1,h2,y]
def Sy(i:Nat):Nat->t_ Slot->(Slot->Nat->Prop)->Prop:=λn a P=>match a[i]? with
 |some (.wd c d)=>P (.wd c d) n
 |_=>False
set_option tactic.hygienic true in
theorem JX(i:Nat){x:Str}(d:X.N[i]?=P3 x:=by rfl)(e:YH X.env.scope x:=by first|exact jK rfl|exact kJ (jK rfl)|exact kJ (kJ rfl))(a:(x==("__debug__":Str))=s_:=by decide)
  (c:(x==("__classdict__":Str))=s_:=by decide):eJ X (.Name x pos)^Sy i:=by
 refine#[_,Io d e a c,λC M H n m Z P Q R w q=>?_];unfold Sy at w
 split at w
 .rename_i g h a
  let#[f,j, k,l]:=R.sl i _ a;exact#[_,getD_some k,q _ H (.wd g h) n (Ext.refl _ _) R.feed #[#[f,j,rfl,l],rfl] w]
 simp_all
def ZQ(W:W2)(k l m j:Nat)(o p q:Str)(r:Nat)(c:Int):DW:=λn a P=>∃e f g h,a[k]?=P3^.sh e/\a[l]?=P3^.sh f/\a[m]?=P3^.sh g/\a[j]?=P3^.sh h/\Bx [e,f,g]=r_/\W [.wd [.inr o,.inr p,.inr q] [e,f,g],.sh^.lst [],.sh^.lst [],.sh h,.sh^.int c] r λd _=>P d n
theorem NK(h:[a,c,d,k4].Nodup):EO [] [(a,f),(c,g),(d,j),(k4,v4)]=[(a,f),(c,g),(d,j),(k4,v4)]:=by
 simp only[iV,TW,iC,or_false,not_or]at h;let#[ #[ l,m,n],#[ o,p],q,_]:=h;simp[EO,putK,decide_eq_false l,decide_eq_false m,decide_eq_false n,decide_eq_false o,decide_eq_false p,decide_eq_false q]
theorem Vb{i1 i2 i3 j r:Nat}{j1 j2 j3 j4 j5 j6 q1 q2 q3 q4 q5 q6 l1 l2}(G:Got X.prog X.w X.K X.mg X.base fn k ps .sh W)
  (hr:qk k X.A) (N:Gl X fn) (h1:PE X U^BN i1) (h2:PE X Y^BN i2) (h3:PE X e3^BN i3) (h4:PE X s^BN j) (nd:[(ir t:Key),ir u,ir y,ir "room"].Nodup) (b9:r<=100000) (a0:ps.length=5:=by rfl)
  (a5:(fn==("__debug__":Str))=s_:=by decide)
  (he:starEach [.Dict [P3^.Constant (.str t) j1 q1,P3^.Constant (.str u) j2 q2,P3^.Constant (.str y) j3 q3,P3^.Constant (.str "room") j4 q4] [U,Y,e3,.Constant (.int r) j5 q5] dp,.List [] l1,.List [] l2,s,.Constant (.int c) j6 q6] X.env=(s_,eval (.Dict [P3^.Constant (.str t) j1 q1,P3^.Constant (.str u) j2 q2,P3^.Constant (.str y) j3 q3,P3^.Constant (.str "room") j4 q4] [U,Y,e3,.Constant (.int r) j5 q5] dp) X.env)::starEach [.List [] l1,.List [] l2,s,.Constant (.int c) j6 q6] X.env:=by rfl)
  (a6:starEach [.List [] l1,.List [] l2,s,.Constant (.int c) j6 q6] X.env=(s_,eval (.List [] l1) X.env)::starEach [.List [] l2,s,.Constant (.int c) j6 q6] X.env:=by rfl) (a7:starEach [.List [] l2,s,.Constant (.int c) j6 q6] X.env=(s_,eval (.List [] l2) X.env)::starEach [s,.Constant (.int c) j6 q6] X.env:=by rfl)
  (a8:starEach [s,.Constant (.int c) j6 q6] X.env=(s_,eval s X.env)::starEach [.Constant (.int c) j6 q6] X.env:=by rfl) (a9:starEach [.Constant (.int c) j6 q6] X.env=[(s_,eval (.Constant (.int c) j6 q6) X.env)]:=by rfl)
  (b0:(backTo pos^starEach [.List [] l1,.List [] l2,s,.Constant (.int c) j6 q6] X.env).any (·.1)=s_:=by rfl):
  DE X (.Call (.Name fn p) [.Dict [P3^.Constant (.str t) j1 q1,P3^.Constant (.str u) j2 q2,P3^.Constant (.str y) j3 q3,P3^.Constant (.str "room") j4 q4] [U,Y,e3,.Constant (.int r) j5 q5] dp,.List [] l1,.List [] l2,s,.Constant (.int c) j6 q6] [] pos) .sh (ZQ W i1 i2 i3 j t u y r c):=by
 let#[f,fd, G,hm,hk,hb,hW]:=G;refine#[_,LQ G hr N hm hk hb .nil QD (Ap (QC (DK Dx h1^DK Dx h2^DK Dx h3^DK Dx Au P9) rfl rfl (by intro z; cases z) (show 4<=15 by cbv)) (Ap (Gv BH) (Ap (Gv BH) (Ap h4 (Ap Au BH a9) a8) a7) a6) he) a5 he b0,λC M H n ρ Z P Q R w q=>?_];let#[d1,d2,d3,d4, s1,s2,s3,s4,b3,w]:=w;let#[I, b4,a1]:=R.sl i1 _ s1;let#[J, b5,a2]:=R.sl i2 _ s2;let#[L, b6,a3]:=R.sl i3 _ s3;let#[v4, b7,a4]:=R.sl j _ s4;refine λh O=>#[I,getD_some b4,J,getD_some b5,L,getD_some b6,AQ,[(.inr t,I),(.inr u,J),(.inr y,L),(.inr "room",.int r)],rfl,(by cbv:4<=15),?_];rw[NK nd];refine#[XV _,λE B=>#[XV _,λF m=>#[v4,getD_some b7,?_]]];have S:E≠h:=λz=>by rw[z,AQ]at B; cases B
 have n2:F≠h:=λz=>by rw[z,AH^iz S,AQ]at m; cases m
 have n3:F≠E:=λz=>by rw[z,AQ]at m; cases m
 generalize D:An (An (An (An H h^.dK []) h^.dK [((ir t:Key),I),(.inr u,J),(.inr y,L),(.inr "room",.int r)]) E^.lst []) F^.lst []=H7;have o1:H E=q_:=by rw[AH S,AH S]at B; exact B
 have o2:H F=q_:=by rw[AH n3,AH n2,AH n2]at m; exact m
 have a:∀b o,H b=P3 o->b≠h/\H7 b=P3 o:=λb o e=>by
  have z1:b≠h:=Af e O;exact#[z1,by rw[←D,AH^Af e o2,AH^Af e o1,AH z1,AH z1]; exact e]
 have x0:H7 h=P3^.dK [((ir t:Key),I),(.inr u,J),(.inr y,L),(.inr "room",.int r)]:=by rw[←D,AH^iz n2,AH^iz S,AQ]
 have x1:H7 E=P3^.lst []:=by rw[←D,AH^iz n3,AQ]
 have x2:H7 F=P3^.lst []:=by rw[←D,AQ]
 have pr:qQ M H (λb=>M b\/b=h) H7:=#[λb o e _=>(a b o e).2,λb z=>z.elim .inl λz=>.inr (by rw[z]; exact O),λb vs e=>(a b _ e).2]
 have T:∀b,H b=q_->¬M b:=λb e z=>by
  let#[o, q]:=R.dom b z;rw[e]at q; cases q
 show RD X.K .sh W ps.length _ H7 Q E0;refine#[by rw[a0]; rfl,P3 #[h,h,P3 ([.inr t,.inr u,.inr y],[d1,d2,d3],[I,J,L])],(λb=>b=h),(λb=>C.V b\/b=h),(λb=>M b\/b=h),r,_,_,#[λb z=>?_,λg N=>?_,λb z=>.inr z,λb z=>z.elim (λz=>.inl^R.vM b z) .inr,λg N=>?_,?_],w,λv H' d n' ex fx rx px=>?_]
 .rcases z with z|z
  .let#[o,q]:=R.dom b z
   exact#[o,(a b o q).2]
  .rw[z]; exact#[_,x0]
 .cases N; rfl
 .cases N
  exact .inr #[_,_,_,rfl,r,x0,rfl,#[I,_,rfl,a1.qq pr,J,_,rfl,a2.qq pr,L,_,rfl,a3.qq pr,rfl],kn _,by lk,b3]
 .refine .cons #[#[_,_,rfl,rfl,rfl],rfl]^.cons #[#[_,rfl,E,[],rfl,#[λz=>z.elim (T E o1) S,x1],rfl],rfl]^.cons #[#[_,rfl,F,[],rfl,#[λz=>z.elim (T F o2) n2,x2],rfl],rfl]^.cons #[#[_,rfl,a4.qq pr],rfl]^.cons #[#[_,rfl,rfl],rfl] .nil
 .have l:∀b o,H b=P3 o->H' b=P3 o:=λb o e=>ex.keep (a b o e).2 (a b o e).1
  refine q v H' d n (λb o e=>#[o,l b o e,λ_=>rfl,λ_ _=>rfl]) (R.feed.qq #[λb o e _=>l b o e,λ_ z=>.inl z,λb vs e=>l b _ e] λf o _ e=>l _ o e) ?_ px;have b8:At X.K (λb=>M b\/b=h) H' d v:=rx;exact b8.qq #[λb o e _=>e,λb z=>.inl^.inl z,λb vs e=>e]
def S3(f g h:Nat)(j k l:Str):DW:=λn a P=>∃c d e,a[f]?=P3^.sh c/\a[g]?=P3^.sh d/\a[h]?=P3^.sh e/\P (.dic [.inr j,.inr k,.inr l] [c,d,e]) n
theorem Ln(h:[a,c,d].Nodup):EO [] [(a,v1),(c,f),(d,g)]=[(a,v1),(c,f),(d,g)]:=by
 simp only[iV,TW,iC,or_false,not_or]at h;let#[ #[ j,k],l,_]:=h;simp[EO,putK,decide_eq_false j,decide_eq_false k,decide_eq_false l]
theorem Nl{j1 j2 j3 q1 q2 q3}(F:PE X A^BN p)(G:PE X B^BN r)(I:PE X e3^BN s)(nd:[(ir c:Key),ir d,ir g].Nodup):
  DE X (.Dict [P3^.Constant (.str c) j1 q1,P3^.Constant (.str d) j2 q2,P3^.Constant (.str g) j3 q3] [A,B,e3] pos) .fr (S3 p r s c d g):=by
 refine#[_,QC (DK Dx F^DK Dx G^DK Dx I P9) rfl rfl (by simp_all) (show 3<=15 by cbv),λC M H n Y Z P Q R w q=>?_];let#[J,K,L, N,O,S,w]:=w;let#[h, t,T]:=R.sl p _ N;let#[j, u,U]:=R.sl r _ O;let#[k, v,V]:=R.sl s _ S;refine λl m=>#[h,getD_some t,j,getD_some u,k,getD_some v,AQ,[(.inr c,h),(.inr d,j),(.inr g,k)],rfl,(by cbv:3<=15),?_];rw[Ln nd]
 have a:∀b o,H b=P3 o->An (An H l^.dK []) l (.dK [((ir c:Key),h),(.inr d,j),(.inr g,k)]) b=P3 o:=λb o e=>by
  have E:b≠l:=Af e m;simp only[AH E,AH E]; exact e
 have y:qQ M H (λb=>M b\/b=l) _:=#[λb o e _=>a b o e,λb z=>z.elim .inl λz=>.inr^by simp_all,λb W e=>a b _ e];refine q _ _ (.dic [.inr c,.inr d,.inr g] [J,K,L]) n (λb o e=>#[o,a b o e,λ_=>rfl,λ_ _=>rfl]) (R.feed.qq #[λb o e _=>a b o e,λ_ z=>.inl z,λb W e=>a b _ e] λf o _ e=>a _ o e) #[l,rfl,m,[h,j,k],AQ,rfl,?_] w;exact#[h,_,rfl,T.qq y,j,_,rfl,U.qq y,k,_,rfl,V.qq y,rfl]
end
end Dp
namespace Nt
open L2 Dp
def RR(N:Net)(p:t_ Int):Prop:=p.length=N.ps.length/\∀x∈p,0<=x/\x<=10 ^ 14
def Ny(N:Net):Ca->Prop
 |.en=>True
 |.fa u p=>u∈N.ts/\RR N p
 |.sp u c d=>u∈N.ts/\Ny N c/\Ny N d
def CB(t b:Int):Prop:=1<=b/\b<=1000000/\1<=t/\t<=1000000
def Eb(N:Net)(l:t_ AZ):Prop:=(∀u∈l,u∈N.ts)/\l.length<=100
abbrev Bg(t b:Int):D:=.tup [.int t,.int b]
abbrev B0(l:t_ AZ):D:=.lst^l.map AO
def YA:W2:=λb n P=>∃(N:Net) (a:t_ AZ),b=[.sh^Bl N,.sh^B0 a]/\okN N/\Eb N a/\P (Bl^Bp N a) n
def Dq:Ab:=(BO (DU (F4^A8^A0 Y9^AL (AT^AJ 0)^AL (AT^AJ 3) A3) (CT^wC^D.str "fair") CA)
 (CT^eK (A8^A0 Qw^AL (AT^A0 dk^AL (AT^AJ 0)^AL (AT^AJ 3)^AL (AT^BE D7 (AJ 2)^wC^D.int 0)^AL (AT^BE D7 (AJ 2)^wC^D.int 1) A3)^AL (AT^AJ 1)^AL (AT^BE D7 (AJ 2)^wC^D.int 2) A3) (wC^D.str "near")^wC D.non))
theorem D0(ok:N.Ok)(h:Eb N l):By^B0 l:=(Cy ok h.1).2
theorem M5(h:okN N)(a:t_ AZ):okN^Bp N a:=#[LR h.1 a,h.2.1,iU (j8 _ _) h.2.2]
theorem Xx:∀c:Ca,1<=c.dep
 |.en=>Re _
 |.fa _ _=>Re _
 |.sp _ _ _=>nI _ _
theorem IL(ok:N.Ok):∀c:Ca,Ny N c->qh (10 ^ 14) c.D/\Br c.D<=c.dep+1
 |.en,_=>#[#[(show ∀c∈cs "enough",c<1114112 by decide +kernel),trivial],by show max 0 0+1<=2; decide]
 | .fa u p,#[e,g]=>by
  have b:=Cf ok _^Rs.mpr #[u,e,rfl]
  have f:∀d∈p.map D.int,qh (10 ^ 14) d/\Br d=0:=λd a=>by
   let#[x, h,rfl]:=Rs.mp a;exact#[by show x.natAbs<=_; have:=g.2 x h; lk,rfl]
  exists#[(show ∀c∈cs "far",c<1114112 by decide +kernel),(G7 (by cbv) _).1 _ (Re _) b.1,DP λd a=>(f d a).1,trivial];have i:=b.2.2;have m:ES^p.map D.int<=0:=qg.mpr λd a=>mX (f d a).2;show max 0^max (Br^AO u)^max (ES^p.map D.int+1) 0+1<=2;lk
 |.sp u c d,#[e,j,a]=>by
  have b:=Cf ok _^Rs.mpr #[u,e,rfl];let#[ k,n]:=IL ok c j;let#[ l,o]:=IL ok d a;exists#[(show ∀c∈cs "split",c<1114112 by decide +kernel),(G7 (by cbv) _).1 _ (Re _) b.1,k,l,trivial];have i:=b.2.2;have q:=Xx c;show max 0^max (Br^AO u)^max (Br c.D)^max (Br d.D) 0+1<=1+max c.dep d.dep+1;lk
abbrev gG(N:Net)(t b:Int)(a:Nat):Slot:=.wd [.inr "net",.inr "times",.inr "many"] [Bl N,Bg t b,.int (a:Int)]
theorem K8(x y z:D):CN [.inr "net",.inr "times",.inr "many"] [x,y,z]^.inr "net"=P3 x:=if_pos rfl
theorem IQ(x y z:D):CN [.inr "net",.inr "times",.inr "many"] [x,y,z]^.inr "times"=P3 y:=by
 unfold CN;rw[if_neg λz=>absurd (jU z)^by decide +kernel];exact if_pos rfl
theorem Pg(x y z:D):CN [.inr "net",.inr "times",.inr "many"] [x,y,z]^.inr "many"=P3 z:=by
 unfold CN;rw[if_neg λz=>absurd (jU z)^by decide +kernel];unfold CN;rw[if_neg λz=>absurd (jU z)^by decide +kernel];exact if_pos rfl
theorem key_ne(h:x≠y):(ir x:Key)≠ir y:=λz=>h^jU z
theorem Ll:(ir "room":Key)∉[(ir "net":Key),.inr "times",.inr "many"]:=λz=>by
 simp only[TW,iC,or_false]at z
 rcases z with z|z|z <;>exact absurd z^key_ne^by decide +kernel
theorem Ui:[(ir "net":Key),ir "times",ir "many"].Nodup:=by
 simp only[iV,TW,iC,not_or,not_false_eq_true,and_true,jI];exact#[#[key_ne (by decide +kernel),key_ne^by decide +kernel],key_ne^by decide +kernel]
theorem Z2:[(ir "net":Key),ir "times",ir "many",ir "room"].Nodup:=by
 simp only[iV,TW,iC,not_or,not_false_eq_true,and_true,jI];exact#[#[key_ne (by decide +kernel),key_ne (by decide +kernel),key_ne^by decide +kernel],#[key_ne (by decide +kernel),key_ne^by decide +kernel],key_ne^by decide +kernel]
def Q_:D->u_ AZ
 |.tup [.str a,.str b,.int l]=>P3 #[a,b,l]
 |_=>q_
def XI(M:Net)(t b:Int)(u:AZ):D->Bool
 |.tup c=>EZ M^.tup c&&decide (u.len*t<CG (Cq M c u.a - Cq M c u.b)*b)
 |_=>s_
def Ua(N:Net)(u:D)(f:AZ->Bool):Bool:=match Q_ u with
 |some v=>decide (v∈N.ts)&&f v
 |none=>s_
def O9(N:Net)(t b:Int)(a:t_ AZ)(u p:D):Bool:=Ua N u λv=>decide (v∈a)&&XI (Bp N a) t b v p
def FP(N:Net)(t b:Int)(f:Nat):Nat->t_ AZ->t_ AZ->D->Bool
 |_+1,a,_,.tup [w]=>BS w^.str "enough"&&decide (f<=a.length)
 |_+1,_,e,.tup [w,u,p]=>BS w^.str "far"&&O9 N t b e u p
 |k+1,a,e,.tup [w,u,c,d]=>BS w^.str "split"&&Ua N u λv=>!decide (v∈a)&&(!decide (v∈e)&&(FP N t b f k (a++[v]) e c&&FP N t b f k a (e++[v]) d))
 |_,_,_,_=>s_
def EV:Nat->D->Nat
 |k+1,.tup [_,_,c,d]=>1+EV k c+EV k d
 |_,_=>1
def dq:Nat->D->Prop
 |k+1,.tup [_,_,c,d]=>dq k c/\dq k d
 |_+1,_=>True
 |0,x=>tupleOfB 4 x=s_
inductive du:D->Prop
 |one (w:D):du^.tup [w]
 |three (w u p:D):du^.tup [w,u,p]
 |four (w u c d:D):du^.tup [w,u,c,d]
 |oth (x:D):(∀xs,x=.tup xs->xs.length≠1/\xs.length≠3/\xs.length≠4)->du x
theorem cG:∀x:D,du x
 |.tup [w]=>.one w
 |.tup [w,u,p]=>.three w u p
 |.tup [w,u,c,d]=>.four w u c d
 |.tup []=>.oth _ λa e=>by injection e with e;subst e; decide
 |.tup [_,_]=>.oth _ λa e=>by injection e with e;subst e; refine#[?_,?_,?_] <;>intro z <;>cases z
 |.tup (_::_::_::_::_::r)=>.oth _ λa e=>by injection e with e;subst e; simp only[UF]; lk
 |.non=>.oth _ λa e=>by cases e
 |.bl _=>.oth _ λa e=>by cases e
 |.int _=>.oth _ λa e=>by cases e
 |.str _=>.oth _ λa e=>by cases e
 |.lst _=>.oth _ λa e=>by cases e
 |.dic _ _=>.oth _ λa e=>by cases e
 |.fdi _ _=>.oth _ λa e=>by cases e
 |.dit _ _=>.oth _ λa e=>by cases e
theorem UU(h:∀d,x=.tup d->d.length≠1/\d.length≠3/\d.length≠4):FP N t b a k kept c x=s_:=by
 unfold FP
 split
 .exact absurd rfl (h _ rfl).1
 .exact absurd rfl (h _ rfl).2.1
 .exact absurd rfl (h _ rfl).2.2
 .rfl
theorem UV(h:∀a,x=.tup a->a.length≠1/\a.length≠3/\a.length≠4):BS x^.tup [.str "enough"]=s_/\tupleOfB 3 x=s_/\tupleOfB 4 x=s_:=by
 refine#[iS.mpr λz=>absurd rfl (h _ (vO (ps:=["enough"]) |>.mp z)).1,?_,?_] <;>cases x with
 |tup a=>exact beq_eq_false_iff_ne.mpr^by have:=h a rfl; lk
 |_=>rfl
theorem Q9(h:Q_ d=P3 v):d=AO v:=by
 unfold Q_ at h
 split at h
 .cases h; rfl
 .cases h
theorem TL:DV N d=match Q_ d with|some v=>decide (v∈N.ts)|none=>s_:=by
 rw[jW,qT];constructor
 .rintro⟨v,a,rfl⟩
  exact decide_eq_true a
 .cases e:Q_ d with
  |none=>exact λz=>by cases z
  |some v=>exact λz=>#[v,of_decide_eq_true z,Q9 e]
theorem TN(h:DV N u=s_)(f:AZ->Bool):Ua N u f=s_:=by
 rw[TL]at h;unfold Ua;cases e:Q_ u with
 |none=>rfl
 |some v=>rw[e]at h; show(decide (v∈N.ts)&&f v)=s_; rw[show decide (v∈N.ts)=s_ from h]; rfl
theorem Df(h:v∈N.ts)(f:AZ->Bool):Ua N (AO v) f=f v:=by
 show(decide (v∈N.ts)&&f v)=_;rw[decide_eq_true h,iY]
theorem Z0(h:Ua N u f=r_):∃v∈N.ts,u=AO v/\f v=r_:=by
 cases e:DV N u with
 |false=>rw[TN e]at h; cases h
 |true=>
  let#[v, a,rfl]:=qT.mp e;exact#[v,a,rfl,by rw[Df a]at h; exact h]
theorem Ud:∀{k:Nat}{a e:t_ AZ}{x:D},FP N t b f (k+1) a e x=r_->dq k x
 | k,a,e,x,h=>by
  cases cG x with
  |one w=>cases k <;>first|rfl|trivial
  |three w u p=>cases k <;>first|rfl|trivial
  |oth x i=>rw[UU i]at h; cases h
  |four w u c d=>
   have h:=(iE _ _▸h:_/\_).2;let#[v, _,_,h]:=Z0 h;simp only[iE]at h;let#[_,_,g,j]:=h;cases k with
   |zero=>cases g
   |succ k=>exact#[Ud g,Ud j]
theorem IG(h:Br^.tup a<=m+1):∀y∈a,Br y<=m:=qg.mp^Nat.le_of_succ_le_succ h
set_option tactic.hygienic true in
theorem PK:∀(k m:Nat) (x:D),Br x<=m->EV k x+1<=2 ^ (m+1)
 |0,m,x,_=>by
  have:=lc m
  show 1+1<=_;rw[kY];lk
 | k+1,m,x,h=>by
  have p:=lc m;have a:1+1<=2 ^ (m+1):=by rw[kY]; lk
  unfold EV
  split
  .rename_i b w u c d e
   injection e with e;subst e;cases m with
   |zero=>exact absurd h^by show ¬ES _+1<=0; lk
   |succ m=>
    have f:=PK k m c (IG h c^by simp);have g:=PK k m d (IG h d^by simp);simp only[kY];lk
  .exact a
def Pl(x:D):Prop:=qh (10 ^ 40) x/\Br x<=90
theorem Pl.lay(h:Pl x):By x:=D1 (by cbv) h.1^iU h.2^by cbv
theorem Pl.mem(h:Pl^.tup a)(b:y∈a):Pl y:=#[qv.mp h.1 y b,by have:=qg.mp (Re^ES a) y b; have c:ES a+1<=90:=h.2; lk]
theorem Of(h:∀c∈cs s,c<1114112):Pl^.str s:=#[h,XV _]
theorem Z6:By^.str "enough":=(Of^by decide +kernel).lay
theorem Ur:By^.str "far":=(Of^by decide +kernel).lay
theorem Uq:By^.str "split":=(Of^by decide +kernel).lay
theorem W8:By^.tup [.str "enough"]:=Pl.lay #[#[(show ∀c∈cs "enough",c<1114112 by decide +kernel),trivial],by show max 0 0+1<=90; decide]
def K4:W2:=λc n P=>∃(N:Net) (t b:Int) (u:AZ) (p:D),c=[.sh^Bl N,.sh^Bg t b,.sh^AO u,.sh p]/\okN N/\CB t b/\u.a∈N.ps/\u.b∈N.ps/\(XI N t b u p=r_->P .non n)/\(XI N t b u p=s_->∀s,P (.str s) n)
def YC:W2:=λc n P=>∃(N:Net) (t b:Int) (a:t_ AZ) (w u p:D),c=[.sh^Bl N,.sh^Bg t b,.sh^B0 a,.sh^.tup [w,u,p]]/\okN N/\CB t b/\Eb N a/\Pl u/\P (.bl^O9 N t b a u p) n
def bG(j:Nat):W2:=λd n P=>∃(N:Net) (t b:Int) (c:Nat) (kept a:t_ AZ) (k:Nat) (x:D),d=[.sh^Bl N,.sh^Bg t b,.sh^.int (c:Int),.sh^B0 kept,.sh^B0 a,.sh^.int (k:Int),.sh x]/\okN N/\CB t b/\Eb N kept/\Eb N a/\kept.length+k<=90/\a.length+k<=90/\Pl x/\k<=j/\P (.bl^FP N t b c k kept a x) n
def V9(j:Nat):W2:=λa n P=>∃x:D,a=[.sh x]/\dq j x/\P (.int (EV j x:Int)) n
def Fe(N:Net)(t b:Int)(a:Nat)(x:D):Bool:=FP N t b a 15 [] [] x&&decide (EV 14 x<=4000)
def V4:W2:=λc n P=>∃(N:Net) (t b:Int) (a:Nat) (x:D),c=[.sh^Bl N,.sh^Bg t b,.sh^.int (a:Int),.sh x]/\okN N/\CB t b/\Pl x/\P (.bl^Fe N t b a x) n
def Do:Ab:=Dq
theorem VA(h:EZ M^.tup a=r_):a.length=M.ps.length/\∀x∈a,JK x=r_:=by
 have h:=(iE _ _▸h:_/\_).1;have h:=(iE _ _▸h:_/\_);exact#[by have:=eq_of_beq h.1; lk,jH.mp h.2]
theorem sub_snoc(h:Eb N l)(a:u∈N.ts)(b:l.length+1<=100):Eb N (l++[u]):=#[λv c=>(iH.mp c).elim (h.1 v) λz=>by simp only[h_.mp z]; exact a,by simp only[ZB,iB]; exact b]
theorem F7(l:t_ AZ)(u:AZ):l.map AO++[AO u]=(l++[u]).map AO:=by simp only[ij]; rfl
section

theorem GB(h:K4 ss n Pd):Do (EE Pd) n (ss++iN 0 .no):=by
 let#[N,t,b,u,p, rfl,f,#[ k,l,m,o],q,r,i,g]:=h;delta Do Dq;exists N,_,rfl,f;cases e:EZ N p with
 | false=>exact Ar (g (by
   cases p with
   |tup d=>show(EZ N^.tup d&&_)=s_; simp only[e]; rfl
   |_=>rfl) _)
 | true=>
  cases p with
  | tup d=>
   let#[ s,v]:=VA e;have w:XI N t b u^.tup d=decide (u.len*t<CG (Cq N d u.a - Cq N d u.b)*b):=by show(EZ N^.tup d&&_)=_; rw[e,iY]
   rw[w]at i g;refine As #[_,AD (j:=0) rfl,_,AD (j:=1) rfl,N,_,u.a,u.b,rfl,f,s,v,q,r,_,AD (j:=2) rfl,_,t,b,u.len,rfl,k,l,m,o,?_];generalize CG (Cq N d u.a - Cq N d u.b)*b=y at i g;show if decide (y<=u.len*t)=r_ then _ else _
   by_cases c:y<=u.len*t
   .rw[decide_eq_true c]
    exact Ar^g (decide_eq_false^by lk) _
   .rw[decide_eq_false c]
    exact As^i^decide_eq_true^by lk
  |_=>cases e
end
end Nt
set_option maxHeartbeats 4000000
namespace L2
open PySem.W
structure PrV (prog:iP) (w:iZ) (A:ik) (I d:Db) (n:Nat) (base:iG) (key:Nat->Ev) (val:Nat->Ev) (ch:Db->Prop) (St:Nat->iG->Prop):Prop where
 new:∀b,ch b->base.get? b=q_
 item:∀(i:Nat) (s:No) (Q:Option Ev->No->Prop) (E:Ev->No->Prop),i<n->St i s.heap->(∀b o,base.get? b=P3 o->s.heap.get? b=P3 o)->(∃o,s.heap.get? d=P3 o)->
  (∀h' tk a o c,h'.get? a=P3 o->o.cls=.type "tuple"->o.data=.seq #[ key i,val i] c->St (i+1) h'->(∀b o,¬ch b->s.heap.get? b=P3 o->h'.get? b=P3 o)->Q (P3^.ref a) {s with heap:=h',toks:=tk})->wpAny (model prog w) A (pyNext^.ref I) Q E s
 done:∀(s:No) (Q:Option Ev->No->Prop) (E:Ev->No->Prop),St n s.heap->(∀b o,base.get? b=P3 o->s.heap.get? b=P3 o)->(∀h' tk,(∀b o,¬ch b->s.heap.get? b=P3 o->h'.get? b=P3 o)->Q q_ {s with heap:=h',toks:=tk})->wpAny (model prog w) A (pyNext^.ref I) Q E s
 frame:∀i h h',St i h->kQ d h h'->St i h'
 dch:¬ch d
section
variable {St:Nat->Heap->Prop}{K:Type}[DecidableEq K]{knd:KeyKind prog w K}
theorem VJ(W:PrV prog w A.in1 I d n base key val ch St)(f:t_ (K×Ev))(U:f.length=n)(nd:(f.map (·.1)).Nodup)(hsz:n<=sizeLine)(E:base.get? d=q_)
  (F:∀(i:Nat) (p:K×Ev),f[i]?=P3 p->p.2=val i/\knd.is p.1^key i=r_):
  ∀(k i:Nat) (s:No),n - i=k->i<=n->St i s.heap->(∀b o,base.get? b=P3 o->s.heap.get? b=P3 o)->s.heap.DictOf knd d^f.take i->
   (∀l C,l.DictOf knd d f->(∀b o,base.get? b=P3 o->l.get? b=P3 o)->R (.ok^.ret .none) {s with heap:=l,toks:=C})->
   codeAny (model prog w) A (.builtin "dict.update.loop" #[[.ref d,.ref I,rawInt (i:Int),.none],[]]) R s:=by
 have u:∀{h l:iG},(∀b o,base.get? b=P3 o->h.get? b=P3 o)->(∀b o,¬ch b->h.get? b=P3 o->l.get? b=P3 o)->∀b o,base.get? b=P3 o->l.get? b=P3 o:=λY Z b o e=>Z b o (λz=>by rw[W.new b z]at e; cases e)^Y b o e;intro k
 induction k with
 |zero=>
  intro i s hk hi q g D G;have H:i=n:=by lk
  subst H;refine ky Cw ?_;rw[lF BM _];show wpAny _ A.in1 (pyNext^.ref I >>=_) _ _ s;refine Ch^W.done s _ _ q g λl C j=>?_;show wpAny _ A.in1 (pF d [] >>=λ_=>ret ie) _ _ _;refine Ch^Op^Op^G l C ?_^u g j;let#[o,J,L, v,r]:=D;rw[kG^by lk]at r;exact#[o,J,L,j d o W.dch v,r]
 | succ k ih=>
  intro i s hk hi q g D G;have x:i<n:=by omega
  refine ky Cw ?_;rw[lF BM _];show wpAny _ A.in1 (pyNext^.ref I >>=_) _ _ s;refine Ch^W.item i s _ _ x q g (by let#[o,_,_, h,_]:=D; exact#[o,h]) λl C a o c V hc hd y j=>?_;have B:f[i]?=P3 (f[i]'(by lk)):=On (by lk);generalize f[i]'(by lk)=p at B;let#[ k1,M]:=F i p B;have v:=u g j
  have N:l.DictOf knd d^f.take i:=by
   let#[o,J,L, v,r]:=D;exact#[o,J,L,j d o W.dch v,r]
  show wpAny _ A.in1 (holding [iF a] _ >>=_) _ _ _;refine Ch^i6 ?_;show wpAny _ A.in1 (tryCatch (ln^.ref a) _ >>=_) _ _ _;refine Ch^wpAny_tryCatch ?_;unfold ln;refine Ch^ko (T:="tuple") #[o,V,hc] ?_;show wpAny _ A.in1 (seqItems?^.ref a >>=_) _ _ _;refine Ch^jr V hd^Op ?_;rw[←k1];show wpAny _ A.in1 (holding [key i,p.2]^dictSet d (key i) p.2) _ _ _;refine i6^wpAny_dictSet_pairs (hsz:=by rw[jo]; lk) M N λa0 m X=>?_
  have O:p.1∉(f.take i).map (·.1):=λz=>by
   have e:f.map (·.1)=(f.take i).map (·.1)++p.1::(f.drop (i+1)).map (·.1):=by
    have:=j7 i f
    rw[jL (by lk:i<f.length)]at this;rw[On (by lk:i<f.length)]at B;injection B with B;subst B
    conv=>lhs; rw[←this]
    simp only[ij,iQ]
   rw[e,jh]at nd;exact nd.2.2 p.1 z p.1 Sc rfl
  have e2:f.take (i+1)=f.take i++[p]:=by simp only[oy,B]; rfl
  simp only[stored_new O,←e2]at m;refine Op #[nF BM _,?_];have P:((i:Int)+1)=((i+1:Nat):Int):=by lk
  rw[P];refine ih (i+1) _ (by omega) x (W.frame _ _ _ y X) (λb o e=>?_) m λh3 Q S t=>G h3 Q S t;exact(X.2 b λz=>by simp only[z,E]at e; cases e).trans^v b o e
theorem PrV.zip{z TI TO x y F G:Db}(hh:A.handled=q_)(D:Sl z TI TO x y F G)(g:TI≠z/\TI≠TO/\TI≠x/\TI≠y)(hd:d≠z/\d≠TI/\d≠TO/\d≠x/\d≠y)(hn:∀b,b=z\/b=TO\/b=x\/b=y->base.get? b=q_)
  (H:qw U base F B) (J:qw zX base G W) (h1:B.size=n) (hk:∀i,i<n->B[i]?=P3^key i/\W[i]?=P3^val i):PrV prog w A z d n base key val (λb=>b=z\/b=TO\/b=x\/b=y) (ZS U zX z TI TO x y F G d) where
 new:=hn
 item:=λi s Q E hi #[m,t,u,L] f #[od,a0] h=>by
  have M:qw U s.heap F B:=H.mv λo e=>f _ o e;have X:qw zX s.heap G W:=J.mv λo e=>f _ o e;let#[ N,e2]:=hk i hi;have lt:∀{b:Db}{o:Obj},s.heap.get? b=P3 o->s.heap.objs.size≠b:=λe=>kR^Tk e;let#[o1, x1,_]:=t.lies;let#[o2, x2,_]:=u.lies
  rcases L with⟨k,p,q,j⟩|⟨a,b,o,k,C,O,Y,P,S,T⟩
  .refine FV D k m j t u M X N e2 λr b1 b2 b3 b4 Z _ l=>?_
   exact h r s.toks _ _ _ Z rfl rfl #[l _ _ g.1 g.2.1 g.2.2.1 g.2.2.2 m,b3,b4,.inr #[_,s_,_,b1,Z,lt k,lt j,lt x1,lt x2,lt a0]] λb o c e=>l b o (λz=>c^.inl z) (λz=>c^.inr^.inl z) (λz=>c^.inr^.inr^.inl z) (λz=>c^.inr^.inr^.inr z) e
  .refine Ly D k C m t u M X N e2 λr b1 b3 b4 Z l=>?_
   exact h r s.toks _ _ _ Z rfl rfl #[l _ _ g.1 g.2.2.1 g.2.2.2 m,b3,b4,.inr #[a,r_,o,b1,l _ _ O P S C,O,Y,P,S,T]] λb o c e=>l b o (λz=>c^.inl z) (λz=>c^.inr^.inr^.inl z) (λz=>c^.inr^.inr^.inr z) e
 done:=λs Q E #[m,t,u,L] f h=>by
  have M:qw U s.heap F B:=H.mv λo e=>f _ o e;have X:qw zX s.heap G W:=J.mv λo e=>f _ o e;have N:B[n]?=q_:=by rw[pe^by lk]
  rcases L with⟨k,p,q,j⟩|⟨a,b,o,k,C,O,Y,P,S,T⟩
  .exact GN hh D k m j t u M X (.inl N) λr l=>h r s.toks λb o c e=>l b o (λz=>c^.inl z) (λz=>c^.inr^.inl z) (λz=>c^.inr^.inr^.inl z) (λz=>c^.inr^.inr^.inr z) e
  .exact Nf hh D k C m t M N λr l=>h r s.toks λb o c e=>l b o (λz=>c^.inl z) (λz=>c^.inr^.inr^.inl z) e
 frame:=λi h r #[m,t,u,L] hs=>by
  have v:∀b o,b≠d->h.get? b=P3 o->r.get? b=P3 o:=λb o c e=>(hs.2 b c).trans e;exists v _ _ (iz hd.2.1) m,t.mv λo e=>v _ o (iz hd.2.2.2.1) e,u.mv λo e=>v _ o (iz hd.2.2.2.2) e
  rcases L with⟨k,p,q,j⟩|⟨a,b,o,k,C,O,Y,P,S,T⟩
  .exact .inl #[v _ _ (iz hd.1) k,p,q,v _ _ (iz hd.2.2.1) j]
  .exact .inr #[a,b,o,v _ _ (iz hd.1) k,v _ _ T C,O,Y,P,S,T]
 dch:=λz=>by
  rcases z with z|z|z|z
  .exact hd.1 z
  .exact hd.2.2.1 z
  .exact hd.2.2.2.1 z
  .exact hd.2.2.2.2 z
end
section
variable {K:Type}[DecidableEq K]{knd:KeyKind prog w K}
theorem VL{z TI TO m r L M:Db}{key:Nat->Ev}{val:Nat->Ev}(hh:A.handled=q_)(D:Sl z TI TO m r L M)(N:TI≠z/\TI≠TO/\TI≠m/\TI≠r)
  (J:lD s.heap z TI TO .none) (ti:jS s.heap TI (.ref m)^.ref r) (to:∃a b,jS s.heap TO a b) (t:qy Y s.heap m L 0) (u:qy Z s.heap r M 0) (hn:∀b,b=z\/b=TO\/b=m\/b=r->base.get? b=q_) (f:∀b o,base.get? b=P3 o->s.heap.get? b=P3 o)
  (O:qw Y base L ks) (P:qw Z base M vs) (h1:ks.size=n) (hk:∀i,i<n->ks[i]?=P3^key i/\vs[i]?=P3^val i)
  (c:t_ (K×Ev)) (v:c.length=n) (nd:(c.map (·.1)).Nodup) (R:n<=sizeLine) (S:∀(i:Nat) (p:K×Ev),c[i]?=P3 p->p.2=val i/\knd.is p.1^key i=r_)
  (h:∀x U,x.DictOf knd s.heap.objs.size c->(∀b o,base.get? b=P3 o->x.get? b=P3 o)->Q (.ref s.heap.objs.size) {s with heap:=x,toks:=U}):
  wpAny (model prog w) A (call (.type "dict") [.ref z]) Q E s:=by
 refine callType_codes (Q₁:=λy g=>y=.ref s.heap.objs.size/\g={s with heap:=s.heap.push {cls:=.type "dict",data:=.dict #[]}}) vP (Qa _) PySem.F.entry_dict_init (HY _ #[rfl,rfl]) ?_;rintro y g ⟨rfl,rfl⟩;have k:(s.heap.push {cls:=.type "dict",data:=.dict #[]}).get? s.heap.objs.size=P3 {cls:=.type "dict",data:=.dict #[]}:=Uf _ rfl;have B:lD (s.heap.push {cls:=.type "dict",data:=.dict #[]}) z TI TO .none:=Go _ J;have d:∀{b:Db}{o:Obj},s.heap.get? b=P3 o->s.heap.objs.size≠b:=λe=>kR^Tk e;exists#[_,k,rfl],PySem.F.args_dict_init_2 _ _;unfold j9.«dict.__init__»;refine Ch ?_;unfold pG;refine Ch^nQ #[_,k,rfl] ?_;show wpAny _ _ (pure (s.heap.objs.size,[iF z])) _ _ _;refine Op ?_;show wpAny _ _ (lQ "dict.__init__" s.heap.objs.size (.ref z) [] .none) _ _ _;unfold lQ;refine Ch^ko (T:="zip") #[_,B,rfl] ?_;rw[if_pos^by cbv];have C:A.in1.in1.handled=q_:=by simp[hh]
 have a0:A.in1.handled=q_:=by simp[hh]
 refine Ch^Xb B C λG V H=>?_;show wpAny _ _ (rule _ >>=_) _ _ _;refine Ch^mG ?_;have l:∀b o,s.heap.get? b=P3 o->G.get? b=P3 o:=λb o e=>H b o^Go _ e;refine Ch^pE (s:={s with heap:=G,toks:=V}) (l _ _ J) ?_;refine Op #[nF BM _,?_];let#[p,q, I]:=to;let#[o1, x1,_]:=t.lies;let#[o2, x2,_]:=u.lies
 have W:base.get? s.heap.objs.size=q_:=by
  cases e:base.get? s.heap.objs.size with
  |none=>rfl
  |some o=>exact absurd (Tk^f _ _ e)^jN _
 refine VJ (knd:=knd) (A:=A.in1) (PrV.zip (A:=A.in1.in1) C D N #[d J,d ti,d I,d x1,d x2] hn O P h1 hk) c v nd R W S n 0 _ (mi _) (XV _) #[l _ _ ti,t.mv λo e=>l _ o e,u.mv λo e=>l _ o e,.inl #[l _ _ J,p,q,l _ _ I]] (λb o e=>l b o^f b o e) (by simp only[List.take_zero]; exact#[_,#[],0,H _ _ k,#[rfl,rfl,rfl],rfl,(λe he=>by simp at he),(.nil),jI]) λx U hD X=>?_;exact#[rfl,h x U hD X]
end
section

def WS(K:Frag)(f:TA):TE:=λZ H Q=>f Z H λg d=>∃h i a b,∃(e:t_ V) (c:t_ Key),g=[.ref a,.ref b]/\SqK h K d a^c.map kV/\SqK i K d b e/\e.length=c.length/\c.length<=sizeLine/\c.Nodup/\∀l,d l=q_->Q (.ref l)^An d l^.dK^c.zip e
theorem Uu:∀{a:t_ Key}{b:t_ V}{c:t_ Ev},qz b c->KV (a.zip b)^a.zip c
 |[],_,_,_=>.nil
 |_::_,_,_,.nil=>.nil
 |k::a,_,_,.cons d e=>.cons #[rfl,d]^Uu e
theorem RU(L:X.calm=r_)(ha:PA X [r,j] ta)(M:Gl X "dict")(N:X.mg "dict"=q_)(O:Gl X "zip")(P:X.mg "zip"=q_)(h1:starEach [qJ (.Name "zip" y) [r,j] [] F] X.env=[(s_,eval (qJ (.Name "zip" y) [r,j] [] F) X.env)]:=by rfl)
  (hs:starEach [r,j] X.env=[(s_,eval r X.env),(s_,eval j X.env)]:=by rfl) (z:starEach [j] X.env=[(s_,eval j X.env)]:=by rfl):PE X (.Call (.Name "dict" E) [.Call (.Name "zip" y) [r,j] [] F] [] J)^WS X.K ta:=by
 intro zH s Z H Q I h;refine jl^Dz I M N boot_dict ?_;refine jf ?_ h1 rfl;rw[h1];refine oK ?_;refine Call_ (Dz I O P boot_zip^jf (thn (ha F zH s Z H _ I h) λa2 g zz=>?_) (by simp only[hs,z])^by rw[z]; rfl);let#[vs,H1, t,r1,J]:=zz;let#[zY,zX,a,b,ws,d,e,g1,g2,lw,hz,nd,q]:=J;subst e;let#[u,v, rfl,ru,rv]:=vals2 r1;subst ru;subst rv;let#[ks, A,k]:=g1.at t;let#[G, B,l]:=g2.at t;have l1:=A.length;have l2:=B.length;rw[FM]at l1;have R:a<g.heap.objs.size:=by let#[o, e]:=k.lies; exact Tk e
 have S:b<g.heap.objs.size:=by let#[o, e]:=l.lies; exact Tk e
 have f:∀c,g.heap.objs.size<=c->g.heap.get? c=q_:=λc hb=>by
  cases e:g.heap.get? c with
  |none=>rfl
  |some o=>exact absurd (ic (Tk e) hb)^jN _
 refine Ga k l λT C U V W Y a0=>oj ?_;have D:=Su g.heap.objs.size a b R S;have m:g.heap.objs.size<=T.objs.size:=l9^kq (nI _ 4)^Tk C;refine VL (knd:=Al X.prog X.w) (s:={g with heap:=T}) (base:=g.heap) (n:=d.length) (ks:=ks.toArray) (vs:=G.toArray) (key:=λi=>ks.getD i .none) (val:=λi=>G.getD i .none) (t.ok.hd L) D (by refine#[?_,?_,?_,?_] <;>(show(_:Nat)≠(_:Nat); lk)) C U #[_,_,V] W Y (λc L=>f c ?_) a0 k l (by rw[iK]; lk) (λi hi=>?_) (d.zip G) (by rw[kz]; lk) (by rw[pH^by lk]; exact nd) hz (λi p e=>?_) λh2 tk hD a1=>?_
 .rcases L with rfl|rfl|rfl|rfl <;>(show(_:Nat)<=(_:Nat); lk)
 .constructor
  .rw[pq,On^by lk,iT,On^by lk]; rfl
  .rw[pq,On^by lk,iT,On^by lk]; rfl
 .let#[E,y]:=p
  rw[mU]at e;let#[u, f1,f2]:=A.get (i:=i) (x:=kV E) (by simp only[T0,e.1]; rfl);exists ?_
  .show y=G.getD i .none; simp only[iT,e.2]; rfl
  .show(Al X.prog X.w).is E^ks.getD i .none=r_
   simp only[iT,f1];exact Ki f2
 .exact#[.ref T.objs.size,_,t.laid (t':=tk) (o:=.dK^d.zip ws) a1 m^PF (by rw[kz]; lk) (beq_eq_false_iff_ne.mpr^iz^iJ^ic t.big m) (Uu B) hD,rfl,q _^t.hok.fresh m]
end
end L2
namespace Dp
open L2
def G5:t_ D->u_^t_ Key
 |[]=>P3 []
 |d::a=>match keyOf d,G5 a with
  |some k,P3 b=>P3 (k::b)
  |_,_=>q_
set_option tactic.hygienic true in
theorem Kg{K:Frag}:∀{c:t_ D}{a:t_ V}{b:t_ Key},G5 c=P3 b->Ats K M H c a->a=b.map kV
 |[],a,b,e,h=>by injection e with e;subst e; exact h
 | d::c,a,b,e,h=>by
  let#[v,r, rfl,f,g]:=h;unfold G5 at e
  split at e
  .rename_i k i j l
   injection e with e;subst e;simp only[Kg l g,GS (U:=λ_=>False) j^f.tp λ_ z=>z.elim];rfl
  .cases e
theorem NV(a:t_ Str):G5^a.map .str=P3^a.map .inr:=by
 induction a with
 |nil=>rfl
 |cons x r b=>rw[iQ]; unfold G5; rw[b]; rfl
section

def WJ(ws:DR):DW:=λn f P=>ws n f λg h=>∃d e c b a,g=[d,e]/\Gr d=P3 c/\Gr e=P3 b/\G5 c=P3 a/\a.length=b.length/\a.length<=sizeLine/\a.Nodup/\P (.dic a b) h
theorem SM(E:X.calm=r_)(F:WE X [e1,e2] ws)(j:Gl X "dict")(k:X.mg "dict"=q_)(m:Gl X "zip")(s:X.mg "zip"=q_)(G:starEach [qJ (.Name "zip" p2) [e1,e2] [] q2] X.env=[(s_,eval (qJ (.Name "zip" p2) [e1,e2] [] q2) X.env)]:=by rfl)
  (I:starEach [e1,e2] X.env=[(s_,eval e1 X.env),(s_,eval e2 X.env)]:=by rfl) (u:starEach [e2] X.env=[(s_,eval e2 X.env)]:=by rfl):DE X (.Call (.Name "dict" p1) [.Call (.Name "zip" p2) [e1,e2] [] q2] [] q1) .fr^WJ ws:=by
 let#[t, J,K]:=F;refine#[_,RU E J j k m s G I u,λC M H n L Z P Q R w q=>?_];refine K C M H n L Z _ _ R w λN i ds O v A S p=>?_;let#[d,e,xs,T,x,rfl,V,W,Y,hl,hz,nd,p]:=p;cases S with
 | cons r y=>
  cases y with
  |cons r' y=>
   cases y;have B:=R.step v A;let#[zY,a,us, rfl,g1,s1]:=Gq (U:=C.U) r V R.uV B.vM;let#[zX,b,c, rfl,D,s2]:=Gq (U:=C.U) r' W R.uV B.vM;cases Kg Y g1;have l2:=D.length;refine#[zY,zX,a,b,c,x,rfl,s1 M i (qQ.refl _ _)^Ext.refl _ _,s2 M i (qQ.refl _ _)^Ext.refl _ _,by lk,hz,nd,λl h=>?_];have g:zk i^An i l^.dK^x.zip c:=Am h;refine q _ _ (.dic x T) O (v.trans g.ext) (A.grow g) (VR.back v (κ:=.fr) #[l,rfl,h,c,AQ,hl,D.qq ?_]) p;exact#[λb o f nb=>by rw[AH λz=>by rw[z,h]at f; cases f]; exact f,λb z=>z.elim .inl λz=>.inr (by rw[z]; exact h),λb N f=>by rw[AH λz=>by rw[z,h]at f; cases f]; exact f]
end
end Dp
set_option maxHeartbeats 400000
namespace Nt
open L2 Dp
def Sf:W2:=λa n P=>∃(N:Net) (d:D),a=[.sh^Bl N,.sh d]/\N.Ok/\Pl d/\P (.bl^DV N d) n
def YF:W2:=λd n P=>∃(N:Net) (t b:Int) (c:Nat) (a:t_ AZ) (u p:D),d=[gG N t b c,.sh^B0 a,.sh u,.sh p]/\okN N/\CB t b/\Eb N a/\Pl u/\P (.bl^O9 N t b a u p) n
def Se(j:Nat):W2:=λf n P=>∃(N:Net) (t b:Int) (c:Nat) (kept a:t_ AZ) (x:D) (d k:Nat),f=[gG N t b c,.sh^B0 kept,.sh^B0 a,.sh x,.sh^.int (d:Int)]/\okN N/\CB t b/\Eb N kept/\Eb N a/\kept.length+j<=90/\a.length+j<=90/\Pl x/\Br x<=j/\d+k=16/\2 ^ (j+1)<=n+1/\∀e,n+1<=e+2 ^ (j+1)->P (.bl^FP N t b c k kept a x) e
def V6:W2:=λc n P=>∃(N:Net) (t b:Int) (a:Nat) (x:D),c=[.sh^Bl N,.sh^Bg t b,.sh^.int (a:Int),.sh x]/\okN N/\CB t b/\Pl x/\Br x<=10/\P (.bl^FP N t b a 15 [] [] x) n
def YS:Ab:=(DU (YQ (A8^BE (XW r_) (Bt^AK (AJ 7)^AK (AJ 8)^AK (AJ 9) Ad)^AJ 1)^A8^BE (f2 λi j=>D.bl (decide (j<i))) (Hu aN^AK (BE HU (BE HV (AJ 6)^AJ 7)^BE HV (AJ 6)^AJ 8) Ad)^AJ 9) (CT^wC^D.bl s_) CA)
def P7:Ab:=(DU (OI (A8^OJ "bool"^AJ 5)^OI (F4^A8^OJ "int"^AJ 5)^A8^BE O_ (AJ 5)^wC^D.int 0) (CT^wC^D.bl s_) CA)
theorem X6(h:∀z,c≠.bl z):((N.ts.map AO).any λs=>BS s^.tup [x,y,c])=DV N^.tup [x,y,c]:=by
 rw[jW,qT,kj];constructor
 .rintro⟨s,g,e⟩
  let#[v, f,rfl]:=Rs.mp g;let#[z, d,j]:=Kp e;injection d with d
  injection d with k d
  injection d with l d
  injection d with m
  subst k l m;cases c with
  |int i=>exact#[v,f,by rw[j i rfl]; rfl]
  |bl z=>exact absurd rfl (h z)
  |_=> 
   have e:(BS (.str v.a)^.str v.a&&(BS (.str v.b)^.str v.b&&(s_&&r_)))=r_:=e;simp at e
 .rintro⟨v,f,e⟩
  exact#[AO v,Rs.mpr #[v,f,rfl],by rw[e]; exact Lw v]
theorem Po(h:∀a,x=.tup a->a.length≠3):DV N x=s_:=iS.mpr λz=>by
 let#[v, _,rfl]:=qT.mp z;exact h _ rfl rfl
theorem LX(hx:d=w::r)(f:BS w^.str "enough"=r_->d.length≠1)(g:BS w^.str "far"=r_->d.length≠3)(h:BS w^.str "split"=r_->d.length≠4):FP N t b a k kept c^.tup d=s_:=by
 unfold FP
 split
 .rename_i e; injection e with e;subst e; injection hx with hx;subst hx; rw[iS.mpr λz=>f z rfl]; rfl
 .rename_i e; injection e with e;subst e; injection hx with hx;subst hx; rw[iS.mpr λz=>g z rfl]; rfl
 .rename_i e; injection e with e;subst e; injection hx with hx;subst hx; rw[iS.mpr λz=>h z rfl]; rfl
 .rfl
theorem Pk(h:∀K:D->Nat->Prop,K (.bl s_) n->u n a K)(q:P (.bl s_) n):bq u v n a P:=h _ q
theorem U_(d:c.length=N.ps.length)(f2:c.all JK=r_):EZ (Bp N gone)^.tup c=N.ts.all λx=>(decide (x∈gone)||decide (CG (Cq N c x.a - Cq N c x.b)<=x.len)):=by
 show((((c.length:Int)==(N.ps.length:Int))&&c.all JK)&&(N.ts.filter λt=>decide (¬t∈gone)).all λt=>decide (CG (Cq N c t.a - Cq N c t.b)<=t.len))=_;simp only[d,beq_self_eq_true,f2,iY,iY,List.all_filter]
 congr 1
 funext x
 simp only[decide_not,Bool.not_not]
theorem X3(a:1<=j)(b:j<=1000000):zh i j:=.inr^by constructor <;>lk
theorem Mo(l:okN N)(p:Eb N d)(o:f.length=N.ps.length)(f2:∀x∈f,JK x=r_):∀(e:t_ AZ) (i j k:Slot),(∀x∈e,x∈N.ts)->
  ((e.all λx=>(decide (x∈d)||decide (CG (Cq N f x.a - Cq N f x.b)<=x.len)))=s_->D2.rt (.bl s_) n)->
  ((e.all λx=>(decide (x∈d)||decide (CG (Cq N f x.a - Cq N f x.b)<=x.len)))=r_->∀i j k,D2.nx n [s0,.sh^B0 d,s2,s3,s4,s5,.sh^.dic (N.ps.map .inr) f,i,j,k,s10])->
  Bc (L_ 3^B8 (A5 7)^B8 (A5 8)^B8 (A5 9) Hd) YS D2 (e.map AO) n [s0,.sh^B0 d,s2,s3,s4,s5,.sh^.dic (N.ps.map .inr) f,i,j,k,s10]
 |[],i,j,k,_,_,g=>g rfl i j k
 | x::e,i,j,k,q,h,g=>by
  have ok:=l.1;have m:=q x Sc;let#[ t,u,_]:=ok.tin x m;have v:=S6 o f2 t;have w:=S6 o f2 u;have r:=Mo l p o f2 (D2:=D2) (n:=n) (s0:=s0) (s2:=s2) (s3:=s3) (s4:=s4) (s5:=s5) (s10:=s10) e (.sh^.str x.a) (.sh^.str x.b) (.sh^.int x.len) λy z=>q y^TM _ z;simp only[lS]at h g;unfold YS;exists rfl,rfl,z3,Bi ok m,D0 ok p,_,rfl;show if(!((d.map AO).any λy=>BS y^AO x))=r_ then _ else _
  rw[B3];cases s:decide (x∈d)with
  |true=>
   rw[s,Bool.true_or,iY]at h g;exact As^As^r h g
  | false=>
   rw[s,Bool.false_or]at h g;refine Ar #[_,_,_,_,rfl,rfl,v,_,_,_,_,rfl,rfl,w,?_];show if decide (x.len<CG (Cq N f x.a - Cq N f x.b))=r_ then _ else _
   by_cases c:CG (Cq N f x.a - Cq N f x.b)<=x.len
   .rw[decide_eq_false^by lk]
    rw[decide_eq_true c,iY]at h g;exact As^r h g
   .rw[decide_eq_true^by lk]
    rw[decide_eq_false c,oE]at h;exact Ar (h rfl)
theorem Ii:∀(d:t_ D) (a:Slot),(d.all JK=s_->D2.rt (.bl s_) n)->(d.all JK=r_->∀a,D2.nx n [s0,s1,s2,s3,s4,a,s6,s7,s8,s9,s10])->Bc (A5 5) P7 D2 d n [s0,s1,s2,s3,s4,a,s6,s7,s8,s9,s10]
 |[],a,_,h=>h rfl a
 | x::d,a,b,h=>by
  simp only[lS]at b h;unfold P7;cases x with
  | int i=>
   have e:=Ii (D2:=D2) (n:=n) (s0:=s0) (s1:=s1) (s2:=s2) (s3:=s3) (s4:=s4) (s6:=s6) (s7:=s7) (s8:=s8) (s9:=s9) (s10:=s10) d^.sh^.int i;show if decide (i<0)=r_ then _ else _
   by_cases c:0<=i
   .rw[show JK^.int i=r_ from decide_eq_true c,iY]at b h
    rw[decide_eq_false^by lk];exact As^e b h
   .rw[show JK^.int i=s_ from decide_eq_false c,oE]at b
    rw[decide_eq_true^by lk];exact Ar (b rfl)
  |_=>exact b rfl
def C1(B:Nat)(x y:D):Prop:=qh (B+1) y/\Bz y<=2*Bz x+300/\Br y<=Br x+1
def MH(j:Nat):W2:=λb n P=>∃(x:D) (B:Nat),b=[.fd,.sh x]/\qh B x/\10 ^ 30<=B/\B<10 ^ 40/\Bz x<=100000/\Br x<=j/\3*j+3<=n/\∀(y:D) (a:Nat),C1 B x y->n - (3*j+3)<=a->P y a
def TJ:Ab:=(BO (CS 3^DF^AK (Hu JP^AK (AJ 1) Ad)^AK (BE CD (AJ 1)^OG E4 (AJ 1) Ba^C3^wC^D.int 1)^AK (OG E4 (AJ 1) (C3^wC^D.int 1) Ba)^AK (OG E4 (AJ 1) Ba^C3^Q5^wC^D.int 1)^AK (bn (AJ 1)^Q5^wC^D.int 1)^AK (Bt Ad)^AK (wC D.non)^AK (BE CD (AJ 1)^Bt^AK (wC^D.int 0) Ad) Ad)
 (BO (CS 3^BE CD (AJ 3)^DF^AK (Bt^AK (wC^D.str "enough") Ad)^AK (BE CD (Bt^AK (wC^D.str "far") Ad)^OG E4 (AJ 1) (C3^wC^D.int 1) Ba)^AK (BE CD (Bt^AK (wC^D.str "split") Ad)^OG E4 (AJ 1) (C3^wC^D.int 1) Ba) Ad)
 (CT^BE D7 (AJ 3)^A0 Ji^AL (CU 0)^AL (AT^wC^D.int 11) A3)))
def Zi:Ab:=(BO (DU (A8^OJ "tuple"^AJ 1) TJ CA)
 (BO (DU (A8^OJ "str"^AJ 1) (CT^BE D7 (DF^AK (wC^D.str "enough")^AK (wC^D.str "far")^AK (wC^D.str "split")^AK (wC^D.str "Far")^AK (wC^D.str "")^AK (wC^D.str "a")^AK (wC D.non)^AK (wC^D.int 1)^AK (DF Ad)^AK (Bt^AK (wC^D.str "enough") Ad) Ad)^A0 Ji^AL (CU 0)^AL (AT^wC^D.int 10) A3) CA)
 (BO (DU (OI (A8^OJ "bool"^AJ 1)^F4^A8^OJ "int"^AJ 1) (CT^Bt^AK (wC^D.str "enough") Ad) CA)
 (CT^BE D7 (DF^AK (BE CD (AJ 1)^wC^D.int 1)^AK (BE HU (AJ 1)^wC^D.int 1)^AK (BE (dJ s_) (AJ 1)^wC^D.int 1)^AK (wC D.non)^AK (Hu VC^AK (AJ 1) Ad)^AK (BE HU (Q5^wC^D.int 1)^AJ 1)^AK (BE (gO YK λi j=>D.int (i ^ j.toNat)) (wC^D.int 10)^wC^D.int 30)^AK (wC^D.int 0) Ad)^A0 Ji^AL (CU 0)^AL (AT^wC^D.int 8) A3))))
theorem Og{Q:D->Prop}(b:∀z∈zs,Q z)(d:zs.length=c)(e:0<=r)(f:r<(c:Int)):∃z,atI zs r=P3 z/\Q z:=by
 obtain⟨k,rfl⟩:∃k:Nat,r=(k:Int):=#[r.toNat,by lk];have a:k<zs.length:=by lk
 exact#[zs[k],AD^On a,b _^jB a]
section
theorem Tv(p:qh B^.tup a)(C:10 ^ 30<=B)(t:CO a<=100000)(u:1<=m)(q:∀y,C1 B (.tup a) y->D2.rt y (m - 1)):TJ D2 m [.fd,.sh^.tup a,o,.no]:=by
 have v:=PySem.sizeLine_eq;have E:=C6 a
 have d:∀(b:t_ D),(∀y∈b,y∈a\/(qh (B+1) y/\Br y=0))->CO b<=2*CO a+300->C1 B (.tup a)^.tup b/\C1 B (.tup a)^.lst b:=λb g f=>by
  have j:GV (B+1) b:=qv.mpr λy h=>(g y h).elim (λh=>(qv.mp p y h).mono^by lk) (·.1)
  have:=qg.mpr λy h=>(g y h).elim (λh=>qg.mp (Re^ES a) y h) λh=>by rw[h.2]; exact XV _
  have k:ES b+1<=ES a+1+1:=by lk
  exact#[#[j,f,k],j,f,k]
 have l:∀x∈[("enough":Str),"far","split"],(∀c∈cs x,c<1114112)/\x.length<=9:=by decide +kernel
 have F:=F6 a q_^P3 1;have n:=F6 a (P3 1) q_;have G:=F6 a q_^P3 (-1);have H:=C6^Dp.cutD a q_^P3 1;have I:=C6^Dp.cutD a (P3 1) q_;unfold TJ;exists by lk,1,rfl,1,rfl,rfl,z0,z1,by show a.length+1<=_; lk,(by cbv:8<=sizeLine);exists z1,z1,by show 1+_<=_; omega,z1,by show 1+_<=_; omega,z3,(by show 8+3<=sizeLine; decide);refine#[11,rfl,by cbv,by cbv,u,λr w A=>?_]
 have one:∀s∈[("enough":Str),"far","split"],∀b:t_ D,(∀y∈b,y∈a)->CO b<=CO a->C1 B (.tup a)^.tup ([.str s]++b):=λs f b g t=>(d _ (λy h=>(iH.mp h).elim (λh=>.inr^by rw[h_.mp h]; exact#[(l s f).1,rfl]) λh=>.inl^g y h) (by
  have:=(l s f).2
  rw[CW];show s.length+1+0+_<=_
  lk)).1
 let#[z, e,i]:=Og (Q:=C1 B^.tup a) (c:=11) (zs:=[D.lst a,.tup (a++Dp.cutD a q_^P3 1),.tup^Dp.cutD a (P3 1) q_,.tup^Dp.cutD a q_^P3 (-1),.tup a.reverse,.tup [],.non,.tup (a++[.int 0])]++[.tup [.str "enough"],.tup ([.str "far"]++Dp.cutD a (P3 1) q_),.tup ([.str "split"]++Dp.cutD a (P3 1) q_)]) (λz h=>by
  simp only[kI,iD,TW,iC,or_false]at h
  rcases h with rfl|rfl|rfl|rfl|rfl|rfl|rfl|rfl|rfl|rfl|rfl
  .exact(d a (λ_ h=>.inl h)^by lk).2
  .exact(d _ (λy h=>.inl^(iH.mp h).elim id EU)^by rw[CW]; lk).1
  .exact(d _ (λy h=>.inl^EU h)^by lk).1
  .exact(d _ (λy h=>.inl^EU h)^by lk).1
  .exact(d _ (λy h=>.inl^List.mem_reverse.mp h)^by rw[Ps]; lk).1
  .exact(d [] (λy h=>absurd h iC)^XV _).1
  .exact#[trivial,XV _,XV _]
  .exact(d _ (λy h=>(iH.mp h).elim .inl λh=>.inr^by rw[h_.mp h]; exact#[XV _,rfl])^by rw[CW]; show _+(200+1+0)<=_; lk).1
  .exact one "enough" (by decide) [] (λy h=>absurd h iC)^XV _
  .exact one "far" (by decide) _ (λy h=>EU h) n
  .exact one "split" (by decide) _ (λy h=>EU h) n) rfl w A
 exact#[z,e,q z i]
end
theorem Vi(a:1<=j)(b:j<=1000000):zh i j:=.inr^by lk
end Nt
set_option maxHeartbeats 4000000
namespace L2
def vC(h:iG)(a:Db)(b:Array pN)(c:Nat):Prop:=∃o,h.get? a=P3 o/\o.ExactDict/\o.data=.dict b c
section
variable {s:Shared}
theorem vC.ty(x:vC s.heap d es ep):s.TypeIs (.ref d) "dict":=let #[o,a,b,_]:=x; #[o,a,b.1]
theorem vC.lt(x:vC h d es ep):d<h.objs.size:=let #[_,a,_]:=x; Tk a
theorem vC.to(x:vC h d es ep)(k:∀o,h.get? d=P3 o->a.get? d=P3 o):vC a d es ep:=let #[o,b,c]:=x; #[o,k o b,c]
theorem Tz(e:(d==sysModules)=s_)(x:vC s.heap d es ep)
  (q:Q (.ref s.heap.objs.size) {s with heap:=s.heap.push {cls:=.type "dict_keyiterator",data:=.fields #[ .ref d,.int 0 0,.int es.size 0,.int ep 0]}}):wpAny (model P w) A (pyIter^.ref d) Q E s:=by
 have T:=x.ty;let#[o, b,f,c]:=x;refine wpAny_pyIter_slot T F.slot_dict_iter^jY F.slot_dict_iter T F.entry_dict_iter ?_^F.args_dict_iter_1 _;refine Ch ?_;refine Ch^nQ T ?_;refine Op ?_;show wpAny _ _ (p6 d >>=_) _ _ s; unfold p6
 rw[if_neg^by simp_all]; refine Ch^Op^Ch^oz b c^Ch^pS b c ?_
 refine Ch^jp^Op #[_,rfl,_,_,#[_,Uf _ rfl,rfl],kA.lookup,?_]; assumption
theorem T3(x:s.heap.IsKeyIter t d i es.size ep)(y:vC s.heap d es ep)(j:i<es.size)
  (q:∀c,c.IsKeyIter t d (i+1) es.size ep->kQ t s.heap c->Q (P3 es[i].key) {s with heap:=c}):wpAny (model P w) A (pyNext^.ref t) Q E s:=by
 have T:=x.typeIs;let#[o, e,k,b]:=x;let#[l, f,m,g]:=y;unfold pyNext; refine Ch^lT^jC (name:=jX "__next__") T kA^jY kA T nj ?_^nh _
 refine Ch^Op^Ch^Ch ?_
 first|refine Ch^kh T^Op ?_|omega
 refine Ch^wpAny_fieldsOf e b ?_;have ow:oF "dict_keyiterator"=s_:=by cbv
 simp only[ow,jR,if_false];show wpAny (model P w) _ (if(iF d==ie)=r_ then _ else _) _ _ s;rw[if_neg (show ¬(iF d==ie)=r_ by simp_all)]; refine Ch^Op^Ch^oz f g ?_
 rw[if_neg^by simp]; refine Ch^Op^Ch^pS f g ?_
 rw[if_neg^by simp]; refine Op ?_
 simp only[show ¬(i:Int)<0 by lk,if_false,jg,lC j]; refine Ch ?_
 first|refine Ch^kh T^Op ?_|omega
 refine Ch^wpAny_isOneOf_keyiter T ?_; show wpAny (model P w) _ (setField (.ref t) 1^rawInt ((i:Int)+1) >>=_) _ _ s
 refine Ch^lJ e b (by simp) ?_;have h:(s.heap.update t (kg (·.setIfInBounds 1^rawInt ((i:Int)+1)))).IsKeyIter t d (i+1) es.size ep:=#[_,jy _ e^nO^kr b _,(Obj.cls_mapFields ..).trans k,by rw[kr b]; simp[rawInt]];refine Ch^i6^Ch^wpAny_isOneOf_keyiter h.typeIs ?_;show wpAny (model P w) _ (pure es[i].key) _ _ _; exact Op^Op #[_,rfl,Op^q _ h (mS ..)]
theorem Wc(k:A.handled=q_)(x:s.heap.IsKeyIter t d i es.size ep)(y:vC s.heap d es ep)(l:es.size<=i)
  (q:∀e,pY t s.heap e->Q q_ {s with heap:=e}):wpAny (model P w) A (pyNext^.ref t) Q E s:=by
 have T:=x.typeIs;let#[o, f,n,g]:=x;let#[p, h,r,j]:=y;unfold pyNext; refine Ch^lT^jC (name:=jX "__next__") T kA^jY kA T nj ?_^nh _
 refine Ch^Op^Ch^Ch ?_
 first|refine Ch^kh T^Op ?_|omega
 refine Ch^wpAny_fieldsOf f g ?_;have ow:oF "dict_keyiterator"=s_:=by cbv
 simp only[ow,jR,if_false];show wpAny (model P w) _ (if(iF d==ie)=r_ then _ else _) _ _ s;rw[if_neg (show ¬(iF d==ie)=r_ by simp_all)]; refine Ch^Op^Ch^oz h j ?_
 rw[if_neg^by simp]; refine Ch^Op^Ch^pS h j ?_
 rw[if_neg^by simp]; refine Op ?_
 simp only[show ¬(i:Int)<0 by lk,if_false,jg,pe l]; refine Ch ?_
 first|refine Ch^kh T^Op ?_|grind
 show wpAny (model P w) _ (setField (.ref t) 0 .none >>=_) _ _ s; refine Ch^lJ f g (by simp) ?_
 show wpAny (model P w) _ (newExc (.type "StopIteration") [] >>=_) _ _ _; refine Ch ?_
 simp only[newExc,newTuple]; refine Ch^jp ?_^by size_fits
 refine Ch (m:=firstArgMember _ _) (pX (a:=ie) (by first|rfl|omega)^jp ?_^by size_fits);simp only[raiseNew]; refine Ch^wpAny_handled ?_
 rw[show A.in1.handled=q_ from k]; refine Ch^Op^wpAny_throw ?_; refine Ch^pD (T:="StopIteration") (b:=r_) #[_,Uf _ rfl,rfl] isSubtype_stop ?_
 exact Op^q _^((mS ..).extBut.push _).push _
theorem RK(p:A.handled=q_)(I d:Db)(g:d≠I)(es:Array pN)(ep:Nat):Walks P w A I [I,d] [I] es.size (λi v=>∃e,es[i]?=P3 e/\v=e.key) (λi h=>h.IsKeyIter I d i es.size ep/\vC h d es ep) where
 sub:=λb f=>by simp_all
 frame:=λ_ _ _ a l=>#[a.1.at λo e=>l I (by simp) o e,a.2.to λo e=>l d (by simp) o e]
 item:=λi s Q E m a c=>T3 a.1 a.2 m λj k n=>c _ j _ #[_,lC m,rfl] #[k,a.2.to λo e=>n.extBut d o g e] λb o f e=>n.extBut b o (λh=>f^by simp[h]) e
 done:=λs Q E a c=>Wc p a.1 a.2 (Re _) λj q=>c j _ λb o f e=>q b o (λh=>f^by simp[h]) e
 self:=λ_ _ _ _ a c=>wpAny_pyIter_keyiter a.1 c
theorem Wa(a:(d==sysModules)=s_):PySem.W.KdlSrc P w "dict" d d es.size (λi v=>∃e,es[i]?=P3 e/\v=e.key) (λh=>vC h d es ep) where
 type:=λ_ x=>x.ty
 there:=λ_ x=>#[x.lt,x.lt]
 keep:=λ_ _ x k=>x.to λo e=>k d (.inl rfl) o e
 notList:=by cbv
 notTuple:=by cbv
 hint:=λ_ _ _ _ x q=>PySem.W.kdl_hint_dict x.ty q
 iter:=λ_ _ b x=>#[_,_,(λ_ _ q=>Tz a x q),RK b _ d (iJ x.lt) es ep,#[#[_,Uf _ rfl,rfl,rfl],x.to λo e=>Go _ e]]
end
open PySem.W
theorem W_(k:Key):kOf k=kV k:=by cases k <;>rfl
theorem W9(a:t_ Key):a.map kOf=a.map kV:=jF λk _=>W_ k
section

theorem Xh(ok:HOk P w H h)(hd:Rd H d^.dT b):
  ∃(o:Obj) (c:Array pN) (f:Nat) (g:t_ Db),h.get? d=P3 o/\o.ExactDict/\o.data=.dict c f/\g.length=b.length/\c.size=b.length /\
   (∀(i:Nat) (e:pN),c[i]?=P3 e->∃a,g[i]?=P3 a/\e.key=.ref a)/\∀(i:Nat) (a:Db) (p:t_ Key×V),g[i]?=P3 a->b[i]?=P3 p->H a=P3^.tup^p.1.map kV:=by
 let#[ _,_, j, r, o,c,f, y,z,A,s,C,D]:=Ks ok hd
 have t:b.length=j.length:=by
  have:∀{l:t_ (t_ Key×V)}{m:t_ (t_ Key×Db×Ev)},KT H l m->l.length=m.length:=λq=>q.length
  exact this r
 have k:c.size=j.length:=by rw[←jb,s,FM]
 refine#[o,c,f,j.map λx=>x.2.1,y,z,A,by rw[FM,t],by rw[k,t],λi e u=>?_,λi a p v B=>?_]
 .rw[←nP,s,T0]at u
  let#[x, n,rfl]:=iX.mp u;exact#[x.2.1,by rw[T0,n]; rfl,rfl]
 .rw[T0]at v
  let#[x, n,rfl]:=iX.mp v
  have:=Mz r B n
  exact this.2.1
def T4:t_ V->Hp->VK->Prop:=λf H Q=>∃(d:Db) (b:t_ (t_ Key×V)),f=[.ref d]/\Rd H d^.dT b/\b.length<64/\(∀x∈b.map (·.1),∀y∈b.map (·.1),Bw x y=r_)/\(∀x∈b.map (·.1),x≠[]) /\
 ∀(c:t_ Db) (e:t_ Nat) (l:Db),c.length=b.length->(∀(i:Nat) (a:Db) (p:t_ Key×V),c[i]?=P3 a->b[i]?=P3 p->H a=P3^.tup^p.1.map kV)->He (b.map (·.1)) e->H l=q_->
  Q (.ref l) (An H l^.lst^e.map λi=>(c.map V.ref).getD i .non)
theorem PM(E:X.calm=r_):B5 X (.builtin "sorted") T4:=by
 intro F s Z H xs us Q I r h;let#[d,j, rfl,y,G,k,m,q]:=h;let#[u, rfl,J]:=vals1 r;subst J;let#[o,es,ep,f, K,L,M,n,g5,N,z]:=Xh I.hok y;have O:=(Ks I.hok y).2.1;refine EK (kw:=[]) (args_sorted1 _) (λx=>args_list_sort _)^PySem.W.kdu_collect (Wa (P:=X.prog) (w:=X.w) (es:=es) (ep:=ep) O) (show X.A.in1.handled=q_ from by simp[I.ok.hd E]) #[o,K,L,M] (by simp only[jJ]; omega) λR B c t b=>#[by simp only[jb,b.1,jJ]; omega,?_];have S:Inv X F Z H {s with heap:=R,toks:=B}:=I.kept (t':=B) t
 have T:c.toList=f.map iF:=by
  refine List.ext_getElem? λi=>?_;cases C:c.toList[i]? with
  |some v=>
   let#[e, U,rfl]:=b.2 i v (by rw[←nP]; exact C);let#[a, V,Y]:=N i e U;simp only[T0,V,Y]; rfl
  |none=>
   have:c.toList.length<=i:=List.getElem?_eq_none_iff.mp C
   simp only[jb,b.1]at this;rw[nR^by rw[FM]; lk]
 rw[T];refine KJ S (J8 f) (by rw[FM]; omega) (keys:=j.map (·.1)) #[by simp only[FM,FM]; exact n,λi ns e=>?_,k,m] λix l ho hl=>q f ix l n z ho hl;rw[T0]at e;let#[p, D,rfl]:=iX.mp e;have g:i<f.length:=by simp only[n]; exact(f8.mp D).1
 refine#[f[i],by simp only[T0,On g]; rfl,?_];simp only[W9];exact SqT.of^z i _ p (On g) D
end
end L2
namespace Dp
open L2
def tupK(k:t_ Key):D:=.tup^k.map fv
theorem NS{K:Frag}:∀{k:t_ Key},(∀x∈k,GU x)->Ats K M H (k.map fv)^k.map kV
 |[],_=>rfl
 |x::k,h=>#[_,_,rfl,ak^h x Sc,NS λy a=>h y^TM _ a]
theorem MX{K:Frag}:∀{b:t_^t_ Key}{c:t_ Db},c.length=b.length->(∀k∈b,∀x∈k,GU x)->(∀(i:Nat) (a:Db) (k:t_ Key),c[i]?=P3 a->b[i]?=P3 k->H a=P3^.tup^k.map kV)->Ats K M H (b.map tupK)^c.map V.ref
 |[],[],_,_,_=>rfl
 |k::b,a::c,j,d,h=>#[_,_,rfl,#[a,_,rfl,h 0 a k rfl rfl,NS^d k Sc],MX (by simp_all) (λk e=>d k^TM _ e) λi f g l m=>h (i+1) f g (by simp_all)^by simp_all]
section
variable {X:Cx}
def aJ(f:t_ D)(P:D->Prop):Prop:=∃(c:t_^t_ Key) (e:t_ D),f=[.dit c e]/\c.length=e.length/\c.length<64/\(∀x∈c,∀y∈c,Bw x y=r_)/\(∀x∈c,x≠[])/\(∀k∈c,∀x∈k,GU x) /\
 ∀d:t_^t_ Key,d.Perm c->d.Pairwise (λa b=>CP b a=s_)->P^.lst^d.map tupK
theorem UX(h:He c d):(d.map λi=>c.getD i []).Perm c/\(d.map λi=>c.getD i []).Pairwise (λa b=>CP b a=s_):=by
 let#[ f,g]:=h;have n:d.length=c.length:=by simp only[f.length_eq,kC]
 constructor
 .have:=f.map λi=>c.getD i []
  have e:(iM c.length).map (λi=>c.getD i [])=c:=by
   apply nJ
   .simp
   .intro i f g
    simp[g]
  simp only[e]at this;exact this
 .rw[kO]
  intro i j l m k;simp only[FM]at l m
  have:=g i j (l9 k)^by lk
  simp_all
theorem X8:Cm X.K .fr T4 aJ:=by
 intro U M H O R P Q t S u w q;let#[c,T,rfl,W,x,e,f,y,w]:=w;let#[v, rfl,z]:=C4 u;let#[a,g, rfl,A,B]:=PJ z;have C:=B.length;have h:(c.zip g).map (·.1)=c:=pH (by lk);have j:(c.zip g).length=c.length:=by rw[kz]; lk
 refine#[a,_,rfl,A,by lk,by rw[h]; exact e,by rw[h]; exact f,λD m l E n o d=>?_];rw[h]at o;let#[ F,G]:=UX o
 have I:Ats X.K M H (c.map tupK)^D.map V.ref:=MX (by lk) y λi b k J s=>by
  have p:i<(c.zip g).length:=by simp only[j]; exact(f8.mp s).1
  have:=n i b _ J^On p
  rw[List.getElem_zip]at this;let#[_,L]:=f8.mp s;simp only[L]at this;exact this
 have N:(m.map λi=>(c.map tupK).getD i .non)=(m.map λi=>c.getD i []).map tupK:=by
  simp only[i_];refine jF λi p=>?_;have r:i<c.length:=jD.mp^o.1.mem_iff.mp p;show(c.map tupK).getD i .non=tupK^c.getD i [];simp only[iT,iT,T0,On r];rfl
 have:=w _ F G
 rw[←N]at this;exact q _ _ (.lst _) (Am d) (Cg d^I.pick m) this
end
end Dp
namespace Nt
open L2 Dp
theorem Vm(h:Je e)(nd:(e.map ends).Nodup):e.Pairwise BJ:=by
 refine(h.and^ke.mp nd).imp λ{s t} #[a,b]=>o4 λc=>?_
 by_cases d:BJ t s
 .have:=LA d
  simp_all
 .refine b ?_
  injection Ct _ _ (by rw[iS]; exact λz=>c^ekey_iff.mp z) (by rw[iS]; exact λz=>d^ekey_iff.mp z)with f i
  injection i with g _
  injection f with f
  injection g with g
  unfold ends;simp only[f,g]
end Nt
namespace L2
section

def S8(x y:Str)(i:Nat):Str:=if i=0 then x else y
theorem Pn{v:Ev}(h:(#[ lI x t,lI y u]:Array Ev)[i]?=P3 v):∃k,v=.str (S8 x y i) k:=by
 match i with
 |0=>exact#[t,(iA h).symm]
 |1=>exact#[u,(iA h).symm]
 |i+2=>simp at h
theorem SR:CmpOf prog w A .Lt (λi v=>(#[ lI x t,lI y u]:Array Ev)[i]?=P3 v) (λi j=>decide ((S8 x y i).cps.toList<(S8 x y j).cps.toList)):=λi j f g s Q E c d h=>by
 let#[a, rfl]:=Pn c;let#[b, rfl]:=Pn d;exact richCompare_gives (mr s _ a) (mr s _ b) PySem.F.slot_str_lt PySem.F.entry_str_lt (PySem.F.args_str_lt_2 _ _) (gives_str_lt _ _ a b) (λe=>nomatch e) h
theorem SS:CmpOf prog w A .Gt (λi v=>(#[ lI x t,lI y u]:Array Ev)[i]?=P3 v) (λi j=>decide ((S8 x y j).cps.toList<(S8 x y i).cps.toList)):=λi j f g s Q E c d h=>by
 let#[a, rfl]:=Pn c;let#[b, rfl]:=Pn d;exact richCompare_gives (mr s _ a) (mr s _ b) PySem.F.slot_str_gt PySem.F.entry_str_gt (PySem.F.args_str_gt_2 _ _) (gives_str_gt _ _ a b) (λe=>nomatch e) h
theorem S_(h:c∈[n+1,n]):c<n+1+1:=by
 grind
theorem MV(h:(#[ lI x t,lI y u]:Array Ev)[argBest a 1]?=P3 v):v=if a 1 0=r_ then .str y u else .str x t:=by
 have e:argBest a 1=if a 1 0=r_ then 1 else 0:=rfl
 rw[e]at h;cases c:a 1 0 with
 |true=>simp_all
 |false=>rw[c]at h; exact(iA h).symm
theorem Rj(i:A.handled=q_)(h:∀a b,(∀c o,s.heap.get? c=P3 o->a.get? c=P3 o)->Q (if decide (y.cps.toList<x.cps.toList)=r_ then .str y u else .str x t) {s with heap:=a,toks:=b}):
  wpAny (model prog w) A (call (.builtin "min") [.str x t,.str y u]) Q E s:=by
 have f:(s.heap.push {cls:=.type "tuple",data:=.seq #[ .str x t,.str y u]}).IsTuple s.heap.objs.size #[ .str x t,.str y u]:=#[_,Uf _ rfl,rfl,0,rfl];refine call_min_two^jk f ?_;have d:(s.heap.push {cls:=.type "tuple",data:=.seq #[ .str x t,.str y u]}).objs.size=s.heap.objs.size+1:=jV ..;refine#[_,[_,s.heap.objs.size],[_],_,_,_,_,rfl,Walks.tuple (A:=A.in1) i _ s.heap.objs.size (by simp_all) #[ .str x t,.str y u],#[#[_,Uf _ rfl,rfl,rfl],f.push _],λc g=>?_,by simp,SR,λv a b j k=>?_]
 .rw[jV,d]; rw[d]at g; exact S_ g
 .rw[MV j]
  refine h a b λc o e=>k c o (λm=>?_)^Go _^Go _ e;have l:=Tk e;simp only[h_.mp m,d]at l
  grind
theorem Rk(i:A.handled=q_)(h:∀a b,(∀c o,s.heap.get? c=P3 o->a.get? c=P3 o)->Q (if decide (x.cps.toList<y.cps.toList)=r_ then .str y u else .str x t) {s with heap:=a,toks:=b}):
  wpAny (model prog w) A (call (.builtin "max") [.str x t,.str y u]) Q E s:=by
 have f:(s.heap.push {cls:=.type "tuple",data:=.seq #[ .str x t,.str y u]}).IsTuple s.heap.objs.size #[ .str x t,.str y u]:=#[_,Uf _ rfl,rfl,0,rfl];refine call_max_two^jk f ?_;have d:(s.heap.push {cls:=.type "tuple",data:=.seq #[ .str x t,.str y u]}).objs.size=s.heap.objs.size+1:=jV ..;refine#[_,[_,s.heap.objs.size],[_],_,_,_,_,rfl,Walks.tuple (A:=A.in1) i _ s.heap.objs.size (by simp_all) #[ .str x t,.str y u],#[#[_,Uf _ rfl,rfl,rfl],f.push _],λc g=>?_,by simp,SS,λv a b j k=>?_]
 .rw[jV,d]; rw[d]at g; exact S_ g
 .rw[MV j]
  refine h a b λc o e=>k c o (λm=>?_)^Go _^Go _ e;have l:=Tk e;simp only[h_.mp m,d]at l
  grind
end
section

def Ye:t_ V->Hp->VK->Prop:=λa H Q=>∃x y:Str,a=[.str x,.str y]/\Q (.str (if decide (y.cps.toList<x.cps.toList)=r_ then y else x)) H
def Yf:t_ V->Hp->VK->Prop:=λa H Q=>∃x y:Str,a=[.str x,.str y]/\Q (.str (if decide (x.cps.toList<y.cps.toList)=r_ then y else x)) H
theorem SV(a:X.calm=r_):B5 X (.builtin "min") Ye:=by
 intro b s Z H c d Q I r h;let#[x,y, rfl,q]:=h;let#[u,e, rfl,#[t, rfl],#[f, rfl]]:=vals2 r;refine Rj (I.ok.hd a) λg i k=>#[_,H,I.kept k,?_,q];cases decide (y.cps.toList<x.cps.toList) <;>exact#[_,rfl]
theorem SW(a:X.calm=r_):B5 X (.builtin "max") Yf:=by
 intro b s Z H c d Q I r h;let#[x,y, rfl,q]:=h;let#[u,e, rfl,#[t, rfl],#[f, rfl]]:=vals2 r;refine Rk (I.ok.hd a) λg i k=>#[_,H,I.kept k,?_,q];cases decide (x.cps.toList<y.cps.toList) <;>exact#[_,rfl]
end
end L2
namespace Dp
open L2
section
variable {K:Frag}
def Yt(a:t_ D)(P:D->Prop):Prop:=∃x y:Str,a=[.str x,.str y]/\P^.str (if decide (y.cps.toList<x.cps.toList)=r_ then y else x)
def Yv(a:t_ D)(P:D->Prop):Prop:=∃x y:Str,a=[.str x,.str y]/\P^.str (if decide (x.cps.toList<y.cps.toList)=r_ then y else x)
theorem MU(b:Paired (λv d=>AtT K U M H d v) a [.str x,.str y]):a=[.str x,.str y]/\x.length<=sizeLine/\y.length<=sizeLine:=by
 cases b with
 | cons c e=>cases e with
  |cons f g=>
   cases g;let#[rfl,h]:=c.str;let#[rfl,i]:=f.str
   simp_all
theorem bA:Cm K .sh Ye Yt:=by
 intro U M H c d P Q a f b w q;let#[x,y,rfl,w]:=w;let#[ e,g,h]:=MU b;exact#[x,y,e,q _ H (.str _) .refl #[rfl,by split <;>assumption] w]
theorem bB:Cm K .sh Yf Yv:=by
 intro U M H c d P Q a f b w q;let#[x,y,rfl,w]:=w;let#[ e,g,h]:=MU b;exact#[x,y,e,q _ H (.str _) .refl #[rfl,by split <;>assumption] w]
end
end Dp
namespace L2
open PySem.W
end L2
namespace Dp
open L2
end Dp
namespace L2
open PySem.W
end L2
namespace Dp
open L2
end Dp
namespace Nt
open L2 Dp
def vX:t_ Str:=["a","aa","ab","abc","b","ba","bb","c","come","d","far","in","lay","m","n","near","out","place","q","r","tie","tree","x","xy","y","zzzzzzzz"]
def YE:W2:=λa n P=>a=[]/\P (.lst^vX.map .str) n
def V5:W2:=λb n P=>∃m:Nat,b=[.fd,.sh^.int m]/\m<=26/\2<=n/\∀a:t_ Str,a.length=m->(∀x∈a,R0 x)->rising a->P (.tup^a.map .str) (n - 2)
def dh:W2:=λa n P=>∃s:Int,a=[.fd,.sh^.int s]/\0<=s/\s<=3/\1<=n/\∀r:Int,1<=r->r<=1000000->P (.int r) (n - 1)
def bF:W2:=λe n P=>∃(b:t_ Str) (a:Nat),e=[.fd,.sh^.tup^b.map .str,.sh^.int a]/\(∀x∈b,R0 x)/\rising b/\b.length<=26/\a<=60/\200<=n/\∀(c:t_ AZ) (d:Nat),(#[b,c]:Net).Ok->c.length<=a->n - 200<=d->P (.tup^c.map AO) d
def Y7:W2:=λd n P=>∃a b:Nat,d=[.fd,.sh^.int a,.sh^.int b]/\a<=25/\b<=60/\210<=n/\∀(N:Net) (c:Nat),N.Ok->N.ps.length<=a->N.ts.length<=b->n - 210<=c->P (Bl N) c
def DX(i:Nat):Str:=vX.getD i "a"
theorem OH:∀i,i<26->R0^DX i:=by
 have h:∀i∈iM 26,1<=(DX i).length/\(DX i).length<=8/\∀c∈cs^DX i,97<=c/\c<=122:=by decide +kernel
 exact λi a=>h i^jD.mpr a
theorem Q3:∀i j,i<26->j<26->DX i=DX j->i=j:=by
 have h:∀i∈iM 26,∀j∈iM 26,cs^DX i=cs^DX j->i=j:=by decide +kernel
 exact λi j a b e=>h i (jD.mpr a) j (jD.mpr b)^congrArg cs e
theorem Sv(i:Nat)(h:i<26):(vX.map D.str)[i]?=P3^.str^DX i:=by
 have a:i<vX.length:=h;unfold DX
 simp_all
section
def Oe(f s:Nat):D->D
 |.int k=>.str^DX ((f+s*k.toNat) % 26)
 |_=>.non
theorem Ms(f s k:Nat):Oe f s^.int (0+(k:Int))=.str^DX ((f+s*k) % 26):=by
 show D.str _=_
 simp_all
theorem Qk(x y:Str):cs x<cs y\/x=y\/cs y<cs x:=by
 by_cases a:cs x<cs y
 .exact .inl a
 .by_cases b:cs y<cs x
  .simp_all
  .refine .inr^.inl ?_
   have:=KW (.inr x) (.inr y) (decide_eq_false a)^decide_eq_false b
   simp_all
theorem UD(h:x∈Cd a k):x∈a\/x=k:=by
 unfold Cd at h
 split at h
 .exact .inl h
 simp_all
theorem We(nd:a.Nodup):(Cd a k).Nodup:=by
 unfold Cd
 split
 .exact nd
 .rename_i h
  rw[jh];refine#[nd,by simp,λx b y c e=>h^v8.mpr ?_]
  simp_all
theorem Wf:(Cd a k).length<=a.length+1:=by
 unfold Cd
 grind
theorem Mr:∀{b:t_^t_ Key}{a:t_ D},x∈mh (λc e=>if c=k then d else e) b a->x=d\/x∈a
 |[],_,h=>by cases h
 |_::_,[],h=>by cases h
 |c::b,e::a,h=>by
  rcases TW.mp h with h|h
  .grind
  .exact(Mr h).imp id^TM _
theorem RM{d x:D}(h:x∈Cb b a k d):x=d\/x∈a:=by
 unfold Cb at h
 split at h
 .exact Mr h
 .rcases iH.mp h with h|h
  .exact .inr h
  simp_all
theorem MT:∀{b:t_^t_ Key}{a:t_ D},CM b a k=P3 z->z∈a
 |[],_,h=>by cases h
 |_::_,[],h=>by cases h
 |c::b,d::a,h=>by
  unfold CM at h
  split at h
  .grind
  .exact TM _^MT h
structure Tds (xs:List Str) (ks:List^List Key) (ds:List D):Prop where
 len:ks.length=ds.length
 nd:ks.Nodup
 key:∀k∈ks,∃a b:Str,k=[.inr a,.inr b]/\a∈xs/\b∈xs/\cs a<cs b
 val:∀d∈ds,∃l:Int,d=.int l/\1<=l/\l<=1000000
theorem Tds.put(T:Tds c e h)(i:a∈c)(j:b∈c)(lt:cs a<cs b)(m:1<=l)(n:l<=1000000):Tds c (Cd e [.inr a,.inr b])^Cb e h [.inr a,.inr b]^.int l:=by
 refine#[Mq T.len,We T.nd,λk f=>?_,λd g=>?_]
 .rcases UD f with f|rfl
  .exact T.key k f
  .exact#[a,b,rfl,i,j,lt]
 .rcases RM g with rfl|g
  .simp_all
  .exact T.val d g
def J5(c:t_^t_ Key)(e:t_ D):D->D
 |.tup [.str a,.str b]=>.tup [.str a,.str b,(CM c e [.inr a,.inr b]).getD .non]
 |d=>d
theorem MN(c:t_^t_ Key)(d:t_ D)(a b:Str):J5 c d^.tup [.str a,.str b]=.tup [.str a,.str b,(CM c d [.inr a,.inr b]).getD .non]:=rfl
theorem Tds.ties(T:Tds j i m):∀{ks':t_^t_ Key},(∀k∈ks',k∈i)->ks'.Nodup->ks'.Pairwise (λa b=>CP b a=s_)->
  ∃e:t_ AZ,(ks'.map tupK).map^J5 i m=e.map AO/\e.map (λt=>([.inr t.a,.inr t.b]:t_ Key))=ks'/\(∀t∈e,t.a∈j/\t.b∈j/\cs t.a<cs t.b/\1<=t.len/\t.len<=1000000)/\e.Pairwise BJ
 |[],_,_,_=>#[[],rfl,rfl,(λt h=>by cases h),m7]
 | k::ks',c,n,o=>by
  rw[iV]at n;rw[i9]at o;let#[e, v,r,w,x]:=T.ties (ks':=ks') (λk y=>c k^TM _ y) n.2 o.2;let#[a,b, rfl,A,B,lt]:=T.key k^c k Sc;let#[z,s]:=Fb T.len^c _ Sc;let#[l, rfl,C,E]:=T.val z^MT s;refine#[#[a,b,l]::e,?_,?_,λt f=>?_,i9.mpr #[λt f=>?_,x]]
  .rw[iQ,iQ,iQ,v]
   show J5 i m^.tup [.str a,.str b]::_=_;rw[MN,s]; rfl
  .rw[iQ,r]
  .rcases TW.mp f with rfl|f
   .exact#[A,B,lt,C,E]
   .exact w t f
  .have u:([.inr t.a,.inr t.b]:t_ Key)∈ks':=by rw[←r]; exact Rs.mpr #[t,f,rfl]
   have d:=o.1 _ u;have p:([.inr a,.inr b]:t_ Key)≠[.inr t.a,.inr t.b]:=λz=>n.1 (by rw[z]; exact u);have d:(if(ir t.a:Key)=.inr a then(if(ir t.b:Key)=.inr b then s_ else decide (t.b.cps.toList<b.cps.toList))else decide (t.a.cps.toList<a.cps.toList))=s_:=d;show cs a<cs t.a\/(a=t.a/\cs b<cs t.b)
   by_cases g:t.a=a
   .rw[if_pos^by rw[g]]at d
    by_cases q:t.b=b
    .exact absurd (by rw[g,q]) p
    .rw[if_neg λz=>q^jU z]at d
     refine .inr #[g.symm,?_]
     rcases Qk b t.b with l|l|l
     .exact l
     .exact absurd l.symm q
     .exact absurd l^of_decide_eq_false d
   .rw[if_neg λz=>g^jU z]at d
    left
    rcases Qk a t.a with l|l|l
    .exact l
    .exact absurd l.symm g
    .exact absurd l^of_decide_eq_false d
end
abbrev Mx:=Nat->Nat->u_ Int
def Ij(g:Mx)(i j:Nat)(x:Int):Mx:=λa b=>if a=i/\b=j then P3 x else g a b
theorem Bn:Ij g i j x i j=P3 x:=if_pos #[rfl,rfl]
theorem Bh(h:¬(a=i/\b=j)):Ij g i j x a b=g a b:=if_neg h
inductive WI (E:Nat->Nat->Int->Prop) (m i:Nat):Nat->Int->Prop
 |nil:WI E m i i 0
 |one {j:Nat}{l:Int}:E i j l->WI E m i j l
 |snoc {k j:Nat}{d l:Int}:WI E m i k d->k<m->E k j l->WI E m i j (d+l)
section

theorem WI.pos(c:∀i j l,E i j l->0<=l)(h:WI E m i j d):0<=d:=by
 induction h with
 |nil=>lk
 |one e=>grind
 |snoc _ _ e f=>grind
theorem WI.split(p:∀i j l,E i j l->0<=l)(h:WI E (m+1) i j d):WI E m i j d\/∃c f,WI E m i m c/\WI E m m j f/\c+f<=d:=by
 induction h with
 |nil=>exact .inl .nil
 |one e=>exact .inl^.one e
 | @snoc k j d l _ t e s=>
  have u:=p _ _ _ e
  rcases s with w|⟨c,f,q,r,v⟩
  .by_cases o:k<m
   .exact .inl^.snoc w o e
   .have:k=m:=by lk
    subst this;exact .inr #[d,l,w,.one e,kn _]
  .by_cases o:k<m
   .exact .inr #[c,f+l,q,.snoc r o e,by lk]
   .have:k=m:=by lk
    subst this
    have:=r.pos p
    exact .inr #[c,l,q,.one e,by lk]
structure Fm (E A:Nat->Nat->Int->Prop) (n m:Nat) (g:Mx):Prop where
 snd:∀i j d,g i j=P3 d->A i j d
 cmp:∀i j d,i<n->j<n->WI E m i j d->∃d',g i j=P3 d'/\d'<=d
structure Rm (A:Nat->Nat->Int->Prop) (n m:Nat) (g0:Mx) (a b:Nat) (g:Mx):Prop where
 snd:∀i j d,g i j=P3 d->A i j d
 dec:∀i j d,g0 i j=P3 d->∃d',g i j=P3 d'/\d'<=d
 got:∀i j,j<n->(i<a\/(i=a/\j<b))->∀d1 d2,g0 i m=P3 d1->g0 m j=P3 d2->∃d',g i j=P3 d'/\d'<=d1+d2
theorem Fm.start(h:Fm E A n m g0):Rm A n m g0 0 0 g0:=#[h.snd,λi j d e=>#[d,e,kn _],λi j _ z=>by lk]
theorem Rm.next(h:Rm A n m g0 a n g):Rm A n m g0 (a+1) 0 g:=#[h.snd,h.dec,λi j c z=>h.got i j c^by lk]
theorem Rm.done(q:∀i j l,E i j l->0<=l)(o:m<n)(c:Fm E A n m g0)(h:Rm A n m g0 n 0 g):Fm E A n (m+1) g:=by
 refine#[h.snd,λi j d f k w=>?_]
 rcases w.split q with w|⟨r,p,s,t,B⟩
 .let#[u,e,l]:=c.cmp i j d f k w
  let#[p, C,D]:=h.dec i j u e
  grind
 .let#[x,ex,F]:=c.cmp i m r f o s
  let#[y, v,G]:=c.cmp m j p o k t;let#[z, H,I]:=h.got i j k (.inl f) x y ex v
  grind
theorem Rm.skip(h:Rm A n m g0 a b g)(q:∀e f,g a m=P3 e->g m b=P3 f->∃k,g a b=P3 k/\k<=e+f):Rm A n m g0 a (b+1) g:=by
 refine#[h.snd,h.dec,λi j p z e f l o=>?_]
 by_cases c:i<a\/(i=a/\j<b)
 .exact h.got i j p c e f l o
 .let#[x,ex,r]:=h.dec _ _ _ l
  let#[y, s,t]:=h.dec _ _ _ o
  grind
theorem Rm.put(w:∀i k j f l,A i k f->A k j l->A i j (f+l))(h:Rm A n m g0 a b g)(hx:g a m=P3 x)(t:g m b=P3 y)(B:∀z,g a b=P3 z->x+y<=z):Rm A n m g0 a (b+1)^Ij g a b (x+y):=by
 have u:∀i j d,g i j=P3 d->∃o,Ij g a b (x+y) i j=P3 o/\o<=d:=λi j d e=>by
  by_cases c:i=a/\j=b
  .let#[rfl,rfl]:=c
   exact#[_,Bn,B d e]
  .exact#[d,by rw[Bh c]; exact e,kn _]
 refine#[λi j d e=>?_,λi j d e=>?_,λi j C z f l p q=>?_]
 .by_cases c:i=a/\j=b
  .let#[rfl,rfl]:=c
   rw[Bn]at e;injection e with e;subst e;exact w _ _ _ _ _ (h.snd _ _ _ hx)^h.snd _ _ _ t
  .rw[Bh c]at e
   exact h.snd i j d e
 .let#[f,p,H]:=h.dec i j d e
  let#[l, q,I]:=u i j f p;exact#[l,q,by lk]
 .by_cases c:i<a\/(i=a/\j<b)
  .let#[o,D,J]:=h.got i j C c f l p q
   let#[F, G,K]:=u i j o D;exact#[F,G,by lk]
  .have r:i=a:=by lk
   have s:j=b:=by lk
   subst r s;let#[L, ex,M]:=h.dec _ _ _ p;let#[N, v,O]:=h.dec _ _ _ q;rw[hx]at ex;rw[t]at v;injection ex with ex;subst ex;injection v with v;subst v;exact#[_,Bn,by lk]
end
def EI(N:Net)(i j:Nat)(l:Int):Prop:=∃x y,N.ps[i]?=P3 x/\N.ps[j]?=P3 y/\Ed N x y l
def AI(N:Net)(i j:Nat)(d:Int):Prop:=∃x y,N.ps[i]?=P3 x/\N.ps[j]?=P3 y/\Wk N x y d
theorem Wk.trans(f:Wk N x y a)(c:Wk N y z b):Wk N x z (a+b):=by
 induction c with
 |nil=>simp_all
 |snoc _ e d=>rw[←Int.add_assoc]; exact .snoc d e
theorem AI.trans:∀i k j b c,AI N i k b->AI N k j c->AI N i j (b+c):=by
 rintro i k j b c ⟨x,y,d,e,w⟩ ⟨h,z,a,f,g⟩;rw[e]at a;injection a with a;subst a;exact#[x,z,d,f,w.trans g]
theorem EI.pos(ok:N.Ok):∀i j l,EI N i j l->0<=l:=by
 rintro i j l ⟨x,y,_,_,e⟩
 have:=e.pos ok
 lk
theorem JH{N:Net}(ok:N.Ok){i j:Nat}(a:N.ps[i]?=P3 x)(b:N.ps[j]?=P3 x):i=j:=GL (EL ok.rise) a b
theorem E3{N:Net}(h:x∈N.ps):∃i,N.ps[i]?=P3 x/\i<N.ps.length:=by
 let#[i,l,e]:=mL.mp h;exact#[i,by simp_all,l]
theorem Wk.wi(ok:N.Ok)(hx:N.ps[i]?=P3 x)(h:Wk N x y d):∀{j:Nat},N.ps[j]?=P3 y->WI (EI N) N.ps.length i j d:=by
 induction h with
 |nil=>
  intro j a;rw[JH ok hx a];exact .nil
 |@snoc z y d l w e c=>
  intro j a;let#[k, b,f]:=E3^w.ins ok^iu hx;exact .snoc (c b) f #[z,y,b,a,e]
structure Tm (N:Net) (ts:List AZ) (g:Mx):Prop where
 snd:∀i j d,g i j=P3 d->AI N i j d
 dia:∀i,i<N.ps.length->∃d,g i i=P3 d/\d<=0
 tie:∀t∈ts,∀i j,N.ps[i]?=P3 t.a->N.ps[j]?=P3 t.b->g i j=P3 t.len/\g j i=P3 t.len
theorem Tm.put(ok:N.Ok)(h:Tm N r g)(w:t∈N.ts)(B:(r++[t]).Pairwise BJ)(C:∀s∈r,s∈N.ts)(n:N.ps[i]?=P3 t.a)(k:N.ps[j]?=P3 t.b):Tm N (r++[t])^Ij (Ij g i j t.len) j i t.len:=by
 let#[ _,_,lt,_]:=ok.tin t w
 have G:i≠j:=λe=>by
  subst e;rw[n]at k;rw[iA k]at lt;exact j_ _ lt
 have x:=Ci w;refine#[λa b d e=>?_,λa f=>?_,λs u a b f m=>?_]
 .by_cases y:a=j/\b=i
  .let#[rfl,rfl]:=y
   rw[Bn]at e;injection e with e;subst e
   have:=Wk.snoc (.nil (N:=N) (s:=t.b)) x.2
   simp only[ja]at this;exact#[_,_,k,n,this]
  .rw[Bh y]at e
   by_cases z:a=i/\b=j
   .let#[rfl,rfl]:=z
    rw[Bn]at e;injection e with e;subst e
    have:=Wk.snoc (.nil (N:=N) (s:=t.a)) x.1
    simp only[ja]at this;exact#[_,_,n,k,this]
   .rw[Bh z]at e
    exact h.snd a b d e
 .rw[Bh^by lk,Bh^by lk]
  exact h.dia a f
 .rcases iH.mp u with c|c
  .have D:=h.tie s c a b f m
   have v:=(lE.mp B).2.2 s c t Sc;let#[ _,_,o,_]:=ok.tin s^C s c
   have E:¬(a=i/\b=j):=fun#[z1,z2]=>by
    subst z1 z2;rw[n]at f;rw[k]at m;have p:=iA f;have q:=iA m
    rcases v with l|⟨H,A⟩
    .rw[p]at l; exact j_ _ l
    .rw[q]at A; exact j_ _ A
   have F:¬(a=j/\b=i):=fun#[z1,z2]=>by
    subst z1 z2;rw[k]at f;rw[n]at m;have p:=iA f;have q:=iA m;rw[←p,←q]at o;exact absurd o^List.lt_asymm lt
   rw[Bh^by omega,Bh^by omega,Bh^by lk,Bh^by lk];exact D
  .rw[h_.mp c]at f m ⊢
   have p:=JH ok f n;have q:=JH ok m k;subst p q;rw[Bh (a:=a) (b:=b)^by lk,Bn,Bn];exact#[rfl,rfl]
theorem Tm.fm(ok:N.Ok)(h:Tm N N.ts g):Fm (EI N) (AI N) N.ps.length 0 g:=by
 refine#[h.snd,λi j d k l w=>?_];cases w with
 |nil=>exact h.dia i k
 |one e=>
  let#[x,y, a,b,e]:=e;let#[t, f,rfl,c]:=e.tie ok
  rcases c with⟨rfl,rfl⟩|⟨rfl,rfl⟩
  .exact#[_,(h.tie t f i j a b).1,kn _]
  .exact#[_,(h.tie t f j i b a).2,kn _]
 |snoc _ z _=>lk
def Pe(N:Net)(F:Str->Str->u_ Int):Prop:=∀x∈N.ps,∀y∈N.ps,(∀d,F x y=P3 d->OD N x y d)/\∀d,Wk N x y d->F x y≠q_
def ofM(a:t_ Str)(g:Mx)(x y:Str):u_ Int:=g (a.idxOf x)^a.idxOf y
theorem Fm.far(ok:N.Ok)(h:Fm (EI N) (AI N) N.ps.length N.ps.length g):Pe N^ofM N.ps g:=by
 intro x f y i;have a:=mn.mpr f;have b:=mn.mpr i;have ex:N.ps[N.ps.idxOf x]?=P3 x:=by simp only[On a,List.getElem_idxOf a]
 have j:N.ps[N.ps.idxOf y]?=P3 y:=by simp only[On b,List.getElem_idxOf b]
 have k:∀d,Wk N x y d->∃c,ofM _ g x y=P3 c/\c<=d:=λd w=>h.cmp _ _ d a b^w.wi ok ex j;refine#[λd e=>#[?_,λc w=>by simp_all],λd w e=>?_]
 .let#[l,m,n,o,w]:=h.snd _ _ _ e
  simp_all
 simp_all
def ov:u_ Int->V
 |none=>.non
 |some l=>.int l
def od:u_ Int->D
 |none=>.non
 |some l=>.int l
def Gu(n:Nat)(g:Mx)(i:Nat):t_ V:=(iM n).map λj=>ov^g i j
def JD(a:t_ Str)(F:Str->Str->u_ Int):D:=.lst^a.map λx=>.lst^a.map λy=>od^F x y
theorem En:(Gu n g i).length=n:=by unfold Gu; simp_all
theorem F9(h:j<n):(Gu n g i)[j]?=P3^ov^g i j:=by
 unfold Gu
 simp_all
theorem WZ(h:j<n):atI (Gu n g i) (j:Int)=P3^ov^g i j:=AD^F9 h
theorem To:(Gu n g i).set j^.int x=Gu n (Ij g i j x) i:=by
 refine List.ext_getElem? λk=>?_
 by_cases a:k<n
 .rw[F9 a,oq]
  by_cases e:j=k
  .subst e
   rw[if_pos rfl,if_pos (by rw[En]; exact a),Bn]; rfl
  .rw[if_neg e,F9 a,Bh^by lk]
 .rw[nR (by rw[kE,En]; omega),nR^by rw[En]; omega]
theorem WY(h:k≠i):Gu n (Ij g i j x) k=Gu n g k:=by
 refine jF λy _=>?_;rw[Bh^by lk]
structure Mat (H:Hp) (d:Db) (as:List Db) (n:Nat) (g:Mx) (H':Hp):Prop where
 old:∀b o,H b=P3 o->H' b=P3 o
 new:H d=q_
 top:H' d=P3 (.lst^as.map .ref)
 inn:∀i a,as[i]?=P3 a->H a=q_/\a≠d/\H' a=P3^.lst^Gu n g i
section

theorem Mat.ads(s:Mat H d as n g H')(hd:as.Nodup){i j:Nat}(b:as[i]?=P3 a)(c:as[j]?=P3 a):i=j:=by
 let#[h, e]:=f8.mp b;let#[k, f]:=f8.mp c;exact o6 hd |>.mp (e.trans f.symm)
theorem Mat.put(s:Mat H d as n g H')(hd:as.Nodup)(c:as[i]?=P3 a):Mat H d as n (Ij g i j x)^An H' a^.lst^(Gu n g i).set j^.int x:=by
 let#[ q,h,r]:=s.inn i a c;refine#[λb o e=>?_,s.new,?_,λk b f=>?_]
 .have:b≠a:=λz=>by simp_all
  rw[AH this];exact s.old b o e
 .rw[AH^iz h]
  exact s.top
 .let#[l,m,p]:=s.inn k b f
  exists l,m
  by_cases e:b=a
  .subst e
   have:=s.ads hd f c
   subst this;simp only[AQ,To]
  .rw[AH e,WY λz=>by
    simp_all]
   exact p
theorem Mat.more(s:Mat H d as n g H')(A:H' p=q_)(j:An H' p o q=q_)(B:Gu n g as.length=t):Mat H d (as++[q]) n g^An (An (An H' p o) q^.lst t) d^.lst (as.map .ref++[.ref q]):=by
 have v:∀b u,H' b=P3 u->b≠p:=λb u e z=>by rw[z,A]at e; cases e
 have k:q≠p:=λz=>by simp only[z,AQ]at j; cases j
 have f:H' q=q_:=by rw[AH k]at j; exact j
 have w:∀b u,H' b=P3 u->b≠q:=λb u e z=>by rw[z,f]at e; cases e
 have l:H q=q_:=by
  cases c:H q with
  |none=>rfl
  |some u=>rw[s.old q u c]at f; cases f
 refine#[λb u e=>?_,s.new,?_,λi a h=>?_]
 .have m:=s.old b u e
  rw[AH (λz=>by rw[z,s.new]at e; cases e),AH^w b u m,AH^v b u m];exact m
 .rw[AQ,ij]; rfl
 .rw[List.getElem?_append]at h
  split at h
  .let#[C,x,r]:=s.inn i a h
   exact#[C,x,by rw[AH x,AH^w a _ r,AH^v a _ r]; exact r]
  .rename_i E
   have D:i=as.length:=by
    have:=(f8.mp h).1
    simp only[iB]at this;lk
   subst D;rw[mE]at h;cases(show q=a from iA h);have y:q≠d:=λz=>by rw[z,s.top]at f; cases f
   exact#[l,y,by rw[AH y,AQ,B]]
theorem Mat.fresh(s:Mat H d as n g H')(b:H' q=q_):q∉as:=λa=>by
 let#[i,l,e]:=mL.mp a;let#[ _,_,h]:=s.inn i q^by simp_all
 simp_all
end
theorem PR{K:Frag}:∀{c:t_ D}{a:t_ V},c.length=a.length->(∀(i:Nat) d v,c[i]?=P3 d->a[i]?=P3 v->At K M H d v)->Ats K M H c a
 |[],[],_,_=>rfl
 |d::c,v::a,b,h=>#[v,a,rfl,h 0 d v rfl rfl,PR (mj b) λi e f g j=>h (i+1) e f g j]
 |[],_::_,b,_=>by cases b
 |_::_,[],b,_=>by cases b
theorem Mat.at_{K:Frag}(A:∀a,M a->∃o,H a=P3 o)(s:Mat H d h c.length g f)(B:h.length=c.length)(nd:c.Nodup):At K M f (JD c^ofM c g)^.ref d:=by
 have k:∀b,H b=q_->¬M b:=λb e m=>by grind
 have n:∀{i:Nat}{x:Str},c[i]?=P3 x->c.idxOf x=i:=λ{i x} e=>by
  have C:=iu e;have I:=mn.mpr C;exact GL nd (by simp_all) e
 refine#[d,h.map .ref,rfl,#[k d s.new,s.top],PR (by simp only[FM,FM,B]) λi x v r t=>?_];rw[T0]at r t;let#[p, D,rfl]:=iX.mp r;let#[a, E,rfl]:=iX.mp t;let#[ F,J,G]:=s.inn i a E;refine#[a,_,rfl,#[k a F,G],PR (by simp only[FM,En]) λj y v u w=>?_];rw[T0]at u;let#[q, z,rfl]:=iX.mp u;rw[F9 (f8.mp z).1]at w;injection w with w;subst w;show At K M f (od^g (c.idxOf p)^c.idxOf q) _;rw[n D,n z];cases g i j with
 |none=>rfl
 |some l=>rfl
theorem aC(h:j<n):Sj n (j:Int)=P3 j:=by
 unfold Sj
 simp_all
section
variable {K:Frag}{zi zj:Int}
theorem Mat.rd2(s:Mat H d as n g H')(t:as.length=n)(u:i<n)(c:j<n)(hd:Z[3]?=P3^P3^.ref d)(e:Z[a]?=P3^P3^.int zi)(f:zi=i)(h:Z[b]?=P3^P3^.int zj)(k:zj=j)(l:g i j=o)(q:Q (ov o) H'):
  DY (RL K) (DY (RL K) (BN 3)^BN a) (BN b) Z H' Q:=by
 subst f k l;obtain⟨r,m⟩:∃r,as[i]?=P3 r:=#[_,On^by lk];let#[ _,_,p]:=s.inn i r m;exact#[_,hd,_,e,d,_,_,_,rfl,rfl,SqL.of s.top,AD^by simp_all,_,h,r,_,_,_,rfl,rfl,SqL.of p,WZ c,q]
theorem Mat.wr(s:Mat H d as n g H')(o:as.length=n)(nd:as.Nodup)(p:i<n)(h:j<n)(k:∀Q:VK,(∀r,as[i]?=P3 r->Q (.ref r) H')->to Z H' Q)(l:∀Q:VK,Q (.int (j:Int)) H'->e Z H' Q)(q:∀c,Mat H d as n (Ij g i j x) c->R Z c):
  aG to e T7 (.int x) Z H' R:=by
 refine k _ λr f=>l _ ?_;let#[ _,_,m]:=s.inn i r f;exact#[r,_,_,j,rfl,rfl,m,aC (by rw[En]; exact h),q _^s.put nd f]
theorem Mat.row(s:Mat H d as n g H')(h:as.length=n)(k:i<n)(hd:Z[3]?=P3^P3^.ref d)(e:∀Q:VK,Q (.int (i:Int)) H'->c Z H' Q)(q:∀r,as[i]?=P3 r->Q (.ref r) H'):DY (RL K) (BN 3) c Z H' Q:=by
 obtain⟨r,f⟩:∃r,as[i]?=P3 r:=#[_,On^by lk];exact#[_,hd,e _ #[d,_,_,_,rfl,rfl,SqL.of s.top,AD^by simp_all,q r f]]
end
theorem XG{K:Frag}{g:TG}{f:TS}{D:Ends}(b:Nat->L2.St->Hp->Prop)(j:b 0 Z H)(q:(J=WA K a/\∀i Z H,b i Z H->SqL K H a d)\/(J=Sm K a/\∀i Z H,b i Z H->SqT K H a d))
  (k:∀i x Z H,d[i]?=P3 x->b i Z H->g x Z H λe H2=>f {D with nx:=b (i+1),ct:=b (i+1),bk:=D.nx} e H2) (l:∀Z H,b d.length Z H->D.nx Z H):
  ∃W:Nat->Nat->L2.St->Hp->Prop,(∃m,W 0 m Z H)/\∀i m Z H,W i m Z H->
   (J.stop i H/\D.nx Z H)\/(J.go i H/\∃N:L2.St->Hp->Prop,(∀n c,N n c->∃o,o<m/\W (i+1) o n c)/\∀x c,J.yld i H x c->g x Z c λe H2=>f {D with nx:=N,ct:=N,bk:=D.nx} e H2):=by
 rcases q with⟨rfl,h⟩|⟨rfl,h⟩
 .exact U9 b j (λi Z H _ p=>h i Z H p) k l
 .exact Lu b j (λi Z H _ p=>h i Z H p) k l
theorem ay{K:Frag}{R:It->Hp->Prop}(h:(J=WA K a/\∃c,SqL K H a c)\/(J=Sm K a/\∃c,SqT K H a c))(r:R J H):(∃b,V.ref a=.ref b/\(∃c,SqL K H b c)/\R (WA K b) H)\/(∃b,V.ref a=.ref b/\(∃c,SqT K H b c)/\R (Sm K b) H)\/∃z,V.ref a=.str z/\R (e7 z) H:=by
 rcases h with⟨rfl,h⟩|⟨rfl,h⟩
 .exact .inl #[a,rfl,h,r]
 simp_all
theorem TX{K:Frag}{D:Ends}(n:Z[i]?=P3^P3^.ref a)(b:Nat->L2.St->Hp->Prop)(e:b 0 Z H)(j:(J=WA K a/\∀i Z H,b i Z H->SqL K H a xs)\/(J=Sm K a/\∀i Z H,b i Z H->SqT K H a xs))
  (o:∀i x Z H,xs[i]?=P3 x->b i Z H->g x Z H λf H2=>d {D with nx:=b (i+1),ct:=b (i+1),bk:=D.nx} f H2) (p:∀Z H,b xs.length Z H->D.nx Z H):cA (c8 K^BN i) g d D Z H:=
 #[_,n,ay (R:=λJ q=>∃W:Nat->Nat->L2.St->Hp->Prop,(∃m,W 0 m Z q)/\∀i m Z H,W i m Z H->
   (J.stop i H/\D.nx Z H)\/(J.go i H/\∃N:L2.St->Hp->Prop,(∀k c,N k c->∃l,l<m/\W (i+1) l k c)/\∀x c,J.yld i H x c->g x Z c λf H2=>d {D with nx:=N,ct:=N,bk:=D.nx} f H2)) (j.imp (λh=>#[h.1,_,h.2 _ _ _ e]) λh=>#[h.1,_,h.2 _ _ _ e])^XG b e j o p]
def Dg(N:Net)(k:Nat)(g:Mx):Prop:=(∀i j d,g i j=P3 d->AI N i j d)/\∀i,i<k->∃d,g i i=P3 d/\d<=0
theorem Dg.zero:Dg N 0 (λ_ _=>q_):=#[λ_ _ _ e=>(by cases e),λ_ h=>(by lk)]
theorem Dg.succ(a:k<N.ps.length)(h:Dg N k g):Dg N (k+1)^Ij g k k 0:=by
 refine#[λi j d e=>?_,λi b=>?_]
 .by_cases c:i=k/\j=k
  .let#[rfl,rfl]:=c
   rw[Bn]at e;injection e with e;subst e;exact#[_,_,On a,On a,.nil]
  .rw[Bh c]at e
   exact h.1 i j d e
 .by_cases c:i=k
  .subst c
   exact#[0,Bn,kn _]
  .rw[Bh^by lk]
   exact h.2 i^by lk
theorem Dg.tm(h:Dg N N.ps.length g):Tm N [] g:=#[h.1,h.2,λt a=>by cases a]
theorem Pw{K:Frag}:∀{b:t_ Str}{a:t_ V},Ats K M H (b.map .str) a->a=b.map .str
 |[],a,h=>h
 |x::b,a,h=>by
  let#[v,r, rfl,#[ rfl,_],c]:=h;simp only[Pw c,iQ]
theorem ZU{N:Net}(ok:N.Ok)(d:H b=P3^.tup^N.ps.map .str){i:Nat}(a:N.ps[i]?=P3 x)(q:Q (.int (i:Int)) H):Wd (.ref b) [.str x] H Q:=by
 have f:=PySem.sizeLine_eq;have g:R0 x:=ok.names x^iu a;have c:∀y∈N.ps,y.length<=sizeLine:=λy h=>by have:=(ok.names y h).2.1; lk
 have j:Ats ([]:Frag) (λ_=>False) H (N.ps.map D.str)^N.ps.map V.str:=Ats.strs c;let#[ k,l,_]:=EC ok.names;let#[ n,o,r]:=JF g;refine#[b,_,.str x,BB^N.ps.map .str,toPy^.str x,i,rfl,rfl,d,j.rv k,At.rv (K:=([]:Frag)) (M:=λ_=>False) (show At _ _ H (.str x)^.str x from#[rfl,c x^iu a]) n,l,o,r,#[toPy^.str x,by simp only[DA,T0,T0,a]; rfl,?_],λm p u e=>?_,q]
 .show BS (.str x)^.str x=r_
  simp only[FK,beq_self_eq_true]
 .rw[DA,T0,T0]at e
  let#[z, s,rfl]:=iX.mp e;let#[y, t,rfl]:=iX.mp s;show BS (.str y)^.str x=s_;rw[FK,beq_eq_false_iff_ne];intro z;subst z
  have:=JH ok t a
  lk
theorem Pp{N:Net}(ok:N.Ok)(b:H a=P3^.tup^N.ps.map .str){i k:Nat}(c:Z[0]?=P3^P3^.ref a)(d:Z[k]?=P3^P3^.str x)(e:N.ps[i]?=P3 x)(Q:VK)(q:Q (.int (i:Int)) H):bx Wd (BN 0) (Md (BN k) RB) Z H Q:=
 #[_,c,#[a,_,rfl,b],_,d,ZU ok b e q]
def Y8:W2:=λa n P=>∃(N:Net) (d:D),a=[.sh^.tup^N.ps.map .str,.sh d]/\(d=.lst^N.ts.map AO\/d=.tup^N.ts.map AO)/\N.Ok/\N.ps.length<=1000/\∀F,Pe N F->P (JD N.ps F) n
end Nt
set_option maxHeartbeats 400000
namespace Nt
open L2 Dp
theorem aR(ok:M.Ok)(h:Ed M x y l):Ed M y x l:=by
 let#[t, a,rfl,b]:=h.tie ok;let#[ c,d]:=Ci a
 rcases b with⟨rfl,rfl⟩|⟨rfl,rfl⟩
 .exact d
 .exact c
theorem ZI(ok:M.Ok)(h:Wk M x y d):Wk M y x d:=by
 induction h with
 |nil=>exact .nil
 |snoc _ b c=>
  have:=Wk.trans (Wk.snoc (Wk.nil (N:=M))^aR ok b) c
  rw[show ∀a l:Int,0+l+a=a+l from λa l=>by lk]at this;exact this
theorem P8(ok:N.Ok)(g:Str->Int)(c:a∈N.ps):Cq N ((N.ps.map g).map .int) a=g a:=by
 let#[j, b]:=jz.mp c;unfold Cq;simp only[OK (LJ ok.rise) b,T0,T0,b];rfl
theorem XJ(ok:M.Ok)(g:Str->Int)(e:∀x∈M.ps,0<=g x)(h:∀t∈M.ts,CG (g t.a - g t.b)<=t.len):EZ M^.tup^(M.ps.map g).map .int=r_:=by
 show(((((((M.ps.map g).map D.int).length:Nat):Int)==(M.ps.length:Int))&&((M.ps.map g).map D.int).all JK)&&M.ts.all λt=>decide (CG (Cq M ((M.ps.map g).map .int) t.a - Cq M ((M.ps.map g).map .int) t.b)<=t.len))=r_;simp only[FM,FM,beq_self_eq_true,iY,iE];refine#[jH.mpr λd f=>?_,jH.mpr λt c=>?_]
 .let#[i,j,rfl]:=Rs.mp f
  let#[x, k,rfl]:=Rs.mp j;exact decide_eq_true^e x k
 .let#[l,m,_]:=ok.tin t c
  simp only[P8 ok g l,P8 ok g m];exact decide_eq_true^h t c
theorem Vd(ok:M.Ok)(h:Pe M F)(hx:x∈M.ps)(i:t∈M.ts):CG (B7 m^F x t.a - B7 m^F x t.b)<=t.len:=by
 let#[ j,k,_,D,_]:=ok.tin t i;let#[ w,A]:=Ci i
 have n:∀{y z:Str}{l:Int},y∈M.ps->z∈M.ps->Ed M y z l->∀d,F x y=P3 d->∃c,F x z=P3 c/\c<=d+l:=λ{y z l} B o C d e=>by
  have p:=Wk.snoc ((h x hx y B).1 d e).1 C;cases q:F x z with
  |none=>exact absurd q^(h x hx z o).2 _ p
  |some c=>exact#[c,rfl,((h x hx z o).1 c q).2 _ p]
 have r:=n j k w;have s:=n k j A;cases g:F x t.a with
 |none=>
  cases f:F x t.b with
  |none=>delta CG B7; split <;>lk
  |some b=>let#[c, z,_]:=s b f; rw[g]at z; cases z
 | some a=>
  cases f:F x t.b with
  |none=>let#[c, z,_]:=r a g; rw[f]at z; cases z
  |some b=>
   let#[E, u,G]:=r a g;let#[H, v,I]:=s b f;rw[f]at u;rw[g]at v;injection u with u;subst u;injection v with v;subst v;show CG ((if a<m then a else m) - (if b<m then b else m))<=t.len;unfold CG
   split <;>split <;>split <;>lk
def UI(N:Net)(F:Str->Str->u_ Int)(x:Str)(m more:Int):t_ Int:=N.ps.map λz=>more+B7 m^F x z
theorem Wj(v:okN N)(o:Pe (Bp N f) F)(tm:CB t b)(E:u∈N.ts)(h:(x=u.a/\y=u.b)\/(x=u.b/\y=u.a))(A:0<m)(G:m<=10 ^ 13)(C:u.len*t<m*b)(R:0<=more)(S:more<=10):
  RR N (UI N F x m more)/\Na N t b f u^UI N F x m more=decide (u.len*t<B7 m^F x y*b)/\(¬u.len*t<B7 m^F x y*b->∃d,Wk (Bp N f) u.a u.b d/\d*b<=u.len*t):=by
 have ok:=v.1;have g:=LR ok f;let#[ H,I,J,_]:=ok.tin u E;have j:x∈N.ps:=by rcases h with⟨rfl,_⟩|⟨rfl,_⟩ <;>assumption
 have D:y∈N.ps:=by rcases h with⟨_,rfl⟩|⟨_,rfl⟩ <;>assumption
 have k:∀z∈N.ps,0<=B7 m^F x z/\B7 m^F x z<=m:=λz p=>al (by lk) λd e=>((o x j z p).1 d e).1.pos g
 have B:F x x=P3 0:=by
  cases e:F x x with
  |none=>exact absurd e^(o x j x j).2 0 .nil
  |some d=>
   have l:=(o x j x j).1 d e
   have:=l.2 0 .nil
   have:=l.1.pos g
   rw[show d=0 by lk]
 have q:B7 m^F x x=0:=by rw[B]; show(if(0:Int)<m then 0 else m)=0; rw[if_pos A]
 have K:=k y D;refine#[#[by unfold UI; rw[FM],λi L=>?_],?_,λr=>?_]
 .let#[z,p,rfl]:=Rs.mp L
  have:=k z p
  lk
 .unfold Na
  have M:EZ (Bp N f)^.tup^(UI N F x m more).map .int=r_:=XJ g (λz=>more+B7 m^F x z) (λz p=>by have:=k z p; lk) λs O=>by
   have:=Vd g o j (m:=m) O
   rw[show more+B7 m^F x s.a - (more+B7 m^F x s.b)=B7 m^F x s.a - B7 m (F x s.b) by lk];exact this
  simp only[M,iY];have P:Cq N ((UI N F x m more).map .int) u.a=more+B7 m^F x u.a:=P8 ok (λz=>more+B7 m^F x z) H;have Q:Cq N ((UI N F x m more).map .int) u.b=more+B7 m^F x u.b:=P8 ok (λz=>more+B7 m^F x z) I;simp only[P,Q,show more+B7 m^F x u.a - (more+B7 m^F x u.b)=B7 m^F x u.a - B7 m (F x u.b) by lk]
  have:CG (B7 m^F x u.a - B7 m^F x u.b)=B7 m^F x y:=by
   rcases h with⟨rfl,rfl⟩|⟨rfl,rfl⟩
   .rw[q]; unfold CG; split <;>lk
   .rw[q]; unfold CG; split <;>omega
  rw[this]
 .have T:0<b:=by have:=tm.1; lk
  cases e:F x y with
  |none=>
   rw[e]at r;exact absurd C r
  | some d=>
   rw[e]at r;have n:¬u.len*t<(if d<m then d else m)*b:=r
   by_cases c:d<m
   .rw[if_pos c]at n
    have w:=((o x j y D).1 d e).1;refine#[d,?_,by omega]
    rcases h with⟨rfl,rfl⟩|⟨rfl,rfl⟩
    .exact w
    .exact ZI g w
   .rw[if_neg c]at n
    exact absurd C n
end Nt
set_option maxHeartbeats 4000000
namespace Nt
open L2 Dp
inductive Cn (K:List AZ) (x:Str):Str->Prop
 |refl:Cn K x x
 |step {y z:Str}:Cn K x y->(∃t∈K,(t.a=y/\t.b=z)\/(t.b=y/\t.a=z))->Cn K x z
section
structure h7 (N:Net) (ks:List Key) (ds:List D) (F:Str->Option Str):Prop where
 m:gE ks ds D.str F
 i:∀x,F x≠q_->x∈N.ps
end
end Nt
namespace L2
end L2
namespace Dp
open L2
end Dp
namespace Nt
open L2 Dp
def tj(t:AZ)(x y:Str):Prop:=(t.a=x/\t.b=y)\/(t.b=x/\t.a=y)
inductive Us (K:List AZ) (x:Str):Str->Nat->Prop
 |nil:Us K x x 0
 |snoc {y z:Str}{n:Nat}{t:AZ}:Us K x y n->t∈K->tj t y z->Us K x z (n+1)
def firm(N:Net)(t b:Int)(L:t_ AZ):Prop:=∀a z c,L=a++z::c->¬cn (sub N a) t b z
structure Kept (N:Net) (t b:Int) (L:List AZ):Prop where
 ok:okN N
 firm:firm N t b L
 ins:∀u∈L,u∈N.ts
 up:L.Pairwise λu v=>u.len<=v.len
 b1:1<=b
end Nt
namespace L2
open PySem.W
end L2
namespace Dp
open L2
end Dp
namespace Nt
open L2 Dp
theorem aQ(c:t∈M.ts)(h:(t.a=x/\t.b=y)\/(t.b=x/\t.a=y)):Ed M x y t.len:=by
 rcases h with⟨rfl,rfl⟩|⟨rfl,rfl⟩
 .exact(Ci c).1
 .exact(Ci c).2
def TR(N:Net):t_ Str->t_ AZ->Prop
 |x::y::r,d=>∃t c,d=t::c/\t∈N.ts/\((t.a=x/\t.b=y)\/(t.b=x/\t.a=y))/\TR N (y::r) c
 |[_],d=>d=[]
 |[],_=>False
abbrev gU:=t_ (AZ×t_ Str)
def ZC(N:Net)(b a:t_ AZ):Prop:=a.Perm (N.ts.filter λt=>decide (t∉b))/\FA a
def Zx(k:Nat)(b:Net)(T:gU):Prop:=∀p∈T,∃r c,p.2=p.1.a::r/\TR b p.2 c/\p.2.length<=k/\∀x∈p.2,x∈b.ps
abbrev Yk:=Zx 500
structure h9 (N:Net) (ts1 ts2:List AZ) (T1 T2:gU):Prop where
 ok:N.Ok
 lp:N.ps.length<=24
 lt:N.ts.length<60
 s1:ts1.Sublist N.ts
 s2:ts2.Sublist ts1
 o1:ZC N ts1 (T1.map (·.1))
 o2:ZC #[N.ps,ts1] ts2 (T2.map (·.1))
 p1:Yk #[N.ps,ts1] T1
 p2:Yk #[N.ps,ts2] T2
theorem WN{N:Net}(ok:N.Ok)(n:s∈N.ts)(o:t∈N.ts)(i:s.a=t.a)(eb:s.b=t.b):s=t:=by
 have f:∀d:t_ AZ,d.Pairwise BJ->s∈d->t∈d->s=t:=by
  intro d p j k
  induction p with
  |nil=>cases j
  | @cons u d l _ q=>
   have no:∀v w:AZ,BJ v w->v.a=w.a->v.b=w.b->False:=λv w h e c=>by
    rcases h with h|⟨_,h⟩
    .rw[e]at h; exact j_ _ h
    .rw[c]at h; exact j_ _ h
   rcases TW.mp j with e|m
   .rcases TW.mp k with c|g
    .exact e.trans c.symm
    .exact(no _ _ (l t g) (by rw[←e]; exact i)^by rw[←e]; exact eb).elim
   .rcases TW.mp k with c|g
    .exact(no _ _ (l s m) (by rw[←c]; exact i.symm)^by rw[←c]; exact eb.symm).elim
    .exact q m g
 exact f N.ts ok.zq n o
section
theorem W5{N:Net}(ok:N.Ok)(g:t∈N.ts):CM (N.ts.map λt=>([.inr t.a,.inr t.b]:t_ Key)) (N.ts.map λt=>D.int t.len) [.inr t.a,.inr t.b]=P3^.int t.len:=by
 have f:∀c:t_ AZ,(∀s∈c,s∈N.ts)->t∈c->CM (c.map λt=>([.inr t.a,.inr t.b]:t_ Key)) (c.map λt=>D.int t.len) [.inr t.a,.inr t.b]=P3^.int t.len:=by
  intro c i d
  induction c with
  |nil=>cases d
  | cons s c j=>
   show(if([.inr s.a,.inr s.b]:t_ Key)=[.inr t.a,.inr t.b]then P3^D.int s.len else CM (c.map λt=>([.inr t.a,.inr t.b]:t_ Key)) (c.map λt=>D.int t.len) [.inr t.a,.inr t.b])=_
   by_cases e:([.inr s.a,.inr s.b]:t_ Key)=[.inr t.a,.inr t.b]
   .rw[if_pos e]
    simp only[List.cons.injEq,Sum.inr.injEq,and_true]at e;rw[WN ok (i s Sc) g e.1 e.2]
   .rw[if_neg e]
    rcases TW.mp d with rfl|d
    .exact absurd rfl e
    .exact j (λs h=>i s^TM _ h) d
 exact f N.ts (λ_ h=>h) g
theorem LD{N:Net}(ok:N.Ok)(h:a.Sublist N.ts):(#[N.ps,a]:Net).Ok:=#[ok.names,ok.rise,λt b=>ok.tin t^h.subset b,ok.zq.sublist h]
theorem aw{g:Type}{f:g->D}{c:t_ g}(h:c.map f=a++d::b):∃t,c[a.length]?=P3 t/\d=f t:=by
 have e:(c.map f)[a.length]?=P3 d:=by rw[h,ji^Re _,mE]; rfl
 rw[T0]at e;let#[t, i,j]:=iX.mp e;exact#[t,i,j.symm]
theorem Dl{N:Net}(ok:N.Ok)(a:N.ps[i]?=P3 x):By^.tup^N.ps.map .str/\By^.str x/\(∃z,(N.ps.map D.str)[i]?=P3 z/\BS z^.str x=r_)/\∀(m:Nat) z,m<i->(N.ps.map D.str)[m]?=P3 z->BS z^.str x=s_:=by
 refine#[EC ok.names,JF^ok.names x^iu a,#[.str x,by rw[T0,a]; rfl,by rw[FK,beq_self_eq_true]],λm z d b=>?_];rw[T0]at b;let#[y, c,rfl]:=iX.mp b;rw[FK,beq_eq_false_iff_ne];intro e;subst e
 have:=JH ok c a
 lk
theorem GO{a:t_ Str}{F:Str->Str->u_ Int}{i:Nat}(b:a[i]?=P3 x):atI (a.map λx=>D.lst^a.map λy=>od^F x y) (i:Int)=P3 (.lst^a.map λy=>od^F x y):=AD^by simp only[T0,b]; rfl
theorem Ov{a:t_ Str}{F:Str->Str->u_ Int}{j:Nat}(b:a[j]?=P3 y):atI (a.map λy=>od^F x y) (j:Int)=P3^od^F x y:=AD^by simp only[T0,b]; rfl
theorem O7(h:Wk N x b d):(x=b/\d=0)\/∃q l a,Ed N x q l/\Wk N q b a/\d=l+a:=by
 induction h with
 |nil=>exact .inl #[rfl,rfl]
 |@snoc y z d l w e c=>
  rcases c with⟨rfl,rfl⟩|⟨q,f,a,g,i,rfl⟩
  .exact .inr #[z,l,0,e,.nil,by lk]
  .exact .inr #[q,f,a+l,g,.snoc i e,by lk]
theorem Pf(e:Ed N x q l)(w:Wk N q b d):Wk N x b (l+d):=by
 have:=Wk.trans (Wk.snoc (.nil (N:=N) (s:=x)) e) w
 rw[ja]at this;exact this
theorem Ed.symm6(ok:N.Ok)(e:Ed N x y l):Ed N y x l:=by
 let#[t, a,rfl,h]:=e.tie ok;exact aQ a^h.elim (λz=>.inr #[z.2,z.1]) λz=>.inl #[z.2,z.1]
theorem Rg(ok:N.Ok)(a:Pe N F)(hx:x∈N.ps)(c:b∈N.ps)(e:F x b=P3 d)(m:x≠b):∃q l,Ed N x q l/\F q b=P3 (d - l):=by
 have g:=(a x hx b c).1 d e
 rcases O7 g.1 with⟨z,_⟩|⟨q,l,h,f,w,rfl⟩
 .exact absurd z m
 .have i:=f.ins ok
  exists q,l,f;cases j:F q b with
  |none=>exact absurd j^(a q i b c).2 h w
  |some u=>
   have k:=(a q i b c).1 u j;have n:=k.2 h w;have o:=g.2 _^Pf f k.1
   congr 1
   lk
def fu(t:AZ):D:=.tup [.str t.b,.str t.a,.int t.len]
def Gd(a:t_ AZ):t_ D:=a.map AO++a.map fu
theorem Qn(h:d∈Gd N.ts):∃p q l,d=.tup [.str p,.str q,.int l]/\Ed N p q l:=by
 rcases iH.mp h with h|h
 .let#[t,a,rfl]:=Rs.mp h
  exact#[_,_,_,rfl,(Ci a).1]
 .let#[t,a,rfl]:=Rs.mp h
  exact#[_,_,_,rfl,(Ci a).2]
theorem Vo(ok:N.Ok)(e:Ed N p q l):D.tup [.str p,.str q,.int l]∈Gd N.ts:=by
 let#[t, a,rfl,h]:=e.tie ok
 rcases h with⟨rfl,rfl⟩|⟨rfl,rfl⟩
 .exact jA _^Rs.mpr #[t,a,rfl]
 .exact iL _^Rs.mpr #[t,a,rfl]
theorem Vn(a:t_ AZ):(Gd a).length=2*a.length:=by unfold Gd; simp only[ZB,FM,FM]; lk
theorem Uh:∀{l m:t_ Str},l.Nodup->(∀x∈l,x∈m)->l.length<=m.length
 |[],_,_,_=>XV _
 |x::l,m,a,h=>by
  have a:=iV.mp a;have b:=h x Sc;have d:=Uh (m:=m.erase x) a.2 λy c=>(List.mem_erase_of_ne λe=>a.1^by simp only[←e]; exact c).mpr^h y^TM _ c;simp only[List.length_erase_of_mem b]at d
  have:=List.length_pos_of_mem b
  simp only[UF];lk
def Kb(F:Str->Str->u_ Int)(b x:Str)(d:Int):D->Bool
 |.tup [.str p,.str q,.int l]=>p==x&&F q b==P3 (d - l)
 |_=>s_
def bu:D->D
 |.tup [a,b,l]=>.tup [b,a,l]
 |d=>d
theorem am(l:t_ a)(h:k<l.length):Dp.cutD l (P3 (k:Int)) q_=l.drop k:=by
 unfold Dp.cutD;rw[HT.zy,HT.zF,k6^by lk];exact kG^by rw[lK]; exact Re _
end
end Nt
set_option maxHeartbeats 400000
namespace Dp
open L2
def fB(i j:Nat)(b:DR):Ab:=λc n a=>b n a λf g=>∃d e,f=[d,e]/\c.nx g^(a.set i^.sh d).set j^.sh e
theorem aX{kt k2 pt2}(l:X.calm=r_)(m:X.N.Nodup)(o:X.N[i]?=P3 x)(q:X.N[j]?=P3 y)(g:i≠j)
  (hx:X.env.scope.names.lookup x=P3 .local) (s:X.env.scope.names.lookup y=P3 .local) (z:YJ X [a,b] h)
  (A:swappedStores [.Tuple [.Name x c,.Name y f] kt pt] (.Tuple [a,b] k2 pt2) X.env=pure^P3 [x,y])
  (B:swapsWithSole [.Tuple [.Name x c,.Name y f] kt pt] (.Tuple [a,b] k2 pt2) pos.line X.env=pure s_:=by rfl):DS X k (.Assign [.Tuple [.Name x c,.Name y f] kt pt] (.Tuple [a,b] k2 pt2) pos)^fB i j h:=by
 let#[t, D,F]:=z;refine#[_,Zp l m o q g hx s D A B,λC M H n G Z V E R L w=>?_];refine F C M H n G Z _ _ R w λW I Y J K O P p=>?_;let#[d,e,rfl,p]:=p;let#[u,r, rfl,Q, v,S, rfl,T,U]:=P;cases(show S=[]from U);exact#[u,v,rfl,L.nx M I J _ _ (((R.step K O).set Q).set T) p]
end Dp
namespace Nt
open L2 Dp
abbrev WH(N:Net)(t b:Int)(a:Nat):D:=.dic [.inr "net",.inr "times",.inr "many"] [Bl N,Bg t b,.int (a:Int)]
def fT:u_^t_ Int->D
 |none=>.non
 |some p=>.tup^p.map .int
def Jj:W2:=λg n P=>∃(N:Net) (t b:Int) (e:Nat) (c:t_ AZ) (F:Str->Str->u_ Int) (u:AZ),g=[.fd,.sh^WH N t b e,.sh^JD N.ps F,.sh^AO u]/\okN N/\CB t b/\Pe (Bp N c) F/\u∈N.ts/\3<=n/\∀(o:u_^t_ Int) (f:Nat),(match o with|some p=>RR N p/\Na N t b c u p=r_|none=>∃d,Wk (Bp N c) u.a u.b d/\d*b<=u.len*t)->n - 3<=f->P (fT o) f
def Zh(m more:Int):D->D
 |.int v=>.int (more+if m<v then m else v)
 |_=>.int (more+m)
theorem Zg(N:Net)(F:Str->Str->u_ Int)(x:Str)(m more:Int):(N.ps.map λy=>od^F x y).map^Zh m more=(UI N F x m more).map .int:=by
 unfold UI;simp only[i_,i_];refine jF λy _=>?_;show Zh m more^od^F x y=.int (more+B7 m^F x y);cases F x y with
 |none=>rfl
 |some v=>
  show D.int (more+if m<v then m else v)=.int (more+if v<m then v else m)
  congr 2
  split <;>split <;>lk
def JA(N:Net)(t b:Int)(c:t_ AZ)(u:AZ):Prop:=∃d,Wk (Bp N c) u.a u.b d/\d*b<=u.len*t
def fV:u_ (AZ×t_ Int)->D
 |none=>.non
 |some (u,p)=>(Ca.fa u p).D
def OC:W2:=λe n P=>∃(N:Net) (t b:Int) (c:Nat) (a:t_ AZ),e=[.fd,.sh^WH N t b c,.sh^B0 a]/\okN N/\CB t b/\Eb N a/\a≠[]/\1+3*a.length<=n/\∀(o:u_ (AZ×t_ Int)) (d:Nat),(match o with|some (u,p)=>u∈a/\RR N p/\Na N t b a u p=r_|none=>∀u∈a,JA N t b a u)->n - (1+3*a.length)<=d->P (fV o) d
def YR:Ab:=(BO (CS 7^A0 Jj^AL (CU 0)^AL (AT^AJ 1)^AL (AT^AJ 4)^AL (AT^AJ 6) A3)
 (DU (A8^BE (PB r_) (AJ 7)^wC D.non) (CT^Bt^AK (wC^D.str "far")^AK (AJ 6)^AK (AJ 7) Ad) CA))
theorem Mn(h:okN N)(tm:CB t b)(s:Eb N a)(w:Pe (Bp N a) F)(B:∀u p e,u∈a->RR N p->Na N t b a u p=r_->k<=e->j.rt (Ca.fa u p).D e)(C:∀e f g,(∀u∈a,JA N t b a u)->k<=e->j.nx e [.fd,.sh^WH N t b d,x,y,.sh^JD N.ps F,A,f,g]):
  ∀(c:t_ AZ) (m:Nat) (f g:Slot),(∀u∈c,u∈a)->(∀u∈a,u∈c\/JA N t b a u)->k+3*c.length<=m->Bc (A5 6) YR j (c.map AO) m [.fd,.sh^WH N t b d,x,y,.sh^JD N.ps F,A,f,g]
 |[],m,f,g,_,l,n=>C m f g (λu i=>(l u i).elim (λz=>absurd z iC) id) n
 | u::c,m,f,g,E,l,n=>by
  have i:=E u Sc;simp only[UF]at n;unfold YR;refine#[N,t,b,d,a,F,u,rfl,h,tm,w,s.1 u i,by lk,λo e q G=>?_];cases o with
  |some p=>exact#[rfl,z3,B u p e i q.1 q.2^by lk]
  | none=>
   refine#[rfl,Mn h tm s w B C c e _ _ (λv r=>E v^TM _ r) (λv r=>?_)^by lk]
   rcases l v r with z|z
   .rcases TW.mp z with rfl|z
    .exact .inr q
    .exact .inl z
   .exact .inr z
def Jm(l:Nat):Nat:=40*2 ^ (l+1) - 40
theorem Nz(l:Nat):Jm (l+1)=2*Jm l+40:=by
 unfold Jm
 have:=lc (l+1)
 simp only[kY];lk
def MF(j:Nat):W2:=λf n P=>∃(N:Net) (t b:Int) (d:Nat) (kept a left:t_ AZ),f=[.fd,.sh^WH N t b d,.sh^B0 kept,.sh^B0 a,.sh (B0 left)]/\okN N/\CB t b/\N.ts.length<=6/\(kept++a++left).Perm N.ts/\left.length<=j/\Jm left.length<=n/\∀(c:Ca) (e:Nat),Made N t b d kept a left c->Ny N c->n - Jm left.length<=e->P c.D e
def LB(a:W2):Ab:=(BO (DU (A8^BE dI (AJ 4)^DF Ad) (CT^Bt^AK (wC^D.str "enough") Ad) CA)
 (BO (CS 6^A0 Ji^AL (CU 0)^AL (AT^Hu Nb^AK (AJ 4) Ad) A3)
 (BO (CS 7^BE D7 (AJ 4)^AJ 6)
 (BO (CS 8^BE CD (OG E4 (AJ 4) Ba^C3^AJ 6)^OG E4 (AJ 4) (C3^BE CD (AJ 6)^wC^D.int 1) Ba)
 (BO (CS 9^A0 a^AL (CU 0)^AL (AT^AJ 1)^AL (AT^BE CD (AJ 2)^DF^AK (AJ 7) Ad)^AL (AT^AJ 3)^AL (AT^AJ 8) A3)
 (CT^Bt^AK (wC^D.str "split")^AK (AJ 7)^AK (AJ 9)^AK (A0 a^AL (CU 0)^AL (AT^AJ 1)^AL (AT^AJ 2)^AL (AT^BE CD (AJ 3)^DF^AK (AJ 7) Ad)^AL (AT^AJ 8) A3) Ad))))))
def Pt:Ab:=(BO (DU (A8^BE (f2 λi j=>D.bl (decide (j<=i))) (Hu Nb^AK (AJ 2) Ad)^BE HV (AJ 1)^wC^D.str "many") (CT^Bt^AK (wC^D.str "enough") Ad) CA)
 (BO (CS 5^wC D.non)
 (BO (DU (A8^BE SE (AJ 3)^DF Ad) (CS 5^A0 OC^AL (CU 0)^AL (AT^AJ 1)^AL (AT^AJ 3) A3) CA)
 (DU (A8^BE (PB r_) (AJ 5)^wC D.non) (CT^AJ 5) CA))))
def MG:W2:=λe n P=>∃(N:Net) (t b:Int) (a:Nat),e=[.fd,.sh^Bl N,.sh^Bg t b,.sh^.int (a:Int)]/\okN N/\CB t b/\N.ts.length<=6/\Jm 6<=n/\∀(c:Ca) (d:Nat),Made N t b a [] [] N.ts c->Ny N c->n - Jm 6<=d->P c.D d
theorem Pu(c:(kept++a++left).Perm N.ts)(e:N.ts.length<=6):Eb N kept/\Eb N a/\Eb N left/\kept.length+a.length+left.length<=6:=by
 have d:=c.length_eq;rw[ZB,ZB]at d;exact#[#[λu b=>c.subset^jA _^jA _ b,by lk],#[λu b=>c.subset^jA _^iL _ b,by lk],#[λu b=>c.subset^iL _ b,by lk],by lk]
theorem JR(l:t_ D):BS (.lst l)^.lst []=l.isEmpty:=by
 cases l <;>rfl
theorem G2:By^.lst []:=#[rfl,rfl,by cbv]
theorem RG(k:∀I n P,j≠0->MF (j - 1) I n P->H I n P)(l:okN N)(tm:CB t b)(s:N.ts.length<=6)(o:(kept++d++left).Perm N.ts)(T:left.length<=j)(K:Jm left.length<=m+30)(w:left=[]->∀u∈d,JA N t b d u)
  (q:∀(c:Ca) (L:Nat),Made N t b g kept d left c->Ny N c->m+30 - Jm left.length<=L->J c.D L) (U:Slot):LB H (EE J) m [.fd,.sh^WH N t b g,.sh^B0 kept,.sh^B0 d,.sh (B0 left),U,.no,.no,.no,.no]:=by
 have ok:=l.1;have V:=PySem.sizeLine_eq;let#[ sk,sg,M,W]:=Pu o s;unfold LB;exists z0,D0 ok M,G2;cases left with
 |nil=>
  refine#[z1,q .en m (.no (w rfl)) trivial ?_];show m+30 - Jm 0<=m;rw[show Jm 0=40 from rfl];omega
 | cons v r=>
  obtain⟨left,f⟩:∃left,v::r=left:=#[_,rfl];have p:left.length=r.length+1:=by rw[←f]; rfl
  rw[f]at o T K q M W;rw[JR];rw[show((v::r).map AO).isEmpty=s_ from rfl,f];have X:Jm left.length=2*Jm r.length+40:=by rw[p]; exact Nz _
  rw[X]at K q;refine As #[_,_,rfl,rfl,_,rfl,by rw[FM]; lk,by rw[FM]; lk,by lk,λa Y Z=>?_];rw[FM]at Z;let#[i, rfl]:=ju Y;have x:i<left.length:=by lk
  have O:left[i]∈left:=jB x;have Q:(left.map AO)[i]?=P3 (AO left[i]):=by simp only[T0,On x]; rfl
  generalize y:left[i]=u at O Q;exists _,AD Q
  have R:Dp.cutD left q_ (P3 (i:Int))=left.take i:=by
   unfold Dp.cutD;rw[HT.zy,HT.zF,k6^by lk,oB,mi]
  have S:Dp.cutD left (P3 ((i:Int)+1)) q_=left.drop (i+1):=by
   unfold Dp.cutD;rw[show(i:Int)+1=((i+1:Nat):Int) by lk,HT.zy,HT.zF,k6^by lk];exact kG^by rw[lK]; exact Re _
  refine#[by simp only[Dn,Dn,FM,FM,R,S,jo,lK]; lk,?_];rw[Dn,Dn,R,S,←ij]
  have e:left.Perm (u::(left.take i++left.drop (i+1))):=by
   have:left=left.take i++u::left.drop (i+1):=by
    conv=>lhs; rw[←j7 i left,jL x,y]
   conv=>lhs; rw[this]
   exact pK
  generalize left.take i++left.drop (i+1)=rest at e;have h:rest.length=r.length:=by have:=e.length_eq; simp only[UF]at this; lk
  have z:u∈N.ts:=o.subset^iL _ O
  have p1:(kept++[u]++d++rest).Perm N.ts:=by
   refine kX ?_ o;refine kX ?_^kN _ e.symm;simp only[i7,kM];exact kN _^pK.symm
  have p2:(kept++(d++[u])++rest).Perm N.ts:=by
   refine kX ?_ o;refine kX ?_^kN _ e.symm;simp only[i7,kM];exact oC _
  have ek:kept.map AO++[AO u]=(kept++[u]).map AO:=by simp only[ij]; rfl
  have eg:d.map AO++[AO u]=(d++[u]).map AO:=by simp only[ij]; rfl
  refine#[z1,by show(kept.map AO).length+1<=_; rw[FM]; lk,?_];rw[ek];refine k _ _ _ (by lk) #[N,t,b,g,kept++[u],d,rest,rfl,l,tm,s,p1,by lk,by rw[h]; lk,λc1 n1 A B C=>?_];refine#[z1,by show(d.map AO).length+1<=_; rw[FM]; lk,?_];simp only[eg];rw[h]at C;refine k _ _ _ (by lk) #[N,t,b,g,kept,d++[u],rest,rfl,l,tm,s,p2,by lk,by rw[h]; omega,λc2 n2 E F G=>?_];rw[h]at G;exact#[(by cbv:4<=sizeLine),q (.sp u c1 c2) n2 (.sp e A E) #[z,B,F]^by omega]
def OA:W2:=λa n P=>a=[.fd]/\1<=n/\∀t b:Int,1<=b->b<=t->t<=1000000->P (Bg t b) (n - 1)
def Jk:W2:=λa n P=>∃(N:Net) (t b:Int) (S:t_ AZ),a=[.sh^Bl N,.sh^Bg t b,.sh^B0 S]/\okN N/\CB t b/\S.Sublist N.ts/\∀r:Bool,(r=r_↔Jn N t b S)->P (.bl r) n
def Eg(a:t_ Str)(k:Nat):AZ:=#[a.getD 0 "",a.getD (k+1) "",1+(1+(k:Int)) % 3]
def A4(a:t_ Str)(m:Nat):Net:=#[a,(iM m).map^Eg a]
def eS(k:Int):D->D
 |.int j=>.int (10 ^ (13:Int).toNat*(if(j==k)=r_ then 1 else 0))
 |d=>d
theorem Jx{a:t_ Str}(h:i<a.length):a.getD i ""=a[i]:=by
 rw[iT,On h];rfl
theorem WV(l:a.length=m+1)(f:∀x∈a,R0 x)(d:rising a):(A4 a m).Ok:=by
 have lt:∀i j (b:i<a.length) (c:j<a.length),i<j->cs a[i]<cs a[j]:=λi j b c h=>kO.mp d i j b c h;exists f,d,λt g=>?_
 .let#[k,e,rfl]:=Rs.mp g
  have e:=jD.mp e;unfold Eg;simp only[Jx (by lk:0<a.length),Jx (by lk:k+1<a.length)];exact#[jB _,jB _,lt _ _ _ _^by lk,by show 1<=1+(1+(k:Int)) % 3; omega,by show 1+(1+(k:Int)) % 3<=_; omega]
 .refine ke.mpr^mo (λ{i j} b c h=>?_) List.pairwise_lt_range
  have b:=jD.mp b;have c:=jD.mp c;refine .inr #[rfl,?_];show cs^a.getD (i+1) ""<cs^a.getD (j+1) "";simp only[Jx (by lk:i+1<a.length),Jx (by lk:j+1<a.length)];exact lt _ _ _ _^by lk
abbrev gy:D:=.tup [.str "enough"]
abbrev eP(v:AZ)(c d:D):D:=.tup [.str "split",AO v,c,d]
def V0:W2:=λb n P=>b=[.fd]/\4<=n/\∀a,n - 4<=a->P (.bl r_) a
theorem Y0:BS (.str "enough")^.str "enough"=r_:=by decide +kernel
theorem Yz:BS (.str "far")^.str "far"=r_:=by decide +kernel
theorem dM:BS (.str "split")^.str "split"=r_:=by decide +kernel
theorem M7(f:v∈N.ts)(g:v∉kept)(h:v∉a)(c d:D):FP N t b e (k+1) kept a^eP v c d=(FP N t b e k (kept++[v]) a c&&FP N t b e k kept (a++[v]) d):=by
 show(BS (.str "split")^.str "split"&&Ua N (AO v) _)=_;simp only[dM,iY,Df f,decide_eq_false g,decide_eq_false h];rfl
section
theorem WU(b:a.length=m+1)(c:m<=16)(ok:(A4 a m).Ok):okN^A4 a m/\(A4 a m).ts.length=m:=by
 have e:(A4 a m).ts.length=m:=by show((iM m).map _).length=m; rw[FM,kC]
 exact#[#[ok,by show a.length<=25; lk,by lk],e]
end
def Q0:W2:=λa n P=>∃(N:Net) (S:t_ AZ) (u:AZ),a=[.sh^Bl N,.sh^B0 S,.sh^AO u]/\okN N/\(#[N.ps,S]:Net).Ok/\u∈N.ts/\∀p:t_ Int,RR N p->P (.tup^p.map .int) n
def Ho(l:t_ AZ)(u:AZ):t_ AZ:=l.filter λv=>decide (v≠u)
theorem NF:∀{l:t_ AZ},l.Nodup->u∈l->(u::Ho l u).Perm l
 | v::l,a,b=>by
  let#[ c,d]:=iV.mp a
  by_cases e:v=u
  .subst e
   have:Ho (v::l) v=l:=by
    unfold Ho;rw[List.filter_cons_of_neg^by simp];exact List.filter_eq_self.mpr λw f=>decide_eq_true λz=>c (z▸f)
   rw[this]
  .have:Ho (v::l) u=v::Ho l u:=List.filter_cons_of_pos^decide_eq_true e
   rw[this];exact(List.Perm.swap _ _ _).trans^(NF d^(TW.mp b).resolve_left λz=>e z.symm).cons v
theorem Ue{N:Net}(ok:N.Ok)(b:∀v∈l,v∈N.ts)(f:u∈N.ts)(p:P ((Ho l u).map AO) n):Di (A5 1) (A8^BE SE (AJ 1)^AJ 0) (AJ 1) P (l.map AO) [] n [.sh^AO u,.no]:=by
 refine CC (λd=>!BS d (AO u)) id (λa=>∃s,a=[.sh^AO u,s]) _ _ _ _ ?_ #[_,rfl] ?_
 .rintro d g a m k o ⟨s,rfl⟩ h i
  let#[v, j,rfl]:=Rs.mp g;exists Bi ok^b v j,Bi ok f;exact CQ (λc=>h _ #[_,rfl] c) λc=>i _ #[_,rfl]^iS.mpr c
 .rw[iD,km]
  have e:(l.map AO).filter (λd=>!BS d (AO u))=(Ho l u).map AO:=by
   unfold Ho;simp only[lf]
   congr 1
   refine k_ λv _=>?_;show(!BS (AO v) (AO u))=_;rw[jW,Bool.not_eq_true',decide_eq_true_eq,iS,ne_eq,IE]
  rw[e];exact p
def Fx(r:t_ Nat):Nat:=match r.getLast? with
 |none=>0
 |some l=>l+1
def Ea(n:Nat)(r:t_ Nat):t_^t_ Nat:=(iM (n - Fx r)).map λi=>r++[Fx r+i]
def rows(n:Nat):Nat->t_^t_ Nat
 |0=>[[]]
 |k+1=>(rows n k).flatMap^Ea n
theorem Z3(h:r.Pairwise (·<·)):∀x∈r,x<Fx r:=λx a=>by
 unfold Fx;cases e:r.getLast? with
 |none=>simp_all
 | some l=>
  let#[b, rfl]:=mW.mp e;show x<l+1
  rcases iH.mp a with z|z
  .have:=(lE.mp h).2.2 x z l Sc
   lk
  simp_all
theorem EB:∀(k:Nat) (r:t_ Nat),r∈rows n k↔r.length=k/\r.Pairwise (·<·)/\∀i∈r,i<n
 | 0,r=>by
  constructor
  .intro h
   rw[h_.mp h];exact#[rfl,m7,λi b=>by cases b]
  .rintro⟨h,_⟩
   simp only[lP.mp h];exact Sc
 | k+1,r=>by
  unfold rows;rw[kH];constructor
  .rintro⟨a,m,o⟩
   let#[ c,f,g]:=(EB k a).mp m;let#[i, b,rfl]:=Rs.mp o;have b:=jD.mp b;refine#[by simp only[ZB,c]; rfl,lE.mpr #[f,m6 _ _,λx j y p=>?_],λx j=>?_]
   .rw[h_.mp p]
    have:=Z3 f x j
    lk
   .rcases iH.mp j with z|z
    .exact g x z
    .rw[h_.mp z]; omega
  .rintro⟨c,f,g⟩
   have d:r≠[]:=λz=>by rw[z]at c; cases c
   obtain⟨a,l,rfl⟩:∃a l,r=a++[l]:=#[r.dropLast,r.getLast d,(List.dropLast_concat_getLast d).symm];simp only[ZB,iB]at c;let#[ q,_,s]:=lE.mp f;have t:=g l^iL _ Sc;exists a,(EB k a).mpr #[by lk,q,λi b=>g i^jA _ b]
   have u:Fx a<=l:=by
    unfold Fx;cases e:a.getLast? with
    |none=>exact XV _
    |some x=>
     show x+1<=l;exact s x (mN e) l Sc
   refine Rs.mpr #[l - Fx a,jD.mpr^by omega,?_];rw[show Fx a+(l - Fx a)=l by lk]
theorem RF:∀n k:Fin 11,(rows n.1 k.1).length<=252:=by decide +kernel
theorem Ig(a:n<=10)(b:k<=10):(rows n k).length<=252:=RF #[n,by lk] #[k,by lk]
theorem Ml(b:n<=6):∀k,(rows n k).length<=6 ^ k
 |0=>Re _
 | k+1=>by
  have c:=Ml b k;unfold rows
  have:∀l:t_ _,(l.flatMap^Ea n).length<=l.length*6:=λl=>by
   induction l with
   |nil=>simp_all
   |cons a l d=>
    simp only[m_,ZB,UF]
    have:(Ea n a).length<=6:=by unfold Ea; grind
    lk
  grind
def dT:AZ:=#["","",0]
def pick(a:t_ AZ)(o:Nat)(r:t_ Nat):t_ AZ:=r.map λi=>a.getD (i - o) dT
theorem IA(h:∀i∈r,o+1<=i):pick (a::b) o r=pick b (o+1) r:=by
 refine jF λi c=>?_
 have:=h i c
 rw[show i - o=(i - (o+1))+1 by lk];rfl
theorem Im:∀(b:t_ AZ) (o:Nat) (r:t_ Nat),r.Pairwise (·<·)->(∀i∈r,o<=i/\i<o+b.length)->(pick b o r).Sublist b
 |[],o,r,_,h=>by
  cases r with
  |nil=>exact qK _
  |cons i r=>have:=h i Sc; simp only[jm]at this; lk
 | a::b,o,r,f,h=>by
  cases r with
  |nil=>exact List.nil_sublist _
  | cons i r=>
   let#[g,j]:=i9.mp f;have m:=h i Sc;simp only[UF]at h
   by_cases e:i=o
   .have d:∀x∈r,o+1<=x:=λx c=>by have:=g x c; lk
    have k:=Im b (o+1) r j λx c=>#[d x c,by grind]
    have l:pick (a::b) o (i::r)=a::pick (a::b) o r:=by
     unfold pick;rw[iQ,e,mE];rfl
    rw[l,IA d];exact k.cons_cons a
   .have d:∀x∈i::r,o+1<=x:=λx c=>by
     grind
    rw[IA d];exact(Im b (o+1) (i::r) f λx c=>#[d x c,by have:=(h x c).2; lk]).cons a
theorem Tb:∀{d S:t_ AZ},S.Sublist d->∀o:Nat,∃r:t_ Nat,r.Pairwise (·<·)/\(∀i∈r,o<=i/\i<o+d.length)/\S=pick d o r:=by
 intro d S h
 induction h with
 |slnil=>exact λo=>#[[],m7,(λi b=>by cases b),rfl]
 | cons a _ g=>
  intro o;let#[r, j,e,k]:=g (o+1);exists r,j,λi b=>?_
  .grind
  .rw[IA λi b=>(e i b).1]
   exact k
 | cons_cons a _ g=>
  intro o;let#[r, j,e,k]:=g (o+1);exists o::r,i9.mpr #[λi b=>by have:=(e i b).1; lk,j],λi b=>?_
  .rw[UF]
   grind
  .rw[k,←IA (a:=a) λi b=>(e i b).1]
   unfold pick;rw[iQ,mE];rfl
theorem vk:S∈(rows ts.length k).map^pick ts 0↔S.Sublist ts/\S.length=k:=by
 rw[Rs];constructor
 .rintro⟨r,c,rfl⟩
  let#[ a,b,g]:=(EB k r).mp c;exists Im ts 0 r b λi d=>#[XV _,by simp_all];unfold pick
  simp_all
 .rintro⟨e,f⟩
  let#[r, a,b,rfl]:=Tb e 0;refine#[r,(EB k r).mpr #[by unfold pick at f; simp_all,a,λi d=>by simp_all],rfl]
def Du(r:t_ Nat):D:=.tup (r.map fun(i:Nat)=>.int (i:Int))
def Fy:W2:=λb n P=>∃(a:t_ AZ) (k:Nat),b=[.sh^B0 a,.sh^.int (k:Int)]/\a.length<=10/\k<=10/\P (.lst^(rows a.length k).map λr=>B0^pick a 0 r) n
def IC:Ab:=(BO (CS 6^eK (A8^BE SE (AJ 5)^Bt Ad) (BE CD (BE D7 (AJ 5)^Q5^wC^D.int 1)^wC^D.int 1)^wC^D.int 0)
 (bX 4 "list" aL^AK (D8 [P3 5,q_] (S0^AK (AJ 6)^AK (Hu Nb^AK (AJ 0) Ad) Ad) (A5 1) Gj^BE CD (AJ 0)^Bt^AK (AJ 1) Ad) Ad))
def QE:Ab:=(BO (J7 4^DF Ad)
 (BO (MR (EH^AJ 2) (A5 5) IC)
 (bp 4^CS 2^AJ 4)))
def Dr:Ab:=(BO (CS 2^DF^AK (Bt Ad) Ad)
 (BO (MR (Pj^AK (AJ 1) Ad) (A5 3) QE)
 (CT^D8 [P3 0,q_] (EH^AJ 2) (A5 1) Gj^D8 [P3 0,q_] (EH^AJ 1) (A5 1) Gj^BE D7 (AJ 0)^AJ 1)))
theorem W7(h:∀i∈r,i<10):By^Du r:=by
 have b:∀d∈r.map (fun(i:Nat)=>D.int i),qh 10 d/\Br d=0:=λd a=>by
  let#[i, c,rfl]:=Rs.mp a;exact#[by show Int.natAbs _<=10; grind,rfl]
 refine D1 (by cbv) (DP λd a=>(b d a).1) ?_
 have:=qg.mpr λd a=>mX (b d a).2
 show ES _+1<=100;lk
def fq(r:t_ Nat):D->D
 |.int i=>Du (r++[i.toNat])
 |_=>.non
theorem OW(A:a.length<=10)(t:∀i∈r,i<a.length)(B:r.length<=10)(C:c.length<=1000000)(h:∀o,f.nx n [.sh^B0 a,g,j,m,.ow^.lst^(c++Ea a.length r).map Du,.sh^Du r,o]):IC f n [.sh^B0 a,g,j,m,.ow^.lst^c.map Du,.sh^Du r,o]:=by
 have w:=PySem.sizeLine_eq
 have E:Fx r<=a.length:=by
  unfold Fx;cases e:r.getLast? with
  |none=>exact XV _
  |some l=>have:=t l^mN e; exact this
 have b:(bX 4 "list" aL^AK (D8 [P3 5,q_] (S0^AK (AJ 6)^AK (Hu Nb^AK (AJ 0) Ad) Ad) (A5 1) Gj^BE CD (AJ 0)^Bt^AK (AJ 1) Ad) Ad) f n [.sh^B0 a,g,j,m,.ow^.lst^c.map Du,.sh^Du r,.sh^.int ((Fx r:Nat):Int)]:=by
  refine#[_,rfl,rfl,_,_,rfl,rfl,_,_,rfl,#[by lk,by lk,by lk,by rw[FM]; lk],by rw[Bj,FM]; lk,?_];refine Az (fq r) (λu=>∃s,u=[.sh^Du r,s]) _ _ _ _ ?_ #[_,rfl] ?_
  .rintro d x u F G ⟨s,rfl⟩ p
   let#[k, H,rfl]:=Eo x
   have e:fq r^.int ((Fx r:Int)+(k:Int))=.tup (r.map (fun(i:Nat)=>D.int (i:Int))++[.int ((Fx r:Int)+(k:Int))]):=by
    show Du (r++[((Fx r:Int)+(k:Int)).toNat])=_;unfold Du;rw[ij,show((Fx r:Int)+(k:Int)).toNat=Fx r+k by lk];show D.tup (_++[D.int ((Fx r+k:Nat):Int)])=_;rw[show((Fx r+k:Nat):Int)=(Fx r:Int)+(k:Int) by lk]
   have z:=p [.sh^Du r,.sh^.int ((Fx r:Int)+(k:Int))] #[_,rfl];rw[e]at z;exact#[z1,by rw[FM]; show _+1<=_; lk,z]
  .have e:(CJ (Fx r:Int) (((a.map AO).length:Int) - (Fx r:Int)).toNat).map^fq r=(Ea a.length r).map Du:=by
    delta CJ Ea;simp only[i_,i_,FM,show((a.length:Int) - (Fx r:Int)).toNat=a.length - Fx r by lk];refine jF λk _=>?_;show Du (r++[((Fx r:Int)+(k:Int)).toNat])=_;rw[show((Fx r:Int)+(k:Int)).toNat=Fx r+k by lk];rfl
   rw[iD,e];exists _,_,rfl,rfl,?_
   .have:(Ea a.length r).length<=10:=by unfold Ea; simp only[FM,kC]; lk
    simp only[FM,FM]; lk
   .have z:=h^.sh^.int ((Fx r:Nat):Int)
    rw[ij]at z;exact z
 unfold IC;exists z0,W7 λi y=>by have:=t i y; lk,#[rfl,rfl,by cbv];cases e:r.getLast? with
 |none=>
  have:r=[]:=List.getLast?_eq_none_iff.mp e
  subst this;exact b
 | some l=>
  have q:Fx r=l+1:=by unfold Fx; rw[e]
  let#[v, rfl]:=mW.mp e
  have en:BS (Du (v++[l]))^.tup []=s_:=by
   cases v <;>rfl
  rw[en];exists 1,rfl,.int (l:Int),?_
  .rw[ij]
   exact N3 _ _
  .rw[q]at b
   exact b
theorem P0(l:e.length<=10):∀(a b:t_^t_ Nat) (c d:Slot),(∀r∈a,(∀i∈r,i<e.length)/\r.length<=10)->b.length+10*a.length<=1000000->(∀c d,f.nx n [.sh^B0 e,g,j,k,.ow^.lst^(b++a.flatMap^Ea e.length).map Du,c,d])->
  Bc (A5 5) IC f (a.map Du) n [.sh^B0 e,g,j,k,.ow^.lst^b.map Du,c,d]
 |[],b,c,d,_,_,h=>by
  have z:=h c d;rw[List.flatMap_nil,im]at z;exact z
 |r::a,b,c,d,m,t,h=>by
  have u:(Ea e.length r).length<=10:=by unfold Ea; grind
  let#[ o,p]:=m r Sc;refine OW l o p (by lk) λq=>?_;refine P0 l a _ _ _ (λx s=>m x^TM _ s) (by grind) λc d=>?_
  grind
def Y4(a:t_ AZ):D->D
 |.int i=>AO^a.getD i.toNat dT
 |_=>.non
def fz(a:t_ AZ):D->D
 |.tup b=>.lst^b.map^Y4 a
 |_=>.non
theorem au(a:t_ AZ)(r:t_ Nat):fz a^Du r=B0^pick a 0 r:=by
 show D.lst _=.lst^(r.map _).map _;simp only[i_,i_];rfl
theorem LL(h:Fy A n B):Dr (EF B) n (A++iN 5 .no):=by
 let#[a,k, rfl,C,F,q]:=h;have G:=PySem.sizeLine_eq;have len:∀j,j<=10->(rows a.length j).length<=252:=λj H=>Ig C H;unfold Dr;exists z0,z1,_,rfl,#[by lk,by lk];simp only[jg];refine B2 (all:=CJ 0 k) (λb m c=>m=n/\b.length<=k/\∃u v p t,c=[.sh^B0 a,.sh^.int (k:Int),.sh^.lst^(rows a.length b.length).map Du,u,v,p,t]) ?_ ?_ _ [] _ _ rfl #[rfl,XV _,_,_,_,_,rfl]
 .rintro m c ⟨rfl,_,u,v,p,t,rfl⟩
  rw[Bj];refine#[by rw[FM]; have:=len k F; lk,?_];refine Az (fz a) (λc=>∃s,c=[.sh^B0 a,s]) _ _ _ _ ?_ #[_,rfl] ?_
  .rintro d w c N I ⟨s,rfl⟩ f
   let#[r, x,rfl]:=Rs.mp w;let#[ J,O,y]:=(EB k r).mp x;refine#[by show(r.map fun(i:Nat)=>D.int (i:Int)).length<=10000000; rw[FM]; lk,?_];refine Az (Y4 a) (λc=>∃s,c=[.sh^B0 a,s]) _ _ _ _ ?_ #[_,rfl] ?_
   .rintro d w c K L ⟨s,rfl⟩ g
    let#[i, M,rfl]:=Rs.mp w;have l:=y i M;have z:=g [.sh^B0 a,.sh^.int (i:Int)] #[_,rfl];refine#[AO^a.getD i dT,AD ?_,z];simp only[T0,iT,On l];rfl
   .rw[iD]
    exact f _ #[_,rfl]
  .rw[iD,i_]
   have e:(rows a.length k).map (fz a∘Du)=(rows a.length k).map λr=>B0^pick a 0 r:=jF λr _=>au a r;rw[e];exact q
 .rintro b d E m c I o ⟨rfl,P,u,v,p,t,rfl⟩ f
  let#[_,l]:=F_ o;have Q:=len b.length (by lk);unfold QE;exists z0;refine P0 C (rows a.length b.length) [] _ _ (λr x=>?_) (by show 0+_<=_; lk) λp t=>?_
  .let#[J,_,y]:=(EB b.length r).mp x
   exact#[y,by lk]
  .rw[iD]
   exists _,rfl;exact f _ _ #[rfl,by simp only[ZB,iB]; lk,_,_,_,_,by rw[ZB,iB]; rfl]
def gf(N:Net)(t b:Int)(L:Nat):Prop:=(∃S:t_ AZ,S.Sublist N.ts/\Jn N t b S/\S.length=L)/\∀S:t_ AZ,S.Sublist N.ts->Jn N t b S->L<=S.length
def OB:W2:=λa n P=>∃(N:Net) (t b:Int),a=[.sh^Bl N,.sh^Bg t b]/\okN N/\CB t b/\b<=t/\N.ts.length<=6/\∀L:Nat,gf N t b L->L<=6->P (.int (L:Int)) n
theorem KY{j:Type}{f:j->D}{v:j->Bool}(I:t_ Slot->Prop):∀(l:t_ j) (c:t_ D) (n:Nat) (d:t_ Slot),
  (∀a∈l,∀(d:t_ Slot) (n:Nat) (p:D->Nat->t_ Slot->Prop),I d->(∀g,I g->p (.bl^v a) n g)->b (f a) d λi=>k n i λy m=>p y m i)->I d->P (c++l.map λa=>.bl^v a) n->Di b Gj k P (l.map f) c n d
 |[],c,n,d,_,_,h=>by rw[pI,im]at h; exact h
 |a::l,c,n,d,q,o,h=>q a Sc d n (λy m i=>Di b Gj k P (l.map f) (c++[y]) m i) o λg e=>
  KY I l (c++[.bl^v a]) n g (λx r=>q x^TM _ r) e (by rw[i7]; exact h)
theorem ax{b:Type}(p:b->Bool)(l:t_ b):((l.map λa=>D.bl^p a).any λy=>BS y^.bl r_)=l.any p:=by
 induction l with
 |nil=>rfl
 |cons a r c=>
  simp only[iQ,oY,oY,c]
  congr 1
  cases p a <;>rfl
theorem Ux(ok:N.Ok)(c:b<=t):Jn N t b N.ts:=λu d=>by
 refine#[u.len,?_,ni c^by have:=(ok.tin u d).2.2.2.1; lk]
 have:=Wk.snoc (Wk.nil (N:=N) (s:=u.a)) (Ci d).1
 simp only[ja]at this;exact this
noncomputable def kB(N:Net)(t b:Int)(S:t_ AZ):Bool:=@decide (Jn N t b S)^lR _
theorem kB_iff:kB N t b S=r_↔Jn N t b S:=by
 unfold kB;exact @decide_eq_true_iff _^lR _
theorem Gc(ok:N.Ok)(h:N.ps.length<=5):∀c:Ca,Ny N c->Bz c.D<=740*c.cnt+500
 |.en,_=>by show("enough":Str).length+1+0<=740*1+500; rw[show("enough":Str).length=6 by decide +kernel]; decide
 | .fa u p,#[e,i]=>by
  let#[ f,g,_]:=ok.tin u e;have j:=(ok.names _ f).2.1;have k:=(ok.names _ g).2.1;have r:=i.1
  have l:∀q:t_ Int,CO^q.map D.int=201*q.length:=λq=>by
   induction q with
   |nil=>rfl
   |cons x q m=>rw[iQ]; show 200+1+CO^q.map D.int=_; simp only[m,UF]; lk
  have:=l p
  show("far":Str).length+1+((u.a.length+1+(u.b.length+1+(200+1+0)))+1+(CO^p.map D.int+1+0))<=740*1+500;rw[show("far":Str).length=3 by decide +kernel];lk
 |.sp u c d,#[e,n,o]=>by
  let#[ f,g,_]:=ok.tin u e;have j:=(ok.names _ f).2.1;have k:=(ok.names _ g).2.1;have s:=Gc ok h c n;have t:=Gc ok h d o;show("split":Str).length+1+((u.a.length+1+(u.b.length+1+(200+1+0)))+1+(Bz c.D+1+(Bz d.D+1+0)))<=740*(1+c.cnt+d.cnt)+500;simp only[show("split":Str).length=5 by decide +kernel];lk
theorem Mh(h:Br x<=10):Fe N t b a x=FP N t b a 15 [] [] x:=by
 unfold Fe
 have:EV 14 x+1<=2048:=PK 14 10 x h
 simp only[decide_eq_true (show EV 14 x<=4000 by lk),lU]
theorem aI(a:okN N):qh 1000001^Bl N/\Bz^Bl N<=48000/\Br^Bl N<=3:=S9 (IB a.1) (Cf a.1) (by rw[FM]; have:=a.2.1; lk)^by rw[FM]; have:=a.2.2; lk
end Nt
set_option maxHeartbeats 4000000
namespace Nt
open L2 Dp
def thn(N:Net)(a:t_ AZ):Prop:=(∀t∈a,t∈N.ts)/\a.Pairwise BJ
def HN(N:Net)(a:t_ AZ):t_ AZ:=N.ts.filter λt=>decide (t∉a)
abbrev Hg(w:t_ Str):D:=.tup^w.map .str
def gH(t b:Int):Prop:=1<=b/\b<=1000000/\1<=t/\t<=1000000
set_option tactic.hygienic true in
theorem thn.okN(a:okN N)(h:thn N b):okN #[N.ps,b]:=#[Zd a.1 h.1 h.2,a.2.1,by
 have:=sub_len (CK h.2) (CK a.1.zq) h.1
 have:=a.2.2
 grind]
set_option tactic.hygienic true in
theorem thn.zQ(h:thn N a):zQ N^Bl #[N.ps,a]=r_:=zg.mpr #[a,rfl,h.1,h.2]
def RC:D->t_ Str
 |.tup a=>strsOf a
 |_=>[]
def W6(M:Net)(a b:Str)(d:D):D:=match O2 M d with
 |.int l=>if((RC d).head?==P3 a&&(RC d).getLast?==P3 b)=r_ then .int l else .non
 |_=>.non
def MO(M:Net)(t b:Int)(u:AZ)(d:D):D:=match W6 M u.a u.b d with
 |.int l=>if l*b<=u.len*t then .non else .str "far"
 |_=>.str "way"
def W0(w:Str)(k:Nat):D:=.tup [.str w,.int (k:Int)]
def GW(M:Net)(t b:Int):Nat->t_ AZ->t_ D->D
 |k,u::a,d::c=>match MO M t b u d with
  |.str w=>W0 w k
  |_=>GW M t b (k+1) a c
 |_,_,_=>.non
def SI(M:Net)(t b:Int)(a:t_ AZ):D->D
 |.tup c=>if c.length=a.length then GW M t b 0 a c else W0 "shape" 0
 |_=>W0 "shape" 0
def TU(r:D)(P:D->Nat->Prop)(a:PX)(n:Nat):Prop:=match r with
 |.tup [.str w,.int k]=>a "NoPaper" ["word","number"] [.str w,.int k] n
 |_=>P (.bl r_) n
def f6(d:D):Prop:=qh (10 ^ 41) d/\Bz d<=200000/\Br d<=90
def di:W2:=λc n P=>∃(M:Net) (a b:Str) (d:D),c=[.sh^Bl M,.sh^.str a,.sh^.str b,.sh d]/\okN M/\U0 d/\P (W6 M a b d) n
def V1:W2:=λa n P=>∃(M:Net) (t b:Int) (u:AZ) (d:D),a=[.sh^Bl M,.sh^.tup [.int t,.int b],.sh^AO u,.sh d]/\okN M/\gH t b/\U0 d/\P (MO M t b u d) n
def gF(N:Net)(t b:Int)(d p:D)(Q:D->Prop):Prop:=okN N/\N.ps.length<=24/\gH t b/\f6 d/\U0 p/\(zQ N d=s_\/(∀e,p≠.tup e)->Q^W0 "shape" 0)/\∀a c:t_ AZ,d=Bl #[N.ps,a]->thn N a->c.Perm^HN N a->FA c->Q^SI #[N.ps,a] t b c p
def YG:WX:=λa n P c=>∃(N:Net) (t b:Int) (d p:D),a=[.sh^Bl N,.sh^.tup [.int t,.int b],.sh d,.sh p]/\gF N t b d p λr=>TU r P c n
def J1(b:PX):Ab:=(BO (DU (OI (F4^A8^A0 Y6^AL (AT^AJ 0)^AL (AT^AJ 2) A3)^F4^A8^A0 N_^AL (AT^Hu Nb^AK (A0 V7^AL (AT^AJ 0)^AL (AT^AJ 2) A3) Ad)^AL (AT^AJ 3) A3) (λa=>(K9 "NoPaper" ["word","number"]^AK (wC^D.str "shape")^AK (wC^D.int 0) Ad) a b) CA)
 (BO (MR (YN^A0 V7^AL (AT^AJ 0)^AL (AT^AJ 2) A3) (L_ 2^B8 (A5 4)^B8 (A5 5) Hd) (BO (CS 6^A0 V1^AL (AT^AJ 2)^AL (AT^AJ 1)^AL (AT^AJ 5)^AL (AT^BE D7 (AJ 3)^AJ 4) A3)
 (DU (A8^BE (PB r_) (AJ 6)^wC D.non) (λa=>(K9 "NoPaper" ["word","number"]^AK (AJ 6)^AK (AJ 4) Ad) a b) CA)))
 (CT^wC^D.bl r_)))
theorem KZ(M:Net)(d:D):O2 M d=.non\/∃(x:Str) (r:t_ Str) (l:Int),d=Hg (x::r)/\O2 M d=.int l:=by
 cases d with
 | tup g=>
  by_cases b:g.all B6=r_
  .let#[a,rfl]:=Ei b
   have e:O2 M^.tup^a.map .str=Rq M a:=by
    show(if(a.map D.str).all B6 then Rq M^strsOf^a.map .str else .non)=_;rw[if_pos b,Bv]
   rw[e];cases a with
   |nil=>exact .inl rfl
   | cons x r=>
    show(if x∈M.ps then Nt.OT^Ey M.ts x r 0 else .non)=.non\/_
    by_cases f:x∈M.ps
    .rw[if_pos f]
     cases c:Ey M.ts x r 0 with
     |none=>exact .inl rfl
     |some l=>exact .inr #[x,r,l,rfl,by show(if x∈M.ps then Nt.OT^Ey M.ts x r 0 else .non)=_; rw[if_pos f,c]; rfl]
    simp_all
  .exact .inl^if_neg b
 |_=>exact .inl rfl
theorem Ru(M:Net)(a b:Str)(d:D):W6 M a b d=.non\/∃l,W6 M a b d=.int l:=by
 unfold W6
 split
 .split
  .grind
  grind
 grind
theorem XM(h:U0^.tup a)(hd:d∈a):U0 d:=by
 have b:CO a<=160000:=h.2.1;have c:ES a+1<=50:=h.2.2
 have:=LC hd
 have:=qg.mp (Re _) d hd
 exact#[qv.mp h.1 d hd,by lk,by lk]
theorem NQ:(N.ts.map AO).filter (λd=>!((a.map AO).any λy=>BS y d))=(HN N a).map AO:=by
 rw[lf]
 congr 1
 refine k_ λt _=>?_;show(!((a.map _).any _))=decide _;simp only[B3,decide_not]
section
theorem Q4(M:Net)(t b:Int)(u:AZ)(d:D):MO M t b u d=.non\/∃w,MO M t b u d=.str w:=by
 unfold MO
 split
 .split
  .exact .inl rfl
  simp_all
 simp_all
end
end Nt
set_option maxHeartbeats 400000
namespace Nt
open L2 Dp
theorem Wi(g:Str->Int)(b:a∈N.ps):Cq N ((N.ps.map g).map .int) a=g a:=by
 unfold Cq;rw[i_,Hw,if_pos b];rfl
end Nt
set_option maxHeartbeats 4000000
namespace Dp
open L2
end Dp
namespace Nt
open L2 Dp
structure hZ (N:Net) (t b:Int) (ts us r:List AZ):Prop where
 th:thn N r
 kp:Jn N t b r
 sub:∀x∈r,x∈ts
 sup:∀x∈ts,x∉us->x∈r
 few:∀S,thn N S->Jn N t b S->(∀x∈S,x∈ts)->(∀x∈ts,x∉us->x∈S)->r.length<=S.length
theorem Fc(ok:N.Ok)(h:thn N r):N.ts.filter (λt=>decide (t∈r))=r:=by
 refine IV ((oi ((CK ok.zq).filter _)^CK h.2).mpr λx=>?_) (Fw^ok.zq.filter _)^Fw h.2;rw[jt,decide_eq_true_eq];exact#[λz=>z.2,λz=>#[h.1 x z,z]]
theorem KR:∀(c:t_ AZ),RQ (c.map λu=>D.tup [.tup [.str u.a,.str u.b],.int u.len])=P3 ((c.map λu=>([.inr u.a,.inr u.b]:t_ Key)),c.map λu=>D.int u.len)
 |[]=>rfl
 |u::c=>by
  rw[iQ];unfold RQ;rw[KR c];rfl
theorem Mi(h:∀d∈a,item d)(c:a.length<=100):HD^.tup a:=by
 have e:=EJ λd b=>jZ (h d b).2.1;have f:=qg.mpr λd b=>(h d b).2.2;exact Py (by cbv) (qv.mpr λd b=>(h d b).1) (by show ES a+1<=100; lk)^by show CO a<=200000; lk
theorem IZ(a:okN M):HD^.tup^M.ps.map .str/\HD^.tup^M.ts.map AO:=#[Mi (IB a.1) (by rw[FM]; have:=a.2.1; lk),Mi (Cf a.1)^by rw[FM]; have:=a.2.2; lk]
theorem Tj:2<=sizeLine:=by cbv
def YI(N:Net)(t b:Int)(r:t_ AZ)(p:D):Prop:=∃a:t_ AZ,a.Perm^HN N r/\FA a/\SI #[N.ps,r] t b a p=.non
def Q2(N:Net)(t b:Int)(x:D):Prop:=∃(r:t_ AZ) (p c:D),x=.tup [Bl #[N.ps,r],p,c]/\thn N r/\YI N t b r p/\Fe N t b r.length c=r_
def vG(x:D):Prop:=qh (10 ^ 30+2) x/\Bz x<=150000/\Br x<=11
def vZ(x:D):Prop:=qh (10 ^ 30+2) x/\Bz x<=150000/\Br x<=40
def Z5(M:Net)(d:D):D:=if 2<=(RC d).length then O2 M d else .non
def bJ:W2:=λa n P=>∃(N:Net) (t b:Int) (d p:D),a=[.sh^Bl N,.sh^Bg t b,.sh d,.sh p]/\okN N/\N.ps.length<=24/\CB t b/\vZ d/\vZ p/\∀v:Bool,(v=r_↔∃r,d=Bl #[N.ps,r]/\thn N r/\YI N t b r p)->P (.bl v) n
def V8:W2:=λa n P=>∃(N:Net) (t b:Int) (x:D),a=[.sh^Bl N,.sh^Bg t b,.sh x]/\okN N/\N.ps.length<=24/\CB t b/\vZ x/\∀v:Bool,(v=r_↔Q2 N t b x)->P (.bl v) n
def Pb:W2:=λa n P=>∃(N:Net) (d:D),a=[.sh^Bl N,.sh d]/\okN N/\vZ d/\P (.bl^zQ N d) n
def Qz:W2:=λa n P=>∃(M:Net) (d:D),a=[.sh^B0 M.ts,.sh d]/\okN M/\vZ d/\P (Z5 M d) n
def Sd:W2:=λa n P=>∃(N:Net) (r:t_ AZ) (t b:Int) (p:D),a=[.sh^Bl N,.sh^Bg t b,.sh^B0 r,.sh p]/\okN N/\thn N r/\CB t b/\vZ p/\∀v:Bool,(v=r_↔YI N t b r p)->P (.bl v) n
def Jl:W2:=λa n P=>∃(N:Net) (t b:Int) (x:D),a=[.sh^Bl N,.sh^Bg t b,.sh x]/\okN N/\CB t b/\vG x/\∀v:Bool,(v=r_↔Q2 N t b x)->P (.bl v) n
def Jh:W2:=λa n P=>∃(N:Net) (t b:Int) (x:D) (v:Bool),a=[.sh^Bl N,.sh^Bg t b,.sh x,.sh^.bl v]/\okN N/\N.ps.length<=24/\CB t b/\vZ x/\(v=r_↔Q2 N t b x)/\P (.bl r_) n
def V2:W2:=λc n P=>∃(M:Net) (a b:Str),c=[.sh^.tup^M.ps.map .str,.sh^B0 M.ts,.sh^.str a,.sh^.str b]/\M.Ok/\M.ps.length<=24/\M.ts.length<60/\a∈M.ps/\b∈M.ps/\(∃d,Wk M a b d)/\∀(w:t_ Str) (d:Int),OD M a b d->walk M (a::w) d->(a::w).getLast?=P3 b->(a::w).length<=M.ps.length->(∀x∈a::w,x∈M.ps)->P (Hg (a::w)) n
def O4(N:Net)(a:t_ D):Prop:=∀d∈a,∃w:t_ Str,d=Hg w/\w.length<=N.ps.length/\∀x∈w,x∈N.ps
def IM:W2:=λc n P=>∃(N:Net) (r:t_ AZ) (t b:Int),c=[.sh^Bl N,.sh^B0 r]/\okN N/\N.ps.length<=24/\N.ts.length<60/\thn N r/\Jn N t b r/\1<=b/\∀a:t_ D,a.length<=N.ts.length->O4 N a->YI N t b r^.tup a->P (.tup a) n
def Cp(m k:Nat):D:=.tup^(CJ 0 (m+1)).map^eS ((k:Int)+1)
def YB:W2:=λb n P=>∃m:Nat,b=[.fd,.sh^.int (m:Int)]/\1<=m/\m<=16/\2<=n/\∀(a:t_ Str),a.length=m+1->(A4 a m).Ok->P (.tup [Bl^A4 a m,.lst^(iM m).map^Cp m]) (n - 2)
theorem NY(q:Nat):∀(l:t_ Nat) (a:Array Nat),(l.foldl (λb c=>b++(jQ q c).toArray) a).toList=a.toList++l.flatMap^jQ q
 |[],a=>by simp
 |c::l,a=>by
  simp only[pM,NY q l];simp
theorem X4(q c:Nat):jQ q c=[c]\/∃r,jQ q c=92::r:=by
 unfold jQ
 dsimp only
 by_cases a:(c==q||c==92)=r_
 .rw[if_pos a]; exact .inr #[_,rfl]
 rw[if_neg a]
 by_cases b:(c==10)=r_
 .rw[if_pos b]; exact .inr #[_,rfl]
 rw[if_neg b]
 by_cases d:(c==13)=r_
 .rw[if_pos d]; exact .inr #[_,rfl]
 rw[if_neg d]
 by_cases e:(c==9)=r_
 .rw[if_pos e]; exact .inr #[_,rfl]
 rw[if_neg e]
 by_cases f:PySem.Unicode.isPrintable c=r_
 .rw[if_pos f]; exact .inl rfl
 rw[if_neg f]
 by_cases g:c<256
 .rw[if_pos g]; exact .inr #[_,rfl]
 rw[if_neg g]
 by_cases h:c<65536
 .rw[if_pos h]; exact .inr #[_,rfl]
 rw[if_neg h];exact .inr #[_,rfl]
theorem KD:∀(b:t_ Str) (k:Nat) (a:Str),(cs a).head?=P3 c->(cs^textFrom k a b).head?=P3 c
 |[],_,_,h=>h
 |t::b,k,a,h=>by
  unfold textFrom;refine KD b _ _ ?_
  split <;>simp[G9,h]
abbrev J4(d:D):t_ Nat:=cs^Cr d
def OE(r:t_ Nat):Prop:=∀c,r.head?=P3 c->c=44\/c=41
theorem Tt(x:Str):cs^reprText x=reprQuote x::(x.cps.toList.flatMap^jQ^reprQuote x++[reprQuote x]):=by
 unfold reprText;show((x.cps.foldl _ #[ reprQuote x]).push^reprQuote x).toList=_;rw[←Array.foldl_toList,Array.toList_push,NY];rfl
theorem Qc(h:c∈(pJ 10 n).map mw):48<=c/\c<=57:=by
 let#[d, a,rfl]:=Rs.mp h
 have:=Nat.isDigit_of_mem_toDigits (by cbv) (by cbv) a
 unfold Char.isDigit at this;simp only[iE,decide_eq_true_eq]at this;exact#[this.1,this.2]
def c9:D->Nat->Prop
 |.str _,c=>c=39\/c=34
 |.tup _,c=>c=40
 |.int i,c=>c=45/\i<0\/48<=c/\c<=57/\0<=i
 |.lst _,c=>c=91
 |_,c=>65<=c/\c<=90
theorem SA(j:Ce d=r_):∃c r,J4 d=c::r/\c9 d c:=by
 cases d with
 | str x=>exact#[_,_,Tt x,by
   unfold reprQuote;show(if _ then _ else _)=39\/(if _ then _ else _)=34
   split
   .exact .inr rfl
   .exact .inl rfl]
 |non=>exact#[78,_,show J4 .non=78::[111,110,101] by decide +kernel,by cbv,by cbv]
 |bl b=>
  cases b with
  |true=>exact#[84,_,show J4^.bl r_=84::[114,117,101] by decide +kernel,by cbv,by cbv]
  |false=>exact#[70,_,show J4^.bl s_=70::[97,108,115,101] by decide +kernel,by cbv,by cbv]
 |tup f=>exact#[40,_,Nn _,rfl]
 |lst f=>
  have h:J4^.lst f=cs^textFrom 0 "["^lg^BB f++cs ("]":Str):=G9 ..
  have:=KD (c:=91) (lg^BB f) 0 "["^by decide +kernel
  cases e:cs^textFrom 0 "["^lg^BB f with
  |nil=>rw[e]at this; cases this
  |cons a r=>rw[e]at this h; exact#[a,_,h,iA this]
 | int i=>
  rcases Int.lt_or_le i 0 with g|g
  .let#[n,rfl]:=Int.eq_negSucc_of_lt_zero g
   refine#[45,(Nat.repr (n+1)).toList.map mw,?_,.inl #[rfl,g]];show cs ((toString^Int.negSucc n:String):Str)=_;rw[pd];show((toString^Int.negSucc n).toList.map _)=_
   have:toString^Int.negSucc n="-"++Nat.repr (n+1):=rfl
   simp only[this,String.toList_append];rfl
  .let#[n,rfl]:=ju g
   have h:J4^.int (n:Int)=(pJ 10 n).map mw:=JY n;cases e:(pJ 10 n).map mw with
   |nil=>exact absurd (List.map_eq_nil_iff.mp e)^by simp
   |cons c r=>exact#[c,r,h.trans e,.inr #[(Qc (n:=n)^by rw[e]; exact Sc).1,(Qc (n:=n)^by rw[e]; exact Sc).2,g]]
 |_=>cases j
inductive vQ:D->Prop
 |s {x:Str} (h:R0 x):vQ^.str x
 |i {j:Int} (h:0<=j):vQ^.int j
 |t {xs:List D} (h:∀d∈xs,vQ d):vQ^.tup xs
theorem YU:∀{f a:t_ Nat},(∀c∈a,97<=c/\c<=122)->f.flatMap^jQ 39++39::r=a++39::g->f=a/\r=g
 |[],[],_,h=>#[rfl,(iO h).2]
 |[],c::a,b,h=>by
  have:=b c Sc
  have:=(iO h).1
  lk
 | c::f,a,b,h=>by
  rw[m_,i7]at h
  rcases X4 39 c with e|⟨q,e⟩
  .rw[e]at h
   cases a with
   |nil=>
    have i:c=39:=(iO h).1;rw[i]at e;exact absurd e^by decide +kernel
   |cons d a=>
    have h:=iO h;let#[ j,k]:=YU (λz l=>b z^TM _ l) h.2;rw[show c=d from h.1,j];exact#[rfl,k]
  .rw[e]at h
   cases a with
   |nil=>exact absurd (iO h).1 (by cbv)
   |cons d a=>
    have:=b d Sc
    have:92=d:=(iO h).1
    lk
theorem Yn(k:OE r)(f:OE e):∀{a b:t_ Nat},(∀c∈a,48<=c/\c<=57)->(∀c∈b,48<=c/\c<=57)->a++r=b++e->a=b/\r=e
 |[],[],_,_,h=>#[rfl,h]
 |[],c::b,_,g,h=>by
  have:=k c^by rw[show r=c::(b++e)from h]; rfl
  have:=g c Sc
  lk
 |c::a,[],i,_,h=>by
  have:=f c^by rw[←show c::(a++r)=e from h]; rfl
  have:=i c Sc
  lk
 |c::a,d::b,i,g,h=>by
  have h:=iO h;let#[ l,m]:=Yn k f (λz j=>i z^TM _ j) (λz j=>g z^TM _ j) h.2;rw[show c=d from h.1,l];exact#[rfl,m]
def MZ:t_ D->t_ Nat->t_ Nat
 |[],f=>f
 |d::r,f=>44::32::(J4 d++MZ r f)
theorem Uy(f:t_ Nat):∀(d:D) (r:t_ D),cs^Str.join ", "^lg^BB (d::r)++f=J4 d++MZ r f
 |d,[]=>rfl
 |d,e::r=>by
  show cs (Cr d ++ ", "++Str.join ", "^lg^BB (e::r))++f=_;simp only[G9,G9,i7,Uy f e r,aq,i7];rfl
theorem Ys(r:t_ Nat)(b:Bool):OE ((if b=r_ then [44,41]else [41])++r):=by
 cases b
 .intro c h; exact .inr (iA h).symm
 .intro c h; exact .inl (iA h).symm
theorem Hz(a:OE f):∀l:t_ D,OE^MZ l f
 |[]=>a
 |_::_=>λc h=>.inl (iA h).symm
theorem vQ.nd(h:vQ d):Ce d=r_:=by
 induction h with
 |s _=>rfl
 |i _=>rfl
 |t _ a=>show Bx _=r_; rw[I_]; exact jH.mpr a
theorem vQ.hd(h:vQ d)(e:41::f=J4 d++g):False:=by
 let#[c,r, a,k]:=SA h.nd;rw[a]at e
 have:41=c:=(iO e).1
 subst this;cases h with
 |s _=>exact absurd k^by show ¬(_\/_); lk
 |i _=>exact absurd k^by show ¬(_\/_); omega
 |t _=>exact absurd k^by show ¬(41=40); lk
theorem Yo:∀a:t_ D,(lg^BB a).length=a.length
 |[]=>rfl
 |d::r=>congrArg (·+1)^Yo r
theorem TF(a:t_ D)(g:t_ Nat):J4^.tup a++g=40::match a with
  |[]=>41::g
  |d::r=>J4 d++MZ r ((if((d::r).length==1)=r_ then [44,41]else [41])++g):=by
 rw[show J4^.tup a=_ from Nn _,Yo,kI,i7];cases a with
 |nil=>rfl
 |cons d r=>rw[Uy]
theorem cv(h:vQ t):∀{x:D}{r r':t_ Nat},Ce x=r_->OE r->OE r'->J4 x++r=J4 t++r'->x=t/\r=r':=by
 induction h with
 | @s a h=>
  intro x r r' E _ _ e;rw[show J4^.str a=_ from X2 h]at e;let#[c,q, o,k]:=SA E;have p:c=39:=by rw[o]at e; exact(iO e).1
  subst p;cases x with
  |str y=>
   have F:J4^.str y=_:=Tt y;have X:reprQuote y=39:=by rw[F]at o; exact(iO o).1
   rw[F,X]at e;have e:(y.cps.toList.flatMap^jQ 39++[39])++r=(cs a++[39])++r':=(iO e).2;simp only[i7,i7]at e;let#[ H,I]:=YU (JB h) e;exact#[by rw[Vf (show cs y=cs a from H)],I]
  |int i=>exact absurd k^by show ¬(_\/_); omega
  |tup _=>exact absurd k^by show ¬(39=40); lk
  |lst _=>exact absurd k^by show ¬(39=91); lk
  |_=>exact absurd k^by show ¬(_/\_); omega
 | @i j Y=>
  intro x r r' E O J e;let#[n, rfl]:=ju Y;let#[c,q, o,k]:=SA E;let#[Z,q', L,P]:=SA (d:=.int (n:Int)) rfl;have p:c=Z:=by rw[o,L]at e; exact(iO e).1
  subst p;have P:c=45/\(n:Int)<0\/48<=c/\c<=57/\0<=(n:Int):=P;cases x with
  |int i=>
   have k:c=45/\i<0\/48<=c/\c<=57/\0<=i:=k;let#[m, rfl]:=ju (show 0<=i by lk);have Q:J4^.int (m:Int)=_:=JY m;have R:J4^.int (n:Int)=_:=JY n;rw[Q,R]at e;let#[ H,I]:=Yn O J (λc p=>Qc p) (λc p=>Qc p) e;exact#[congrArg D.int^R9 (by lk) (by lk)^Q.trans^H.trans R.symm,I]
  |str _=>have k:c=39\/c=34:=k; omega
  |tup _=>have k:c=40:=k; omega
  |lst _=>have k:c=91:=k; omega
  |_=>have k:65<=c/\c<=90:=k; omega
 | @t G h S=>
  intro x r r' E O J e;let#[c,q, o,k]:=SA E;have p:c=40:=by rw[o,TF]at e; exact(iO e).1
  subst p;cases x with
  | tup K=>
   have M:∀y∈K,Ce y=r_:=by have:Bx K=r_:=E; rw[I_]at this; exact jH.mp this
   rw[TF,TF]at e;have e:=(iO e).2;cases K with
   |nil=>
    cases G with
    |nil=>exact#[rfl,(iO e).2]
    |cons d G=>exact((h d Sc).hd e).elim
   | cons y K=>
    cases G with
    |nil=>
     let#[c,q, F,k]:=SA^M y Sc;have e:J4 y++_=41::r':=e;rw[F]at e
     have:c=41:=(iO e).1
     subst this;cases y with
     |str _=>have k:41=39\/41=34:=k; lk
     |tup _=>have k:41=40:=k; lk
     |lst _=>have k:41=91:=k; lk
     |int _=>exact absurd k^by show ¬(_\/_); omega
     |_=>have k:65<=41/\41<=90:=k; omega
    | cons d G=>
     let#[ rfl,e]:=S d Sc (M y Sc) (Hz (Ys _ _) _) (Hz (Ys _ _) _) e
     have go:∀(A l:t_ D) (f w:t_ Nat),(∀y∈A,Ce y=r_)->(∀v∈l,v∈y::G)->(∃s,f=41::s\/f=44::41::s)->(∃s,w=41::s\/w=44::41::s)->MZ A f=MZ l w->A=l/\f=w:=by
      intro A
      induction A with
      | nil=>
       intro l f w _ _ g _ e;cases l with
       |nil=>exact#[rfl,e]
       |cons v l=>
        have e:f=44::32::_:=e;obtain⟨s,g|g⟩:=g
        .rw[g]at e; exact absurd (iO e).1 (by cbv)
        .rw[g]at e; exact absurd (iO (iO e).2).1 (by cbv)
      | cons u A N=>
       intro l f w T U g B e;cases l with
       |nil=>
        have e:44::32::_=w:=e;obtain⟨s,g|g⟩:=B
        .rw[g]at e; exact absurd (iO e).1 (by cbv)
        .rw[g]at e; exact absurd (iO (iO e).2).1 (by cbv)
       | cons v l=>
        have e:J4 u++MZ A f=J4 v++MZ l w:=(iO (iO e).2).2
        have V:∀{f:t_ Nat},(∃s,f=41::s\/f=44::41::s)->OE f:=by
         rintro f ⟨s,rfl|rfl⟩ c h
         .exact .inr (iA h).symm
         .exact .inl (iA h).symm
        let#[ o,F]:=S v (U v Sc) (T u Sc) (Hz (V g) _) (Hz (V B) _) e;let#[ H,I]:=N l f w (λz C=>T z^TM _ C) (λz C=>U z^TM _ C) g B F;exact#[by simp only[o,H],I]
     have W:∀(b:Bool) (r:t_ Nat),∃s,(if b=r_ then [44,41]else [41])++r=41::s\/(if b=r_ then [44,41]else [41])++r=44::41::s:=λb r=>#[r,by cases b <;>simp];let#[ rfl,e]:=go K G _ _ (λz C=>M z^TM _ C) (λz C=>TM _ C) (W _ _) (W _ _) e;exact#[rfl,List.append_cancel_left e]
  |int i=>exact absurd k^by show ¬(_\/_); omega
  |str _=>exact absurd k^by show ¬(_\/_); lk
  |lst _=>exact absurd k^by show ¬(40=91); lk
  |_=>exact absurd k^by show ¬(_/\_); omega
theorem Ti(h:vQ t)(hx:Ce x=r_)(e:Cr x=Cr t):x=t:=(cv (r:=[]) (r':=[]) h hx (λ_ z=>by cases z) (λ_ z=>by cases z)^by simp only[im,im]; exact congrArg cs e).1
theorem QX(M:Net)(t b:Int):∀(a:t_ AZ) (c:t_ D) (k:Nat),GW M t b k a c=.non\/∃w j,GW M t b k a c=W0 w j/\(w="way"\/w="far")/\j<k+a.length
 |[],_,_=>.inl rfl
 |_::_,[],_=>.inl rfl
 | u::a,d::c,k=>by
  have e:MO M t b u d=.non\/MO M t b u d=.str "far"\/MO M t b u d=.str "way":=by
   unfold MO
   split
   .split
    .exact .inl rfl
    .exact .inr (.inl rfl)
   .exact .inr (.inr rfl)
  unfold GW
  rcases e with e|e|e
  .rw[e]
   rcases QX M t b a c (k+1)with h|⟨w,j,h,f,g⟩
   .exact .inl h
   .exact .inr #[w,j,h,f,by simp only[UF]; lk]
  .rw[e]; exact .inr #[_,k,rfl,.inr rfl,by rw[UF]; omega]
  .rw[e]; exact .inr #[_,k,rfl,.inl rfl,by rw[UF]; omega]
theorem Xf(M:Net)(t b:Int)(a:t_ AZ)(p:D):SI M t b a p=.non\/∃w j,SI M t b a p=W0 w j/\(w="way"\/w="far"\/w="shape")/\j<=a.length:=by
 unfold SI
 split
 .split
  .rcases QX M t b a _ 0 with h|⟨w,j,h,c,d⟩
   .exact .inl h
   .exact .inr #[w,j,h,by rcases c with c|c <;>simp[c],by lk]
  .exact .inr #[_,0,rfl,.inr (.inr rfl),XV _]
 .exact .inr #[_,0,rfl,.inr (.inr rfl),XV _]
theorem Ma:∀{d e:t_ AZ},d.map AO=e.map AO->d=e
 |[],[],_=>rfl
 |t::d,u::e,h=>by
  have c:AO t=AO u:=by injection h
  have j:d.map AO=e.map AO:=by injection h
  rw[Ma j];let#[a,b,l]:=t;let#[k,m,n]:=u;unfold AO at c;injection c with c
  injection c with f c
  injection c with g c
  injection c with i _
  injection f with f
  injection g with g
  injection i with i
  subst f g i;rfl
theorem vZ.mem(h:vZ^.tup a)(b:y∈a):vZ y/\Br y+1<=Br^.tup a:=by
 have c:CO a<=150000:=h.2.1;have d:ES a+1<=40:=h.2.2
 have:=LC b
 have:=qg.mp (Re _) y b
 exact#[#[qv.mp h.1 y b,by lk,by lk],by show Br y+1<=ES a+1; lk]
theorem vZ.sh(h:vZ x):HD x:=Py (B:=10 ^ 30+2) (by cbv) h.1 (by have:=h.2.2; lk)^by have:=h.2.1; lk
theorem vZ.lay(h:vZ x):By x:=D1 (B:=10 ^ 30+2) (by cbv) h.1^by have:=h.2.2; lk
set_option tactic.hygienic true in
theorem vZ.U0(h:vZ x):U0 x:=#[h.1.mono^by cbv,by have:=h.2.1; omega,by have:=h.2.2; omega]
theorem vG.pt(h:vG x):vZ x:=#[h.1,h.2.1,by have:=h.2.2; lk]
theorem UL{N:Net}(ok:N.Ok):vQ^.tup^N.ps.map .str:=.t λd a=>by
 let#[x, b,rfl]:=Rs.mp a;exact .s^ok.names x b
theorem UK{N:Net}(ok:N.Ok){r:t_ AZ}(h:∀u∈r,u∈N.ts):vQ^.tup^r.map AO:=.t λd a=>by
 let#[u, b,rfl]:=Rs.mp a;let#[ c,e,_,f,_]:=ok.tin u^h u b;refine .t λd a=>?_;simp only[TW,iC,or_false]at a
 rcases a with rfl|rfl|rfl
 .exact .s^ok.names _ c
 .exact .s^ok.names _ e
 .exact .i^by lk
section
theorem Hr(h:¬p):(s_=r_↔p):=#[λz=>(nomatch z),λz=>absurd z h]
theorem QU{N:Net}(e:Bl #[N.ps,ts]=Bl #[N.ps,a]):a=ts:=by
 refine(Ma ?_).symm;injection e with e; injection e with _ e; injection e with e; injection e
theorem dP(c:look M.ts x y=P3 l):Ed M x y l:=by
 unfold look at c;cases a:(EN M.ts x).find? λz=>decide (z.1=y)with
 |none=>rw[a]at c; cases c
 |some z=>
  rw[a]at c;have b:z.1=y:=by have:=pR a; exact of_decide_eq_true this
  have d:z.2=l:=iA c
  have:=mV a
  show(y,l)∈EN M.ts x;simp only[←b,←d];exact this
theorem fY{M:Net}(ok:M.Ok)(x y:Str):CM (M.ts.map λu=>([.inr u.a,.inr u.b]:t_ Key)) (M.ts.map λu=>D.int u.len) [.inr (if decide (cs y<cs x)=r_ then y else x),.inr (if decide (cs x<cs y)=r_ then y else x)]=(look M.ts x y).map .int:=by
 have lt:∀u∈M.ts,cs u.a<cs u.b:=λu d=>(ok.tin u d).2.2.1;have h:∀u∈M.ts,¬cs u.b<cs u.a:=λu d z=>BU _^oa z^lt u d;cases c:look M.ts x y with
 | some l=>
  have k:Ed M x y l:=dP c;let#[u, d,rfl,o]:=k.tie ok
  have m:(if decide (cs y<cs x)=r_ then y else x)=u.a/\(if decide (cs x<cs y)=r_ then y else x)=u.b:=by
   rcases o with⟨rfl,rfl⟩|⟨rfl,rfl⟩
   .rw[decide_eq_false^h u d,decide_eq_true^lt u d]; exact#[rfl,rfl]
   .rw[decide_eq_false^h u d,decide_eq_true^lt u d]; exact#[rfl,rfl]
  simp only[m.1,m.2,W5 ok d];rfl
 | none=>
  refine IS λp=>?_;let#[u, d,e]:=Rs.mp p;have n:=iO e;have f:u.a=_:=jU n.1;have g:u.b=_:=jU (iO n.2).1;have l:=lt u d;simp only[f,g]at l;have no:∀l,¬Ed M x y l:=λl k=>by rw[QJ ok k]at c; cases c
  by_cases j:cs y<cs x
  .by_cases i:cs x<cs y
   .exact BU _^oa j i
   .rw[decide_eq_true j]at f
    rw[decide_eq_false i]at g;have f:u.a=y:=f;have g:u.b=x:=g;subst f g;exact no _ (Ci d).2
  .by_cases i:cs x<cs y
   .rw[decide_eq_false j]at f
    rw[decide_eq_true i]at g;have f:u.a=x:=f;have g:u.b=y:=g;subst f g;exact no _ (Ci d).1
   .rw[decide_eq_false j,decide_eq_false i]at l
    exact BU _ l
end
theorem HC:∀{w:t_ Str}{e:Int}{x:Str},walk N w e->w.getLast?=P3 x->Ed N x y l->walk N (w++[y]) (e+l)
 |[],_,_,h,_,_=>h.elim
 |[z],e,x,h,a,b=>by
  have h:e=0:=h;injection a with a;subst a;exact#[l,0,b,rfl,by lk]
 |z::i::r,e,x,h,a,b=>by
  let#[c,d, f,g,rfl]:=h;exact#[c,d+l,f,HC g (by rw[List.getLast?_cons_cons]at a; exact a) b,by lk]
section
theorem Sx(ok:M.Ok)(c:u.a∈M.ps)(f:walk M (u.a::w) d)(g:(u.a::w).getLast?=P3 u.b)(h:d*b<=u.len*t):MO M t b u^Hg (u.a::w)=.non:=by
 have e:O2 M^Hg (u.a::w)=.int d:=by
  show(if((u.a::w).map D.str).all B6 then Rq M^strsOf^(u.a::w).map .str else .non)=_;rw[if_pos^all_strs _,Bv];show(if u.a∈M.ps then OT^Ey M.ts u.a w 0 else .non)=_;rw[if_pos c,MP ok f,ja];rfl
 have i:RC^Hg (u.a::w)=u.a::w:=Bv _;delta MO W6;rw[e,i,g];show(match (if(P3 u.a==P3 u.a&&P3 u.b==P3 u.b)=r_ then D.int d else .non)with|.int l=>if l*b<=u.len*t then D.non else .str "far"|_=>.str "way")=_;rw[beq_self_eq_true,beq_self_eq_true];show(if d*b<=u.len*t then D.non else _)=_;rw[if_pos h]
end
def Fq(a:t_ Str)(k:Nat)(x:Str):Int:=if x=a.getD (k+1) "" then 10 ^ 13 else 0
def DJ(a:t_ Str)(m:Nat):Nat->D
 |0=>gy
 |k+1=>eP (Eg a k) (DJ a m k)^.tup [.str "far",AO^Eg a k,Cp m k]
theorem X5(d:rising a)(b:i<a.length)(c:j<a.length):a.getD i ""=a.getD j ""↔i=j:=by
 rw[Jx b,Jx c];have lt:∀i j (b:i<a.length) (c:j<a.length),i<j->cs a[i]<cs a[j]:=λi j b c h=>kO.mp d i j b c h;refine#[λe=>?_,λe=>by subst e; rfl]
 rcases Nat.lt_trichotomy i j with h|h|h
 .have:=lt _ _ b c h; rw[e]at this; exact absurd this^BU _
 .exact h
 .have:=lt _ _ c b h; rw[e]at this; exact absurd this^BU _
theorem UJ(d:rising a)(f:a.length=m+1)(h:k<m):Cp m k=.tup^(a.map^Fq a k).map .int:=by
 delta Cp CJ
 congr 1
 refine nJ (by simp[f]) λi j g=>?_;have b:i<a.length:=by simpa using g
 simp only[List.getElem_map,List.getElem_range];show D.int (10 ^ (13:Int).toNat*(if((0+(i:Int))==(k:Int)+1)=r_ then 1 else 0))=.int (if a[i]=a.getD (k+1) "" then 10 ^ 13 else 0);have e:=X5 d b (show k+1<a.length by lk);rw[Jx b]at e
 by_cases c:i=k+1
 .rw[if_pos^e.mpr c,if_pos^by rw[beq_iff_eq]; omega]; rfl
 .rw[if_neg λz=>c^e.mp z,if_neg^by rw[beq_iff_eq]; omega]; rfl
theorem O8(q:e.length=m+1)(ok:(A4 e m).Ok)(o:k<m)(tm:CB t b):FP (A4 e m) t b h (d+1) kept [Eg e k]^.tup [.str "far",AO^Eg e k,Cp m k]=r_:=by
 have j:rising e:=ok.rise;have r:Eg e k∈(A4 e m).ts:=Rs.mpr #[k,jD.mpr o,rfl];show(BS (.str "far")^.str "far"&&Ua _ _ _)=r_;rw[Yz,iY,Df r,decide_eq_true (h_.mpr rfl),iY,UJ j q o]
 have g:∀i,i<e.length->Cq (Bp (A4 e m) [Eg e k]) ((e.map^Fq e k).map .int)^e.getD i ""=if i=k+1 then 10 ^ 13 else 0:=λi f=>by
  refine(Wi (N:=Bp (A4 e m) [Eg e k]) (Fq e k)^by simp only[Jx f]; exact jB _).trans ?_;unfold Fq
  by_cases c:i=k+1
  .rw[if_pos c,if_pos^(X5 j f^by lk).mpr c]
  .rw[if_neg c,if_neg λz=>c^(X5 j f^by lk).mp z]
 show(((((((e.map^Fq e k).map D.int).length:Int)==(e.length:Int))&&((e.map^Fq e k).map D.int).all JK)&&((Bp (A4 e m) [Eg e k]).ts.all λt=>decide (CG (Cq (Bp (A4 e m) [Eg e k]) ((e.map^Fq e k).map .int) t.a - Cq (Bp (A4 e m) [Eg e k]) ((e.map^Fq e k).map .int) t.b)<=t.len)))&&decide ((1+(1+(k:Int)) % 3)*t<CG (Cq (Bp (A4 e m) [Eg e k]) ((e.map^Fq e k).map .int)^e.getD 0 "" - Cq (Bp (A4 e m) [Eg e k]) ((e.map^Fq e k).map .int)^e.getD (k+1) "")*b))=r_;rw[g 0^by lk,g (k+1)^by lk,if_neg^by lk,if_pos rfl,FM,FM,beq_self_eq_true]
 have s:((e.map^Fq e k).map D.int).all JK=r_:=jH.mpr λd p=>by
  rw[i_]at p;let#[x, _,rfl]:=Rs.mp p;refine decide_eq_true ?_;show 0<=Fq e k x;unfold Fq
  split <;>decide
 have v:((Bp (A4 e m) [Eg e k]).ts.all λt=>decide (CG (Cq (Bp (A4 e m) [Eg e k]) ((e.map^Fq e k).map .int) t.a - Cq (Bp (A4 e m) [Eg e k]) ((e.map^Fq e k).map .int) t.b)<=t.len))=r_:=jH.mpr λu l=>by
  let#[ l,n]:=jt.mp l;have n:u∉[Eg e k]:=of_decide_eq_true n;let#[i, f,rfl]:=Rs.mp l;have f:=jD.mp f;have w:i≠k:=λz=>n (by rw[z]; exact h_.mpr rfl);refine decide_eq_true ?_;show CG (Cq _ _^e.getD 0 "" - Cq _ _^e.getD (i+1) "")<=1+(1+(i:Int)) % 3;rw[g 0^by lk,g (i+1)^by lk,if_neg^by lk,if_neg^by lk];show(0:Int)<=_;lk
 simp only[s,v];refine decide_eq_true ?_;rw[show CG (0 - 10 ^ 13)=10 ^ 13 by cbv];let#[ y,_,_,A]:=tm;have B:(1+(1+(k:Int)) % 3)*t<=3*t:=kZ (by lk) (by lk);lk
theorem KH(g:f.length=m+1)(ok:(A4 f m).Ok)(tm:CB t b):∀(k d c:Nat) (a:t_ AZ),k<=m->(∀i,i<k->Eg f i∉a)->c=a.length+k->FP (A4 f m) t b c d a []^DJ f m k=decide (k+1<=d)
 | 0,d,c,a,_,_,e=>by
  cases d with
  |zero=>rfl
  |succ d=>
   show(BS (.str "enough")^.str "enough"&&decide (c<=a.length))=_;rw[Y0,decide_eq_true^by lk,decide_eq_true^by lk];rfl
 | k+1,d,c,a,l,h,e=>by
  have j:Eg f k∈(A4 f m).ts:=Rs.mpr #[k,jD.mpr^by lk,rfl];cases d with
  |zero=>rfl
  | succ d=>
   show FP _ t b c (d+1) a []^eP (Eg f k) (DJ f m k) _=_;rw[M7 j (h k^by lk) iC,KH g ok tm k d c (a++[Eg f k]) (by lk) (λi n z=>?_)^by simp only[ZB,iB]; lk]
   .cases d with
    |zero=>rfl
    |succ d=>
     rw[iD,O8 g ok (by lk) tm,lU];exact decide_eq_decide.mpr^by lk
   .rcases iH.mp z with z|z
    .exact h i (by lk) z
    .have:(Eg f i).b=(Eg f k).b:=by rw[h_.mp z]
     have:=(X5 ok.rise (show i+1<f.length by lk) (show k+1<f.length by lk)).mp this
     lk
theorem IW:∀k j:Nat,EV j^DJ xs m k<=2*k+1
 |0,j=>by cases j <;>exact Re _
 | k+1,j=>by
  cases j with
  |zero=>show 1<=_; lk
  |succ j=>
   have:=IW (xs:=xs) (m:=m) k j
   have a:EV j^.tup [.str "far",AO^Eg xs k,Cp m k]=1:=by cases j <;>rfl
   show 1+EV j^DJ xs m k+EV j^.tup [.str "far",AO^Eg xs k,Cp m k]<=_;lk
theorem KI(l:a.length=m+1)(n:m<=16)(ok:(A4 a m).Ok):∀k:Nat,k<=m->qh (10 ^ 30+2)^DJ a m k/\Bz^DJ a m k<=10+5000*k/\Br^DJ a m k<=k+2
 |0,_=>#[#[(show ∀c∈cs "enough",c<1114112 by decide +kernel),trivial],by show("enough":Str).length+1+0<=_; rw[show("enough":Str).length=6 by decide +kernel]; decide,by show 0+1<=_; lk]
 | k+1,r=>by
  let#[ o,s,t]:=KI l n ok k (by lk);have e:=Cf ok _^Rs.mpr #[Eg a k,Rs.mpr #[k,jD.mpr^by lk,rfl],rfl]
  have h:∀y∈(CJ 0 (m+1)).map^eS ((k:Int)+1),qh (10 ^ 30+2) y/\Bz y+1<=201/\Br y<=0:=λy b=>by
   let#[d, p,rfl]:=Rs.mp b;let#[j, _,rfl]:=Eo p;refine#[?_,by show 200+1<=201; decide,XV _];show(10 ^ (13:Int).toNat*(if((0+(j:Int))==(k:Int)+1)=r_ then 1 else 0):Int).natAbs<=_
   split <;>decide
  have q:qh (10 ^ 30+2)^Cp m k:=DP λy b=>(h y b).1;have f:=EJ λy b=>(h y b).2.1;have g:=qg (k:=0).mpr λy b=>(h y b).2.2;simp only[FM,Bj]at f;have f:Bz^Cp m k<=201*(m+1):=f;have g:Br^Cp m k<=1:=jZ g;have i:=e.1.mono (show 1000001<=10 ^ 30+2 by cbv);have u:=e.2.1;have v:=e.2.2;exists#[(show ∀c∈cs "split",c<1114112 by decide +kernel),i,o,#[(show ∀c∈cs "far",c<1114112 by decide +kernel),i,q,trivial],trivial],?_
  .show("split":Str).length+1+(Bz^AO^Eg a k+1+(Bz^DJ a m k+1+((("far":Str).length+1+(Bz^AO^Eg a k+1+(Bz^Cp m k+1+0)))+1+0)))<=_
   rw[show("split":Str).length=5 by decide +kernel,show("far":Str).length=3 by decide +kernel];lk
  .show max 0^max (Br^AO^Eg a k)^max (Br^DJ a m k)^max (max 0^max (Br^AO^Eg a k)^max (Br^Cp m k) 0+1) 0+1<=_
   lk
def ZV:Ab:=(DU (F4^A8^A0 Jh^AL (AT^AJ 3)^AL (AT^AJ 4)^AL (AT^AJ 14)^AL (AT^A0 Jl^AL (AT^AJ 3)^AL (AT^AJ 4)^AL (AT^AJ 14) A3) A3) (CT^wC^D.bl s_) CA)
def O3:Ab:=(BO (J7 9^BE Yx (MQ 9)^D8 [P3 1,P3 8,q_] (Pj^AK (wC^D.int 8) Ad) (A5 2) Gj^A0 (MH 10)^AL (CU 0)^AL (AT^AJ 1) A3)
 (YM 9 (A5 14) ZV))
def Uj:Ab:=(BO (CS 13^eK (A8^BE (XW r_) (AJ 11)^AJ 7) (Hu VD^AK (BE CD (AJ 7)^DF^AK (AJ 11) Ad) Ad)^AJ 7)
 (bX 9 "list" XX^AK (Bt^AK (Bt^AK (BE D7 (AJ 3)^wC^D.int 0)^AK (Hu FJ^AK (AJ 13) Ad) Ad)^AK (A0 IM^AL (AT^AJ 3)^AL (AT^AJ 13) A3)^AK (BE D7 (AJ 8)^wC^D.int 2) Ad) Ad))
def Uk:Ab:=(BO (MR (EH^BE D7 (AJ 3)^wC^D.int 1) (A5 11) Uj)
 O3)
def Oz:Ab:=(BO (CS 12^A0 (MF 7)^AL (CU 1)^AL (AT^AJ 10)^AL (AT^DF^AK (AJ 11) Ad)^AL (AT^DF Ad)^AL (AT^D8 [P3 11,q_] (EH^BE D7 (AJ 3)^wC^D.int 1) (A5 1) (A8^BE SE (AJ 1)^AJ 0)^AJ 1) A3)
 (bX 9 "list" XX^AK (BE CD (OG E4 (AJ 8) Ba^C3^wC^D.int 2)^Bt^AK (Bt^AK (wC^D.str "split")^AK (AJ 11)^AK (AJ 12)^AK (Bt^AK (wC^D.str "far")^AK (AJ 11)^AK (A0 Q0^AL (AT^AJ 3)^AL (AT^DF Ad)^AL (AT^AJ 11) A3) Ad) Ad) Ad) Ad))
def TB:Ab:=(BO (CS 10^S3 3 4 5 "net" "times" "many")
 (BO (MR (EH^OG E4 (BE D7 (AJ 3)^wC^D.int 1) Ba^C3^wC^D.int 2) (A5 11) Oz)
 Uk))
def PQ:Ab:=(BO (J7 9^BE Yx (MQ 9)^DF^AK (BE CD (OG E4 (AJ 8) Ba^C3^wC^D.int 2)^Bt^AK (A0 MG^AL (CU 1)^AL (AT^AJ 3)^AL (AT^AJ 4)^AL (AT^Hu VE^AK (wC^D.int 0)^AK (BE HU (AJ 5)^wC^D.int 1) Ad) A3) Ad)^AK (Hu JP^AK (AJ 8) Ad)^AK (OG E4 (AJ 8) Ba^C3^wC^D.int 2)^AK (wC D.non) Ad)
 TB)
def L9:Ab:=(BO (J7 9^DF^AK (BE CD (OG E4 (AJ 8) Ba^C3^wC^D.int 2)^Bt^AK (Bt^AK (DF Ad) Ad) Ad)^AK (BE CD (OG E4 (AJ 8) Ba^C3^wC^D.int 2)^Bt^AK (Bt^AK (DF^AK (wC^D.str "far") Ad)^AK (wC^D.int 0)^AK (wC^D.int 0) Ad) Ad)^AK (Bt^AK (DF Ad)^AK (DF Ad)^AK (DF Ad) Ad)^AK (Bt^AK (AJ 8)^AK (BE D7 (AJ 8)^wC^D.int 1)^AK (BE D7 (AJ 8)^wC^D.int 2) Ad) Ad)
 PQ)
def TK:Ab:=(BO (DU (F4^A8^A0 Jh^AL (AT^AJ 3)^AL (AT^AJ 4)^AL (AT^AJ 8)^AL (AT^wC^D.bl r_) A3) (CT^wC^D.bl s_) CA)
 L9)
def OS:Ab:=(BO (CS 6^D8 [P3 3,P3 4,q_] (EH^A0 Fy^AL (AT^Hu JP^AK (BE D7 (AJ 3)^wC^D.int 1) Ad)^AL (AT^AJ 5) A3) (A5 2) (A8^A0 Jk^AL (AT^AJ 0)^AL (AT^AJ 1)^AL (AT^AJ 2) A3)^AJ 2)
 (BO (CS 7^BE D7 (AJ 6)^A0 Ji^AL (CU 1)^AL (AT^Hu Nb^AK (AJ 6) Ad) A3)
 (BO (CS 8^Bt^AK (Bt^AK (BE D7 (AJ 3)^wC^D.int 0)^AK (Hu FJ^AK (AJ 7) Ad) Ad)^AK (A0 IM^AL (AT^AJ 3)^AL (AT^AJ 7) A3)^AK (A0 MG^AL (CU 1)^AL (AT^AJ 3)^AL (AT^AJ 4)^AL (AT^AJ 5) A3) Ad)
 TK)))
def TD:Ab:=(BO (CS 3^A0 Y7^AL (CU 1)^AL (AT^wC^D.int 5)^AL (AT^wC^D.int 5) A3)
 (BO (CS 4^A0 OA^AL (CU 1) A3)
 (BO (CS 5^A0 OB^AL (AT^AJ 3)^AL (AT^AJ 4) A3)
 OS)))
def K1:Ab:=(BO (DU (F4^A8^A0 V0^AL (CU 1) A3) (CT^wC^D.bl s_) CA)
 (BO (MR (Pj^AK (wC^D.int 2) Ad) (A5 2) TD)
 (CT^wC^D.bl r_)))
abbrev Ek(N:Net)(t b:Int)(L:Nat)(g h i j k a c d e f:Slot):t_ Slot:=[.no,.fd,g,.sh^Bl N,.sh^Bg t b,.sh^.int (L:Int),h,i,j,k,a,c,d,e,f]
def vD(d p c:D):Prop:=(qh (10 ^ 30) d/\Bz d<=6000/\Br d<=3)/\(qh (10 ^ 30) p/\Bz p<=400/\Br p<=2)/\qh (10 ^ 30) c/\Bz c<=100000/\Br c<=10
theorem vD.gd(h:vD d p c):vG^.tup [d,p,c]:=by
 let#[ #[ a,f,g],#[ b,i,j],e,k,l]:=h;exists#[a.mono^by cbv,b.mono^by cbv,e.mono^by cbv,trivial],?_
 .show Bz d+1+(Bz p+1+(Bz c+1+0))<=150000
  lk
 .show max (Br d)^max (Br p)^max (Br c) 0+1<=11
  lk
theorem Px(b:okN N)(l:N.ps.length<=5)(m:N.ts.length<=5)(h:thn N r):qh (10 ^ 30)^Bl #[N.ps,r]/\Bz^Bl #[N.ps,r]<=6000/\Br^Bl #[N.ps,r]<=3:=by
 have ok:=b.1;have c:=(h.okN b).1;have i:=j8 (λt=>decide (t∈r)) N.ts;rw[Fc ok h]at i;have e:=IB ok;have f:=Cf (N:=#[N.ps,r]) c;have j:=EJ λd a=>jZ (e d a).2.1;have g:=EJ λd a=>jZ (f d a).2.1;simp only[FM]at j g;have n:=qg.mpr λd a=>(e d a).2.2;have k:=qg.mpr λd a=>(f d a).2.2;exists#[qv.mpr λd a=>(e d a).1.mono^by cbv,qv.mpr λd a=>(f d a).1.mono^by cbv,trivial],?_
 .show CO^N.ps.map D.str+1+(CO^r.map AO+1+0)<=_
  have:CO^r.map AO<=_:=g
  have:(#[N.ps,r]:Net).ts.length=r.length:=rfl
  lk
 .show max (ES^N.ps.map D.str+1)^max (ES^r.map AO+1) 0+1<=3
  have:ES^r.map AO<=1:=k
  lk
theorem J6(ok:N.Ok)(l:N.ps.length<=5)(m:b.length<=5)(h:O4 N b):qh (10 ^ 30)^.tup b/\Bz^.tup b<=400/\Br^.tup b<=2:=by
 have one:∀d∈b,qh (10 ^ 30) d/\Bz d+1<=46/\Br d<=1:=λd i=>by
  let#[w, rfl,o,e]:=h d i
  have f:∀y∈w.map D.str,qh (10 ^ 30) y/\Bz y+1<=9/\Br y<=0:=λy a=>by
   let#[x, j,rfl]:=Rs.mp a;have n:=ok.names x^e x j;exact#[λc k=>by have:=n.2.2 c k; lk,jZ n.2.1,Re _]
  have z:=EJ λy a=>(f y a).2.1;rw[FM]at z;have g:=qg.mpr λy a=>(f y a).2.2;exact#[qv.mpr λy a=>(f y a).1,by show CO^w.map D.str+1<=46; lk,jZ g]
 have z:=EJ λy a=>(one y a).2.1;have g:=qg.mpr λy a=>(one y a).2.2;exact#[qv.mpr λy a=>(one y a).1,by show CO b<=400; lk,jZ g]
theorem Pz(c:okN N)(r:N.ps.length<=5)(tm:CB t b):∀(l:t_ D) (a:Slot),(∀x∈l,vG x)->(∀a,D2.nx n^Ek N t b L i j k m o d e f g a)->
  Bc (A5 14) ZV D2 l n (Ek N t b L i j k m o d e f g a)
 |[],a,_,h=>h a
 |x::l,a,p,h=>by
  have q:=p x Sc;unfold ZV;refine#[N,t,b,x,rfl,c,tm,q,λv s=>#[N,t,b,x,v,rfl,c,by lk,tm,q.pt,s,?_]];exact Pz c r tm l _ (λy u=>p y^TM _ u) h
theorem RI(q:okN N)(F:N.ps.length<=5)(G:CB t b)(H:qh (10 ^ 30) R)(Y:Bz R<=60000)(I:Br R<=10)(J:∀x∈l,vG x)(K:l.length<=60)(Z:300<=n)
  (h:∀C M c,n - 300<=C->D2.nx C^Ek N t b L w A B (.sh R) M i j o p c):
  O3 D2 n (Ek N t b L w A B (.sh R) (.ow^.lst l) i j o p c):=by
 have O:=PySem.sizeLine_eq
 have Q:∀(k:t_ D) (e:t_ D) (m:Nat) (s:Slot) (P:t_ D->Nat->Prop),33*k.length<=m->(∀f g,f.length=k.length->(∀y∈f,vG y)->m - 33*k.length<=g->P (e++f) g)->
   Di (A5 2) Gj (A0 (MH 10)^AL (CU 0)^AL (AT^AJ 1) A3) P k e m [.fd,.sh R,s]:=by
  intro k
  induction k with
  |nil=>
   intro e m s P _ h
   have:=h [] m rfl (λ_ z=>absurd z iC) (Nat.sub_le _ _)
   rw[im]at this;exact this
  |cons d k S=>
   intro e m s P T h;simp only[UF]at T h;refine#[R,10 ^ 30,rfl,H,Re _,by cbv,by lk,I,by lk,λy n1 U V=>?_];let#[ W,y2,y3]:=U;refine S _ _ _ P (by lk) λf g r u E=>?_;rw[i7];refine h (y::f) g (by simp only[UF,r]) (λz v=>?_)^by lk
   rcases TW.mp v with rfl|v
   .exact#[W.mono^by cbv,by lk,by lk]
   .exact u z v
 unfold O3;refine#[8,rfl,by cbv,by cbv,?_];refine Q (CJ 0 8) [] n _ _ (by rw[Bj]; lk) λf g r u E=>?_;simp only[Bj]at r E;simp only[iD];refine#[by lk,_,rfl,λa=>?_];exact Pz (D2:={D2 with nx:=_}) q F G _ _ (λx X=>(iH.mp X).elim (J x)^u x) λc=>#[rfl,h g _ c^by lk]
theorem OM{N:Net}(ok:N.Ok)(h:∀v∈a,v∈N.ts)(nd:a.Nodup)(c:Je a):a.Pairwise BJ:=by
 refine Vm c^ke.mpr^mo (λ{s t} d f b e=>b ?_) nd;injection e with g i
 exact Gs ok.zq s (h s d) t (h t f) g i
theorem Uv(c:∀u∈S,u∈a)(h:Jn N t b S):Jn N t b a:=λu e=>by
 let#[d, f,g]:=h u e;exact#[d,Wk.mono c f,g]
theorem Tw(o:okN N)(U:N.ps.length<=5)(ht:N.ts.length<=5)(tm:CB t b)(F:S.Sublist N.ts)(hK:Jn N t b S)(hB:vD w A k)(hc:Bz k<=50000/\Br k<=9)(H:∀x∈l,vG x)(p:l.length<=20)(hn:300<=n)
  (h:∀Q V a f i,n - 300<=Q->T.nx Q^Ek N t b L O P (.sh^B0 S) (.sh^.tup [w,A,k]) V q a r f i):
  Uk T n (Ek N t b L O P (.sh^B0 S) (.sh^.tup [w,A,k]) (.ow^.lst l) q a r f i):=by
 have ok:=o.1;have a6:=PySem.sizeLine_eq;have W:(#[N.ps,S]:Net).Ok:=LD ok F;have l5:=F.length_le;unfold Uk;exists _,AD (j:=1) rfl;refine B2 (all:=N.ts.map AO) (λC m X=>m=n/\∃(l:t_ D) (a f:Slot),(∀x∈l,vG x)/\l.length<=20+C.length/\X=Ek N t b L O P (.sh^B0 S) (.sh^.tup [w,A,k]) (.ow^.lst l) q a r f i) ?_ ?_ _ [] _ _ rfl #[rfl,l,_,_,H,p,rfl]
 .rintro m X ⟨rfl,l,a,f,H,p,rfl⟩
  rw[FM]at p;let#[ #[ a1,a2,a3],#[ b1,b2,b3],c1,c2,c3]:=hB;refine RI (R:=.tup [w,A,k]) o U tm #[a1,b1,c1,trivial] ?_ ?_ H (by lk) hn λQ V i Y=>h Q V a f i Y
  .show Bz w+1+(Bz A+1+(Bz k+1+0))<=60000
   lk
  .show max (Br w)^max (Br A)^max (Br k) 0+1<=10
   lk
 .rintro C d a4 m X nx B ⟨rfl,l,a,f,H,p,rfl⟩ I
  have hd:d∈N.ts.map AO:=by rw[B]; simp
  let#[u, hu,rfl]:=Rs.mp hd
  have a5:C.length<5:=by
   have:=congrArg li B
   simp only[FM,ZB,UF]at this;lk
  rw[ZB,iB]at I
  have J:∀(s:t_ AZ) (a:Slot),thn N s->Jn N t b s->
    (bX 9 "list" XX^AK (Bt^AK (Bt^AK (BE D7 (AJ 3)^wC^D.int 0)^AK (Hu FJ^AK (AJ 13) Ad) Ad)^AK (A0 IM^AL (AT^AJ 3)^AL (AT^AJ 13) A3)^AK (BE D7 (AJ 8)^wC^D.int 2) Ad) Ad) {T with nx:=nx} m (Ek N t b L O P (.sh^B0 S) (.sh^.tup [w,A,k]) (.ow^.lst l) q a r (.sh^B0 s) i):=λs a G h2=>by
   refine#[_,rfl,rfl,_,AD (j:=0) rfl,z2,N,s,t,b,rfl,o,by lk,by lk,G,h2,tm.1,λds e1 e2 e3=>?_];have gx:vG^.tup [Bl #[N.ps,s],.tup ds,k]:=vD.gd #[Px o U ht G,J6 ok U (by lk) e2,hB.2.2];refine#[_,AD (j:=2) rfl,z3,_,_,rfl,rfl,by lk,I _ _ #[rfl,_,_,_,λx E=>(iH.mp E).elim (H x) λz=>by simp only[h_.mp z]; exact gx,by simp only[ZB,iB]; lk,rfl]]
  unfold Uj;exists Bi ok hu,(Cy W λx h=>h).2,_,rfl;show if(!((S.map AO).any λy=>BS y^AO u))=r_ then _ else _
  simp only[B3]
  by_cases c:u∈S
  .rw[decide_eq_true c]
   exact As^J S _ #[λv K=>F.subset K,ok.zq.sublist F] hK
  .rw[decide_eq_false c]
   have nd:(S++[u]).Nodup:=by
    rw[jh];refine#[(CK ok.zq).sublist F,iV.mpr #[iC,jI],λx E y Z e=>c ?_];simp only[←h_.mp Z,←e];exact E
   refine Ar #[z1,by simp only[FM,iB]; lk,_,_,rfl,rfl,by simp only[ZB,FM,iB]; lk,?_];rw[show S.map AO++[AO u]=(S++[u]).map AO by simp only[ij]; rfl];refine#[#[λx E=>?_,λx E y Z ka kb ea eb=>?_],λa7 a0 ho=>?_]
   .let#[t,_,rfl]:=Rs.mp E
    exact#[Ds t,rfl,mM _ _]
   .let#[t,_,rfl]:=Rs.mp E
    let#[u, _,rfl]:=Rs.mp Z;cases(show P3^Ds t=P3 ka from ea);cases(show P3^Ds u=P3 kb from eb);rfl
   .let#[s,G,rfl]:=S7 (g:=ag) (λ_=>rfl) a0
    have M:∀v∈s,v∈N.ts:=λv K=>(iH.mp^G.mem_iff.mp K).elim (λz=>F.subset z) λz=>by simp only[h_.mp z]; exact hu
    exact J s _ #[M,OM ok M (G.nodup_iff.mpr nd)^QG ho]^Uv (λv K=>G.mem_iff.mpr^jA _ K) hK
theorem Lb:∀(c:Ca) (e a:t_ AZ) (k:Nat),c.dep<=k->Wy N t b f e a c=r_->FP N t b f k e a c.D=r_
 |.en,e,a,k+1,_,h=>by
  show(BS (.str "enough")^.str "enough"&&decide (f<=e.length))=r_;rw[Y0];exact h
 |.fa u p,e,a,k+1,_,h=>by
  have h:(decide (u∈N.ts)&&decide (u∈a)&&Na N t b a u p)=r_:=h;simp only[iE,iE]at h;show(BS (.str "far")^.str "far"&&Ua _ _ _)=r_;rw[Yz,iY,Df^of_decide_eq_true h.1.1,h.1.2,iY];exact h.2
 |.sp u c d,e,a,k+1,g,h=>by
  have h:(decide (u∈N.ts)&&decide (u∉e)&&decide (u∉a)&&Wy N t b f (e++[u]) a c&&Wy N t b f e (a++[u]) d)=r_:=h;simp only[iE,decide_eq_true_eq]at h;let#[ #[ #[ #[ i,j],l],m],n]:=h;have g:1+max c.dep d.dep<=k+1:=g;show FP N t b f (k+1) e a^eP u c.D d.D=r_;rw[M7 i j l,Lb c _ _ k (by lk) m,Lb d _ _ k (by lk) n];rfl
 |.en,_,_,0,h,_=>by cases h
 |.fa _ _,_,_,0,h,_=>by cases h
 |.sp _ c d,_,_,0,h,_=>by have h:1+max c.dep d.dep<=0:=h; lk
theorem L8(ok:N.Ok)(a:N.ps.length<=5)(h:Ny N c)(d:c.dep<=9)(e:c.cnt<=130):qh (10 ^ 30) c.D/\Bz c.D<=100000/\Br c.D<=10:=by
 let#[ b,f]:=IL ok c h
 have:=Gc ok a c h
 exact#[b.mono^by cbv,by lk,by lk]
theorem Tu(i:okN N)(M:N.ps.length<=5)(T:N.ts.length<=5)(tm:CB t b)(U:S.Sublist N.ts)(V:Jn N t b S)(F:vD w y v)(W:Bz v<=50000/\Br v<=9)(A:∀x∈l,vG x)(p:l.length<=10)(hn:3000<=n)
  (h:∀E O q c e f g,n - 3000<=E->D2.nx E^Ek N t b L G H (.sh^B0 S) (.sh^.tup [w,y,v]) O q c e f g):
  TB D2 n (Ek N t b L G H (.sh^B0 S) (.sh^.tup [w,y,v]) (.ow^.lst l) q c e f g):=by
 have ok:=i.1;have X:=PySem.sizeLine_eq;have Y:=CK ok.zq;unfold TB;exists _,_,_,rfl,rfl,rfl;exists _,AD (j:=1) rfl
 have B:Dp.cutD (N.ts.map AO) q_^P3 2=(N.ts.take 2).map AO:=by
  have:=Vc (N.ts.map AO) 2
  rw[FM]at this;simp only[List.map_take];refine this.trans ?_
  rcases N.ts with _|⟨a,_|⟨b,r⟩⟩ <;>first|rfl|(congr 1; simp only[UF]; omega)
 show Bc (A5 11) Oz _ (Dp.cutD (N.ts.map AO) q_^P3 2) _ _;rw[B];refine B2 (all:=(N.ts.take 2).map AO) (λk m I=>n - 1300*k.length<=m/\∃(l:t_ D) (c e:Slot),(∀x∈l,vG x)/\l.length<=10+k.length/\I=Ek N t b L G H (.sh^B0 S) (.sh^.tup [w,y,v]) (.ow^.lst l) (.sh^WH N t b L) c e f g) ?_ ?_ _ [] _ _ rfl #[Nat.sub_le _ _,l,_,_,A,p,rfl]
 .rintro m I ⟨Z,l,c,e,A,p,rfl⟩
  have e2:((N.ts.take 2).map AO).length<=2:=by simp only[FM,jo]; lk
  exact Tw i M T tm U V F W A (by lk) (by lk) λE O c f g a0=>h E _ _ _ _ _ _^by lk
 .rintro k d P m I nx o ⟨Z,l,c,e,A,p,rfl⟩ C
  have hd:d∈(N.ts.take 2).map AO:=by rw[o]; simp
  let#[u, s,rfl]:=Rs.mp hd;have s:=lG s
  have Q:k.length<2:=by
   have:=congrArg li o
   simp only[FM,jo,ZB,UF]at this;lk
  rw[ZB,iB]at C;have R:=NF Y s;have pl:=R.length_eq;simp only[UF]at pl;have b4:Jm 4=1240:=by cbv
  have bd:Jm (Ho N.ts u).length<=1240/\2 ^ ((Ho N.ts u).length+1)<=32:=by
   have:=lH (show 0<2 by cbv) (show(Ho N.ts u).length+1<=5 by lk)
   simp only[←b4];unfold Jm;exact#[by lk,by omega]
  unfold Oz;refine#[z1,z0,_,AD (j:=1) rfl,by show(N.ts.map AO).length<=10000000; rw[FM]; lk,Ue ok (λ_ z=>z) s ?_];refine#[N,t,b,L,[u],[],Ho N.ts u,rfl,i,tm,by lk,R,by lk,by lk,λc1 n1 m1 o1 a1=>?_];let#[ f1,f2]:=m1.dep;refine#[_,rfl,rfl,z0,N,[],u,rfl,i,LD ok^List.nil_sublist _,s,λp1 J=>#[z3,(by cbv:4<=sizeLine),z1,?_]];have gx:vG^.tup [w,y,(Ca.sp u c1^.fa u p1).D]:=vD.gd #[F.1,F.2.1,L8 ok M #[s,o1,s,J] (by show 1+max _ 1<=_; lk)^by show 1+_+1<=_; lk];refine#[(by cbv:3<=sizeLine),_,_,rfl,rfl,by lk,C _ _ #[by lk,_,_,_,λx hx=>(iH.mp hx).elim (A x) λz=>by simp only[h_.mp z]; exact gx,by simp only[ZB,iB]; lk,rfl]]
theorem RJ(m:okN N)(v:N.ps.length<=5)(B:N.ts.length<=5)(tm:CB t b)(C:S.Sublist N.ts)(E:Jn N t b S)(q:vD d e p)(F:Bz p<=50000/\Br p<=9)(G:∀x∈l,vG x)(H:l.length<=4)(U:8100<=n)
  (h:∀r A f g i j k,n - 8100<=r->u.nx r^Ek N t b L w y (.sh^B0 S) (.sh^.tup [d,e,p]) A f g i j k):
  PQ u n (Ek N t b L w y (.sh^B0 S) (.sh^.tup [d,e,p]) (.ow^.lst l) f g i j k):=by
 have ok:=m.1;have I:=PySem.sizeLine_eq;have V:Jm 6=5080:=by cbv
 obtain⟨a,o⟩:∃a:Nat,(if(0:Int)<(L:Int) - 1 then(L:Int) - 1 else 0)=(a:Int):=#[(if(0:Int)<(L:Int) - 1 then(L:Int) - 1 else 0).toNat,by split <;>lk];unfold PQ;refine#[N,t,b,a,congrArg (λz=>[Slot.fd,.sh^Bl N,.sh^Bg t b,.sh^.int z]) o,m,tm,by lk,by lk,λc W J K M=>?_];let#[ X,Y]:=J.dep;have Z:=lH (show 0<2 by cbv) (show N.ts.length+1<=6 by lk);have O:vG^.tup [d,e,c.D]:=vD.gd #[q.1,q.2.1,L8 ok v K (by lk)^by lk];have s:=q.gd;refine#[z1,(by cbv:3<=sizeLine),(by cbv:4<=sizeLine),by show l.length+4<=sizeLine; lk,?_];refine Tu m v B tm C E q F (λx P=>(iH.mp P).elim (G x) λz=>?_) (by rw[ZB]; show l.length+4<=10; lk) (by lk) λr A f g i j k Q=>h r _ _ _ _ _ _ (by lk);have z:x∈[.tup [d,e,c.D],.lst [d,e,p],.tup [d,e],.non]:=z;simp only[TW,iC,or_false]at z
 rcases z with rfl|rfl|rfl|rfl
 .exact O
 .exact#[s.1,s.2.1,s.2.2]
 .let#[#[R,a2,a3],#[T,b2,b3],_]:=q
  exists#[R.mono^by cbv,T.mono^by cbv,trivial],?_
  .show Bz d+1+(Bz e+1+0)<=150000
   lk
  .show max (Br d)^max (Br e) 0+1<=11
   lk
 .exact#[trivial,XV _,XV _]
theorem OX(q:okN N)(C:N.ps.length<=5)(E:N.ts.length<=5)(tm:CB t b)(F:S.Sublist N.ts)(G:Jn N t b S)(m:vD e a d)(H:Bz d<=50000/\Br d<=9)(I:8100<=n)
  (h:∀y r f g i k l,n - 8100<=y->u.nx y^Ek N t b L v w (.sh^B0 S) (.sh^.tup [e,a,d]) r f g i k l):
  L9 u n (Ek N t b L v w (.sh^B0 S) (.sh^.tup [e,a,d]) r f g i k l):=by
 have A:3<=sizeLine:=by cbv
 unfold L9;exists z0,z1,z1,A,z1,z3,z1,A,z0,z0,z0,z3,_,AD (j:=1) rfl,_,AD (j:=2) rfl,z3,(by cbv:4<=sizeLine);refine RJ q C E tm F G m H (λx z=>?_) (show([_,_,_,_]:t_ D).length<=4 from Re 4) I h;have z:x∈[.tup [e,a,.tup [.lst []]],.tup [e,a,.tup [.lst [.str "far"],.int 0,.int 0]],.tup [.lst [],.lst [],.lst []],.tup [.tup [e,a,d],a,d]]:=z;simp only[TW,iC,or_false]at z;have fa:(∀c∈cs ("far":Str),c<1114112)/\("far":Str).length<=9:=by decide +kernel
 have B:(0:Int).natAbs<=10 ^ 30:=XV _
 rcases z with rfl|rfl|rfl|rfl
 .exact vD.gd #[m.1,m.2.1,#[trivial,trivial],by show 0+1+0<=100000; decide,by show max (0+1) 0+1<=10; decide]
 .exact vD.gd #[m.1,m.2.1,#[#[fa.1,trivial],B,B,trivial],by have:=fa.2; show(("far":Str).length+1+0)+1+(200+1+(200+1+0))<=100000; lk,by show max (max 0 0+1)^max 0^max 0 0+1<=10; decide]
 .exact#[#[trivial,trivial,trivial,trivial],by show 0+1+(0+1+(0+1+0))<=150000; decide,by show max (0+1)^max (0+1)^max (0+1) 0+1<=11; decide]
 .let#[#[s,J,K],#[o,M,O],p,P,Q]:=m
  have s:=s.mono (show 10 ^ 30<=10 ^ 30+2 by cbv);have o:=o.mono (show 10 ^ 30<=10 ^ 30+2 by cbv);have p:=p.mono (show 10 ^ 30<=10 ^ 30+2 by cbv);exists#[#[s,o,p,trivial],o,p,trivial],?_
  .show(Bz e+1+(Bz a+1+(Bz d+1+0)))+1+(Bz a+1+(Bz d+1+0))<=150000
   lk
  .show max (max (Br e)^max (Br a)^max (Br d) 0+1)^max (Br a)^max (Br d) 0+1<=11
   omega
theorem RH(a:okN N)(C:N.ps.length<=5)(ht:N.ts.length<=5)(tm:CB t b)(Q:b<=t)(E:gf N t b L)(hL:L<=6)(hn:13300<=n)
  (h:∀K R T U J g i l m o,n - 13300<=K->D2.nx K^Ek N t b L I R T U J g i l m o):
  OS D2 n (Ek N t b L I R T U J g i l m o):=by
 have ok:=a.1;have a1:=PySem.sizeLine_eq;have b6:Jm 6=5080:=by cbv
 have len:(rows N.ts.length L).length<=252:=Ig (by lk) (by lk);unfold OS;exists _,AD (j:=1) rfl,N.ts,L,rfl,by lk,by lk,by rw[FM]; lk
 have go:∀(u:t_^t_ Nat) (q:t_ D) (s:Slot) (P:t_ D->Nat->Prop),(∀r∈u,r∈rows N.ts.length L)->(∀e:t_^t_ AZ,e.length<=u.length->(∀S∈e,S.Sublist N.ts/\S.length=L/\Jn N t b S)->(∀r∈u,Jn N t b^pick N.ts 0 r->e≠[])->P (q++e.map B0) n)->
   Di (A5 2) (A8^A0 Jk^AL (AT^AJ 0)^AL (AT^AJ 1)^AL (AT^AJ 2) A3) (AJ 2) P (u.map λr=>B0^pick N.ts 0 r) q n [.sh^Bl N,.sh^Bg t b,s]:=by
  intro u
  induction u with
  |nil=>
   intro q s P _ h
   have:=h [] (Re _) (λ_ z=>absurd z iC) λ_ z=>absurd z iC
   simp only[pI,im]at this;exact this
  | cons r u ih=>
   intro q s P F h;have f:=(vk (ts:=N.ts) (k:=L) (S:=pick N.ts 0 r)).mp^Rs.mpr #[r,F r Sc,rfl];refine#[N,t,b,pick N.ts 0 r,rfl,a,tm,f.1,λx hx=>?_];refine CQ (λc=>?_) λc=>?_
   .refine ih _ _ P (λG w=>F G^TM _ w) λe M H O=>?_
    rw[i7];refine h (pick N.ts 0 r::e) (jZ M) (λS y=>?_) λ_ _ _=>mM _ _
    rcases TW.mp y with rfl|y
    .exact#[f.1,f.2,hx.mp c]
    .exact H S y
   .refine ih _ _ P (λG w=>F G^TM _ w) λe M H O=>h e (o0 M) H λG w hk=>?_
    rcases TW.mp w with rfl|w
    .exact absurd (hx.mpr hk) c
    .exact O G w hk
 refine go (rows N.ts.length L) [] _ _ (λ_ z=>z) λe M H O=>?_
 have V:e≠[]:=by
  let#[ #[S, s1,I,s3],_]:=E;let#[r, F,er]:=Rs.mp^vk.mpr #[s1,s3];exact O r F^by simp only[er]; exact I
 have a0:=List.length_pos_iff.mpr V;simp only[iD];refine#[_,_,rfl,rfl,_,rfl,by rw[FM]; lk,by rw[FM]; lk,by lk,λr r0 r1=>?_];let#[z,hz,S,y,rfl]:=Vp (p:=λd=>∃S∈e,d=B0 S) (xs:=e.map B0) (λd hd=>by let#[S, y,rfl]:=Rs.mp hd; exact#[S,y,rfl]) r0 r1;let#[ A,W,hK]:=H S y;have B:thn N S:=#[λv hv=>A.subset hv,ok.zq.sublist A];refine#[_,hz,_,AD (j:=0) rfl,z2,N,S,t,b,rfl,a,by lk,by lk,B,hK,tm.1,λX f1 f2 f3=>?_];refine#[N,t,b,L,rfl,a,tm,by lk,by lk,λc n2 mc Y a2=>#[z3,?_]];let#[ d1,d2]:=mc.dep;have p2:=lH (show 0<2 by cbv) (show N.ts.length+1<=6 by lk);have hB:vD (Bl #[N.ps,S]) (.tup X) c.D:=#[Px a C ht B,J6 ok C (by lk) f2,L8 ok C Y (by lk)^by lk]
 have hc:Bz c.D<=50000/\Br c.D<=9:=by
  have:=Gc ok C c Y
  have:=(IL ok c Y).2
  exact#[by lk,by lk]
 have Z:Wy N t b L [] [] c=r_:=mc.shows ok (by have:=tm.1; lk) Q E.2^oC _
 have lst:Q2 N t b^.tup [Bl #[N.ps,S],.tup X,c.D]:=#[S,.tup X,c.D,rfl,B,f3,by
  rw[Mh^by lk,W];exact Lb c [] [] 15 (by lk) Z]
 unfold TK;exists N,t,b,_,r_,rfl,a,by lk,tm,hB.gd.pt,#[λ_=>lst,λ_=>rfl];exact OX a C ht tm A hK hB hc (by lk) λK J g i l m o a3=>h K _ _ _ _ _ _ _ _ _^by lk
theorem OV:K1 {nx:=λ_ _=>False,rt:=λd _=>d=.bl r_} 60000 (.no::.fd::iN 13 .no):=by
 unfold K1;refine#[rfl,by cbv,λC q=>?_];refine As #[2,rfl,by cbv,?_];refine B2 (all:=CJ 0 2) (λh m r=>59000 - 14000*h.length<=m/\∃s u v w l n o p a c e f g,r=[.no,.fd,s,u,v,w,l,n,o,p,a,c,e,f,g]) ?_ ?_ _ [] _ _ rfl #[by show 59000 - 14000*0<=_; lk,_,_,_,_,_,_,_,_,_,_,_,_,_,rfl]
 .rintro m r ⟨_,s,u,v,w,l,n,o,p,a,c,e,f,g,rfl⟩
  rfl
 .rintro h d y m r nx i ⟨I,s,u,v,w,l,n,o,p,a,c,e,f,g,rfl⟩ j
  let#[_,z]:=F_ i;rw[ZB,iB]at j;unfold TD;refine#[5,5,rfl,by cbv,by cbv,by omega,λN C ok z D q=>?_];have k:okN N:=#[ok,by lk,by lk];refine#[rfl,by omega,λt b E A F=>?_];have B:CB t b:=#[E,by lk,by lk,F];refine#[N,t,b,rfl,k,B,A,by lk,λL x G=>?_];exact RH k z D B A x G (by omega) λJ l n o p a c e f g H=>j _ _ #[by omega,_,_,_,_,_,_,_,_,_,_,_,_,_,rfl]
end Nt
namespace K63
open L2 Dp Nt
section
variable (P:Program)(w:World)(K:Frag)(mg:Str->u_ Value)(base:Heap)
abbrev N9:Prop:=bS P w K mg base "lets_ways" 6 ["net","times","thin","paper"] .sh YG
end
theorem gP{b:t_ Str}(c:∀f:Nat->Ev,bindArgs d #[(iM n).map f,[]]=pure^b.zip^(iM n).map f)(a:t_ Ev)(h:a.length=n):bindArgs d #[a,[]]=pure^b.zip a:=by
 have e:a=(iM n).map λi=>a.getD i .none:=by
  apply nJ <;>simp_all
 rw[e];exact c _
local macro_rules|`(tactic|walk_at "L")=>`(tactic|(intro _ _ _ h; repeat (first|(obtain⟨e,_⟩:=h; subst e; rfl)|(obtain⟨_,h⟩:=h))))
local macro_rules|`(tactic|walk_at "B")=>`(tactic|(intro _ _ _ _ _ _; exact gP λ_=>rfl))
def Ht(K:Frag)(x:Str)(a:jM):Prop:=∃(f:Db) (c:Ev) (od d:u_ Db) (e:Array^u_ Ev) (kV g h b i:Ev),nsIn K mainGlobals x=P3^P3^.ref f/\K.lookup f=P3 #[c,od,.func^fnOf x x (CI a) (BG a) (AR a) .none kV g h d b i,e]/\codeIn K b x=r_/\keepIn K^.ref f=r_
def Hn(K:Frag)(x:Str):Prop:=nsIn K mainGlobals x=P3 q_
def Hi(K:Frag)(x:Str)(i:Int):Prop:=∃t,nsIn K mainGlobals x=P3^P3^.int i t
theorem Ht.mk{K:Frag}{b:jM}{od g:u_ Db}{kV i j d m:Ev}(a:nsIn K mainGlobals x=P3^P3^.ref f)(l:K.lookup f=P3 #[e,od,.func^fnOf x x (CI b) (BG b) (AR b) .none kV i j g d m,h])(c:codeIn K d x=r_)(k:keepIn K^.ref f=r_):Ht K x b:=#[f,e,od,g,h,kV,i,j,d,m,a,l,c,k]
theorem Hi.mk{K:Frag}(a:nsIn K mainGlobals x=P3^P3^.int i t):Hi K x i:=#[t,a]
theorem Hn.mk{K:Frag}(a:nsIn K mainGlobals x=P3 q_):Hn K x:=a
theorem xc_mk{K:Frag}{bs c sub a:t_ Ev}(at_:nsIn K mainGlobals i=P3^P3^.ref C)(j:nsIn K mainGlobals "ThinError"=P3^P3^.ref U)
  (o:K.lookup C=P3^excClassObj i q C N bs (.ref U::[.type "ValueError",.type "Exception",.type "BaseException",.type "object"]) r_ m sub n g p r s t v w "ValueError.__new__")
  (u:K.lookup U=P3^excClassObj "ThinError" k U l c [.type "ValueError",.type "Exception",.type "BaseException",.type "object"] f d a e b h x y z A B "ValueError.__new__")
  (D:keepIn K^.ref C=r_) (E:PySem.W.findIn K (.ref C) "__getattribute__"=P3^P3^.builtin "BaseException.__getattribute__") (F:PySem.W.findIn K (.ref C) "__getattr__"=P3 q_) (G:PySem.W.findIn K (.ref C) "__setattr__"=P3^P3^.builtin "object.__setattr__") (H:PySem.W.findIn K (.ref C) "__class__"=P3^P3^.builtin "object.__class__")
  (I:PySem.W.findIn K (.ref C) "word"=P3 q_) (J:PySem.W.findIn K (.ref C) "number"=P3 q_) (L:PySem.W.findIn K (.ref C) "row"=P3 q_):XC K i C U:=
 #[#[q,N,bs,m,sub,n,g,p,r,s,t,v,w,o],#[k,l,c,d,a,e,b,h,x,y,z,A,B,f,u],D,E,F,G,at_,j,H,I,J,L]
def Hx(K:Frag)(a:Str):Prop:=∃C U,XC K a C U
def H2(K:Frag)(d a:Str)(b:jM):Prop:=∃C U,XC K d C U/\∃(f:Db) (e:Ev) (od g:u_ Db) (h:Array^u_ Ev) (kV i j c k:Ev),PySem.W.findIn K (.ref C) "__init__"=P3^P3^.ref f/\PySem.W.typeIn K^.ref f=P3^.type "function"/\K.lookup f=P3 #[e,od,.func^fnOf "__init__" a (CI b) (BG b) (AR b) .none kV i j g c k,h]/\codeIn K c a=r_/\keepIn K^.ref f=r_
theorem H2.mk{K:Frag}{b:jM}{od h:u_ Db}{kV m n d o:Ev}(c:XC K e C U)(i:PySem.W.findIn K (.ref C) "__init__"=P3^P3^.ref f)(ty:PySem.W.typeIn K^.ref f=P3^.type "function")
  (l:K.lookup f=P3 #[g,od,.func^fnOf "__init__" a (CI b) (BG b) (AR b) .none kV m n h d o,j]) (p:codeIn K d a=r_) (k:keepIn K^.ref f=r_):H2 K e a b:=#[C,U,c,f,g,od,h,j,kV,m,n,d,o,i,ty,l,p,k]
structure C0 (K:Frag) (mg:Str->Option Ev) (h:iG):Prop where
 X:K.In h
 G:h.Ns mainGlobals mg
 h00:Ht K "is_whole" (top 4)
 h01:Ht K "is_tuple_of" (top 5)
 h02:Ht K "is_rising" (top 6)
 h03:Ht K "rank_of" (top 7)
 h04:Ht K "order_of" (top 8)
 h05:Ht K "steps_of" Fg
 h06:Ht K "only" (top 10)
 h07:Ht K "is_tie_of" (top 11)
 h08:Ht K "is_thin" (top 12)
 h09:Ht K "without" (top 13)
 h0a:Ht K "left_out" (top 14)
 h0b:Ht K "length_of" (top 16)
 h0c:Ht K "length_between" (top 17)
 h0d:Ht K "are_prices" (top 19)
 h0e:Ht K "price_gap" (top 20)
 h0f:Ht K "is_fair" (top 21)
 h0g:Ht K "is_within" (top 23)
 h0h:Ht K "way_fault" (top 25)
 h0i:Ht K "prices_fault" (top 26)
 h0j:Ht K "lets_ways" HE
 h0k:Ht K "shows_far" (top 31)
 h0l:Ht K "shows_by" Ib
 h0m:Ht K "count_of" Ie
 h0n:Ht K "shows" (top 34)
 h0o:Ht K "has_ways" (top 35)
 h0p:Ht K "is_least" (top 36)
 h0q:Ht K "_law_feed" Em
 h0r:Ht K "_law_next" Dd
 h0s:Ht K "_law_names" (top 40)
 h0t:Ht K "_law_places" (top 41)
 h0u:Ht K "_law_length" (top 42)
 h0v:Ht K "_law_ties" (top 43)
 h0w:Ht K "_law_net" (top 44)
 h0x:Ht K "_law_times" (top 45)
 h0y:Ht K "_law_far" Fh
 h0z:Ht K "_law_keeps" (top 47)
 h10:Ht K "_law_rank" (top 48)
 h11:Ht K "_law_order" (top 49)
 h12:Ht K "_law_choices" (top 50)
 h13:Ht K "_law_least" (top 51)
 h14:Ht K "_law_is_thin" (top 52)
 h15:Ht K "_law_long" (top 53)
 h16:Ht K "_law_ways_right" (top 54)
 h17:Ht K "_law_is_tie" (top 55)
 h18:Ht K "_law_is_far" (top 56)
 h19:Ht K "_law_shows" F8
 h1a:Ht K "_law_read_case" (top 58)
 h1b:Ht K "_law_prices" (top 59)
 h1c:Ht K "_law_far_case" (top 60)
 h1d:Ht K "_law_made" HF
 h1e:Ht K "_law_case" (top 62)
 h1f:Ht K "_law_way" (top 63)
 h1g:Ht K "_law_bent" HG
 h1h:Ht K "_law_star" (top 65)
 h1i:Ht K "_law_held" (top 66)
 h1j:Ht K "_law_ways" (top 67)
 h1k:Ht K "_law_is_right" (top 68)
 h1l:Ht K "_law_tells" (top 69)
 h1m:Ht K "_law_star_right" (top 70)
 h1n:Ht K "law" Ic
 z0:Hn K "abs"
 z1:Hn K "all"
 z2:Hn K "bool"
 z3:Hn K "dict"
 z4:Hn K "enumerate"
 z5:Hn K "int"
 z6:Hn K "isinstance"
 z7:Hn K "len"
 z8:Hn K "list"
 z9:Hn K "max"
 z10:Hn K "min"
 z11:Hn K "range"
 z12:Hn K "repr"
 z13:Hn K "sorted"
 z14:Hn K "str"
 z15:Hn K "tuple"
 z16:Hn K "zip"
 v0:Hi K "MOST_DEEP" 15
 v1:Hi K "MOST_CASES" 4000
 y0:H2 K "NoPaper" "NoPaper.__init__" CY
def Ctx(P:iP)(w:iZ)(K:Frag)(b:Str->u_ Ev)(a h:iG):Prop:=C0 K b h
abbrev Ctx.Y{P:iP}{w:iZ}{K:Frag}{b:Str->u_ Ev}{a h:iG}(A:Ctx P w K b a h)(x:Str)(k:Nat)(c:t_ Str)(d:Kd)(W:W2):Prop:=Got P w K b a x k c d W
section
variable {K:Frag}{st:Stmt}
theorem Ht.fn(X:K.In h)(G:h.Ns mainGlobals mg)(H:Ht K x st):∃f fd,mg x=P3^.ref f/\Fun K x x st f fd:=by
 let#[f,b,d,e,g,i,j,m,n,o,a,l,c,k]:=H;exact#[f,_,mg_of X G a,O6 (st:=st) l c k]
theorem Hx.xm(X:K.In h)(G:h.Ns mainGlobals mg)(H:Hx K a):∃C U,XC K a C U/\mg a=P3^.ref C:=let #[C,U,c]:=H; #[C,U,c,mg_of X G c.at_]
theorem H2.u(X:K.In h)(G:h.Ns mainGlobals mg)(H:H2 K b a st):∃U,bg K U/\mg "ThinError"=P3^.ref U/\nsIn K mainGlobals "ThinError"=P3^P3^.ref U:=let #[C,U,c,_]:=H; #[U,c.isU,mg_of X G c.atU,c.atU]
theorem H2.hx(H:H2 K b a st):Hx K b:=let #[C,U,c,_]:=H; #[C,U,c]
theorem C0.T(A:C0 K mg h):Txt K mg:=#[mg_none_of A.X A.G A.z0,mg_none_of A.X A.G A.z1,mg_none_of A.X A.G A.z2,mg_none_of A.X A.G A.z3,mg_none_of A.X A.G A.z4,mg_none_of A.X A.G A.z5,mg_none_of A.X A.G A.z6,mg_none_of A.X A.G A.z7,mg_none_of A.X A.G A.z8,mg_none_of A.X A.G A.z9,mg_none_of A.X A.G A.z10,mg_none_of A.X A.G A.z11,mg_none_of A.X A.G A.z12,mg_none_of A.X A.G A.z13,mg_none_of A.X A.G A.z14,mg_none_of A.X A.G A.z15,mg_none_of A.X A.G A.z16,(let #[t,e]:=A.v0; #[t,mg_of A.X A.G e]),(let #[t,e]:=A.v1; #[t,mg_of A.X A.G e]),A.y0.hx.xm A.X A.G,A.y0.u A.X A.G]
theorem Ctx.got(A:Ctx P w K mg base h)(H:Ht K x st)
  (ok:∀{f:Db}{fd:jG},Txt K mg->Fun K x x st f fd->mg x=P3^.ref f->Binds K fd a []->B_ P w K mg base FO k f fd a^RD K e W a.length)
  (j:∀g n P,W g n P->g.length=a.length:=by walk_at "L") (i:∀(kV b l:Ev) (o:u_ Db) (c p:Ev) (d:t_ Ev),d.length=a.length->bindArgs (fnOf x x (CI st) (BG st) (AR st) .none kV b l o c p) #[d,[]]=pure^a.zip d:=by walk_at "B"):Got P w K mg base x k a e W:=by
 let#[f,fd, m,F]:=H.fn A.X A.G;exact#[f,fd,ok A.T F m^F.binds i,m,F.kp,F.binds i,j]
theorem Ctx.gk(A:Ctx P w K mg base h)(H:Ht K x st)(N:t_ Str)
  (m:∀{f:Db}{a:Ev}{A:ik}{c:t_ Env}{s:No}{H:Hp}{E:XK},Txt K mg->N.Nodup->qk k^A.deeper^envOfC x (AR st) s.heap.objs.size f a->MK (Ef FO P w K mg base N x (AR st) f a A c s H E).nox e (BG st) l)
  (o:∀{d n Pd},W d n Pd->l {nx:=λn _=>e=.sh/\Pd .non n,rt:=Pd} n (d++iN (N.length - b.length) .no)) (S:A7 N b^AR st:=by constructor <;>first|rfl|decide +kernel) (g:b.length<=N.length:=by decide) (p:∀d n P,W d n P->d.length=b.length:=by walk_at "L") (q:∀(kV i r:Ev) (t:u_ Db) (a u:Ev) (j:t_ Ev),j.length=b.length->bindArgs (fnOf x x (CI st) (BG st) (AR st) .none kV i r t a u) #[j,[]]=pure^b.zip j:=by walk_at "B"):Got P w K mg base x (k+1) b e W:=
 A.got H (λT F _ _=>gN F S (m T S.nd) o g) p q
theorem Ctx.gotR(A:Ctx P w K mg base h)(H:Ht K x st)
  (ok:∀{f:Db}{fd:jG},Txt K mg->Fun K x x st f fd->B_ P w K mg base (Si P w) k f fd a^fQ K e W a.length) (i:∀g n P j,W g n P j->g.length=a.length) (l:∀(kV b o:Ev) (p:u_ Db) (c q:Ev) (d:t_ Ev),d.length=a.length->bindArgs (fnOf x x (CI st) (BG st) (AR st) .none kV b o p c q) #[d,[]]=pure^a.zip d:=by walk_at "B"):bS P w K mg base x k a e W:=by
 let#[f,fd, m,F]:=H.fn A.X A.G;exact#[f,fd,ok A.T F,m,F.kp,F.binds l,i]
end
section
variable {K:Frag}
local macro_rules|`(tactic|walk_at "l")=>`(tactic|(intro _ _ _ _ h; repeat (first|(obtain⟨e,_⟩:=h; subst e; rfl)|(obtain⟨_,h⟩:=h))))
variable {f:Addr}{fd:FuncData}
theorem Hj:A7 ["self","word","number"] ["self","word","number"]^AR CY:=by constructor <;>first|rfl|decide +kernel
theorem Hm(c:XC K "NoPaper" C U)(F:Fun K "__init__" "NoPaper.__init__" CY f fd):B_ P w K mg base FO 1 f fd ["self","word","number"]^IX C "word" "number":=by
 refine F.ok Hj (λj H Q E h=>by let#[a,b,g, rfl,_]:=h; rfl) λk A i s H j Q E o h=>?_;let#[a,b,g, rfl,l,m]:=h;exists _,Ao (cZ c c.nw (pv 0) (pv 1) rfl)^BR (cY c c.nn (pv 0) (pv 2) rfl);refine#[b,rfl,V.ref a,rfl,a,rfl,l,λd n e=>#[g,rfl,V.ref a,rfl,a,d,[(("word":Str),b)],rfl,AQ,?_,(by cbv:1<1000),?_]]
 .rw[AH e,AQ]
 .rw[show Ec "number" g [(("word":Str),b)]=[(("word":Str),b),(("number":Str),g)]from by unfold Ec; rw[if_neg^by cbv]; rfl]
  exact m d n e
theorem O5(A:Ctx P w K mg base h):eB P w K mg base "NoPaper" ["word","number"] 1:=by
 have H:=A.y0;let#[C,U,c,f,b,d,e,g,j,m,n,o,p,i,ty,l,a,k]:=H;have F:=O6 (st:=CY) l a k;exact#[C,U,c,mg_of A.X A.G c.at_,.inr #[_,_,f,_,_,_,_,rfl,i,ty,Hm c F,F.binds^by walk_at "B"]]
variable {h:Heap}(A:Ctx P w K mg base h)
include A
theorem HJ:A.Y "is_whole" 1 ["thing"] .sh bE:=A.got A.h00 (λT F m b=>fj F ["thing"] (λ_ a=>(AE^AN^Cv (BK Lq (dv 0) rfl T.Gaa rfl T.Gal (by decide +kernel))^DQ^aj (BK Ez (dv 0) rfl T.Gaa rfl T.Gaj (by decide +kernel)))) (@λc n e h=>by
 let#[d, rfl,q]:=h.out;cases d <;>exact q)) λ_ _ _ h=>RO h
theorem BP:A.Y "is_tuple_of" 1 ["count","thing"] .sh N_:=A.gk A.h01 ["count","thing"] (λT _ a=>(AE^AN^Cv (BK kit_tuple (dv 1) rfl T.Gaa rfl T.Gab (by decide +kernel))^DQ^BY De Gg (FY T.Gac^dv 1) (dv 0)^BI _)) (@λb n c h=>by
 let#[k,d,rfl,h]:=h;cases d with
 |tup e=>exact#[_,_,rfl,rfl,h]
 |_=>exact h)
theorem La:A.Y "is_rising" 1 ["things"] .sh Qx:=A.gk A.h02 ["things"] (λT _ b=>(AE^AN (Ak (E_ rfl) N8 rfl T.Gak k7 (AM (Hb ["ahead","behind"] [q_,q_] (Xu rfl T.Gan (AM (dv 0)^AM (CF Dt CH (dv 0) (A9 AB) A_) AS)) (λa=>Xw^Aw (Co 0 a)^Aw (Co 1 a) C9) BF^BY (Iu b) N6 (dv 0) (dv 1)^BI _) AS)))) LK
theorem Om:A.Y "rank_of" 1 ["tie"] .sh Qy:=A.gk A.h03 ["tie"] (λ_ _ a=>(AE^AN^Aa^AA (Ah (dv 0) AB)^AA (Ah (dv 0) AB)^AA (Ah (dv 0) AB) AG)) Ih
theorem M9:A.Y "order_of" 4 ["ties"] .fr Pa:=A.gk A.h04 ["ties"] (λT _ a=>(AE^AN (Nk (Om A) (a.mono^by cbv) rfl T.Gae rfl (dv 0)))) HH
omit A in
theorem qM:A7 ["net","steps","place","a","b","length"] ["net"]^AR Fg:=#[rfl,rfl,rfl,by decide +kernel,rfl,by decide +kernel,by decide +kernel]
omit A in
theorem gu{f:Db}{fd:jG}(F:Fun K "steps_of" "steps_of" Fg f fd):B_ P w K mg base FO 1 f fd ["net"]^RD K .sh V3 1:=by
 refine F.ok (k:=0) qM (λvs H Q E h=>h.1) λcdv A outer s H vs Q E hr h=>?_;let#[ hl, F0,U,V',M,n,ss,Pd, ra,#[N, rfl,ok,lp,lt,p],q]:=h;let#[ dom,fU,uV,vM,fd0,pa]:=ra;cases pa with
 |cons r1 pa=>
 cases pa;let#[v, e1,h1]:=r1.1;injection e1 with e1;subst e1;let#[an,vs, rfl,hn, v1,r, rfl,hp, v2,r2, rfl,ht,e2]:=h1;cases(show r2=[]from e2);let#[ap,us, rfl,hpn,hps]:=hp;let#[at_,ws, rfl,htn,hts]:=ht;have nd:=qM.nd;have hu:=HR hr;have szl:=PySem.sizeLine_eq;have lus:us.length=N.ps.length:=by simp only[hps.length,FM]
 have lws:ws.length=N.ts.length:=by simp only[hts.length,FM]
 refine#[_,Ao (Dv (i:=1) nd rfl (jK rfl) Mv)
  (Ao (Dw iW rfl (UO^BZ ix_tup (pv 0) Au λ_ _=>rfl) (B1 (i:=2) nd rfl (jK rfl)) (BR (GD hu (pv 1) (pv 2) Mv rfl)))
  (Ao (Dw iW rfl (UO^BZ ix_tup (pv 0) Au λ_ _=>rfl) (Oh rfl (DL (B1 (i:=3) nd rfl (jK rfl))^DL (B1 (i:=4) nd rfl (jK rfl))^DL (B1 (i:=5) nd rfl (jK rfl)) LO))
   (Ao (GD hu (FE hu (pv 1) (pv 3) λ_ _=>rfl) (pv 4) (pv 5) rfl)^BR (GD hu (FE hu (pv 1) (pv 4) λ_ _=>rfl) (pv 3) (pv 5) rfl)))
  (BR^Fi^Zv^pv 1))),?_]
 refine λd hd=>?_;have old0:∀b o,H b=P3 o->An H d (.dK []) b=P3 o:=λb o e=>by rw[AH^Af e hd]; exact e
 have SqN:∀H':Hp,(∀b o,H b=P3 o->H' b=P3 o)->SqT K H' an [.ref ap,.ref at_]:=λH' o=>SqT.of^o _ _ hn;have SqP:∀H':Hp,(∀b o,H b=P3 o->H' b=P3 o)->SqT K H' ap us:=λH' o=>SqT.of^o _ _ hpn;have SqW:∀H':Hp,(∀b o,H b=P3 o->H' b=P3 o)->SqT K H' at_ ws:=λH' o=>SqT.of^o _ _ htn;refine#[_,rfl,an,_,0,_,rfl,rfl,SqN _ old0,rfl,ap,rfl,#[_,SqP _ old0],?_];refine Lu (xs:=us) (λi Z H'=>∃(as:t_ (Str×Db)) (x2 x3 x4 x5:u_ V),Z=[P3^.ref an,P3^.ref d,x2,x3,x4,x5]/\as.map (·.1)=N.ps.take i/\Stp H d as (λ_=>[]) H') ?_ (λi Z H' hi #[as,x2,x3,x4,x5,e,hm,st]=>SqP _ st.old) ?_ ?_
 .exact#[[],_,_,_,_,rfl,rfl,old0,hd,AQ,(λx hx=>by cases hx),jI,jI]
 .rintro i x Z H' hx ⟨as,x2,x3,x4,x5,rfl,hm,st⟩
  have hi:i<N.ps.length:=by simp only[←lus]; exact(f8.mp hx).1
  let#[x', hx',hAt]:=hps.get (i:=i) (d:=.str N.ps[i]) (by simp only[T0,On hi]; rfl);rw[hx]at hx';injection hx' with hx';subst hx';let#[ rfl,_]:=hAt;intro q hq;have las:as.length<=i:=by have:=congrArg li hm; simp only[FM,jo]at this; omega
  have nq:d≠q:=λe=>by rw[←e,st.top]at hq; cases hq
  have las2:(as.map λx=>((.inr x.1:Key),V.ref x.2)).length=as.length:=FM ..;refine#[_,rfl,_,rfl,d,_,rfl,v3.k (k:=.inr N.ps[i]) (by rw[AH nq]; exact st.top)^by lk,?_];refine#[as++[(N.ps[i],q)],_,_,_,_,rfl,?_,st.more hq ?_ rfl]
  .rw[ij,hm,p7,On hi]; rfl
  .rw[hm]; exact Ot (EL ok.rise) hi
 .rintro Z H' ⟨as,x2,x3,x4,x5,rfl,hm,st⟩
  simp only[lus,mJ]at hm;refine#[_,rfl,an,_,1,_,rfl,rfl,SqN _ st.old,rfl,at_,rfl,#[_,SqW _ st.old],?_];refine Lu (xs:=ws) (λi Z H'=>∃(x2 x3 x4 x5:u_ V),Z=[P3^.ref an,P3^.ref d,x2,x3,x4,x5]/\Stp H d as (λp=>(EN (N.ts.take i) p).map kv) H') #[_,_,_,_,rfl,st] (λi Z H' hi #[x2,x3,x4,x5,e,st]=>SqW _ st.old) ?_ ?_
  .rintro i x Z H' hx ⟨x2,x3,x4,x5,rfl,st⟩
   have hi:i<N.ts.length:=by simp only[←lws]; exact(f8.mp hx).1
   let#[x', hx',hAt]:=hts.get (i:=i) (d:=AO N.ts[i]) (by simp only[T0,On hi]; rfl);rw[hx]at hx';injection hx' with hx';subst hx';have hmem:N.ts[i]∈N.ts:=jB hi;have hsnoc:N.ts.take (i+1)=N.ts.take i++[N.ts[i]]:=by simp only[p7,On hi]; rfl
   have hpre:(N.ts.take (i+1)).Pairwise BJ:=ok.zq.sublist^om _ _;have hlt2:∀s∈N.ts.take (i+1),cs s.a<cs s.b:=λs hs=>(ok.tin s^lG hs).2.2.1;rw[hsnoc]at hpre hlt2;have new:=VH hpre hlt2;have ltk:(N.ts.take i).length<=1000:=by rw[jo]; omega
   generalize N.ts[i]=t at hAt hmem hsnoc new;generalize N.ts.take i=ts at hsnoc new st ltk;let#[ m1,m2,m3,_]:=ok.tin t hmem;have hab:t.a≠t.b:=λe=>by rw[e]at m3; exact j_ _ m3
   let#[ta,tb,tl]:=t;let#[tt,us3, rfl,htt,hit]:=hAt;let#[va,r3, rfl,#[ rfl,_], vb,r4, rfl,#[ rfl,_], vl,r5, rfl,rfl,e5]:=hit;cases(show r5=[]from e5);simp only[←hm]at m1 m2;let#[#[xa,pa], ha,ea]:=Rs.mp m1;let#[#[xb,pb], hb,eb]:=Rs.mp m2;have ea':ta=xa:=ea.symm;have eb':tb=xb:=eb.symm;subst ea' eb';clear ea eb;replace hab:ta≠tb:=hab;replace new:tb∉(EN ts ta).map (·.1)/\ta∉(EN ts tb).map (·.1):=new;have ga:=vK.k (k:=.inr ta) st.top;simp only[Hv st.nms ha]at ga;have l1:=QI ts ta;refine#[tt,_,rfl,SqT.of^st.old _ _ htt,rfl,_,_,rfl,_,_,rfl,_,_,rfl,rfl,?_];refine#[_,rfl,_,rfl,_,rfl,d,_,rfl,ga,_,rfl,pa,_,rfl,v3.k (k:=.inr tb) (st.inn _ ha).2.2 (by show((EN ts ta).map kv).length<sizeLine; rw[FM]; lk),?_];have st1:=st.put (tb2:=λp=>(EN ts p++if ta=p then [(tb,tl)]else []).map kv) ha (kvs:=putK ((EN ts ta).map kv) (.inr tb)^.int tl) (by rw[P4 new.1,if_pos rfl]) (λq hq=>by rw[if_neg^iz hq,im]);have gb:=vK.k (k:=.inr tb) st1.top;simp only[Hv st1.nms hb]at gb;have l2:=QI ts tb;have ib:=(st1.inn _ hb).2.2;simp only[if_neg hab,im]at ib;refine#[_,rfl,_,rfl,_,rfl,d,_,rfl,gb,_,rfl,pb,_,rfl,v3.k (k:=.inr ta) ib (by rw[FM]; lk),?_];refine#[_,_,_,_,rfl,st1.put hb ?_ λq hq=>?_]
   .show(EN (N.ts.take (i+1)) tb).map kv=_
    rw[hsnoc,NH,P4 new.2];show((EN ts tb++((if ta=tb then [(tb,tl)]else [])++if tb=tb then [(ta,tl)]else [])).map kv)=_;rw[if_neg hab,if_pos rfl]; rfl
   .show(EN (N.ts.take (i+1)) q).map kv=_
    rw[hsnoc,NH];show((EN ts q++((if ta=q then [(tb,tl)]else [])++if tb=q then [(ta,tl)]else [])).map kv)=_;rw[if_neg^iz hq,im]
  .rintro Z H' ⟨x2,x3,x4,x5,rfl,st⟩
   rw[lws,mJ]at st
   have old:∀(f:Db->Obj) b o,H b=P3 o->Fs H' (as.map (·.2)) f b=P3 o:=λf b o e=>by
    rw[ED λhm=>by let#[x, hx,e2]:=Rs.mp hm; have:=(st.inn x hx).1; rw[e2,e]at this; cases this];exact st.old b o e
   refine#[_,rfl,(as.map fun(x:Str×Db)=>x.2),λb hb=>?_,λf=>q (.ref d) (Fs H' (as.map fun(x:Str×Db)=>x.2) f) (Gn N) n (λb o e=>#[o,old f b o e,λ_=>rfl,λ_ _=>rfl]) (λg hg=>?_) (show At K M (Fs H' (as.map fun(x:Str×Db)=>x.2) f) (Gn N)^.ref d from st.at_ dom hm f) p]
   .let#[x,hx,rfl]:=Rs.mp hb
    exact#[_,(st.inn x hx).2.2]
   .rcases fd0 g hg with⟨tg,a,r,cells,hf,hcf,hc,rest⟩|⟨ks',ds',vs',tg,r,hf,h2,h3,h4⟩
    .exact .inl #[tg,a,r,cells,old f _ _ hf,hcf,#[hc.1,old f _ _ hc.2],rest]
    .exact .inr #[ks',ds',vs',tg,r,old f _ _ hf,h2,h3.qq #[λb o e _=>old f b o e,λ_ z=>.inl z,λb vs e=>old f b _ e],h4]
theorem M6:A.Y "steps_of" 1 ["net"] .sh V3:=A.got A.h05 λ_ F _ _=>gu F
theorem Ww:A.Y "only" 1 ["net","ties"] .sh bH:=A.gk A.h06 ["net","ties"] (λT _ v=>(AE^AN^Aa^AA (Ah (dv 0) AB)^AA (Sk T.Gab (Ak Jc Qs rfl T.Gae oH (AM (Xe 1) AS))) AG)) (@λB n C h=>by
 let#[N,z,D, rfl,c,d,p]:=h;refine#[_,AD (j:=0) rfl,z,_,rfl,c,by simp_all,#[λx a=>?_,λx a y e i k l m=>?_],λo q r=>?_]
 .let#[t,_,rfl]:=Rs.mp a
  exact#[Ds t,rfl,mM _ _]
 .let#[t,_,rfl]:=Rs.mp a
  let#[u, _,rfl]:=Rs.mp e;cases(show P3^Ds t=P3 i from l);cases(show P3^Ds u=P3 k from m);rfl
 .let#[b,s,rfl]:=S7 (g:=ag) (λ_=>rfl) q
  exact#[z2,p b s^QG r])
theorem EM:A.Y "is_tie_of" 2 ["net","thing"] .sh f_:=A.gk A.h07 ["net","thing"] (λ_ _ k=>(AE^AN^Cv (BY (Fl k) Cz (dv 1) (Ah (dv 0) AB)^by with_unfolding_all rfl)^DQ^cg k (HJ A)^BA (Ah (dv 1) AB) AF)) (@λx n B h=>by
 let#[N,d,rfl,ok,m,p]:=h;exists _,AD (j:=1) rfl,m,(Cy ok λ_ h=>h).1,_,rfl;cases c:(N.ts.map AO).any λy=>BS y d with
 | false=>
  have:DV N d=s_:=by
   rw[iS];intro z;let#[s, g,rfl]:=qT.mp z;simp only[B3,decide_eq_true g]at c;cases c
  rw[this]at p;exact p
 | true=>
  let#[e, o,q]:=kj.mp c;let#[s, g,rfl]:=Rs.mp o;let#[z, rfl,r]:=Kp q;exists _,AD (j:=2) rfl,[z],rfl,rfl
  have:DV N^.tup [.str s.a,.str s.b,z]=Sw z:=by
   rw[jW,qT];constructor
   .rintro⟨t,_,e⟩
    have e:z=.int t.len:=by injection e with e; injection e with _ e; injection e with _ e; injection e
    rw[e];rfl
   .intro u
    cases z with
    |int i=>exact#[s,g,by rw[r i rfl]; rfl]
    |_=>cases u
  rw[this]at p;exact p)
theorem Oo:A.Y "is_thin" 3 ["net","thing"] .sh Y6:=A.gk A.h08 ["net","thing"] (λT _ g=>(AC (Ai (DTW.dt^BL (A1^Ag^cg g (BP A)^BA AB^Ax 1 AF)^BQ^A1^Ag (BK kit_tuple (Ah (dv 1) AB) rfl T.Gaa rfl T.Gab (by decide +kernel))) (AE^AN BD) AW)
 (AE^AN^Cv (BY (Fn g) Jg (Ah (dv 1) AB) (Ah (dv 0) AB)^BI _)^Cv (Ak (E_ rfl) N8 rfl T.Gak k7 (AM (Hb ["net","tie"] [P3 0,q_] (A6^Ah (dv 1) AB) (λC=>Co 1 C) BF^cg g (EM A)^Ax 0^Ax 1 AF) AS))^DQ^cg g (La A)^BA (Ah (dv 1) AB) AF))) (@λQ n r h=>by
 let#[N,d, rfl,ok,R,S,u,D,E,p]:=h;exists 2,d,rfl;cases i:tupleOfB 2 d with
 |false=>
  rw[Eh λp c e=>by rw[e]at i; cases i]at p;exact Ar p
 | true=>
  let#[x,y, rfl]:=fF i;refine As #[_,AD (j:=1) rfl,?_];cases y with
  | tup c=>
   rw[←RA ok]at p;have F:qh (10 ^ 41) x:=u.1;have G:GV (10 ^ 41) c:=u.2.1;have H:max (Br x)^max (ES c+1) 0+1<=90:=E;have I:Bz x+1+(CO c+1+0)<=200000:=D;refine As #[_,AD (j:=0) rfl,_,AD (j:=0) rfl,D1 (B:=10 ^ 41) (by cbv) F^by lk,EC ok.names,?_];refine PV (b1:=BS x^.tup^N.ps.map .str) (b2:=c.all^DV N&&X7 c) (P:=r) (n:=n) (k:=λP=>_) (λ_ l=>?_) p;refine#[_,AD (j:=1) rfl,by show c.length<=10000000; have:=QL c; lk,?_];refine Az (λd=>.bl^DV N d) (λv=>∃s,v=[.sh^Bl N,s]) _ _ _ _ ?_ #[_,rfl] ?_
   .rintro e z v m U ⟨s,rfl⟩ o
    have J:ES c<=88:=by lk
    exact#[N,e,rfl,ok,D1 (B:=10 ^ 41) (by cbv) (qv.mp G e z) (by have:=qg.mp J e z; lk),o _ #[_,rfl]]
   rw[iD];exists _,_,rfl,Ge (DV N) c;rw[Vr];refine PV (b1:=c.all^DV N) (b2:=X7 c) (P:=r) (n:=n) (k:=λP=>_) (λq l=>?_) l;let#[L, rfl,M]:=Mb q
   have:=NP L
   refine#[_,AD (j:=1) rfl,_,_,rfl,rfl,by rw[FM]; lk,λa q b O=>?_,l];let#[s, _,rfl]:=Rs.mp q;let#[t, _,rfl]:=Rs.mp O;exact#[_,O0 s t]
  |_=>
   rw[Eh λp c e=>by cases e]at p;exact Ar p)
theorem Ol:A.Y "without" 2 ["net","ties"] .sh YA:=A.gk A.h09 ["net","ties"] (λ_ _ i=>(AE^AN^cg i (Ww A)^Ax 0^AU (dU^Hb ["ties","tie"] [P3 1,q_] (A6^Ah (dv 0) AB) (λl=>Co 1 l) (C8^B4 (Bo i) Cz (dv 1)^dv 0)^dv 1) AF)) (@λD n E h=>by
 let#[M,a, rfl,b,o,p]:=h;have ok:=b.1;have q:=b.2.2;refine#[_,AD (j:=1) rfl,by show(M.ts.map AO).length<=10000000; rw[FM]; lk,?_];refine CC (λd=>!((a.map AO).any λy=>BS y d)) id (λk=>∃s,k=[.sh^B0 a,s]) _ _ _ _ ?_ #[_,rfl] ?_
 .rintro d r k m F G ⟨s,rfl⟩ u v
  let#[t, x,rfl]:=Rs.mp r;exists Bi ok x,D0 ok o,_,rfl;exact CQ (λc=>u _ #[_,rfl] c) λc=>v _ #[_,rfl]^iS.mpr c
 .rw[iD,km]
  have e:(M.ts.map AO).filter (λd=>!((a.map AO).any λy=>BS y d))=(Bp M a).ts.map AO:=by
   rw[lf]
   congr 1
   refine k_ λt _=>?_;show(!((a.map AO).any λy=>BS y^AO t))=decide (¬t∈a);simp only[B3,decide_not]
  rw[e];have g:=M5 b a;refine#[M,_,(Bp M a).ts,rfl,rfl,by have:=g.2.2; omega,λz B C=>?_];rw[IV B C^Fw g.1.zq];exact p)
theorem M_:A.Y "left_out" 5 ["net","thin"] .fr V7:=A.gk A.h0a ["net","thin"] (λ_ _ i=>(AE^AN^cg i (M9 A)^BA (Hb ["thin","tie"] [P3 1,q_] (A6^Ah (dv 0) AB) (λl=>Co 1 l) (C8^B4 (Bo i) Cz (dv 1)^Ah (dv 0) AB)^dv 1) AF)) (@λv n x h=>by
 let#[N,a, rfl,ok,b,g,p]:=h;refine#[_,AD (j:=1) rfl,by show(N.ts.map AO).length<=10000000; rw[FM]; lk,?_];refine CC (λd=>!((a.map AO).any λy=>BS y d)) id (λk=>∃s,k=[.sh^Bl #[N.ps,a],s]) _ _ _ _ ?_ #[_,rfl] ?_
 .rintro d o k m z B ⟨s,rfl⟩ q r
  let#[t, u,rfl]:=Rs.mp o;exists _,AD (j:=1) rfl,Bi ok u,(Cy ok g).1,_,rfl;exact CQ (λc=>q _ #[_,rfl] c) λc=>r _ #[_,rfl]^iS.mpr c
 .rw[iD,km]
  have e:(N.ts.map AO).filter (λd=>!((a.map AO).any λy=>BS y d))=(N.ts.filter λt=>decide (t∉a)).map AO:=by
   rw[lf]
   congr 1
   refine k_ λt _=>?_;show(!((a.map AO).any λy=>BS y^AO t))=decide (t∉a);simp only[B3,decide_not]
  rw[e];exact#[_,_,rfl,rfl,kq (j8 _ _) b,p])
theorem LZ:A.Y "length_of" 2 ["net","thing"] .sh gA:=A.gk A.h0b ["net","thing","steps","length","here","there"] (λT o b=>(AC (Ai (DTW.dt^BL (A1^Ag (BK kit_tuple (dv 1) rfl T.Gaa rfl T.Gab (by decide +kernel)))^BQ^B4 De Gg (FY T.Gac^dv 1) AB) (AE^AN BC) AW)
 (AC (Ai (A1^Ag (Ak (E_ rfl) N8 rfl T.Gak k7 (AM (Hb ["place"] [q_] (A6^dv 1) (λC=>Co 0 C) BF (BK Lp (dv 0) rfl T.Gaa rfl T.Gam (by decide +kernel))) AS))) (AE^AN BC) AW)
 (AC (Bu 2 o^cg b (M6 A)^Ax 0 AF)
 (AC (Ai (B4 (Gy b) N7 (Ah (dv 1) AB)^dv 2) (AE^AN BC) AW)
 (AC (Bu 3 o AB)
 (AC (CL iW rfl (VW rfl T.Gan (AA (dv 1)^AA (CF Dt CH (dv 1) (A9 AB) A_) AG)) (Xw^Aw (Co 4 o)^Aw (Co 5 o) C9) (AC (Ai (B4 (Gy b) N7 (dv 5)^Cj b (dv 2)^dv 4) (AE^AN BC) AW)
 (AE (Xo (i:=3) o rfl (jK rfl) (Cj b (Cj b (dv 2)^dv 4)^dv 5)))))
 (AE^AN^dv 3)))))))) (@λG n z E=>by
 let#[N,d,rfl,ok,H,lt,fd,p]:=E;cases d with
 | tup g=>
  have I:=C6 g;have J:CO g<=160000:=fd.2.1;have k:z (if g.all B6 then Rq N^strsOf g else .non) n:=p;exists _,_,rfl,rfl;show if((g.length:Int)==0)=r_ then _ else _
  cases g with
  |nil=>exact Ar k
  | cons q t=>
   rw[show(((q::t).length:Int)==0)=s_ from beq_eq_false_iff_ne.mpr^by simp only[UF]; lk];refine As #[by lk,?_];refine Az (λd=>.bl^B6 d) (λB=>∃s,B=[s]) _ _ _ _ ?_ #[_,rfl] ?_
   .rintro d L B m M ⟨s,rfl⟩ u
    have:=u [.sh d] #[_,rfl]
    cases d <;>exact this
   rw[iD];exists _,_,rfl,Ge B6 (q::t);rw[Vr];show if(!(q::t).all B6)=r_ then _ else _
   cases v:(q::t).all B6 with
   |false=>rw[v]at k; exact Ar k
   | true=>
    rw[v]at k;let#[F, e]:=Ei v;rw[e,Bv]at k;cases F with
    |nil=>cases e
    | cons y r=>
     simp only[iQ]at e;cases e;refine As #[N,rfl,ok,by lk,by lk,?_];exists .str y,AD (j:=0) rfl,_,_,.inr y,rfl,rfl;show if(!(CN (N.ps.map .inr) (N.ps.map^cr N.ts)^.inr y).isSome)=r_ then _ else _
     rw[Hw];have a:z (if y∈N.ps then OT^Ey N.ts y r 0 else .non) n:=k
     by_cases x:y∈N.ps
     .rw[if_pos x]at a ⊢
      refine As #[_,_,(y::r).map .str,r.map .str,rfl,rfl,by show P3^Dp.cutD (D.str y::r.map .str) (P3 1) q_=_; rw[ao]; rfl,?_];refine NN ok r y 0 _ _ x ?_;cases c:Ey N.ts y r 0 with
      |none=>rw[c]at a; exact a
      |some l=>rw[c]at a; exact λ_ _=>a
     .rw[if_neg x]at a ⊢
      exact Ar a
 |_=>exact p)
theorem GH:A.Y "length_between" 3 ["net","a","b","thing"] .sh di:=A.gk A.h0c ["net","a","b","thing","length"] (λ_ m o=>(AC (Bu 4 m^cg o (LZ A)^Ax 0^Ax 3 AF)
 (AC (Ai (DTW.dt^BL (B4 Fk K3 (dv 4) BC)^BL (B4 FQ J3 (Ah (dv 3) AB)^dv 1)^BQ^B4 FQ J3 (Ah (dv 3)^ET AB)^dv 2) (AE^AN BC) AW)
 (AE^AN^dv 4)))) (@λu n q h=>by
 let#[M,a,b,d, rfl,c,s,p]:=h;exists M,d,rfl,c.1,by have:=c.2.1; lk,c.2.2,s;unfold W6 at p
 rcases KZ M d with e|⟨x,r,l,rfl,e⟩
 .rw[e]at p ⊢
  exact#[rfl,p]
 .rw[e]at p ⊢
  have t:RC^Hg (x::r)=x::r:=Bv _;simp only[t]at p;obtain⟨y,g⟩:∃y,(x::r).getLast?=P3 y:=#[_,nt^by simp];exists rfl,.str x,AD (j:=0) rfl;show if(!(x==a))=r_ then _ else _
  rw[g]at p;have p:q (if(P3 x==P3 a&&P3 y==P3 b)=r_ then .int l else .non) n:=p;rw[qA,qA]at p;cases i:x==a with
  |false=>rw[i]at p; exact Ar p
  |true=>
   rw[i]at p;refine As #[1,rfl,.str y,GQ g,?_];show if(!(y==b))=r_ then _ else _
   cases k:y==b with
   |false=>rw[k]at p; exact Ar p
   |true=>rw[k]at p; exact As p)
theorem Js:A.Y "are_prices" 2 ["net","thing"] .sh YD:=A.gk A.h0d ["net","thing"] (λT _ e=>(AE^AN^Cv (cg e (BP A)^BA (FY T.Gac^Ah (dv 0) AB)^Ax 1 AF)^DQ (Ak (E_ rfl) N8 rfl T.Gak k7 (AM (Hb ["price"] [q_] (A6^dv 1) (λl=>Co 0 l) BF^Cv (cg e (HJ A)^Ax 0 AF)^DQ^BY LS Qt (dv 0) AB^BI _) AS)))) (@λu n g h=>by
 let#[N,d,rfl,c,p]:=h;have o:=c.2.1;exists _,AD (j:=0) rfl,_,_,rfl,rfl,_,d,rfl;cases d with
 | tup a=>
  have q:g (.bl (((a.length:Int)==(N.ps.length:Int))&&a.all JK)) n:=p;rw[FM];refine PV (b1:=((a.length:Int)==(N.ps.length:Int))) (λr t=>?_) q;have v:a.length=N.ps.length:=by have:=beq_iff_eq.mp r; lk
  refine#[by show a.length<=10000000; lk,?_];refine Az (λd=>.bl^JK d) (λk=>∃s,k=[s]) _ _ _ _ ?_ #[_,rfl] ?_
  .rintro d x k m y ⟨s,rfl⟩ b
   exists[d],rfl,rfl;cases d with
   |int i=>exact b _ #[_,rfl]
   |_=>exact b _ #[_,rfl]
  .rw[iD]
   exact JQ (p:=JK) (P:=λz=>g z n) t
 |_=>exact p)
theorem GG:A.Y "price_gap" 1 ["net","prices","a","b"] .sh dk:=A.gk A.h0e ["net","prices","a","b"] (λT _ e=>(AE^AN (Ak Jd Vz rfl T.Gap boot_abs (AM (AV Bb B9 (Ah (dv 1)^D5 e (Ah (dv 0) AB)^AM (dv 2) AS)^Ah (dv 1)^D5 e (Ah (dv 0) AB)^AM (dv 3) AS) AS)))) (@λy n z h=>by
 let#[N,B,a,b, rfl,d,g,k,l,m,p]:=h;let#[i, o,c,q,r,s]:=Yp d g k l;let#[j, t,_,u,v,x]:=Yp d g k m;exact#[_,AD rfl,#[_,rfl],_,_,i,rfl,rfl,c,q,r,s,_,AD o,_,AD rfl,#[_,rfl],_,_,j,rfl,rfl,c,u,v,x,_,AD t,p])
theorem Oq:A.Y "is_fair" 3 ["net","thing"] .sh Y9:=A.gk A.h0f ["net","thing"] (λT _ q=>(AC (Ai (A1^Ag^cg q (Js A)^Ax 0^Ax 1 AF) (AE^AN BD) AW)
 (AE^AN (Ak (E_ rfl) N8 rfl T.Gak k7 (AM (Hb ["net","thing","a","b","length"] [P3 0,P3 1,q_,q_,q_] (A6^Ah (dv 0) AB) (λk=>Xw^Aw (Co 2 k)^Aw (Co 3 k)^Aw (Co 4 k) C9) BF^BY Oi Vx (cg q (GG A)^Ax 0^Ax 1^Ax 2^Ax 3 AF) (dv 4)^BI _) AS))))) (@λJ n r h=>by
 let#[N,d,rfl,e,p]:=h;have ok:=e.1;have C:=e.2.2;exists N,d,rfl,e;show if(!(bY N d))=r_ then _ else _
 cases i:bY N d with
 | false=>
  have:EZ N d=s_:=by
   cases d with
   |tup c=>show(bY N^.tup c&&_)=s_; simp only[i]; rfl
   |_=>rfl
  rw[this]at p;exact Ar p
 | true=>
  cases d with
  | tup c=>
   have g:(((c.length:Int)==(N.ps.length:Int))&&c.all JK)=r_:=i;simp only[iE]at g;have D:c.length=N.ps.length:=by have:=beq_iff_eq.mp g.1; lk
   have E:∀x∈c,JK x=r_:=jH.mp g.2;have s:r (.bl (bY N^.tup c&&N.ts.all λt=>decide (CG (Cq N c t.a - Cq N c t.b)<=t.len))) n:=p;simp only[i,iY]at s;refine As #[_,AD (j:=1) rfl,by show(N.ts.map AO).length<=10000000; rw[FM]; lk,?_];refine Az (λd=>match d with|.tup [.str a,.str b,.int l]=>.bl (decide (CG (Cq N c a - Cq N c b)<=l))|_=>.non) (λu=>∃v y B,u=[.sh^Bl N,.sh^.tup c,v,y,B]) _ _ _ _ ?_ #[_,_,_,rfl] ?_
   .rintro d F u m L ⟨v,y,B,rfl⟩ o
    let#[t, G,rfl]:=Rs.mp F;let#[ H,I,_]:=ok.tin t G;exact#[rfl,rfl,N,c,t.a,t.b,rfl,e,D,E,H,I,o _ #[_,_,_,rfl]]
   .rw[iD,i_]
    exact JQ (p:=λt:AZ=>decide (CG (Cq N c t.a - Cq N c t.b)<=t.len)) (P:=λz=>r z n) s
  |_=>cases i)
theorem GI:A.Y "is_within" 1 ["length","times","number"] .sh Qw:=A.gk A.h0g ["length","times","number"] (λ_ _ d=>(AE^AN^BY Oi Vx (AV Bs Ck (dv 0)^Ah (dv 1) AB) (AV Bs Ck (dv 2)^Ah (dv 1) AB)^BI _)) (@λe n g h=>by
 let#[l,t,b,x, rfl,i,a,j,c,p]:=h;exact#[_,AD rfl,fw (by lk) a,_,AD rfl,fw (by lk) c,p])
theorem LV:A.Y "way_fault" 4 ["net","times","tie","thing"] .sh V1:=A.gk A.h0h ["net","times","tie","thing","length"] (λ_ k i=>(AC (Bu 4 k^cg i (GH A)^Ax 0^BA (Ah (dv 2) AB)^BA (Ah (dv 2) AB)^Ax 3 AF)
 (AC (Ai (B4 Fk K3 (dv 4) BC) (AE^AN AX) AW)
 (AE^AN^JW (Ag^cg i (GI A)^Ax 4^Ax 1^BA (Ah (dv 2) AB) AF) BC AX)))) (@λx n m h=>by
 let#[M,t,b,u,d, rfl,g,#[ o,q,r,s],v,p]:=h;unfold MO at p;exists _,AD (j:=0) rfl,_,AD (j:=1) rfl,M,u.a,u.b,d,rfl,g,v
 rcases Ru M u.a u.b d with e|⟨l,e⟩
 .rw[e]at p ⊢
  exact#[rfl,p]
 .rw[e]at p ⊢
  exists rfl,_,AD (j:=2) rfl,l,t,b,u.len,rfl,o,q,r,s;have p:m (if l*b<=u.len*t then .non else .str "far") n:=p;show if decide (l*b<=u.len*t)=r_ then _ else _
  by_cases c:l*b<=u.len*t
  .rw[if_pos c]at p; rw[decide_eq_true c]; exact Ar p
  .rw[if_neg c]at p; rw[decide_eq_false c]; exact As p)
theorem Hk:A.Y "prices_fault" 4 ["net","times","tie","thing"] .sh K4:=A.gk A.h0i ["net","times","tie","thing"] (λ_ _ a=>(AC (Ai (A1^Ag^cg a (Oq A)^Ax 0^Ax 3 AF) (AE^AN AX) AW)
 (AE^AN^JW (Ag^cg a (GI A)^BA (cg a (GG A)^Ax 0^Ax 3^BA (Ah (dv 2) AB)^BA (Ah (dv 2) AB) AF)^Ax 1^BA (Ah (dv 2) AB) AF) AX BC))) GB
omit A in
theorem qN:A7 ["net","times","thin","paper","number","tie","fault"] ["net","times","thin","paper"]^AR HE:=by walk_at "s"
theorem LY:N9 P w K mg base:=A.gotR A.h0j (λT F=>have qO:=Oo A; have qP:=BP A; have Z:=M_ A; have qR:=LV A; have GX_NoPaper:=O5 A; by
 exact fnX (wb:=λz=>J1 z) F qN (by cbv) (λa0 A O s H E z F0 U M l v=>(G8 (VS (DTW.dt^BL (A1^Ag (Ae qO (v.mono^by cbv) rfl (Ax 0^Ax 2 AF)))^BQ^A1^Ag (Ae qP (v.mono^by cbv) rfl (BA (FY T.Gac (Ae Z (v.mono^by cbv) rfl (Ax 0^Ax 2 AF)))^Ax 3 AF))) (GX^JT Mw l (λ_ h=>h) (Kt GX_NoPaper (v.mono^by cbv) rfl (AA AX^AA AB AG)))^QZ AW)
 (G8 (Xj (λ_ _ h=>h) Ws rfl (Xv rfl T.Gao (Ae Z (v.mono^by cbv) rfl (Ax 0^Ax 2 AF))) (Xw^Aw (Co 4 qN.nd)^Aw (Co 5 qN.nd) C9) (G8 (VQ^Bu 6 qN.nd (Ae qR (v.mono^by cbv) rfl (Ax 2^Ax 1^Ax 5^BA (Ah (dv 3)^dv 4) AF)))
 (GX^VS (B4 FF MC (dv 6) BC) (GX^JT Mw l (λ_ h=>h) (Kt GX_NoPaper (v.mono^by cbv) rfl (AA (dv 6)^AA (dv 4) AG)))^QZ AW)))
 (GX^VQ^AN BD)))) (λss n J z _ h=>by
 let#[N,t,b,d,p,rfl,a,Q,tm,#[f1,f2,f3],fp,q0,q]:=h;have R:=a.2.2;have a1:=PySem.sizeLine_eq;exists N,d,rfl,a.1,Q,R,f1,f2,f3;show if(!zQ N d)=r_ then _ else _
 cases c:zQ N d with
 |false=>exact Ar^.inr #[rfl,rfl,q0^.inl c]
 | true=>
  let#[k, rfl,B]:=zg.mp c;have B:thn N k:=B;have S:=B.okN a;refine As #[N,k,rfl,a.1,by lk,B.1,λg p1 p2=>#[_,_,rfl,rfl,?_]];exists _,_,rfl;have y:=q k g rfl B p1 p2;show if(!(tupleOfB ((g.map AO).length:Int) p))=r_ then _ else _
  have G:(g.map AO).length=g.length:=FM ..;rw[G];cases p with
  | tup j=>
   have y:TU (if j.length=g.length then GW #[N.ps,k] t b 0 g j else W0 "shape" 0) J z n:=y;show if(!((j.length:Int)==(g.length:Int)))=r_ then _ else _
   by_cases L:j.length=g.length
   .rw[if_pos L]at y
    rw[show((j.length:Int)==(g.length:Int))=r_ by rw[L]; exact beq_self_eq_true _];refine As #[N,k,rfl,a.1,by lk,B.1,λa2 p3 p4=>#[_,rfl,?_]];rw[Ep (p3.trans p1.symm) p4 p2]
    have go:∀(C:t_ AZ) (r m:t_ D) (V W X:Slot),r++m=j->m.length=C.length->TU (GW #[N.ps,k] t b r.length C m) J z n->
      Bc (L_ 2^B8 (A5 4)^B8 (A5 5) Hd) (BO (CS 6^A0 V1^AL (AT^AJ 2)^AL (AT^AJ 1)^AL (AT^AJ 5)^AL (AT^BE D7 (AJ 3)^AJ 4) A3)
 (DU (A8^BE (PB r_) (AJ 6)^wC D.non) (λD2=>(K9 "NoPaper" ["word","number"]^AK (AJ 6)^AK (AJ 4) Ad) D2 z) CA)) {EE J with nx:=CT (wC^D.bl r_)^EE J} (FX r.length^C.map AO) n [.sh^Bl N,.sh^.tup [.int t,.int b],.sh^Bl #[N.ps,k],.sh^.tup j,V,W,X]:=by
     intro C
     induction C with
     |nil=>intro r m V W X _ i o; cases m with
      |nil=>exact o
      |cons _ _=>cases i
     | cons u C ih=>
      intro r m V W X e i o
      match m,i,o with
      | w::m,i,o=>
       have I:j[r.length]?=P3 w:=by rw[←e,ji^Re _,mE]; rfl
       exists rfl,rfl,_,AD I,#[N.ps,k],t,b,u,w,rfl,S,tm,XM fp^iu I;unfold GW at o
       rcases Q4 #[N.ps,k] t b u w with Y|⟨x,Y⟩
       .rw[Y]at o ⊢
        exists rfl
        have:=ih (r++[w]) m (.sh^.int (r.length:Int)) (.sh^AO u) (.sh .non) (by rw[i7]; exact e)^mj i
        rw[ZB,iB]at this;exact this o
       .rw[Y]at o ⊢
        exact#[rfl,.inr #[rfl,rfl,o]]
    exact go g [] j _ _ _ rfl L y
   .rw[if_neg L]at y
    rw[show((j.length:Int)==(g.length:Int))=s_ by rw[beq_eq_false_iff_ne]; lk];exact Ar^.inr #[rfl,rfl,y]
  |_=>exact Ar^.inr #[rfl,rfl,y])) λ_ _ _ _ h=>by let#[_,_,_,_,_, e,_]:=h; rw[e]; rfl
theorem LW:A.Y "shows_far" 5 ["net","times","out","thing"] .sh YC:=A.gk A.h0k ["net","times","out","thing"] (λ_ _ g=>(AC (Ai (DTW.dt^BL (A1^Ag^cg g (EM A)^Ax 0^BA (Ah (dv 3) AB) AF)^BQ^B4 (Bo g) Cz (Ah (dv 3) AB)^dv 2) (AE^AN BD) AW)
 (AE^AN^BY Fk K3 (cg g (Hk A)^BA (cg g (Ol A)^Ax 0^Ax 2 AF)^Ax 1^BA (Ah (dv 3) AB)^BA (Ah (dv 3) AB) AF) BC^BI _))) (@λy n z h=>by
 let#[N,t,b,a,w,u,p,rfl,d,m,k,o,q]:=h;exists _,AD (j:=1) rfl,N,_,rfl,d.1,o.lay;unfold O9 at q;cases e:DV N u with
 |false=>rw[TN e]at q; exact Ar q
 | true=>
  let#[v, i,rfl]:=qT.mp e;rw[Df i]at q;let#[ r,x,_]:=d.1.tin v i;exists _,AD (j:=1) rfl,Bi d.1 i,D0 d.1 k,_,rfl;rw[B3];show if(!decide (v∈a))=r_ then _ else _
  cases l:decide (v∈a)with
  |false=>rw[l]at q; exact Ar q
  |true=>
   rw[l,iY]at q;refine As #[N,a,rfl,d,k,_,AD (j:=1) rfl,_,AD (j:=2) rfl,Bp N a,t,b,v,p,rfl,M5 d a,m,r,x,λc=>?_,λc s=>?_]
   .rw[c]at q; exact#[rfl,q]
   .rw[c]at q; exact#[rfl,q])
omit A in
theorem qS:A7 ["net","times","many","kept","out","deep","thing","tie"] ["net","times","many","kept","out","deep","thing"]^AR Ib:=by walk_at "s"
theorem M8:A.Y "shows_by" 21 ["net","times","many","kept","out","deep","thing"] .sh^bG 15:=A.got A.h0l λT F m b=>Km 4 F qS m b (λB J l=>(AC (Ai (B4 De Gg (dv 5) AB) (AE^AN BD) AW)
 (AC (Ai (B4 (Fn l) Jg (dv 6)^Aa^AA AX AG) (AE^AN^BY LS Qt (FY T.Gac^dv 3) (dv 2)^BI _) AW)
 (AC (Ai (DTW.dt^JS (Ag (Ae (BP A) (l.mono^by lk) rfl (BA AB^Ax 6 AF)))^IF^B4 (Fn l) Jg (Ah (dv 6) AB) AX) (AE^AN (Ae (LW A) (l.mono^by omega) rfl (Ax 0^Ax 1^Ax 4^Ax 6 AF))) AW)
 (AC (Ai (DTW.dt^BL (A1^Ag (Ae (BP A) (l.mono^by lk) rfl (BA AB^Ax 6 AF)))^BQ^B4 (Gx l) K2 (Ah (dv 6) AB) AX) (AE^AN BD) AW)
 (AC (Bu 7 qS.nd^Ah (dv 6) AB)
 (AC (Ai (DTW.dt^BL (A1^Ag (Ae (EM A) (l.mono^by lk) rfl (Ax 0^Ax 7 AF)))^BL (B4 (Fl l) Cz (dv 7)^dv 3)^BQ^B4 (Fl l) Cz (dv 7)^dv 4) (AE^AN BD) AW)
 (AC (Ai (A1^Ag (Ae J (l.mono^Re _) rfl (Ax 0^Ax 1^Ax 2^BA (AV AY Ac (dv 3)^Aj^AA (dv 7) AG)^Ax 4^BA (AV Bb B9 (dv 5) AB)^BA (Ah (dv 6) AB) AF))) (AE^AN BD) AW)
 (AE^AN (Ae J (l.mono^Re _) rfl (Ax 0^Ax 1^Ax 2^Ax 3^BA (AV AY Ac (dv 4)^Aj^AA (dv 7) AG)^BA (AV Bb B9 (dv 5) AB)^BA (Ah (dv 6) AB) AF))))))))))) (@λWr j ss n C r h=>by
 let#[N,t,b,i,a,g,k,x,rfl,o,E,B,D,l1,l2,s,hj,q]:=h;have ok:=o.1;have U:=PySem.sizeLine_eq;show if((k:Int)==0)=r_ then _ else _
 cases k with
 |zero=>exact Ar q
 |succ k=>
 rw[show(((k+1:Nat):Int)==0)=s_ from beq_eq_false_iff_ne.mpr^by lk];refine As #[z1,s.lay,W8,?_];cases cG x with
 |oth x L=>
  let#[V,W,X]:=UV L;rw[UU L]at q;rw[V];refine As #[3,_,rfl,?_];rw[W];refine As^As #[4,_,rfl,?_];rw[X];exact Ar^Ar q
 | one w=>
  have q:C (.bl (BS w^.str "enough"&&decide (i<=a.length))) n:=q;rw[show BS (.tup [w])^.tup [.str "enough"]=BS w^.str "enough" from lU _];cases e:BS w^.str "enough" with
  |true=>
   rw[e,iY]at q;refine Ar #[_,_,rfl,rfl,?_];show C (.bl (decide ((i:Int)<=(((a.map AO).length:Nat):Int)))) n;rw[show decide ((i:Int)<=(((a.map AO).length:Nat):Int))=decide (i<=a.length)from decide_eq_decide.mpr^by rw[FM]; lk];exact q
  |false=>
   rw[e]at q;exact As #[3,_,rfl,As^As #[4,_,rfl,Ar^Ar q]]
 | three w u p=>
  have q:C (.bl (BS w^.str "far"&&O9 N t b g u p)) n:=q;have G:By w:=(s.mem (y:=w)^by simp).lay;rw[show BS (.tup [w,u,p])^.tup [.str "enough"]=s_ from p8 _];refine As #[3,_,rfl,?_];refine Ar #[_,AD (j:=0) rfl,G,Ur,?_];show if BS w (.str "far")=r_ then _ else _
  cases e:BS w^.str "far" with
  |true=>
   rw[e,iY]at q;exact Ar #[N,t,b,g,w,u,p,rfl,o,E,D,s.mem^by simp,q]
  |false=>
   rw[e]at q;exact As #[4,_,rfl,Ar^Ar q]
 |four w u c d=>
  have G:By w:=(s.mem (y:=w)^by simp).lay;have Z:Pl u:=s.mem (by simp);rw[show BS (.tup [w,u,c,d])^.tup [.str "enough"]=s_ from p8 _];refine As #[3,_,rfl,?_];refine As^As #[4,_,rfl,?_];refine As #[_,AD (j:=0) rfl,G,Uq,?_];show if(!BS w (.str "split"))=r_ then _ else _
  have q:C (.bl (BS w^.str "split"&&Ua N u λv=>!decide (v∈a)&&(!decide (v∈g)&&(FP N t b i k (a++[v]) g c&&FP N t b i k a (g++[v]) d)))) n:=q;cases e:BS w^.str "split" with
  |false=>simp only[e]at q; exact Ar q
  |true=>
  simp only[e,iY]at q;refine As #[_,AD (j:=1) rfl,N,_,rfl,ok,Z.lay,?_];cases M:DV N u with
  |false=>rw[TN M]at q; exact Ar^Ar q
  |true=>
  let#[v, z,rfl]:=qT.mp M;rw[Df z]at q;refine As #[Bi ok z,D0 ok B,_,rfl,?_];rw[B3];show if decide (v∈a)=r_ then _ else _
  cases O:decide (v∈a)with
  |true=>rw[O]at q; exact Ar^Ar q
  |false=>
  rw[O]at q;refine As #[Bi ok z,D0 ok D,_,rfl,?_];rw[B3];show if decide (v∈g)=r_ then _ else _
  cases Q:decide (v∈g)with
  |true=>rw[Q]at q; exact Ar q
  |false=>
  rw[Q]at q;have H:=sub_snoc B z (by lk);have I:=sub_snoc D z (by lk);have R:((k+1:Nat):Int) - 1=(k:Int):=by lk
  refine As #[z1,by show(a.map AO).length+1<=_; rw[FM]; lk,_,AD (j:=2) rfl,?_];rw[F7,R];refine r _ _ _ (by lk) #[N,t,b,i,a++[v],g,k,c,rfl,o,E,H,D,by simp only[ZB,iB]; lk,by lk,s.mem^by simp,by lk,?_];show if(!FP N t b i k (a++[v]) g c)=r_ then _ else _
  cases S:FP N t b i k (a++[v]) g c with
  |false=>rw[S]at q; exact Ar q
  |true=>
  rw[S]at q;refine As #[z1,by show(g.map AO).length+1<=_; rw[FM]; lk,_,AD (j:=3) rfl,?_];rw[F7,R];exact r _ _ _ (by lk) #[N,t,b,i,a,g++[v],k,d,rfl,o,E,B,I,by lk,by simp only[ZB,iB]; lk,s.mem^by simp,by lk,q]) (by walk_at "l") (by cbv) 15
omit A in
theorem Mj:A7 ["case"] ["case"]^AR Ie:=by walk_at "s"
theorem NC:A.Y "count_of" 17 ["case"] .sh^V9 14:=A.got A.h0m λT F m b=>Km 1 F Mj m b (λt i e=>(AC (Ai (A1^Ag (Ae (BP A) (e.mono^by lk) rfl (BA AB^Ax 0 AF))) (AE^AN AB) AW)
 (AE^AN^AV AY Ac (AV AY Ac AB (Ae i (e.mono^Re _) rfl (BA (Ah (dv 0) AB) AF))) (Ae i (e.mono^Re _) rfl (BA (Ah (dv 0) AB) AF))))) (@λv j y n l a h=>by
 let#[x,rfl,g,q]:=h;exists 4,_,rfl
 have o:tupleOfB 4 x=s_->EV j x=1->if(!tupleOfB 4 x)=r_ then l (.int 1) n else True:=λr s=>by
  rw[r];rw[s]at q;exact Ar q
 cases cG x with
 |one w=>cases j <;>exact q
 |three w u p=>cases j <;>exact q
 | oth x k=>
  rw[(UV k).2.2]
  rw[show EV j x=1 by
   unfold EV
   split
   .exact absurd rfl (k _ rfl).2.2
   .rfl]at q
  exact Ar q
 | four w u c d=>
  cases j with
  |zero=>cases g
  |succ j=>
   refine As #[_,AD (j:=2) rfl,?_];refine a _ _ _ (by lk) #[c,rfl,g.1,_,AD (j:=3) rfl,?_];refine a _ _ _ (by lk) #[d,rfl,g.2,?_];exact q) (by walk_at "l") (by cbv) 14
theorem Ub:A.Y "shows" 22 ["net","times","many","thing"] .sh V4:=A.got A.h0n λT F m b=>by
 let#[_, c]:=T.Gag;let#[_, d]:=T.Gah;exact fj F ["net","times","many","thing"] (λ_ i=>(AE^AN^Cv (cg i (M8 A)^Ax 0^Ax 1^Ax 2^BA (Aj AG)^BA (Aj AG)^BA (Qi rfl d)^Ax 3 AF)^DQ^BY Oi Vx (cg i (NC A)^Ax 3 AF) (Qi rfl c)^BI _)) (@λo n j h=>by
 let#[N,t,b,a,x, rfl,g,k,l,q]:=h;have no:Eb N []:=#[λ_ z=>absurd z iC,by cbv];refine#[z0,z0,N,t,b,a,[],[],15,x,rfl,g,k,no,no,by cbv,by cbv,l,by cbv,?_];unfold Fe at q;cases e:FP N t b a 15 [] [] x with
 |false=>rw[e]at q; exact q
 |true=>
  rw[e,iY]at q;exists x,rfl,Ud e;show j (.bl (decide ((EV 14 x:Int)<=4000))) n;rw[show decide ((EV 14 x:Int)<=4000)=decide (EV 14 x<=4000)from decide_eq_decide.mpr^by omega];exact q)
theorem NB:A.Y "has_ways" 7 ["net","times","thin","paper"] .sh bJ:=A.got A.h0o λT F m b=>have GR_lets_ways:=LY A; by
 let#[C_NoPaper,U_NoPaper, c,g]:=T.x_NoPaper;exact fj F ["net","times","thin","paper"] (λ_ l=>(AE (aV rfl rfl (λ_ _ h=>h) (VP^Xi (VY GR_lets_ways (l.mono^by cbv) rfl (Ax 0^Ax 1^Ax 2^Ax 3 AF)))
 (VX rfl g c.at_ (kJ #[by cbv,_,c]) rfl rfl (λa=>(AE^AN BD))
 ac)))) (@λL n M h=>by
 let#[N,t,b,d,p, rfl,o,s,C,u,D,q]:=h;refine#[N,t,b,d,p,rfl,o,s,C,#[u.1.mono^by cbv,by have:=u.2.1; lk,by have:=u.2.2; lk],D.U0,λi=>?_,λz v e E x y=>?_]
 .refine λa=>q s_^Hr ?_
  rintro⟨r,rfl,l,v,x,y,e⟩
  rcases i with i|i
  .rw[l.zQ]at i; cases i
  .cases p with
   |tup G=>exact absurd rfl (i G)
   |_=>cases e
 .subst e
  rcases Xf #[N.ps,z] t b v p with j|⟨w,k,j,_⟩
  .rw[j]
   exact q r_ #[λ_=>#[z,rfl,E,v,x,y,j],λ_=>rfl]
  .rw[j]
   refine λa=>q s_^Hr ?_;rintro⟨r,e,l,H,I,J,B⟩;obtain rfl:=QU e;simp only[Ep (I.trans x.symm) J y,j]at B;cases B)
theorem NA:A.Y "is_least" 23 ["net","times","thing"] .sh V8:=A.gk A.h0p ["net","times","thing"] (λT _ a=>(AC (Ai (DTW.dt^BL (A1^Ag^cg a (BP A)^BA AB^Ax 2 AF)^BQ^A1^Ag^cg a (NB A)^Ax 0^Ax 1^BA (Ah (dv 2) AB)^BA (Ah (dv 2) AB) AF) (AE^AN BD) AW)
 (AE^AN^cg a (Ub A)^Ax 0^Ax 1^BA (FY T.Gac^Ah (Ah (dv 2) AB) AB)^BA (Ah (dv 2) AB) AF))) (@λL n M h=>by
 let#[N,t,b,x,rfl,g,k,B,l,q]:=h;exists _,_,rfl;show if(!(tupleOfB 3 x))=r_ then _ else _
 cases x with
 | tup i=>
  show if(!((i.length:Int)==3))=r_ then _ else _
  by_cases C:i.length=3
  .obtain⟨d,p,c,rfl⟩:∃x y z,i=[x,y,z]:=by
    match i,C with
    |[x,y,z],_=>exact#[x,y,z,rfl]
   refine As #[_,AD (j:=0) rfl,_,AD (j:=1) rfl,N,t,b,d,p,rfl,g,k,B,(l.mem^by simp).1,(l.mem^by simp).1,λv E=>?_];have F:=(l.mem (y:=c)^by simp).1;show if(!v)=r_ then _ else _
   cases v with
   |false=>
    refine Ar^q s_^Hr ?_;rintro⟨r,m,o,e,a,s,_⟩;injection e with e; injection e with u e; injection e with G e
    exact(nomatch E.mpr #[r,u,a,by simp only[G]; exact s])
   |true=>
    let#[r, rfl,a,s]:=E.mp rfl;refine As #[_,AD (j:=0) rfl,_,AD (j:=1) rfl,_,_,rfl,rfl,_,AD (j:=2) rfl,N,t,b,r.length,c,by rw[FM],g,B,#[F.1.mono^by cbv,by have:=F.2.2; lk],?_];refine q _ #[λz=>#[r,p,c,rfl,a,s,z],?_];rintro⟨O,m,o,e,H,I,z⟩;injection e with e; injection e with u e; injection e with G e; injection e with J e
    simp only[J,←QU u];exact z
  .rw[show((i.length:Int)==3)=s_ by rw[beq_eq_false_iff_ne]; lk]
   refine Ar^q s_^Hr ?_;rintro⟨r,m,o,e,_⟩;exact C^by rw[D.tup.inj e]; rfl
 |_=>
  refine Ar^q s_^Hr ?_;rintro⟨r,m,o,e,_⟩;cases e)
theorem Aq:A.Y "_law_next" 1 ["_law_feed_here","_law_many"] .sh Ji:=A.got A.h0r λT F _ _=>Wx F T.Gac
theorem Ju:A.Y "_law_names" 1 [] .sh YE:=A.gk A.h0s ["_law_names_here"] (λ_ a b=>(AC (Bu 0 a^Aj^AA AX^AA AX^AA AX^AA AX^AA AX^AA AX^AA AX^AA AX^AA AX^AA AX^AA AX^AA AX^AA AX^AA AX^AA AX^AA AX^AA AX AG)
 (AE^AN^AV AY Ac (dv 0)^Aj^AA AX^AA AX^AA AX^AA AX^AA AX^AA AX^AA AX^AA AX^AA AX AG))) (@λc n d h=>by
 let#[rfl,p]:=h;exact#[by cbv,by cbv,by cbv,p])
theorem Et:A.Y "_law_places" 2 ["_law_feed_here","_law_many"] .sh V5:=A.gk A.h0t ["_law_feed_here","_law_many","_law_names_here","_law_at","_law_step"] (λT a b=>(AC (Bu 2 a (SN (Ju A) (b.mono^by cbv) rfl))
 (AC (Bu 3 a^cg b (Aq A)^AU (A2 0)^BA AB AF)
 (AC (Bu 4 a^Ah (Aj^AA AB^AA AB^AA AB^AA AB AG)^cg b (Aq A)^AU (A2 0)^BA AB AF)
 (AE^AN^Sk T.Gab (Ak PN X9 rfl T.Gae oH (AM (Hb ["_law_names_here","_law_at","_law_step","_law_k"] [P3 2,P3 3,P3 4,q_] (DI.c (Cu rfl T.Gad (AM (dv 1) AS))) (λz=>Co 3 z) BF^Ah (dv 0)^AV DM C2 (AV AY Ac (dv 1)^AV Bs Ck (dv 2)^dv 3) AB) AS))))))) (@λG n H h=>by
 let#[m, rfl,I,J,p]:=h;refine#[rfl,26,rfl,by cbv,by cbv,by lk,λfirst L M=>?_];obtain⟨f,rfl⟩:∃f:Nat,first=(f:Int):=#[first.toNat,by lk]
 refine#[(by cbv:4<=sizeLine),4,rfl,by cbv,by cbv,by lk,λw N O=>?_]
 obtain⟨s,B,C⟩:∃s:Nat,(s=1\/s=3\/s=5\/s=7)/\atI [D.int 1,D.int 3,D.int 5,D.int 7] w=P3^.int (s:Int):=by
  rcases(show w=0\/w=1\/w=2\/w=3 by lk)with rfl|rfl|rfl|rfl
  .exact#[1,.inl rfl,rfl]
  .exact#[3,.inr (.inl rfl),rfl]
  .exact#[5,.inr^.inr (.inl rfl),rfl]
  .exact#[7,.inr^.inr (.inr rfl),rfl]
 refine#[_,C,(m:Int),rfl,#[by lk,by lk],by rw[Bj]; lk,?_];refine Az (Oe f s) (λu=>∃v,u=[.sh^.lst^vX.map .str,.sh^.int f,.sh^.int s,v]) _ _ _ _ ?_ #[_,rfl] ?_
 .rintro d E u Q R ⟨v,rfl⟩ g
  let#[k, i,rfl]:=Eo E;have l:(f+s*k) % 26<26:=qB _ (by cbv);have o:(s:Int)*(0+(k:Int))=((s*k:Nat):Int):=by rw[ja]; exact(Int.natCast_mul s k).symm
  exists fw (by lk)^by lk,by show(0:Int)<26; decide,.str^DX ((f+s*k) % 26),?_
  .rw[o,show((f:Int)+((s*k:Nat):Int)) % 26=(((f+s*k) % 26:Nat):Int) by lk]
   exact AD^Sv _ l
  .have:=g [.sh^.lst^vX.map .str,.sh^.int f,.sh^.int s,.sh^.int (0+(k:Int))] #[_,rfl]
   simp only[Ms]at this;exact this
 .have e:[]++(CJ 0 ((m:Int)).toNat).map^Oe f s=((iM m).map λk:Nat=>DX ((f+s*k) % 26)).map .str:=by
   unfold CJ;simp only[iD,i_,i_,jg];refine jF λk _=>?_;exact Ms f s k
  rw[e];refine#[_,_,rfl,N5 _,by simp only[FM,kC]; lk,λq r t=>p q ?_ ?_ ?_]
  .rw[r.length_eq,FM,kC]
  .intro y F
   let#[k, _,rfl]:=Rs.mp^r.mem_iff.mp F;exact OH _^qB _^by cbv
  .refine Jp t^r.nodup_iff.mpr^KU List.nodup_range λj x k i e=>?_
   have e:=Q3 _ _ (qB _^by cbv) (qB _^by cbv) e;have x:=jD.mp x;have i:=jD.mp i
   rcases B with rfl|rfl|rfl|rfl <;>lk)
theorem Iw:A.Y "_law_length" 2 ["_law_feed_here","_law_sort"] .sh dh:=A.gk A.h0u ["_law_feed_here","_law_sort"] (λ_ _ a=>(AC (Ai (B4 De Gg (dv 1) AB) (AE^AN^AV Bb B9 (AV Gw C2 AB AB)^cg a (Aq A)^AU (A2 0)^BA AB AF) AW)
 (AE^AN^AV AY Ac AB^cg a (Aq A)^AU (A2 0)^BA (Ah (Aj^AA AB^AA AB^AA AB AG)^dv 1) AF))) (@λj n d h=>by
 let#[s, rfl,l,m,b,p]:=h;show if(s==3)=r_ then _ else _
 refine CQ (λc=>?_) λc=>?_
 .refine#[gz,_,rfl,by cbv,by cbv,b,λr e g=>?_]
  have o:(10:Int) ^ (6:Int).toNat=1000000:=by cbv
  show d (.int (10 ^ (6:Int).toNat - r)) (n - 1)
  grind
 .have c:s≠3:=by simpa using c
  obtain⟨k,q,i⟩:∃k:Int,(1<=k/\k<=60)/\atI [D.int 3,D.int 9,D.int 60] s=P3^.int k:=by
   rcases(show s=0\/s=1\/s=2 by lk)with rfl|rfl|rfl
   .exact#[3,by cbv,rfl]
   .exact#[9,by cbv,rfl]
   .exact#[60,by cbv,rfl]
  refine#[(by cbv:3<=sizeLine),_,i,k,rfl,by lk,by lk,b,λr e g=>?_];exact p _ (by lk)^by lk)
theorem Ld:A.Y "_law_ties" 3 ["_law_feed_here","_law_places_here","_law_most"] .sh bF:=have V:=Aq A; A.gk A.h0v ["_law_feed_here","_law_places_here","_law_most","_law_found","_law_sort","_law_k","_law_a","_law_b"] (λT N C=>(AC (aU 3 N Va)
 (AC (Bu 4 N^cg C V^AU (A2 0)^BA AB AF)
 (AC (CL iW rfl (Cu rfl T.Gad (AM (cg C V^AU (A2 0)^BA (AV AY Ac (dv 2) AB) AF) AS)) (Co 5 N) (AE (Ai (B4 Dy FZ (FY T.Gac^dv 1) AB) (AC (Bu 6 N^cg C V^AU (A2 0)^BA (FY T.Gac^dv 1) AF)
 (AC (Bu 7 N^AV DM C2 (AV AY Ac (AV AY Ac (dv 6) AB)^cg C V^AU (A2 0)^BA (AV Bb B9 (FY T.Gac^dv 1) AB) AF)^FY T.Gac^dv 1)
 (AE^Xk (i:=3) C (pv 3) (Aa^AA (Ah (dv 1) (Ak (Kv rfl) Vv rfl T.Gar boot_min (AM (dv 6)^AM (dv 7) AS)))^AA (Ah (dv 1) (Ak (Kw rfl) Vw rfl T.Gaq boot_max (AM (dv 6)^AM (dv 7) AS))) AG)^cg C (Iw A)^AU (A2 0)^BA (Ah (Aj^AA (dv 4)^AA (AV DM C2 (dv 5) AB) AG)^AV GF C2 (dv 4) AB) AF))) AW)))
 (AE^AN^Sk T.Gab^Hb ["_law_found","_law_pair"] [P3 3,q_] (A6 (Ak (PM rfl) X8 rfl T.Gae oH (AM (Xe 3) AS))) (λnq=>Co 1 nq) BF^AV AY Ac (dv 1)^Aa^AA (Qg C (Xe 0)^dv 1) AG))))) (@λss n Pd h=>by
 let#[xs,H, rfl,hx,C,b1,hm,hn,p]:=h;have b2:=PySem.sizeLine_eq;refine#[5,rfl,by cbv,by cbv,by lk,λg s0 s1=>?_];refine#[_,rfl,by lk,by lk,by lk,λI m0 m1=>#[I,rfl,#[by lk,by lk],?_]];refine B2 (all:=CJ 0 I.toNat) (λG m M=>n - 2 - 3*G.length<=m/\∃(l:t_^t_ Key) (t:t_ D) (Z s6 s7:Slot),M=[.fd,.sh^.tup^xs.map .str,.sh^.int H,.ow^.dit l t,.sh^.int g,Z,s6,s7]/\Tds xs l t/\l.length<=G.length) ?_ ?_ _ [] _ _ rfl #[by simp; lk,[],[],_,_,_,rfl,#[rfl,jI,(λk h=>by cases h),λd h=>by cases h],Re _]
 .rintro m M ⟨J,l,t,Z,s6,s7,rfl,T,L⟩
  simp only[Bj]at J L;refine#[l,t,rfl,T.len,by lk,λx o y a2=>?_,λx o=>?_,λk B x o=>?_,λks' O pw=>#[by show(ks'.map tupK).length<=10000000; simp only[FM,O.length_eq]; lk,?_]]
  .let#[a,b,rfl,_]:=T.key x o
   let#[a',b', rfl,_]:=T.key y a2;rfl
  .let#[a,b,rfl,_]:=T.key x o
   simp
  .let#[a,b,rfl,ha,hb,_]:=T.key k B
   have Q:∀y∈xs,GU^.inr y:=λy hy=>by
    have:=(hx y hy).2.1
    show y.length<=sizeLine;lk
   rcases TW.mp o with rfl|o
   .exact Q a ha
   .rw[h_.mp o]; exact Q b hb
  .let#[ts,e1,e2,W,X]:=T.ties (ks':=ks') (λk B=>O.mem_iff.mp B) (O.nodup_iff.mpr T.nd) pw
   have b3:ts.length=l.length:=by simp only[←O.length_eq,←e2,FM]
   refine Az (J5 l t) (λM=>∃s,M=[.br^.dit l t,s]) _ _ _ _ ?_ #[_,rfl] ?_
   .rintro d hd M n' nx ⟨s,rfl⟩ u
    let#[k, B,rfl]:=Rs.mp hd;have R:=O.mem_iff.mp B;let#[a,b, rfl,_]:=T.key k R;let#[z,hz]:=Fb T.len R
    have:=u [.br^.dit l t,.sh^.tup [.str a,.str b]] #[_,rfl]
    rw[show J5 l t^tupK [.inr a,.inr b]=.tup [.str a,.str b,z] by show J5 l t^.tup [.str a,.str b]=_; rw[MN,hz]; rfl]at this;exact#[l,t,_,z,rfl,rfl,hz,z1,z3,this]
   .rw[iD,e1]
    exact p ts m #[hx,C,W,X] (by lk)^by omega
 .rintro G d b0 m M nx S ⟨J,l,t,Z,s6,s7,rfl,T,L⟩ u
  let#[ rfl,hk]:=F_ S;rw[ZB,iB]at u;generalize G.length=i at hk J L u ⊢;have xl:(xs.map D.str).length=xs.length:=FM ..;exists _,_,rfl,rfl;show if decide ((1:Int)<((xs.map D.str).length:Int))=r_ then _ else _
  refine CQ (λc=>?_) λc=>u _ _ #[by omega,l,t,_,_,_,rfl,T,by lk];have c:=of_decide_eq_true c;rw[xl]at c;refine#[_,_,rfl,rfl,_,rfl,by lk,by lk,by lk,λa a0 a1=>?_];refine#[_,_,rfl,rfl,_,rfl,by lk,by lk,by lk,λq q0 q1=>#[_,_,rfl,rfl,by show(0:Int)<_; lk,?_]];rw[xl]at a1 q1 ⊢
  obtain⟨s,es,a3,a4⟩:∃s:Int,atI [D.int g,D.int ((0+(i:Int)) % 4)] (g / 4)=P3^.int s/\0<=s/\s<=3:=by
   rcases(show g<4\/g=4 by lk)with z|z
   .refine#[g,?_,s0,by lk]
    rw[show g / 4=0 by lk]; rfl
   .refine#[(0+(i:Int)) % 4,?_,by lk,by lk]
    rw[show g / 4=1 by lk]; rfl
  refine#[l,t,rfl,by show(0:Int)<4; decide,z2,#[by cbv,by cbv],_,es,s,rfl,a3,a4,by lk,λr r1 r2=>?_];have a5:0<=(a+1+q) % (xs.length:Int)/\(a+1+q) % (xs.length:Int)<xs.length:=#[pQ _^by lk,oU _^by lk]
  have a6:(a+1+q) % (xs.length:Int)≠a:=by
   intro e
   rcases(show a+1+q<xs.length\/xs.length<=a+1+q by lk)with z|z
   .rw[Int.emod_eq_of_lt (by lk) z]at e; lk
   .have:(a+1+q) % (xs.length:Int)=a+1+q - xs.length:=by
     rw[←Int.sub_emod_right,Int.emod_eq_of_lt (by lk)^by lk]
    lk
  obtain⟨b,eb⟩:∃b,(a+1+q) % (xs.length:Int)=b:=#[_,rfl];rw[eb]at a5 a6
  have a7:∀E F:Int,0<=E->E<F->F<xs.length->∃x y:Str,atI (xs.map D.str) E=P3^.str x/\atI (xs.map D.str) F=P3^.str y/\x∈xs/\y∈xs/\cs x<cs y:=by
   intro E F l0 lh hl;have W:E.toNat<xs.length:=by lk
   have X:F.toNat<xs.length:=by lk
   exists xs[E.toNat],xs[F.toNat],?_,?_,jB _,jB _
   .have:=AD (xs:=xs.map D.str) (j:=E.toNat) (v:=.str xs[E.toNat])^by rw[T0,On W]; rfl
    rwa[show((E.toNat:Nat):Int)=E by lk]at this
   .have:=AD (xs:=xs.map D.str) (j:=F.toNat) (v:=.str xs[F.toNat])^by rw[T0,On X]; rfl
    rwa[show((F.toNat:Nat):Int)=F by lk]at this
   .exact kO.mp C _ _ W X^by lk
  let#[x,y, ex,ey,a8,a9,lt]:=a7 (if b<a then b else a) (if b > a then b else a) (by split <;>lk) (by split <;>lk) (by split <;>lk);have done:=u (m - 1 - 1 - 1) [.fd,.sh^.tup^xs.map .str,.sh^.int H,.ow^.dit (Cd l [.inr x,.inr y])^Cb l t [.inr x,.inr y]^.int r,.sh^.int g,.sh^.int (0+(i:Int)),.sh^.int a,.sh^.int b] #[by omega,_,_,_,_,_,rfl,T.put a8 a9 lt r1 r2,iU Wf^by lk];subst eb;refine#[_,ex,_,ey,z2,_,rfl,by lk,done])
theorem NE:A.Y "_law_net" 4 ["_law_feed_here","_law_most","_law_ties_here"] .sh Y7:=A.gk A.h0w ["_law_feed_here","_law_most","_law_ties_here","_law_places_here"] (λ_ d a=>(AC (Bu 3 d^cg a (Et A)^AU (A2 0)^BA (cg a (Aq A)^AU (A2 0)^BA (AV AY Ac (dv 1) AB) AF) AF)
 (AE^AN^Aa^AA (dv 3)^AA (cg a (Ld A)^AU (A2 0)^Ax 3^Ax 2 AF) AG))) (@λm n o h=>by
 let#[b,c, rfl,q,e,s,p]:=h;exact#[_,rfl,by lk,by lk,by lk,λr t u=>#[r.toNat,by grind,by lk,by lk,λg v i a=>#[g,_,rfl,i,a,by lk,e,by lk,λx j ok k l=>#[z2,p _ j ok (by grind) k^by lk]]]])
theorem FR:A.Y "_law_times" 2 ["_law_feed_here"] .sh OA:=A.gk A.h0x ["_law_feed_here","_law_some"] (λ_ a b=>(AC (Bu 1 a^Aj^AA (Aa^AA AB^AA AB AG)^AA (Aa^AA AB^AA AB AG)^AA (Aa^AA AB^AA AB AG)^AA (Aa^AA AB^AA AB AG)^AA (Aa^AA AB^AA AB AG)^AA (Aa^AA AB^AA AB AG)^AA (Aa^AA (AV Gw C2 AB AB)^AA AB AG)^AA (Aa^AA AB^AA AB AG) AG)
 (AE^AN^Ah (dv 1)^cg b (Aq A)^AU (A2 0)^BA AB AF))) (@λd n e h=>by
 let#[ rfl,c,q]:=h;refine#[z2,z2,z2,z2,z2,z2,#[by cbv,by cbv,by cbv],z2,z2,by cbv,?_];refine#[8,rfl,by cbv,by cbv,c,λr g i=>?_]
 rcases(by lk:r=0\/r=1\/r=2\/r=3\/r=4\/r=5\/r=6\/r=7)with rfl|rfl|rfl|rfl|rfl|rfl|rfl|rfl
 all_goals exact#[_,rfl,q _ _ (by cbv) (by cbv)^by cbv])
omit A in
theorem hG(n:Nat):-2 ^ 62<=(n:Int):=by lk
omit A in
theorem g_{n:Nat}(h:n<=1000):(n:Int)<2 ^ 62:=by lk
omit A in
theorem qW:A7 ["_law_places_here","_law_ties_here","_law_many","_law_spans","_law_k","_law_a","_law_b","_law_length_here","_law_mid","_law_by"] ["_law_places_here","_law_ties_here"]^AR Fh:=by constructor <;>first|rfl|decide +kernel
set_option tactic.hygienic true in
omit A in
theorem gv{f:Db}{fd:jG}(T:Txt K mg)(F:Fun K "_law_far" "_law_far" Fh f fd):B_ P w K mg base FO 1 f fd ["_law_places_here","_law_ties_here"]^RD K .sh Y8 2:=by
 refine F.ok (k:=0) qW (λvs H Q E h=>h.1) λcdv A outer s H vs Q E hr h=>?_;let#[hl,F0,U,V',M,n,ss,Pd,ra,#[N,dt,rfl,hdt,ok,lp,p],q]:=h;let#[dom,fU,uV,vM,fd0,pa]:=ra;cases pa with
 |cons r1 pa=>
 cases pa with
 |cons r2 pa=>
 cases pa;let#[v, e1,h1]:=r1.1;injection e1 with e1;subst e1;let#[v2, e2,h2]:=r2.1;injection e2 with e2;subst e2
 rename_i v2
 let#[ap,us, rfl,hpn,hps]:=h1;have nd:=qW.nd;have szl:=PySem.sizeLine_eq
 refine#[_,Ao (Dv (i:=2) nd rfl (kJ rfl) (Es Gb rfl T.Gac boot_len (Ap (pv 0) BH)))
  (Ao (P5 (i:=3) rfl [("_law_many":Str),("_law_k":Str)] [P3 2,q_] (DB rfl T.Gad (Ap (pv 2) BH)) (by kernel_rfl) nd rfl (jK rfl) rfl)
  (Ao (Dw iW rfl (DB rfl T.Gad (Ap (pv 2) BH)) (B1 (i:=4) nd rfl (jK rfl)) (BR^Er Au^Fj (BZ qj (pv 3) (pv 4) λ_ _=>rfl) (pv 4) set_list))
  (Ao (Dw iW rfl (LN^pv 1) (Oh rfl (DL (B1 (i:=5) nd rfl (jK rfl))^DL (B1 (i:=6) nd rfl (jK rfl))^DL (B1 (i:=7) nd rfl (jK rfl)) LO))
   (Ao (Er (pv 7)^Fj (BZ qj (pv 3) (Ip PySem.F.slot_tuple_index PySem.F.type_tuple_index (JC hr) (pv 0)^Ap (pv 5) BH) λ_ _=>rfl) (Ip PySem.F.slot_tuple_index PySem.F.type_tuple_index (JC hr) (pv 0)^Ap (pv 6) BH) set_list)
   (BR^Er (pv 7)^Fj (BZ qj (pv 3) (Ip PySem.F.slot_tuple_index PySem.F.type_tuple_index (JC hr) (pv 0)^Ap (pv 6) BH) λ_ _=>rfl) (Ip PySem.F.slot_tuple_index PySem.F.type_tuple_index (JC hr) (pv 0)^Ap (pv 5) BH) set_list)))
  (Ao (Dw iW rfl (DB rfl T.Gad (Ap (pv 2) BH)) (B1 (i:=8) nd rfl (jK rfl)) (BR
   (Dw iW rfl (DB rfl T.Gad (Ap (pv 2) BH)) (B1 (i:=5) nd rfl (jK rfl)) (BR
   (Dw iW rfl (DB rfl T.Gad (Ap (pv 2) BH)) (B1 (i:=6) nd rfl (jK rfl)) (BR
    (KQ (OZ (C7 FF (BZ qj (BZ qj (pv 3) (pv 5) λ_ _=>rfl) (pv 8) λ_ _=>rfl) Iq rfl)^LM (C7 FF (BZ qj (BZ qj (pv 3) (pv 8) λ_ _=>rfl) (pv 6) λ_ _=>rfl) Iq rfl)).pt
     (Ao (Dv (i:=9) nd rfl (jK rfl) (Bk vW (BZ qj (BZ qj (pv 3) (pv 5) λ_ _=>rfl) (pv 8) λ_ _=>rfl)^BZ qj (BZ qj (pv 3) (pv 8) λ_ _=>rfl) (pv 6) λ_ _=>rfl))
     (BR (KQ (Yi (C7 Fk (BZ qj (BZ qj (pv 3) (pv 5) λ_ _=>rfl) (pv 6) λ_ _=>rfl) Iq rfl)^UC (C7 op_lt (pv 9) (BZ qj (BZ qj (pv 3) (pv 5) λ_ _=>rfl) (pv 6) λ_ _=>rfl) rfl)).pt
      (BR^Er (pv 9)^Fj (BZ qj (pv 3) (pv 5) λ_ _=>rfl) (pv 6) set_list) GC))) GC)))))))
  (BR^Fi^pv 3))))),?_]
 cases(Pw hps);have hpn:H ap=P3^.tup^N.ps.map .str:=hpn;have hln:N.ps.length=(N.ps.map V.str).length:=(FM ..).symm;refine#[_,rfl,_,N.ps.length,rfl,.inr #[_,SqT.of hpn,hln],?_];have b1:-2 ^ 62<=(N.ps.length:Int):=hG _;have b2:(N.ps.length:Int)<2 ^ 62:=g_ lp
 refine#[_,rfl,_,rfl,b1,b2,λl hl' hk cl C s' H0 fp=>#[_,_,_,λi m zZ H'=>i<=N.ps.length/\m=N.ps.length - i/\∃(as:t_ Db) (x:u_ V),as.length=i/\as.Nodup/\zZ=[P3^.int N.ps.length,x]/\Mat H l as N.ps.length (λ_ _=>q_) H',
  B1 (i:=1) (show qC [("_law_many":Str),("_law_k":Str)] by decide +kernel) rfl (jK rfl),QB,Bk Zy (Gv^Ap Iq BH)^pv 0,#[N.ps.length,?_],?_]]
 .exact#[XV _,rfl,[],_,rfl,jI,rfl,λb o e=>by rw[AH^Af e hl']; exact e,hl',AQ,λi a h=>by cases h]
 rintro i m zZ H' ⟨hi,rfl,as,x,hal,hnd,rfl,st⟩;rw[jg]
 by_cases hlt:i<N.ps.length
 .refine .inr #[hlt,λy H2 zz=>?_];let#[e1,e2]:=zz
  subst e1 e2;have nl:∀b,H2 b=q_->l≠b:=λb e z=>by rw[←z,st.top]at e; cases e
  refine#[by show 1<=sizeLine; lk,λp' hp=>#[_,rfl,p',N.ps.length,[.non],rfl,rfl,AQ,by lk,by lk,by show 1*_<=_; simp only[jg]; lk,λr hr'=>#[as.map .ref,?_,?_,N.ps.length - (i+1),by lk,by lk,rfl,as++[r],_,?_,?_,rfl,st.more hp hr' ?_]]]
  .have nr:l≠r:=λz=>by rw[←z,AH^nl p' hp,st.top]at hr'; cases hr'
   rw[AH nr,AH^nl p' hp];exact st.top
  .rw[FM]; lk
  .rw[ZB,iB,hal]
  .have hn:H2 r=q_:=by
    have:r≠p':=λz=>by rw[z,AQ]at hr'; cases hr'
    rwa[AH this]at hr'
   rw[jh];refine#[hnd,iV.mpr #[iC,jI],λa ha b hb e=>?_];simp only[h_.mp hb]at e;simp only[e]at ha;exact st.fresh hn ha
  .rw[jg,List.flatten_replicate_singleton]
   unfold Gu;show(iM N.ps.length).map (λ_=>V.non)=_;rw[List.map_const',kC]
 .have e:i=N.ps.length:=by lk
  refine .inl #[show N.ps.length<=i by lk,?_];simp only[e]at hal;clear hlt e hi
  obtain⟨at_,ws,rfl,hts,hJ⟩:∃(at_:Db) (ws:t_ V),v2=.ref at_/\Ats K M H (N.ts.map AO) ws/\(H at_=P3^.lst ws\/H at_=P3^.tup ws):=by
   rcases hdt with rfl|rfl
   .let#[a,us,rfl,#[_,h],hs]:=h2
    exact#[a,us,rfl,hs,.inl h]
   .let#[a,us,rfl,h,hs]:=h2
    exact#[a,us,rfl,hs,.inr h]
  have lws:ws.length=N.ts.length:=by simp only[hts.length,FM]
  refine#[_,rfl,_,rfl,b1,b2,?_];refine FI (lo:=0) (n:=N.ps.length) (λk Z H'=>∃(x4 x5 x6 x7 x8 x9:u_ V) (g:Mx),Z=[P3^.ref ap,P3^.ref at_,P3^.int N.ps.length,P3^.ref l,x4,x5,x6,x7,x8,x9]/\Mat H l as N.ps.length g H'/\Dg N k g) #[_,_,_,_,_,_,_,rfl,st,Dg.zero] ?_ ?_
  .rintro k Z H' hk ⟨x4,x5,x6,x7,x8,x9,g,rfl,st,dg⟩
   refine st.wr hal hnd hk hk (λQ q=>st.row hal hk rfl (λQ q=>#[_,rfl,?_]) q) (λQ q=>#[_,rfl,?_]) λH3 st3=>#[_,_,_,_,_,_,_,rfl,st3,dg.succ hk]
   .rw[ja]; exact q
   .rw[ja]; exact q
  rintro Z H' ⟨x4,x5,x6,x7,x8,x9,g,rfl,st,dg⟩
  obtain⟨J,hJ⟩:∃J:It,(J=WA K at_/\∀H':Hp,(∀b o,H b=P3 o->H' b=P3 o)->SqL K H' at_ ws)\/(J=Sm K at_/\∀H':Hp,(∀b o,H b=P3 o->H' b=P3 o)->SqT K H' at_ ws):=by
   rcases hJ with h|h
   .exact#[_,.inl #[rfl,λH' o=>SqL.of^o _ _ h]]
   .exact#[_,.inr #[rfl,λH' o=>SqT.of^o _ _ h]]
  unfold ON
  dsimp only
  refine TX (i:=1) (J:=J) (xs:=ws) rfl (λi Z H'=>∃(x4 x5 x6 x7 x8 x9:u_ V) (g:Mx),Z=[P3^.ref ap,P3^.ref at_,P3^.int N.ps.length,P3^.ref l,x4,x5,x6,x7,x8,x9]/\Mat H l as N.ps.length g H'/\Tm N (N.ts.take i) g) #[_,_,_,_,_,_,_,rfl,st,dg.tm]
   (hJ.imp (λh=>#[h.1,λi Z H' z=>h.2 _^by let#[_,_,_,_,_,_,_,_,st,_]:=z; exact st.old]) λh=>#[h.1,λi Z H' z=>h.2 _^by let#[_,_,_,_,_,_,_,_,st,_]:=z; exact st.old]) ?_ ?_
  .rintro i x Z H' hx ⟨x4,x5,x6,x7,x8,x9,g,rfl,st,tm⟩
   have hi:i<N.ts.length:=by simp only[←lws]; exact(f8.mp hx).1
   let#[x', hx',hAt]:=hts.get (i:=i) (d:=AO N.ts[i]) (by simp only[T0,On hi]; rfl);rw[hx]at hx';injection hx' with hx';subst hx';have hmem:N.ts[i]∈N.ts:=jB hi;have hsnoc:N.ts.take (i+1)=N.ts.take i++[N.ts[i]]:=by simp only[p7,On hi]; rfl
   have hpre:(N.ts.take (i+1)).Pairwise BJ:=ok.zq.sublist^om _ _;simp only[hsnoc]at hpre;have hin:∀s∈N.ts.take i,s∈N.ts:=λs hs=>lG hs;generalize N.ts[i]=t at hAt hmem hsnoc hpre;let#[ m1,m2,m3,_]:=ok.tin t hmem;let#[ia, ha,la]:=E3 m1;let#[ib, hb,lb]:=E3 m2;let#[tt,us3, rfl,htt,hit]:=hAt;let#[va,r3,rfl,#[rfl,_],vb,r4,rfl,#[rfl,_],vl,r5,rfl,rfl,e5]:=hit;cases(show r5=[]from e5);refine#[tt,_,rfl,SqT.of^st.old _ _ htt,rfl,_,_,rfl,_,_,rfl,_,_,rfl,rfl,?_];refine#[_,rfl,st.wr hal hnd la lb (λQ q=>st.row hal la rfl (Pp ok (st.old _ _ hpn) rfl rfl ha) q) (Pp ok (st.old _ _ hpn) rfl rfl hb) λH3 st3=>?_];refine#[_,rfl,st3.wr hal hnd lb la (λQ q=>st3.row hal lb rfl (Pp ok (st3.old _ _ hpn) rfl rfl hb) q) (Pp ok (st3.old _ _ hpn) rfl rfl ha) λH4 st4=>?_];refine#[_,_,_,_,_,_,_,rfl,st4,?_];rw[hsnoc];exact tm.put ok hmem hpre hin ha hb
  rintro Z H' ⟨x4,x5,x6,x7,x8,x9,g,rfl,st,tm⟩;rw[lws,mJ]at tm;refine#[_,rfl,_,rfl,b1,b2,?_];refine FI (lo:=0) (n:=N.ps.length) (λm Z H'=>∃(x4 x5 x6 x7 x8 x9:u_ V) (g:Mx),Z=[P3^.ref ap,P3^.ref at_,P3^.int N.ps.length,P3^.ref l,x4,x5,x6,x7,x8,x9]/\Mat H l as N.ps.length g H'/\Fm (EI N) (AI N) N.ps.length m g) #[_,_,_,_,_,_,_,rfl,st,tm.fm ok] ?_ ?_
  .rintro m Z H' hm ⟨x4,x5,x6,x7,x8,x9,g0,rfl,st,fm⟩
   refine#[_,rfl,_,rfl,b1,b2,?_];refine FI (lo:=0) (n:=N.ps.length) (λa Z H'=>∃(x5 x6 x9:u_ V) (g:Mx),Z=[P3^.ref ap,P3^.ref at_,P3^.int N.ps.length,P3^.ref l,x4,x5,x6,x7,P3^.int (0+(m:Int)),x9]/\Mat H l as N.ps.length g H'/\Rm (AI N) N.ps.length m g0 a 0 g) #[_,_,_,_,rfl,st,fm.start] ?_ ?_
   .rintro a Z H' ha ⟨x5,x6,x9,g,rfl,st,rm⟩
    refine#[_,rfl,_,rfl,b1,b2,?_];refine FI (lo:=0) (n:=N.ps.length) (λb Z H'=>∃(x6 x9:u_ V) (g:Mx),Z=[P3^.ref ap,P3^.ref at_,P3^.int N.ps.length,P3^.ref l,x4,P3^.int (0+(a:Int)),x6,x7,P3^.int (0+(m:Int)),x9]/\Mat H l as N.ps.length g H'/\Rm (AI N) N.ps.length m g0 a b g) #[_,_,_,rfl,st,rm] ?_ ?_
    .rintro b Z H' hb ⟨x6,x9,g,rfl,st,rm⟩
     have z:=λk:Nat=>ja (k:Int)
     rcases c1:g a m with _|x
     .refine st.rd2 hal ha hm rfl rfl (z _) rfl (z _) c1 #[rfl,_,rfl,CQ (λc=>absurd c^by simp[ov]) λ_=>CQ (λc=>absurd c^by cbv) λ_=>#[_,_,_,rfl,st,rm.skip λd1 d2 e1 e2=>?_]]
      rw[c1]at e1; cases e1
     refine st.rd2 hal ha hm rfl rfl (z _) rfl (z _) c1 #[rfl,_,rfl,CQ (λ_=>?_) λc=>absurd (show(!decide (ov^P3 x=V.non))=r_ by simp[ov]) c]
     rcases c2:g m b with _|y
     .refine st.rd2 hal hm hb rfl rfl (z _) rfl (z _) c2 #[rfl,_,rfl,CQ (λc=>absurd c^by simp[ov]) λ_=>#[_,_,_,rfl,st,rm.skip λd1 d2 e1 e2=>?_]]
      rw[c2]at e2; cases e2
     refine st.rd2 hal hm hb rfl rfl (z _) rfl (z _) c2 #[rfl,_,rfl,CQ (λ_=>?_) λc=>absurd (show(!decide (ov^P3 y=V.non))=r_ by simp[ov]) c];refine st.rd2 hal ha hm rfl rfl (z _) rfl (z _) c1 (st.rd2 hal hm hb rfl rfl (z _) rfl (z _) c2 #[x,y,rfl,rfl,?_])
     rcases c3:g a b with _|u
     .refine st.rd2 hal ha hb rfl rfl (z _) rfl (z _) c3 #[rfl,_,rfl,CQ (λ_=>CQ (λ_=>?_) λc=>absurd rfl c) λc=>absurd (show decide (ov q_=V.non)=r_ by simp[ov]) c]
      refine#[_,rfl,st.wr hal hnd ha hb (λQ q=>st.row hal ha rfl (λQ q=>#[_,rfl,by rw[ja]; exact q]) q) (λQ q=>#[_,rfl,by rw[ja]; exact q]) λH3 st3=>#[_,_,_,rfl,st3,rm.put AI.trans c1 c2 λv e=>?_]];rw[c3]at e; cases e
     refine st.rd2 hal ha hb rfl rfl (z _) rfl (z _) c3 #[rfl,_,rfl,CQ (λc=>absurd c^by simp[ov]) λ_=>?_];refine#[_,rfl,st.rd2 hal ha hb rfl rfl (z _) rfl (z _) c3 #[x+y,u,rfl,rfl,_,rfl,CQ (λc=>?_) λc=>?_]]
     .have c:=of_decide_eq_true c
      refine#[_,rfl,st.wr hal hnd ha hb (λQ q=>st.row hal ha rfl (λQ q=>#[_,rfl,by rw[ja]; exact q]) q) (λQ q=>#[_,rfl,by rw[ja]; exact q]) λH3 st3=>#[_,_,_,rfl,st3,rm.put AI.trans c1 c2 λv e=>?_]];rw[c3]at e; cases e; lk
     .have c:¬x+y<u:=λz=>c^decide_eq_true z
      refine#[_,_,_,rfl,st,rm.skip λd1 d2 e1 e2=>#[u,c3,?_]];rw[c1]at e1; rw[c2]at e2; cases e1; cases e2; lk
    .rintro Z H' ⟨x6,x9,g,rfl,st,rm⟩
     exact#[_,_,_,_,rfl,st,rm.next]
   .rintro Z H' ⟨x5,x6,x9,g,rfl,st,rm⟩
    exact#[_,_,_,_,_,_,_,rfl,st,rm.done (EI.pos ok) hm fm]
  rintro Z H' ⟨x4,x5,x6,x7,x8,x9,g,rfl,st,fm⟩;refine#[_,rfl,q (.ref l) H' (JD N.ps^ofM N.ps g) n (λb o e=>#[o,st.old b o e,λ_=>rfl,λ_ _=>rfl]) (λg' hg=>?_) (show At K M H' (JD N.ps^ofM N.ps g)^.ref l from st.at_ dom hal^EL ok.rise)^p _^fm.far ok]
  rcases fd0 g' hg with⟨tg,a,r,cells,hf,hcf,hc,rest⟩|⟨ks',ds',vs',tg,r,hf,h2,h3,h4⟩
  .exact .inl #[tg,a,r,cells,st.old _ _ hf,hcf,#[hc.1,st.old _ _ hc.2],rest]
  .exact .inr #[ks',ds',vs',tg,r,st.old _ _ hf,h2,h3.qq #[λb o e _=>st.old b o e,λ_ z=>.inl z,λb vs e=>st.old b _ e],h4]
theorem Dh:A.Y "_law_far" 1 ["_law_places_here","_law_ties_here"] .sh Y8:=A.got A.h0y λT F _ _=>gv T F
theorem FU:A.Y "_law_keeps" 2 ["_law_net_here","_law_times_here","_law_some"] .sh Jk:=A.gk A.h0z ["_law_net_here","_law_times_here","_law_some","_law_spans","_law_a","_law_b","_law_length_here","_law_by"] (λ_ q D=>(AC (Bu 3 q^cg D (Dh A)^BA (Ah (dv 0) AB)^Ax 2 AF)
 (AC (CL iW rfl (Fv^Ah (dv 0) AB) (Xw^Aw (Co 4 q)^Aw (Co 5 q)^Aw (Co 6 q) C9) (AC (Bu 7 q^Ah (Ah (dv 3)^D5 D (Ah (dv 0) AB)^AM (dv 4) AS)^D5 D (Ah (dv 0) AB)^AM (dv 5) AS)
 (AE^Ai (DTW.dt^BL (B4 Fk K3 (dv 7) BC)^BQ^B4 Dy FZ (AV Bs Ck (dv 7)^Ah (dv 1) AB)^AV Bs Ck (dv 6)^Ah (dv 1) AB) (AE^AN BD) AW)))
 (AE^AN BD)))) (@λss n Pd h=>by
 let#[N,t,b,S, rfl,r,#[ b1,b2,t1,t2],hs,p]:=h;have ok:=r.1;have lp:=r.2.1;have E:=LD ok hs;refine#[_,AD (j:=0) rfl,#[N.ps,S],_,rfl,.inl rfl,E,by show N.ps.length<=1000; lk,λF W=>?_];exists _,AD (j:=1) rfl;refine B2 (all:=N.ts.map AO) (λl m G=>m=n/\(∀(i:Nat) u,i<l.length->N.ts[i]?=P3 u->∃d,Wk #[N.ps,S] u.a u.b d/\d*b<=u.len*t)/\∃H I J L,G=[.sh^Bl N,.sh^Bg t b,.sh^B0 S,.sh^JD N.ps F,H,I,J,L]) ?_ ?_ _ [] _ _ rfl #[rfl,λi u s=>absurd s^Nat.not_lt_zero _,_,_,_,_,rfl]
 .rintro m G ⟨rfl,g,H,I,J,L,rfl⟩
  refine p r_ #[λ_ u C=>?_,λ_=>rfl];let#[i, s]:=jz.mp C;exact g i u (by simp only[FM]; exact(f8.mp s).1) s
 .rintro l d X m G nx g ⟨rfl,x,H,I,J,L,rfl⟩ y
  let#[u, C,rfl]:=aw g;simp only[ZB,iB]at y;have o:=iu C;let#[ M,O,_]:=ok.tin u o;let#[ia, Z,la]:=E3 M;let#[ib, eb,lb]:=E3 O;let#[ a1,a2,a3,a4]:=Dl ok Z;let#[ Q,R,T,U]:=Dl ok eb;exists rfl,rfl,_,AD (j:=0) rfl,#[_,rfl],_,_,ia,rfl,rfl,a1,a2,a3,a4,_,GO Z,_,AD (j:=0) rfl,#[_,rfl],_,_,ib,rfl,rfl,Q,R,T,U,_,Ov eb
  have B:=fun(h:∃d,Wk #[N.ps,S] u.a u.b d/\d*b<=u.len*t)=>y m [.sh^Bl N,.sh^Bg t b,.sh^B0 S,.sh^JD N.ps F,.sh^.str u.a,.sh^.str u.b,.sh^.int u.len,.sh^od^F u.a u.b] #[rfl,λi v s V=>by
   rcases(show i<l.length\/i=l.length by lk)with z|z
   .exact x i v z V
   .rw[z,C]at V
    injection V with V;subst V;exact h,_,_,_,_,rfl]
  cases e:F u.a u.b with
  |none=>
   exists rfl;refine p s_ #[(λz=>by cases z),λk=>?_];let#[d, w,_]:=k u o;exact absurd e^(W u.a M u.b O).2 d w
  | some d=>
   rw[e]at B;have lst:=(W u.a M u.b O).1 d e;exists rfl;exists _,AD (j:=1) rfl,Vi b1 b2,_,AD (j:=0) rfl,Vi t1 t2;show if decide (u.len*t<d*b)=r_ then _ else _
   by_cases c:u.len*t<d*b
   .rw[decide_eq_true c]
    refine Ar^p s_ #[(λz=>by cases z),λk=>?_];let#[d', w,a0]:=k u o
    have:=kZ (lst.2 d' w) (show 0<=b by lk)
    lk
   .rw[decide_eq_false c]
    exact As^B #[d,lst.1,by lk])
theorem Lf:A.Y "_law_rank" 1 ["_law_tie"] .sh Qy:=A.gk A.h10 ["_law_tie"] (λ_ _ a=>(AE^AN^Aa^AA (Ah (dv 0) AB)^AA (Ah (dv 0) AB)^AA (Ah (dv 0) AB) AG)) Ih
theorem FT:A.Y "_law_order" 4 ["_law_ties_here"] .fr Pa:=A.gk A.h11 ["_law_ties_here"] (λT _ a=>(AE^AN (Nk (Lf A) (a.mono^by cbv) rfl T.Gae rfl (dv 0)))) HH
theorem EY:A.Y "_law_choices" 1 ["_law_ties_here","_law_many"] .fr Fy:=A.gk A.h12 ["_law_ties_here","_law_many","_law_found","_law_k","_law_longer","_law_row","_law_begin"] (λT a d=>(AC (Bu 2 a^Aj^AA (Aa AG) AG)
 (AC (CL iW rfl (Cu rfl T.Gad (AM (dv 1) AS)) (Co 3 a) (AC (aU 4 a^Aj AG)
 (AC (CL iW rfl (Fv^dv 2) (Co 5 a) (AC (Bu 6 a^JW (B4 (Gx d) K2 (dv 5)^Aa AG) (AV AY Ac (Ah (dv 5)^ET AB) AB) AB)
 (AE^Nh 4 cb PySem.F.slot_list_extend PySem.F.type_list_extend Ri dZ (pv 4)^AA (Hb ["_law_row","_law_at"] [P3 5,q_] (DI.c (FL rfl T.Gad (AM (dv 6)^AM (FY T.Gac^dv 0) AS))) (λb=>Co 1 b) BF^AV AY Ac (dv 0)^Aa^AA (dv 1) AG) AG)))
 (QY 4^AE^Bu 2 a^dv 4))))
 (AE^AN^Hb ["_law_ties_here","_law_row"] [P3 0,q_] (A6^dv 2) (λb=>Co 1 b) BF^Hb ["_law_ties_here","_law_at"] [P3 0,q_] (A6^dv 1) (λb=>Co 1 b) BF^Ah (dv 0)^dv 1)))) LL
theorem Jv:A.Y "_law_least" 3 ["_law_net_here","_law_times_here"] .sh OB:=A.gk A.h13 ["_law_net_here","_law_times_here","_law_many"] (λT y c=>(AC (Bu 2 y AB)
 (AC (Ng iW (B4 (Bo c) Cz BD^Hb ["_law_net_here","_law_times_here","_law_some"] [P3 0,P3 1,q_] (A6^cg c (EY A)^BA (Be BX EX rfl T.Gaf mq (AM (Ah (dv 0) AB) AS))^Ax 2 AF) (λG=>Co 2 G) BF^cg c (FU A)^Ax 0^Ax 1^Ax 2 AF)^AE^Bu 2 y^AV AY Ac (dv 2) AB)
 (AE^AN^dv 2)))) (@λU n V h=>by
 let#[N,t,b, rfl,g,H,o,I,q]:=h;have ok:=g.1;exists λm l i=>l=n/\∃k:Nat,i=[.sh^Bl N,.sh^Bg t b,.sh^.int (k:Int)]/\k<=N.ts.length/\m=N.ts.length - k/\∀S:t_ AZ,S.Sublist N.ts->Jn N t b S->k<=S.length,#[_,rfl,0,rfl,XV _,rfl,λ_ _ _=>XV _];rintro m l i ⟨rfl,k,rfl,W,rfl,B⟩;have len:(rows N.ts.length k).length<=46656:=iU (Ml I k) (iU (lH (by cbv) (show k<=6 by lk))^by cbv);refine#[_,AD (j:=1) rfl,N.ts,k,rfl,by lk,by lk,by rw[FM]; lk,?_];refine KY (v:=λr=>kB N t b^pick N.ts 0 r) (λi=>∃s,i=[.sh^Bl N,.sh^Bg t b,s]) (rows N.ts.length k) [] _ _ ?_ #[_,rfl] ?_
 .rintro r c i l X ⟨s,rfl⟩ p
  have a:=(vk (ts:=N.ts) (k:=k) (S:=pick N.ts 0 r)).mp^Rs.mpr #[r,c,rfl];refine#[N,t,b,pick N.ts 0 r,rfl,g,H,a.1,λx J=>?_];have z:=p [.sh^Bl N,.sh^Bg t b,.sh^B0^pick N.ts 0 r] #[_,rfl];rw[show kB N t b^pick N.ts 0 r=x by rw[jW,kB_iff,J]]at z;exact z
 .rw [iD]
  let#[ L,M,O]:=Kc (λr=>kB N t b^pick N.ts 0 r)^rows N.ts.length k;exists#[rfl,rfl,XV _],#[L,M,by show jn _+1<=100; rw[O]; decide],_,rfl;rw[ax];show if(!((rows N.ts.length k).any λr=>kB N t b^pick N.ts 0 r))=r_ then _ else _
  cases e:(rows N.ts.length k).any λr=>kB N t b^pick N.ts 0 r with
  |true=>
   let#[r, c,u]:=kj.mp e;have a:=(vk (ts:=N.ts) (k:=k) (S:=pick N.ts 0 r)).mp^Rs.mpr #[r,c,rfl];exact As^q k #[#[_,a.1,kB_iff.mp u,a.2],B]^by lk
  | false=>
   have no:∀S:t_ AZ,S.Sublist N.ts->Jn N t b S->k+1<=S.length:=λS C D=>by
    have Z:=B S C D
    by_cases Q:S.length=k
    .let#[r,c,R]:=Rs.mp^vk.mpr #[C,Q]
     have:=List.any_eq_false.mp e r c
     rw[R]at this;exact absurd (kB_iff.mpr D) this
    .lk
   have d:=no N.ts (qK _)^Ux ok o;refine Ar #[λE F=>E=l/\F=[.sh^Bl N,.sh^Bg t b,.sh^.int ((k+1:Nat):Int)],?_,rfl,rfl];rintro E F ⟨rfl,rfl⟩;exact#[N.ts.length - (k+1),by lk,rfl,k+1,rfl,d,rfl,no])
theorem Hl:A.Y "_law_is_thin" 1 ["_law_net_here","_law_thing"] .sh Pb:=A.gk A.h14 ["_law_net_here","_law_thing"] (λT _ i=>(AC (Ai (DTW.dt^BL (A1^Ag (BK kit_tuple (dv 1) rfl T.Gaa rfl T.Gab (by decide +kernel)))^BL (B4 FQ J3 (FY T.Gac^dv 1) AB)^BQ^B4 FQ J3 (Ak (DD i) G_ rfl T.Gai oV (AM (Ah (dv 1) AB) AS)) (Ak (DD i) G_ rfl T.Gai oV (AM (Ah (dv 0) AB) AS))) (AE^AN BD) AW)
 (AC (Ai (A1^Ag (BK kit_tuple (Ah (dv 1) AB) rfl T.Gaa rfl T.Gab (by decide +kernel))) (AE^AN BD) AW)
 (AE^AN^BY De Gg (Ak (DD i) G_ rfl T.Gai oV (AM (Ah (dv 1) AB) AS)) (Ak (DD i) G_ rfl T.Gai oV (AM (Sk T.Gab^Hb ["_law_thing","_law_tie"] [P3 1,q_] (A6^Ah (dv 0) AB) (λJ=>Co 1 J) (C8^B4 (Fl i) Cz (dv 1)^Ah (dv 0) AB)^dv 1) AS))^BI _)))) (@λU n L h=>by
 let#[N,d,rfl,a,k,p]:=h;have ok:=a.1;have M:=a.2.2;have O:=a.2.1;have Q:HD^.tup^N.ps.map .str:=(IZ a).1;cases d with
 | tup g=>
  exists _,_,rfl,rfl;show if(!((g.length:Int)==2))=r_ then _ else _
  by_cases o:g.length=2
  .obtain⟨x,y,rfl⟩:∃x y,g=[x,y]:=by
    match g,o with
    |[x,y],_=>exact#[x,y,rfl]
   refine As #[_,AD (j:=0) rfl,_,rfl,(k.mem (y:=x)^by simp).1.sh,_,AD (j:=0) rfl,_,rfl,Q,?_];show if(!(Cr x==Cr^.tup^N.ps.map .str))=r_ then _ else _
   by_cases q:Cr x=Cr^.tup^N.ps.map .str
   .have ex:=Ti (UL ok) ((k.mem (y:=x)^by simp).1.sh).1 q
    subst ex;rw[beq_self_eq_true];refine As #[_,AD (j:=1) rfl,?_];have u:=(k.mem (y:=y)^by simp).1;cases y with
    | tup b=>
     refine#[_,AD (j:=1) rfl,_,rfl,u.sh,_,AD (j:=1) rfl,by show(N.ts.map AO).length<=10000000; rw[FM]; lk,?_];refine CC (λd=>b.any λy=>BS y d) id (λG=>∃s,G=[.sh^.tup [.tup^N.ps.map .str,.tup b],s]) _ _ _ _ ?_ #[_,rfl] ?_
     .rintro d k G m V W ⟨s,rfl⟩ R o
      let#[t, v,rfl]:=Rs.mp k;exists _,AD (j:=1) rfl,Bi ok v,u.lay,_,rfl;exact CQ (λc=>R _ #[_,rfl] c) λc=>o _ #[_,rfl]^iS.mpr c
     .rw[iD,km]
      have e:(N.ts.map AO).filter (λd=>b.any λy=>BS y d)=(N.ts.filter λt=>b.any λy=>BS y^AO t).map AO:=lf ..;rw[e];generalize H:(N.ts.filter λt=>b.any λy=>BS y^AO t)=F;have l:F.Sublist N.ts:=by rw[←H]; exact mT
      have B:thn N F:=#[λt C=>l.subset C,ok.zq.sublist l];exists _,rfl,(IZ^B.okN a).2;show L (.bl (Cr^.tup b==Cr^.tup^F.map AO)) n;rw[show(Cr^.tup b==Cr^.tup^F.map AO)=zQ N^.tup [.tup^N.ps.map .str,.tup b] from ?_]
      .exact p
      refine Nc #[λz=>?_,λz=>?_]
      .have:=Ti (UK ok B.1) u.sh.1^eq_of_beq z
       exact#[F,by rw[this],B]
      .let#[r,E,C]:=z
       have I:b=r.map AO:=by
        have:=(iO (iO^D.tup.inj E).2).1
        exact D.tup.inj this
       have S:F=r:=by
        rw[←H,I];refine Eq.trans (k_ λt _=>?_)^Fc ok C;exact B3
       rw[I,S];exact beq_self_eq_true _
    |_=>
     rw[Eh^by intro p g z; cases z]at p;exact p
   .rw[beq_eq_false_iff_ne.mpr q]
    rw[show zQ N^.tup [x,y]=s_ from iS.mpr λz=>by
     let#[r, E,_]:=zg.mp z;exact q^by rw[(iO^D.tup.inj E).1]]at p
    exact Ar p
  .rw[show((g.length:Int)==2)=s_ by rw[beq_eq_false_iff_ne]; lk]
   rw[Eh^by rintro p b z; exact o^by rw[D.tup.inj z,UF,iB]]at p;exact Ar p
 |_=>
  rw[Eh^by intro p g z; cases z]at p;exact p)
theorem Lg:A.Y "_law_long" 1 ["_law_ties_here","_law_thing"] .sh Qz:=A.gk A.h15 ["_law_ties_here","_law_thing","_law_lengths","_law_found","_law_k","_law_step"] (λT F G=>(AC (Ai (DTW.dt^BL (A1^Ag (BK kit_tuple (dv 1) rfl T.Gaa rfl T.Gab (by decide +kernel)))^BL (B4 (Iu G) N6 (FY T.Gac^dv 1) AB)^BQ^B4 (Fl G) Cz BD^Hb ["_law_name"] [q_] (A6^dv 1) (λO=>Co 0 O) BF (BK Lp (dv 0) rfl T.Gaa rfl T.Gam (by decide +kernel))) (AE^AN BC) AW)
 (AC (Bu 2 F (Be (PP rfl G) X_ rfl T.Gas boot_dict (AM (Hb ["_law_tie"] [q_] (A6^dv 0) (λO=>Co 0 O) BF^Aa^AA (CF Dt CH (dv 0) A_^A9 AB)^AA (Ah (dv 0) AB) AG) AS)))
 (AC (Bu 3 F AB)
 (AC (CL iW rfl (FL rfl T.Gad (AM AB^AM (FY T.Gac^dv 1) AS)) (Co 4 F) (AC (Bu 5 F^Aa^AA (Ak (SV rfl) bA rfl T.Gar boot_min (AM (Ah (dv 1)^AV Bb B9 (dv 4) AB)^AM (Ah (dv 1)^dv 4) AS))^AA (Ak (SW rfl) bB rfl T.Gaq boot_max (AM (Ah (dv 1)^AV Bb B9 (dv 4) AB)^AM (Ah (dv 1)^dv 4) AS)) AG)
 (AC (Ai (B4 (Gy G) Vs (dv 5)^dv 2) (AE^AN BC) AW)
 (AE^Bu 3 F^AV AY Ac (dv 3)^Qg G (dv 2)^dv 5))))
 (AE^AN^dv 3)))))) (@λss n C h=>by
 let#[M,d,rfl,H,L,p]:=h;have ok:=H.1;have a2:=H.2.2;cases d with
 | tup o=>
  have hl:=C6 o;have hz:CO o<=150000:=L.2.1;have i:C (if 2<=(strsOf o).length then(if o.all B6 then Rq M^strsOf o else .non)else .non) n:=p;refine#[_,_,rfl,rfl,CQ (λc=>?_) λc=>#[by lk,?_]]
  .have c:o.length<2:=by have:=of_decide_eq_true c; omega
   by_cases E:o.all B6=r_
   .let#[ys,rfl]:=Ei E
    rw[Bv,if_neg^by rw[FM]at c; lk]at i;exact i
   .rw[if_neg E,ite_self]at i
    exact i
  have c:2<=o.length:=by have:=of_decide_eq_false^iS.mpr c; omega
  refine Az (λd=>.bl^B6 d) (λI=>∃s,I=[s]) _ _ _ _ ?_ #[_,rfl] ?_
  .rintro d L I m nx ⟨s,rfl⟩ v
   have:=v [.sh d] #[_,rfl]
   cases d <;>exact this
  rw[iD];refine U6 ?_;show if(!o.all B6)=r_ then _ else _
  cases E:o.all B6 with
  |false=>
   rw[E]at i;have p2:C .non n:=by simpa using i
   exact Ar p2
  | true=>
   rw[E]at i;let#[q,rfl]:=Ei E;rw[FM]at c;rw[Bv,if_pos c,if_pos rfl]at i;refine As #[by show(M.ts.map AO).length<=10000000; rw[FM]; lk,?_];refine Az (λd=>match d with|.tup [.str a,.str b,.int l]=>.tup [.tup [.str a,.str b],.int l]|_=>.non) (λI=>∃s,I=[s]) _ _ _ _ ?_ #[_,rfl] ?_
   .rintro d L I m nx ⟨s,rfl⟩ v
    let#[u, Q,rfl]:=Rs.mp L;exact#[_,AD (j:=2) rfl,Tj,v _ #[_,rfl]]
   rw[iD,i_]
   have nk:(M.ts.map λu=>([.inr u.a,.inr u.b]:t_ Key)).Nodup:=by
    rw[List.nodup_iff_pairwise_ne,ke];refine mo (λ{s t} hs ht R e=>?_) ok.zq;have W:=iO e;have e1:s.a=t.a:=jU W.1;have e2:s.b=t.b:=jU (iO W.2).1
    rcases R with z|⟨_,z⟩
    .rw[e1]at z; exact BU _ z
    .rw[e2]at z; exact BU _ z
   exists _,_,_,rfl,KR M.ts,nk;exists _,_,rfl,rfl,1,_,rfl,#[by cbv,by cbv,by omega,by rw[FM]at hl ⊢; lk];rw[FM]
   have go:∀(r g:t_ Str) (x:Str) (k:Int) (S U:Slot),g++x::r=q->C (OT^Ey M.ts x r k) n->
     Bc (A5 4) (BO (CS 5^Bt^AK (Hu Yt^AK (BE D7 (AJ 1)^BE HU (AJ 4)^wC^D.int 1)^AK (BE D7 (AJ 1)^AJ 4) Ad)^AK (Hu Yv^AK (BE D7 (AJ 1)^BE HU (AJ 4)^wC^D.int 1)^AK (BE D7 (AJ 1)^AJ 4) Ad) Ad)
 (BO (DU (A8^BE (dC r_) (AJ 5)^AJ 2) (CT^wC D.non) CA)
 (CS 3^BE CD (AJ 3)^BE VB (AJ 2)^AJ 5))) {EE C with nx:=CT (AJ 3)^EE C} (CJ ((g.length:Int)+1) r.length) n [.sh^B0 M.ts,.sh^Hg q,.sh^.dit (M.ts.map λu=>([.inr u.a,.inr u.b]:t_ Key))^M.ts.map λu=>D.int u.len,.sh^.int k,S,U]:=by
    intro r
    induction r with
    |nil=>
     intro g x k S U _ B;exact B
    | cons y r ih=>
     intro g x k S U V B;simp only[UF,Tp];have a0:(q.map D.str)[g.length]?=P3^.str x:=by rw[←V,T0,ji^Re _,mE]; rfl
     have a1:(q.map D.str)[g.length+1]?=P3^.str y:=by rw[←V,T0,ji^by lk,Nat.add_sub_cancel_left]; rfl
     have X:atI (q.map D.str) ((g.length:Int)+1 - 1)=P3^.str x:=by rw[Int.add_sub_cancel]; exact AD a0
     have Z:atI (q.map D.str) ((g.length:Int)+1)=P3^.str y:=AD (j:=g.length+1) a1;exists _,X,_,Z,x,y,rfl,_,X,_,Z,x,y,rfl,Tj;exists _,_,[.inr (if decide (cs y<cs x)=r_ then y else x),.inr (if decide (cs x<cs y)=r_ then y else x)],rfl,rfl;have J:=fY ok x y;show if(!(CM _ _ _).isSome)=r_ then _ else _
     unfold Ey at B;cases c:look M.ts x y with
     |none=>
      rw[c]at J B;rw[J];exact Ar B
     |some l=>
      rw[c]at J B;rw[J];refine As #[_,_,_,_,rfl,rfl,J,?_]
      have:=ih (g++[x]) y (k+l) (.sh^.int ((g.length:Int)+1)) (.sh^.tup [.str (if decide (cs y<cs x)=r_ then y else x),.str (if decide (cs x<cs y)=r_ then y else x)]) (by rw[i7]; exact V) B
      simp only[ZB,iB]at this;exact this
   obtain⟨x,y,r,rfl⟩:∃x y r,q=x::y::r:=by
    match q,c with
    |x::y::r,_=>exact#[x,y,r,rfl]
   rw[show(((x::y::r).length:Int) - 1).toNat=(y::r).length by simp only[UF]; lk];refine go (y::r) [] x 0 _ _ rfl ?_;have i:C (if x∈M.ps then OT^Ey M.ts x (y::r) 0 else .non) n:=i
   by_cases N:x∈M.ps
   .rw[if_pos N]at i; exact i
   .rw[if_neg N]at i
    have no:look M.ts x y=q_:=by
     cases c:look M.ts x y with
     |none=>rfl
     |some l=>
      let#[u, Q,_,h]:=(dP c).tie ok
      rcases h with⟨rfl,_⟩|⟨rfl,_⟩
      .exact absurd (ok.tin u Q).1 N
      .exact absurd (ok.tin u Q).2.1 N
    unfold Ey;rw[no];exact i
 |_=>exact p)
theorem Fo:A.Y "_law_ways_right" 5 ["_law_net_here","_law_times_here","_law_some","_law_thing"] .sh Sd:=A.gk A.h16 ["_law_net_here","_law_times_here","_law_some","_law_thing","_law_out","_law_tie","_law_way_here","_law_long_here"] (λT U V=>(AC (Bu 4 U^cg V (FT A)^BA (Hb ["_law_some","_law_tie"] [P3 2,q_] (A6^Ah (dv 0) AB) (λnq=>Co 1 nq) (C8^B4 (Bo V) Cz (dv 1)^dv 0)^dv 1) AF)
 (AC (Ai (DTW.dt^BL (A1^Ag (BK kit_tuple (dv 3) rfl T.Gaa rfl T.Gab (by decide +kernel)))^BQ^B4 FQ J3 (FY T.Gac^dv 3)^FY T.Gac^dv 4) (AE^AN BD) AW)
 (AC (CL iW rfl (VW rfl T.Gan (AA (dv 4)^AA (dv 3) AG)) (Xw^Aw (Co 5 U)^Aw (Co 6 U) C9) (AC (Bu 7 U^cg V (Lg A)^Ax 2^Ax 6 AF)
 (AE^Ai (DTW.dt^BL (B4 Fk K3 (dv 7) BC)^BL (B4 (Gx V) K2 (Aa^AA (Ah (dv 6) AB)^AA (Ah (dv 6)^ET AB) AG)^CF Dt CH (dv 5) A_^A9 AB)^BQ^B4 Dy FZ (AV Bs Ck (dv 7)^Ah (dv 1) AB)^AV Bs Ck (Ah (dv 5) AB)^Ah (dv 1) AB) (AE^AN BD) AW)))
 (AE^AN BD))))) (@λss n O h=>by
 let#[N,r,t,b,p, rfl,H,ht,#[ b1,b2,t1,t2],hp,q]:=h;have ok:=H.1;have S:=ht.okN H;have a0:=H.2.2;have a4:=H.2.1;refine#[_,AD (j:=1) rfl,by show(N.ts.map AO).length<=10000000; rw[FM]; lk,?_];refine CC (λd=>!((r.map AO).any λy=>BS y d)) id (λρ=>∃s,ρ=[.sh^B0 r,s]) _ _ _ _ ?_ #[_,rfl] ?_
 .rintro d W ρ m nx sk ⟨s,rfl⟩ h1 h2
  let#[u, Q,rfl]:=Rs.mp W;exists Bi ok Q,(Cy S.1 λx h=>h).2,_,rfl;exact CQ (λc=>h1 _ #[_,rfl] c) λc=>h2 _ #[_,rfl]^iS.mpr c
 rw[iD,km,NQ];have ll:(HN N r).length<=60:=iU (j8 _ _) a0;refine#[_,HN N r,rfl,rfl,by lk,λC p1 p2=>?_];have o:∀v:Bool,(v=r_↔SI #[N.ps,r] t b C p=.non)->O (.bl v) n:=λv R=>q v^R.trans #[λz=>#[C,p1,p2,z],fun#[lo2,x1,x2,e]=>by rw[Ep (x1.trans p1.symm) x2 p2]at e; exact e];cases p with
 | tup J=>
  exists _,_,rfl,rfl,_,_,rfl,rfl;show if(!((J.length:Int)==((C.map AO).length:Int)))=r_ then _ else _
  have o:∀v:Bool,(v=r_↔(if J.length=C.length then GW #[N.ps,r] t b 0 C J else W0 "shape" 0)=.non)->O (.bl v) n:=o;rw[FM]
  by_cases E:J.length=C.length
  .rw[if_pos E]at o
   rw[show((J.length:Int)==(C.length:Int))=r_ by rw[E]; exact beq_self_eq_true _];refine As #[_,_,_,_,rfl,rfl,rfl,?_]
   have go:∀(M:t_ AZ) (F:t_ D) (k:Nat) (s5 s6 s7:Slot),(∀u∈M,u∈N.ts)->(∀v∈F,vZ v)->F.length=M.length->(∀v:Bool,(v=r_↔GW #[N.ps,r] t b k M F=.non)->O (.bl v) n)->
     Bc (L_ 2^B8 (A5 5)^B8 (A5 6) Hd) (BO (CS 7^A0 Qz^AL (AT^AJ 2)^AL (AT^AJ 6) A3)
 (DU (OI (A8^BE (PB s_) (AJ 7)^wC D.non)^OI (A8^BE SE (Bt^AK (BE D7 (AJ 6)^wC^D.int 0)^AK (BE D7 (AJ 6)^Q5^wC^D.int 1) Ad)^OG E4 (AJ 5) Ba^C3^wC^D.int 2)^A8^BE (f2 λi j=>D.bl (decide (j<i))) (BE QR (AJ 7)^BE D7 (AJ 1)^wC^D.int 1)^BE QR (BE D7 (AJ 5)^wC^D.int 2)^BE D7 (AJ 1)^wC^D.int 0) (CT^wC^D.bl s_) CA)) {EE O with nx:=CT (wC^D.bl r_)^EE O} (Fa (M.map AO) F) n [.sh^Bl N,.sh^Bg t b,.sh^B0 r,.sh^.tup J,.sh^.lst^C.map AO,s5,s6,s7]:=by
    intro M
    induction M with
    |nil=>
     intro F k s5 s6 s7 _ _ E h;cases F with
     |nil=>exact h r_ #[λ_=>rfl,λ_=>rfl]
     |cons _ _=>cases E
    | cons u M ih=>
     intro F k s5 s6 s7 Q R E h
     match F,E with
     | d::F,E=>
      have a1:=Q u Sc;let#[ m1,m2,lt,_]:=ok.tin u a1;have ne:u.a≠u.b:=λz=>by rw[z]at lt; exact BU _ lt
      have W:=R d Sc;have g:=ih F (k+1) (.sh^AO u) (.sh d) (.sh^Z5 #[N.ps,r] d) (λv z=>Q v^TM _ z) (λv z=>R v^TM _ z)^mj E;exists rfl,rfl,#[N.ps,r],d,rfl,S,W;unfold GW at h;have I:(∃w,MO #[N.ps,r] t b u d=.str w)->O (.bl s_) n:=fun#[w,e]=>h s_ (Hr^by simp only[e]; intro z; cases z);unfold Z5 at g ⊢
      rcases KZ #[N.ps,r] d with e|⟨x,q,l,rfl,e⟩
      .rw[e,ite_self]
       exact#[rfl,I #["way",by delta MO W6; rw[e]]]
      have hs:RC^Hg (x::q)=x::q:=Bv _;obtain⟨y,X⟩:∃y,(x::q).getLast?=P3 y:=#[_,nt^by simp]
      have G:MO #[N.ps,r] t b u^Hg (x::q)=match (if(P3 x==P3 u.a&&P3 y==P3 u.b)=r_ then .int l else .non:D)with
        |.int l=>if l*b<=u.len*t then .non else .str "far"
        |_=>.str "way":=by
       delta MO W6;rw[e,hs,X];rfl
      rw[hs,e]at g ⊢
      by_cases c2:2<=(x::q).length
      .rw[if_pos c2]at g ⊢
       have fx:∀z∈x::q,qh (10 ^ 30+2)^.str z:=λz Z=>qv.mp W.1 _ (Rs.mpr #[z,Z,rfl]:D.str z∈(x::q).map D.str);have a2:By^.tup [.str x,.str y]:=D1 (B:=10 ^ 30+2) (by cbv) #[fx x Sc,fx y^mN X,trivial]^by show max 0^max 0 0+1<=100; decide
       have a3:By^.tup [.str u.a,.str u.b]:=EC (ps:=[u.a,u.b]) λz Z=>by
        simp only[TW,iC,or_false]at Z
        rcases Z with rfl|rfl
        .exact ok.names _ m1
        .exact ok.names _ m2
       exists rfl,_,AD (j:=0) rfl,1,rfl,_,GQ X,Tj,a2,a3;have ee:BS (.tup [.str x,.str y])^.tup^Dp.cutD [.str u.a,.str u.b,.int u.len] q_^P3 2=(P3 x==P3 u.a&&P3 y==P3 u.b):=by show((x==u.a)&&((y==u.b)&&r_))=_; rw[lU]; rfl
       rw[ee];show if(!(P3 x==P3 u.a&&P3 y==P3 u.b))=r_ then _ else _
       cases c3:(P3 x==P3 u.a&&P3 y==P3 u.b)with
       |false=>
        rw[c3]at G;exact Ar^I #["way",G]
       | true=>
        rw[c3]at G;have G:MO #[N.ps,r] t b u^Hg (x::q)=if l*b<=u.len*t then .non else .str "far":=G
        refine As #[_,AD (j:=1) rfl,X3 b1 b2,_,AD (j:=2) rfl,_,AD (j:=0) rfl,X3 t1 t2,?_];show if(decide (u.len*t<l*b))=r_ then _ else _
        by_cases c4:l*b<=u.len*t
        .rw[decide_eq_false^by lk]
         rw[if_pos c4]at G;rw[G]at h;exact As^g h
        .rw[decide_eq_true^by lk]
         rw[if_neg c4]at G;exact Ar^I #["far",G]
      .rw[if_neg c2]at g ⊢
       refine#[rfl,I #["way",?_]];rw[G];cases q with
       |cons _ _=>exact absurd (by simp only[UF,UF]; omega) c2
       |nil=>
        have:x=y:=iA X
        subst this;rw[if_neg];simp only[iE];rintro⟨z1,z2⟩;exact ne^(eq_of_beq (show(x==u.a)=r_ from z1)).symm.trans^eq_of_beq (show(x==u.b)=r_ from z2)
   exact go C J 0 _ _ _ (λu Q=>(jt.mp^p1.mem_iff.mp Q).1) (λv R=>(hp.mem R).1) E o
  .rw[if_neg E]at o
   rw[show((J.length:Int)==(C.length:Int))=s_ by rw[beq_eq_false_iff_ne]; lk];exact Ar^o s_^Hr λz=>by cases z
 |_=>exact o s_^Hr λz=>by cases z)
theorem Eu:A.Y "_law_is_tie" 1 ["_law_net_here","_law_thing"] .sh Sf:=A.gk A.h17 ["_law_net_here","_law_thing"] (λT _ k=>(AC (Ai (DTW.dt^BL (A1^Ag (BK kit_tuple (dv 1) rfl T.Gaa rfl T.Gab (by decide +kernel)))^BL (B4 FQ J3 (FY T.Gac^dv 1) AB)^BQ^Ag (BK Ez (Ah (dv 1) AB) rfl T.Gaa rfl T.Gaj (by decide +kernel))) (AE^AN BD) AW)
 (AE^AN^BY (Fl k) Cz (dv 1) (Ah (dv 0) AB)^by with_unfolding_all rfl))) (@λo n l h=>by
 let#[N,d,rfl,ok,g,q]:=h;cases d with
 | tup b=>
  exists _,_,rfl,rfl
  by_cases i:b.length=3
  .match b,i,g,q with
   | [x,y,c],_,g,q=>
    exists _,AD (j:=2) rfl;have a:(∀z,c≠.bl z)->l (.bl^(N.ts.map AO).any λs=>BS s^.tup [x,y,c]) n:=λh=>by rw[X6 h]; exact q
    cases c with
    | bl z=>
     rw[show DV N^.tup [x,y,.bl z]=s_ from iS.mpr λe=>by
      let#[v, _,e]:=qT.mp e;injection e with e; injection e with _ e; injection e with _ e; injection e with e; cases e]at q
     exact q
    |_=>exact#[_,AD (j:=1) rfl,g.lay,(Cy ok λ_ z=>z).1,_,rfl,a λ_ e=>by cases e]
  .rw[Po λm e=>by injection e with e;subst e; exact i]at q
   show if(!((b.length:Int)==3))=r_ then _ else _
   rw[show((b.length:Int)==3)=s_ from beq_eq_false_iff_ne.mpr^by lk];exact Ar^Ar q
 |_=> 
  rw[Po λm e=>by cases e]at q;exact q)
theorem Iy:A.Y "_law_is_far" 2 ["_law_world","_law_gone","_law_tie","_law_prices_here"] .sh YF:=A.gk A.h18 ["_law_world","_law_gone","_law_tie","_law_prices_here","_law_net_here","_law_price","_law_by","_law_a","_law_b","_law_length_here","_law_apart"] (λT i g=>(AC (Bu 4 i^E7 g (pv 0) AX)
 (AC (Ai (DTW.dt^BL (A1^Ag^cg g (Eu A)^Ax 4^Ax 2 AF)^BQ^B4 (Bo g) Cz (dv 2)^dv 1) (AE^AN BD) AW)
 (AC (Ai (DTW.dt^BL (A1^Ag (BK kit_tuple (dv 3) rfl T.Gaa rfl T.Gab (by decide +kernel)))^BQ^B4 FQ J3 (FY T.Gac^dv 3)^FY T.Gac^Ah (dv 4) AB) (AE^AN BD) AW)
 (AC (CL iW rfl (Fv^dv 3) (Co 5 i) (AE^Ai (DTW.dt^BL (Ag (BK Ez (dv 5) rfl T.Gaa rfl T.Gaj (by decide +kernel)))^BL (A1^Ag (BK Lq (dv 5) rfl T.Gaa rfl T.Gal (by decide +kernel)))^BQ^B4 (Iu g) N6 (dv 5) AB) (AE^AN BD) AW))
 (AC (Bu 6 i (SM rfl (AM (Ah (dv 4) AB)^AM (dv 3) AS) rfl T.Gas rfl T.Gan))
 (AC (CL iW rfl (Fv^Ah (dv 4) AB) (Xw^Aw (Co 7 i)^Aw (Co 8 i)^Aw (Co 9 i) C9) (AE^Ai (DTW.dt^JS (B4 (Bo g) Cz (Aa^AA (dv 7)^AA (dv 8)^AA (dv 9) AG)^dv 1)^IF^B4 Dy FZ (Ak Jd Vz rfl T.Gap boot_abs (AM (AV Bb B9 (Cj g (dv 6)^dv 7)^Cj g (dv 6)^dv 8) AS))^dv 9) (AE^AN BD) AW))
 (AC (Bu 10 i (Ak Jd Vz rfl T.Gap boot_abs (AM (AV Bb B9 (Cj g (dv 6)^Ah (dv 2) AB)^Cj g (dv 6)^Ah (dv 2) AB) AS)))
 (AE^AN^BY Dy FZ (AV Bs Ck (dv 10)^Ah (E7 g (pv 0) AX) AB) (AV Bs Ck (Ah (dv 2) AB)^Ah (E7 g (pv 0) AX) AB)^BI _))))))))) (@λR n B h=>by
 let#[N,t,b,s,gone,u,p,rfl,k,#[C,E,F,G],x,H,q]:=h;have ok:=k.1;have I:=PySem.sizeLine_eq;have J:=k.2.1;exists _,_,rfl,_,_,rfl,K8 _ _ _;exists N,u,rfl,ok,H;unfold O9 at q;cases e:DV N u with
 |false=>rw[TN e]at q; exact Ar q
 |true=>
 let#[v, m,rfl]:=qT.mp e;rw[Df m]at q;refine As #[Bi ok m,D0 ok x,_,rfl,?_];rw[B3];show if(!decide (v∈gone))=r_ then _ else _
 cases e:decide (v∈gone)with
 |false=>rw[e]at q; exact Ar q
 |true=>
 rw[e,iY]at q;cases p with
 | tup d=>
  refine As #[_,_,rfl,rfl,_,AD (j:=0) rfl,_,_,rfl,rfl,?_];show if(!(((d.length:Nat):Int)==(((N.ps.map D.str).length:Nat):Int)))=r_ then _ else _
  rw[FM];have q:B (.bl (((((d.length:Int)==(N.ps.length:Int))&&d.all JK)&&(Bp N gone).ts.all λt=>decide (CG (Cq N d t.a - Cq N d t.b)<=t.len))&&decide (v.len*t<CG (Cq N d v.a - Cq N d v.b)*b))) n:=q
  by_cases l:d.length=N.ps.length
  .rw[show((d.length:Int)==(N.ps.length:Int))=r_ from beq_iff_eq.mpr^by rw[l]]at q ⊢
   refine As^Ii d _ (λc=>?_) λc S=>?_
   .rw[c]at q; exact q
   .have o:=jH.mp c
    let#[ L,M,_]:=ok.tin v m;have O:=S6 l o L;have Q:=S6 l o M;rw[c]at q;have y:=U_ (gone:=gone) l c
    have r:EZ (Bp N gone)^.tup d=(Bp N gone).ts.all λt=>decide (CG (Cq N d t.a - Cq N d t.b)<=t.len):=by
     show((((d.length:Int)==(N.ps.length:Int))&&d.all JK)&&_)=_;simp only[l,beq_self_eq_true,c];rfl
    simp only[r]at y;rw[iY,iY,y]at q;exists _,AD (j:=0) rfl,_,_,N.ps.map .str,d,N.ps.map .inr,rfl,rfl,rfl,NV _,by rw[FM]; exact l.symm,by rw[FM]; lk,ke.mpr^(LJ ok.rise).imp λh e=>h^jU e;exists _,AD (j:=1) rfl;refine Mo k x l o N.ts _ _ _ (λ_ z=>z) (λc=>?_) λc U V W=>?_
    .rw[c]at q; exact q
    .rw[c,iY]at q
     exists _,AD (j:=0) rfl,_,_,_,_,rfl,rfl,O,_,AD (j:=1) rfl,_,_,_,_,rfl,rfl,Q;exists _,_,rfl,_,_,rfl,IQ _ _ _,_,AD (j:=1) rfl,X3 C E,_,AD (j:=2) rfl,_,_,rfl,_,_,rfl,IQ _ _ _,_,AD (j:=0) rfl,X3 F G;exact q
  .rw[show((d.length:Int)==(N.ps.length:Int))=s_ from beq_eq_false_iff_ne.mpr^by lk]at q ⊢
   exact Ar q
 |_=>exact As q)
omit A in
theorem qX:A7 ["_law_world","_law_kept","_law_gone","_law_thing","_law_deep","_law_tie"] ["_law_world","_law_kept","_law_gone","_law_thing","_law_deep"]^AR F8:=by walk_at "s"
theorem Jt:A.Y "_law_shows" 13 ["_law_world","_law_kept","_law_gone","_law_thing","_law_deep"] .sh^Se 10:=A.got A.h19 λT F m b=>Km 1 F qX m b (λS qY s=>(AC (Xm s (pv 0)^AV Bb B9 (Qh s^pv 0) AB)
 (AC (Ai (DTW.dt^BL (B4 (Iu s) N6 (Qh s^pv 0) AB)^BQ^B4 Dy FZ (dv 4) AB) (AE^AN BD) AW)
 (AC (Ai (DTW.dt^BL (A1^Ag (BK kit_tuple (dv 3) rfl T.Gaa rfl T.Gab (by decide +kernel)))^BQ^B4 De Gg (FY T.Gac^dv 3) AB) (AE^AN BD) AW)
 (AC (Ai (B4 (Fn s) Jg (Ah (dv 3) AB) AX) (AE^AN^Cv (BY De Gg (FY T.Gac^dv 3) AB^BI _)^DQ^BY LS Qt (FY T.Gac^dv 1) (E7 s (pv 0) AX)^BI _) AW)
 (AC (Ai (B4 (Fn s) Jg (Ah (dv 3) AB) AX) (AE^AN^Cv (BY De Gg (FY T.Gac^dv 3) AB^BI _)^DQ (Ae (Iy A) (s.mono^by omega) rfl (AU (JX 0)^Ax 2^BA (Ah (dv 3) AB)^BA (Ah (dv 3) AB) AF))) AW)
 (AC (Ai (DTW.dt^BL (B4 (Gx s) K2 (Ah (dv 3) AB) AX)^BL (B4 FQ J3 (FY T.Gac^dv 3) AB)^BQ^A1^Ag (Ae (Eu A) (s.mono^by lk) rfl (BA (E7 s (pv 0) AX)^BA (Ah (dv 3) AB) AF))) (AE^AN BD) AW)
 (AC (Bu 5 qX.nd^Ah (dv 3) AB)
 (AC (Ai (B4 (Fl s) Cz (dv 5)^AV AY Ac (dv 1)^dv 2) (AE^AN BD) AW)
 (AC (Ai (A1^Ag (Ae qY (s.mono^Re _) rfl (AU (JX 0)^BA (AV AY Ac (dv 1)^Aj^AA (dv 5) AG)^Ax 2^BA (Ah (dv 3) AB)^BA (AV AY Ac (dv 4) AB) AF))) (AE^AN BD) AW)
 (AE^AN (Ae qY (s.mono^Re _) rfl (AU (JX 0)^Ax 1^BA (AV AY Ac (dv 2)^Aj^AA (dv 5) AG)^BA (Ah (dv 3) AB)^BA (AV AY Ac (dv 4) AB) AF))))))))))))) (@λWr j ss n M G h=>by
 let#[N,t,b,g,a,e,x,B,k,rfl,D,X,S,U,l1,l2,E,C,a0,hn,q]:=h;have ok:=D.1;have a1:=PySem.sizeLine_eq;have p2:=lc j;have ps:2 ^ (j+1)=2*2 ^ j:=by simp only[kY]; lk
 simp only[ps]at hn q;refine#[_,_,rfl,Ll,(by cbv:3<=10),_,_,rfl,Ll,λr r0 r1=>#[r - 1,n - 1,rfl,by lk,by lk,?_]];refine#[_,_,rfl,Ll,λr' a2 a3=>?_];show if decide (r'<0)=r_ then _ else _
 rw[decide_eq_false^by lk];refine As ?_;have i:=q (n - 1) (by lk);show if decide ((15:Int)<(B:Int))=r_ then _ else _
 cases k with
 |zero=>
  rw[decide_eq_true^by lk];rw[show FP N t b g 0 a e x=s_ by delta FP; rfl]at i;exact Ar i
 |succ k=>
 rw[decide_eq_false^by lk];refine As ?_;cases x with
 | tup o=>
  exists _,_,rfl,rfl;show if((o.length:Int)==0)=r_ then _ else _
  cases l:o with
  |nil=>rw[l]at i; exact i
  |cons w r=>
  rw[←l];have hl:o.length=r.length+1:=by rw[l]; rfl
  rw[show((o.length:Int)==0)=s_ from beq_eq_false_iff_ne.mpr^by lk];have Z:By w:=(E.mem (y:=w)^by rw[l]; exact Sc).lay;have h0:o[0]?=P3 w:=by rw[l]; rfl
  refine As #[_,AD h0,Z,Z6,?_];cases J:BS w^.str "enough" with
  | true=>
   have V:BS w^.str "far"=s_:=by rw[QV J]; decide +kernel
   have n3:BS w^.str "split"=s_:=by rw[QV J]; decide +kernel
   refine Ar ?_
   by_cases h1:o.length=1
   .match o,h1,l,i with
    |[_],_,rfl,i=>
    have i:M (.bl (BS w^.str "enough"&&decide (g<=a.length))) (n - 1):=i;rw[J,iY]at i;exists _,_,rfl,rfl;exists _,_,rfl,rfl,_,_,rfl,_,_,rfl,Pg _ _ _;show M (.bl (decide ((g:Int)<=(((a.map AO).length:Nat):Int)))) (n - 1);rw[show decide ((g:Int)<=(((a.map AO).length:Nat):Int))=decide (g<=a.length)from decide_eq_decide.mpr^by rw[FM]; lk];exact i
   .rw[LX l (λ_=>h1) (λz=>by rw[V]at z; cases z) λz=>by rw[n3]at z; cases z]at i
    refine Pk (λK hK=>#[_,_,rfl,rfl,?_]) i;show K (.bl ((o.length:Int)==1)) (n - 1);rw[show((o.length:Int)==1)=s_ from beq_eq_false_iff_ne.mpr^by lk];exact hK
  |false=>
  refine As #[_,AD h0,Z,Ur,?_];cases W:BS w^.str "far" with
  | true=>
   have n3:BS w^.str "split"=s_:=by rw[QV W]; decide +kernel
   refine Ar ?_
   by_cases h3:o.length=3
   .match o,h3,l,i,E with
    |[_,u,p],_,rfl,i,E=>
    have i:M (.bl (BS w^.str "far"&&O9 N t b e u p)) (n - 1):=i;rw[W,iY]at i;exists _,_,rfl,rfl;exact#[_,AD (j:=1) rfl,_,AD (j:=2) rfl,N,t,b,g,e,u,p,rfl,D,X,U,E.mem^by simp,i]
   .rw[LX l (λz=>by rw[J]at z; cases z) (λ_=>h3) λz=>by rw[n3]at z; cases z]at i
    refine Pk (λK hK=>#[_,_,rfl,rfl,?_]) i;show K (.bl ((o.length:Int)==3)) (n - 1);rw[show((o.length:Int)==3)=s_ from beq_eq_false_iff_ne.mpr^by lk];exact hK
  |false=>
  refine As #[_,AD h0,Z,Uq,?_];cases e3:BS w^.str "split" with
  |false=>
   rw[LX l (λz=>by rw[J]at z; cases z) (λz=>by rw[W]at z; cases z) λz=>by rw[e3]at z; cases z]at i;exact Ar^Ar i
  |true=>
  refine As #[_,_,rfl,rfl,?_]
  by_cases h4:o.length=4
  .match o,h4,l,q,i,E,C with
   |[_,u,c,d],_,rfl,q,i,E,C=>
   have hc:c∈[w,u,c,d]:=by simp
   have hd:d∈[w,u,c,d]:=by simp
   cases j with
   |zero=>exact absurd C^by show ¬ES _+1<=0; lk
   |succ j=>
   have dc:=IG C c hc;have dd:=IG C d hd;have pj:=lc j;simp only[kY]at q hn;have q:∀O,n+1<=O+2*(2 ^ j*2)->M (.bl (BS w^.str "split"&&Ua N u λv=>!decide (v∈a)&&(!decide (v∈e)&&(FP N t b g k (a++[v]) e c&&FP N t b g k a (e++[v]) d)))) O:=q;simp only[e3,iY]at q;have i:=q (n - 1) (by lk);exists _,_,rfl,_,_,rfl,K8 _ _ _,_,AD (j:=1) rfl,N,u,rfl,ok,E.mem (by simp);cases et:DV N u with
   |false=>rw[TN et]at i; exact Ar i
   |true=>
   let#[v, L,rfl]:=qT.mp et;simp only[Df L]at q i;refine As #[_,AD (j:=1) rfl,?_];have Q:By^.lst^(a++e).map AO:=(Cy ok λv L=>(iH.mp L).elim (S.1 v)^U.1 v).2;refine#[by simp only[FM,FM]; lk,?_];rw[←ij];exists Bi ok L,Q,_,rfl;rw[B3];show if decide (v∈a++e)=r_ then _ else _
   by_cases R:v∈a++e
   .rw[decide_eq_true R]
    refine Ar ?_
    rcases iH.mp R with z|z
    .rw[decide_eq_true z]at i; exact i
    .rw[decide_eq_true z,Bool.not_true,oE,p8]at i; exact i
   rw[decide_eq_false R];simp only[decide_eq_false λz=>R^jA _ z,decide_eq_false λz=>R^iL _ z]at q;have q:∀O,n+1<=O+2*(2 ^ j*2)->M (.bl (FP N t b g k (a++[v]) e c&&FP N t b g k a (e++[v]) d)) O:=q;refine As #[z1,by show(a.map AO).length+1<=_; rw[FM]; lk,_,AD (j:=2) rfl,?_];rw[F7];refine G _ _ _ (by lk) #[N,t,b,g,a++[v],e,c,B+1,k,rfl,D,X,sub_snoc S L^by lk,U,by simp only[ZB,iB]; lk,by lk,E.mem hc,dc,by lk,by show 2 ^ (j+1)<=_; simp only[kY]; lk,λn1 H=>?_];have H:n - 1+1<=n1+2 ^ (j+1):=H;rw[kY]at H;show if(!FP N t b g k (a++[v]) e c)=r_ then _ else _
   cases e4:FP N t b g k (a++[v]) e c with
   |false=>
    rw[e4]at q;exact Ar^q n1^by lk
   |true=>
   rw[e4]at q;refine As #[z1,by show(e.map AO).length+1<=_; rw[FM]; lk,_,AD (j:=3) rfl,?_];rw[F7]
   exact G _ _ _ (by lk) #[N,t,b,g,a,e++[v],d,B+1,k,rfl,D,X,S,sub_snoc U L^by lk,by lk,by simp only[ZB,iB]; lk,E.mem hd,dd,by lk,by show 2 ^ (j+1)<=_; simp only[kY]; lk,λV I=>q V (by
    have I:n1+1<=V+2 ^ (j+1):=I;rw[kY]at I
    lk)]
  .rw[LX l (λz=>by rw[J]at z; cases z) (λz=>by rw[W]at z; cases z) λ_=>h4]at i
   show if(!((o.length:Int)==4))=r_ then _ else _
   rw[show((o.length:Int)==4)=s_ from beq_eq_false_iff_ne.mpr^by lk];exact Ar^Ar i
 |_=>exact i) (by walk_at "l") (by cbv) 10
theorem GJ:A.Y "_law_read_case" 14 ["_law_net_here","_law_times_here","_law_many","_law_thing"] .sh V6:=A.gk A.h1a ["_law_net_here","_law_times_here","_law_many","_law_thing"] (λ_ _ d=>(AE^AN (Vb (Jt A) (d.mono^by cbv) rfl (pv 0) (pv 1) (pv 2) (pv 3) Z2 (by cbv)))) (@λk n l h=>by
 let#[N,t,b,c,x, rfl,a,e,g,i,q]:=h;have j:Ce^Bl N=r_:=(ID (B:=1000001) (by cbv) (S9 (IB a.1) (Cf a.1) (by rw[FM]; have:=a.2.1; lk)^by rw[FM]; have:=a.2.2; lk).1).1;have no:Eb N []:=#[λ_ z=>absurd z iC,by cbv];refine#[_,_,_,_,rfl,rfl,rfl,rfl,?_,N,t,b,c,[],[],x,1,15,rfl,a,e,no,no,by cbv,by cbv,g,i,rfl,by cbv,λm _=>q];show(Ce^Bl N&&_)=r_;rw[j]
 rfl)
theorem Iv:A.Y "_law_prices" 2 ["_law_feed_here","_law_world","_law_spans","_law_tie"] .sh Jj:=have E:=Aq A; A.gk A.h1b ["_law_feed_here","_law_world","_law_spans","_law_tie","_law_places_here","_law_times_here","_law_least_here","_law_side","_law_more","_law_row","_law_prices_here","_law_apart"] (λT l o=>(AC (aX (i:=4) (j:=5) rfl l rfl rfl (by cbv) rfl rfl (AA (Ah (Cj o (dv 1) AX) AB)^AA (Cj o (dv 1) AX) AG) rfl)
 (AC (Bu 6 l^AV AY Ac (AV AY Ac (AV GF C2 (AV Bs Ck (Ah (dv 3) AB)^Ah (dv 5) AB)^Ah (dv 5) AB) AB)^AV Bs Ck (cg o E^AU (A2 0)^BA AB AF) AB)
 (AC (Bu 7 l^cg o E^AU (A2 0)^BA AB AF)
 (AC (Bu 8 l^cg o E^AU (A2 0)^BA AB AF)
 (AC (Bu 9 l^Ah (dv 2)^D5 o (dv 4)^AM (Ah (dv 3)^dv 7) AS)
 (AC (Lz (i:=10) l rfl (jK rfl) rfl [("_law_more":Str),("_law_least_here":Str),("_law_one":Str)] [P3 8,P3 6,q_] (A6^dv 9) (λ_ _ _ _ _=>(IH (i:=2) (show qC [("_law_more":Str),("_law_least_here":Str),("_law_one":Str)] by decide +kernel) rfl (jK rfl))) (λ_ _ _ _ _=>BF) (λ_ _ _ _ _=>(AV AY Ac (dv 0)^JW (B4 Fk K3 (dv 2) BC) (dv 1) (Ak (Kv rfl) Vv rfl T.Gar boot_min (AM (dv 2)^AM (dv 1) AS)))) (by kernel_rfl))
 (AC (Bu 11 l^AV Bb B9 (Ah (dv 10)^D5 o (dv 4)^AM (Ah (dv 3)^AV Bb B9 AB^dv 7) AS)^dv 8)
 (AE^AN^JW (B4 Dy FZ (AV Bs Ck (dv 11)^Ah (dv 5) AB)^AV Bs Ck (Ah (dv 3) AB)^Ah (dv 5) AB) (Sk T.Gab^dv 10) BC))))))))) (@λss n Pd h=>by
 let#[N,t,b,L,M,F,u, rfl,p,O,X,Q,hn,q]:=h;have ok:=p.1;have Z:=p.2.1;have G:=O;let#[ b1,b2,R,H]:=G;let#[ ma,mb,_,u1,u2]:=ok.tin u Q;exists _,_,_,_,rfl,rfl,K8 _ _ _,_,AD (j:=0) rfl,_,_,_,_,rfl,rfl,IQ _ _ _,_,_,rfl;refine#[_,AD (j:=2) rfl,_,AD (j:=0) rfl,Vi R H,_,AD (j:=1) rfl,#[by lk,by lk],2,rfl,by cbv,by cbv,by lk,λr r0 r1=>#[.inr (by constructor <;>decide),?_]];refine#[2,rfl,by cbv,by cbv,by lk,λg s0 s1=>?_];refine#[3,rfl,by cbv,by cbv,by lk,λmore m0 m1=>?_]
 obtain⟨x,y,B,hx,hy⟩:∃x y,((x=u.a/\y=u.b)\/(x=u.b/\y=u.a))/\atI [D.str u.a,.str u.b,.int u.len] g=P3^.str x/\atI [D.str u.a,.str u.b,.int u.len] (1 - g)=P3^.str y:=by
  rcases(by lk:g=0\/g=1)with rfl|rfl
  .exact#[u.a,u.b,.inl #[rfl,rfl],rfl,rfl]
  .exact#[u.b,u.a,.inr #[rfl,rfl],rfl,rfl]
 have mx:x∈N.ps:=by rcases B with⟨rfl,_⟩|⟨rfl,_⟩ <;>assumption
 have my:y∈N.ps:=by rcases B with⟨_,rfl⟩|⟨_,rfl⟩ <;>assumption
 let#[ix, ex,_]:=E3 mx;let#[S, U,_]:=E3 my;let#[ a1,a2,a3,a4]:=Dl ok ex;let#[ c1,c2,c3,c4]:=Dl ok U;have e0:0<=u.len*t / b:=Int.ediv_nonneg (Int.mul_nonneg (by lk)^by lk) (by lk);have e1:u.len*t / b<=u.len*t:=Int.ediv_le_self _ (Int.mul_nonneg (by lk)^by lk);have e2:u.len*t<=1000000*1000000:=Int.mul_le_mul u2 H (by lk)^by lk
 have e3:u.len*t<(u.len*t / b+1)*b:=by
  have:=Int.lt_ediv_add_one_mul_self (u.len*t) (show 0<b by lk)
  exact this
 generalize hm:u.len*t / b+1+r*7=m
 have I:u.len*t<m*b:=by
  have:(u.len*t / b+1)*b<=m*b:=kZ (by lk)^by lk
  lk
 let#[ p1,V,p3]:=Wj p X O Q B (m:=m) (more:=more) (by lk) (by lk) I m0 (by lk);exists#[_,rfl],_,hx,_,_,ix,rfl,rfl,a1,a2,a3,a4,_,GO ex;refine#[by show(N.ps.map λy=>od^F x y).length<=10000000; rw[FM]; lk,?_];refine Az (Zh m more) (λW=>∃s,W=[.sh^.int more,.sh^.int m,s]) _ _ _ _ ?_ #[_,rfl] ?_
 .rintro d hd W n' nx ⟨s,rfl⟩ C
  let#[z, hz,rfl]:=Rs.mp hd;cases e:F x z with
  |none=>
   have k:=C [.sh^.int more,.sh^.int m,.sh .non] #[_,rfl];rw[e]at k;exact#[rfl,k]
  |some v=>
   have k:=C [.sh^.int more,.sh^.int m,.sh^.int v] #[_,rfl];rw[e]at k;exact#[rfl,k]
 .rw[iD,Zg]
  have J:atI ((UI N F x m more).map D.int) (S:Int)=P3^.int (more+B7 m^F x y):=AD (by unfold UI; simp only[T0,T0,U]; rfl);exists#[_,rfl],_,hy,_,_,S,rfl,rfl,c1,c2,c3,c4,_,J;exists _,AD (j:=1) rfl,Vi b1 b2,_,AD (j:=2) rfl,_,AD (j:=0) rfl,Vi R H;show if decide (u.len*t<(more+B7 m^F x y - more)*b)=r_ then _ else _
  rw[show more+B7 m^F x y - more=B7 m (F x y) by lk]
  by_cases c:u.len*t<B7 m^F x y*b
  .rw[decide_eq_true c]
   simp only[decide_eq_true c]at V;exact Ar^q (P3^UI N F x m more) (n - 1 - 1 - 1) #[p1,V]^by lk
  .rw[decide_eq_false c]
   exact As^q q_ (n - 1 - 1 - 1) (p3 c)^by lk)
theorem G0:A.Y "_law_far_case" 3 ["_law_feed_here","_law_world","_law_gone"] .sh OC:=A.gk A.h1c ["_law_feed_here","_law_world","_law_gone","_law_net_here","_law_spans","_law_at","_law_tie","_law_prices_here"] (λT l o=>(AC (Bu 3 l^Cj o (dv 1) AX)
 (AC (Bu 4 l^cg o (Dh A)^BA (Ah (dv 3) AB)^BA (Hb ["_law_gone","_law_one"] [P3 2,q_] (A6^Ah (dv 3) AB) (λL=>Co 1 L) (C8^B4 (Bo o) Cz (dv 1)^dv 0)^dv 1) AF)
 (AC (Bu 5 l^cg o (Aq A)^AU (A2 0)^BA (FY T.Gac^dv 2) AF)
 (AC (CL iW rfl (Fv^AV AY Ac (CF Dt CH (dv 2) (A9^dv 5) A_)^CF Dt CH (dv 2) A_^A9^dv 5) (Co 6 l) (AC (Bu 7 l^cg o (Iv A)^AU (A2 0)^Ax 1^Ax 4^Ax 6 AF)
 (AE^Ai (B4 FF MC (dv 7) BC) (AE^AN^Aa^AA AX^AA (dv 6)^AA (dv 7) AG) AW)))
 (AE^AN BC)))))) (@λss n Pd h=>by
 let#[N,t,b,H,g, rfl,i,M,B,C,hn,q]:=h;have ok:=i.1;have O:=i.2.1;have Q:=i.2.2;have R:=PySem.sizeLine_eq;refine#[_,_,_,_,rfl,rfl,K8 _ _ _,_,AD (j:=0) rfl,_,AD (j:=1) rfl,by show(N.ts.map AO).length<=10000000; rw[FM]; lk,?_];refine CC (λd=>!((g.map AO).any λy=>BS y d)) id (λI=>∃s,I=[.sh^B0 g,s]) _ _ _ _ ?_ #[_,rfl] ?_
 .rintro d z I m nx sk ⟨s,rfl⟩ S U
  let#[x, V,rfl]:=Rs.mp z;exists Bi ok V,D0 ok B,_,rfl;exact CQ (λc=>S _ #[_,rfl] c) λc=>U _ #[_,rfl]^iS.mpr c
 .rw[iD,km]
  have e:(N.ts.map AO).filter (λd=>!((g.map AO).any λy=>BS y d))=(Bp N g).ts.map AO:=by
   rw[lf]
   congr 1
   refine k_ λx _=>?_;show(!((g.map AO).any λy=>BS y^AO x))=decide (¬x∈g);simp only[B3,decide_not]
  rw[e];refine#[Bp N g,_,rfl,.inl rfl,LR ok g,by show N.ps.length<=1000; lk,λF W=>?_];have l0:0<g.length:=List.length_pos_iff.mpr C;have l1:=B.2;refine#[_,_,rfl,rfl,_,rfl,by rw[FM]; lk,by rw[FM]; omega,by lk,λa X Z=>?_];rw[FM]at Z;let#[j, rfl]:=ju X;have hj:j<g.length:=by lk
  have z:Dp.cutD g (P3 (j:Int)) q_=g.drop j:=am g hj
  have J:Dp.cutD g q_^P3 (j:Int)=g.take j:=by
   unfold Dp.cutD;rw[HT.zy,HT.zF,k6^by lk,oB,mi]
  refine#[by simp only[Dn,Dn,FM,FM,z,J,lK,jo]; lk,?_];rw[Dn,Dn,z,J,←ij]
  have r:∀u,u∈g↔u∈g.drop j++g.take j:=λu=>by
   conv=>lhs; rw[←j7 j g]
   rw[iH,iH];exact Or.comm
  refine Mn i M B W (k:=n - (1+3*g.length)) (λu p D v hp hf E=>q (P3 (u,p)) D #[v,hp,hf] E) (λD s6 s7 G E=>q q_ D G E) _ _ _ _ (λu v=>(r u).mpr v) (λu v=>.inl^(r u).mp v)^by simp only[ZB,lK,jo]; lk)
omit A in
theorem qZ:A7 ["_law_feed_here","_law_world","_law_kept","_law_gone","_law_left","_law_found","_law_at","_law_tie","_law_rest","_law_first"] ["_law_feed_here","_law_world","_law_kept","_law_gone","_law_left"]^AR HF:=by walk_at "s"
theorem GK:A.Y "_law_made" 11 ["_law_feed_here","_law_world","_law_kept","_law_gone","_law_left"] .sh^MF 7:=A.got A.h1d λT F m b=>Km 2 F qZ m b (λX G i=>(AC (Ai (DTW.dt^BL (B4 (Fn i) Jg (dv 4)^Aj AG)^BQ^B4 Dy FZ (Ae (Aq A) (i.mono^by lk) rfl (AU (A2 0)^BA AB AF)) AB) (AC (Ai (B4 LS Qt (FY T.Gac^dv 2)^Cj i (dv 1) AX) (AE^AN^Aa^AA AX AG) AW)
 (AC (Bu 5 qZ.nd BC)
 (AC (Ai (B4 (Gx i) K2 (dv 3)^Aj AG) (AE^Bu 5 qZ.nd (Ae (G0 A) (i.mono^by omega) rfl (AU (A2 0)^Ax 1^Ax 3 AF))) AW)
 (AE^Ai (B4 FF MC (dv 5) BC) (AE^AN^dv 5) AW)))) AW)
 (AC (Ai (B4 (Fn i) Jg (dv 4)^Aj AG) (AE^AN^Aa^AA AX AG) AW)
 (AC (Bu 6 qZ.nd (Ae (Aq A) (i.mono^by lk) rfl (AU (A2 0)^BA (FY T.Gac^dv 4) AF)))
 (AC (Bu 7 qZ.nd^Ah (dv 4)^dv 6)
 (AC (Bu 8 qZ.nd^AV AY Ac (CF Dt CH (dv 4) A_^A9^dv 6)^CF Dt CH (dv 4) (A9^AV AY Ac (dv 6) AB) A_)
 (AC (Bu 9 qZ.nd (Ae G (i.mono^Re _) rfl (AU (A2 0)^Ax 1^BA (AV AY Ac (dv 2)^Aj^AA (dv 7) AG)^Ax 3^Ax 8 AF)))
 (AE^AN^Aa^AA AX^AA (dv 7)^AA (dv 9)^AA (Ae G (i.mono^Re _) rfl (AU (A2 0)^Ax 1^Ax 2^BA (AV AY Ac (dv 3)^Aj^AA (dv 7) AG)^Ax 8 AF)) AG)))))))) (@λH j Z n B v h=>by
 let#[N,t,b,d,g,a,left,rfl,l,I,J,L,Q,hn,q]:=h;have ok:=l.1;let#[ sk,C,R,l6]:=Pu L J
 have S:40<=Jm left.length:=by
  cases left.length with
  |zero=>exact Re _
  |succ k=>simp only[Nz]; lk
 have s:∀(m:Nat),n - 21<=m->(left=[]->∀u∈a,JA N t b a u)->∀D,LB H (EE B) m [.fd,.sh^WH N t b d,.sh^B0 g,.sh^B0 a,.sh (B0 left),D,.no,.no,.no,.no]:=λm h1 U D=>RG v l I J L Q (by lk) U (λc y V W E=>q c y V W^by lk) D
 have first:∀m,n - 1<=m->Pt {EE B with nx:=LB H^EE B} m [.fd,.sh^WH N t b d,.sh^B0 g,.sh^B0 a,.sh (B0 left),.no,.no,.no,.no,.no]:=λm hm=>by
  unfold Pt;exists _,_,rfl,rfl,_,_,_,_,rfl,rfl,Pg _ _ _;show if decide ((d:Int)<=(((g.map AO).length:Nat):Int))=r_ then _ else _
  by_cases c:d<=g.length
  .rw[decide_eq_true^by rw[FM]; omega]
   exact Ar #[z1,q .en m (.en c) trivial (by lk)]
  .rw[decide_eq_false^by rw[FM]; omega]
   refine As #[z0,D0 ok C,G2,?_];rw[JR]
   by_cases z:a=[]
   .rw[show(a.map AO).isEmpty=r_ by rw[z]; rfl]
    exact#[rfl,s m (by lk) (λ_ u M=>by rw[z]at M; cases M) _]
   .rw[show(a.map AO).isEmpty=s_ by
     cases a with
     |nil=>exact absurd rfl z
     |cons _ _=>rfl]
    refine#[N,t,b,d,a,rfl,l,I,C,z,by lk,λo y x E=>?_];cases o with
    |some w=>
     let#[u,p]:=w;exact#[rfl,q (.fa u p) y (.fa x.1 x.2.2) #[C.1 u x.1,x.2.1]^by lk]
    |none=>exact#[rfl,s y (by lk) (λ_=>x) _]
 exists z0,D0 ok R,G2;rw[JR];cases O:(left.map AO).isEmpty with
 |true=>exact first n (by lk)
 |false=>
  refine As #[8,rfl,by cbv,by cbv,by lk,λr r0 r1=>?_];show if decide ((0:Int)<r)=r_ then _ else _
  refine CQ (λc=>first (n - 1) (Re _)) λc=>s (n - 1) (by lk) (λe=>by rw[e]at O; cases O) _) (by walk_at "l") (by cbv) 7
theorem Lj:A.Y "_law_case" 12 ["_law_feed_here","_law_net_here","_law_times_here","_law_many"] .sh MG:=A.gk A.h1e ["_law_feed_here","_law_net_here","_law_times_here","_law_many"] (λT _ g=>(AE^AN^cg g (GK A)^AU (A2 0)^BA (Nl (pv 1) (pv 2) (pv 3) Ui)^BA (Aj AG)^BA (Aj AG)^BA (Be BX EX rfl T.Gaf mq (AM (Ah (dv 1) AB) AS)) AF)) (@λr n s h=>by
 let#[N,t,b,a, rfl,d,i,k,u,q]:=h
 have e:Jm N.ts.length<=Jm 6:=by
  unfold Jm
  have:=lH (show 0<2 by cbv) (show N.ts.length+1<=7 by lk)
  omega
 refine#[_,_,_,rfl,rfl,rfl,z0,z0,_,AD (j:=1) rfl,N,t,b,a,[],[],N.ts,rfl,d,i,k,oC _,by lk,by lk,λc l m o p=>q c l m o^by lk])
set_option tactic.hygienic true in
theorem ND:A.Y "_law_way" 2 ["_law_places_here","_law_ties_here","_law_a","_law_b"] .sh V2:=A.gk A.h1f ["_law_places_here","_law_ties_here","_law_a","_law_b","_law_spans","_law_goal","_law_both","_law_way_here","_law_left","_law_steps"] (λT O hr=>(AC (Bu 4 O^cg hr (Dh A)^Ax 0^Ax 1 AF)
 (AC (Bu 5 O^D5 hr (dv 0)^AM (dv 3) AS)
 (AC (Bu 6 O^AV AY Ac (Be BX EX rfl T.Gaf mq (AM (dv 1) AS))^Hb ["_law_one","_law_other","_law_length_here"] [q_,q_,q_] (A6^dv 1) (λnq=>Xw^Aw (Co 0 nq)^Aw (Co 1 nq)^Aw (Co 2 nq) C9) BF^Aa^AA (dv 1)^AA (dv 0)^AA (dv 2) AG)
 (AC (aU 7 O^Aj^AA (dv 2) AG)
 (AC (Ng iW (B4 FQ J3 (Ah (Xe 7)^ET AB)^dv 3) (AC (Bu 8 O^Ah (Ah (dv 4)^D5 hr (dv 0)^AM (Ah (Xe 7)^ET AB) AS)^dv 5)
 (AC (Lz (i:=9) O rfl (jK rfl) rfl [("_law_way_here":Str),("_law_goal":Str),("_law_left":Str),("_law_spans":Str),("_law_places_here":Str),("_law_tie":Str)] [P3 7,P3 5,P3 8,P3 4,P3 0,q_] (A6^dv 6) (λ_ _ _ _ _=>(IH (i:=5) (show qC [("_law_way_here":Str),("_law_goal":Str),("_law_left":Str),("_law_spans":Str),("_law_places_here":Str),("_law_tie":Str)] by decide +kernel) rfl (jK rfl))) (λ_ _ _ _ _=>(C8^DTW.dt^JS (B4 De Gg (Ah (dv 5) AB)^Ah (Xe 0)^ET AB)^IF^B4 De Gg (Ah (Ah (dv 3)^D5 hr (dv 4)^AM (Ah (dv 5) AB) AS)^dv 1)^AV Bb B9 (dv 2)^Ah (dv 5) AB)) (λ_ _ _ _ _=>(dv 5)) (by kernel_rfl))
 (AE^Nh 7 cb eQ eN EA Qu (pv 7)^AA (Ah (Ah (dv 9) AB) AB) AG))))
 (AE^AN^Sk T.Gab^Xe 7))))))) (@λss n Pd h=>by
 let#[N,a,b,rfl,ok,lp,lt,ha,I,#[d0,a5],p]:=h;have b7:=PySem.sizeLine_eq;let#[ib,eb,lb]:=E3 I;let#[b1,b2,b3,b4]:=Dl ok eb;refine#[N,_,rfl,.inl rfl,ok,by lk,λF J=>?_];exists#[_,rfl],_,_,ib,rfl,rfl,b1,b2,b3,b4;refine#[by show(N.ts.map AO).length<=10000000; rw[FM]; omega,?_];refine Az bu (λE=>∃s0 s1 s2,E=[s0,s1,s2]) _ _ _ _ ?_ #[_,_,_,rfl] ?_
 .rintro d hd E m nx ⟨s0,s1,s2,rfl⟩ a6
  let#[t,ht,rfl]:=Rs.mp hd;exact#[rfl,rfl,z3,a6 _ #[_,_,_,rfl]]
 rw[iD,i_]
 obtain⟨B,L⟩:∃d,F a b=P3 d:=by
  cases e:F a b with
  |none=>exact absurd e^(J a ha b I).2 d0 a5
  |some d=>exact#[d,rfl]
 have a7:=Vn N.ts;exists by rw[FM,FM]; omega,z1,λm n' E=>n'=n/\∃(l:t_ Str) (x:Str) (d:Int) (s8 s9:Slot),E=[.sh^.tup^N.ps.map .str,.sh^B0 N.ts,.sh^.str a,.sh^.str b,.sh^JD N.ps F,.sh^.int (ib:Int),.sh^.lst^Gd N.ts,.ow^.lst^(a::l).map .str,s8,s9]/\walk N (a::l) (B - d)/\(a::l).getLast?=P3 x/\F x b=P3 d/\m=d.toNat/\(∀y∈a::l,y∈N.ps)/\(a::l).Nodup/\∀y∈a::l,∃R,F y b=P3 R/\d<=R,#[B.toNat,rfl,[],a,B,_,_,rfl,Int.sub_self B,rfl,L,rfl,?_,?_,?_]
 .intro y g
  rw[h_.mp g]; exact ha
 .exact iV.mpr #[iC,jI]
 .intro y g
  rw[h_.mp g]; exact#[B,L,kn _]
 rintro m n' E ⟨rfl,l,x,d,s8,s9,rfl,hw,o,ed,rfl,C,S,G⟩;have U:=C x^mN o;have a8:(a::l).length<=N.ps.length:=Uh S λy g=>C y g;exists 1,rfl,_,GQ o;show if(!(x==b))=r_ then _ else _
 refine CQ (λc=>?_) λc=>?_
 .have c:¬x=b:=by simpa using c
  let#[ix,ex,lx]:=E3 U;let#[x1,x2,x3,x4]:=Dl ok ex;exists λa9 zW=>∃m',m'<d.toNat/\_,λa9 zW h=>h;exists#[_,rfl],1,rfl,_,GQ o,_,_,ix,rfl,rfl,x1,x2,x3,x4,_,GO ex,_,Ov eb;rw[ed];refine#[by rw[a7]; omega,?_];refine CC (Kb F b x d) id (λE=>∃s,E=[.br^.lst^(a::l).map .str,.sh^.int (ib:Int),.sh^.int d,.sh^JD N.ps F,.sh^.tup^N.ps.map .str,s]) _ _ _ _ ?_ #[_,rfl] ?_
  .rintro e he E m nx sk ⟨s,rfl⟩ h1 h2
   let#[v,q,H,rfl,k]:=Qn he;exists _,AD (j:=0) rfl,1,rfl,_,GQ o;show if(v==x)=r_ then _ else _
   have Q:Kb F b x d^.tup [.str v,.str q,.int H]=(v==x&&F q b==P3 (d - H)):=rfl;refine CQ (λc'=>?_) λc'=>?_
   .have V:v=x:=eq_of_beq c'
    subst V;have W:=k.ins ok;let#[iq,eq,lq]:=E3 W;let#[q1,q2,q3,q4]:=Dl ok eq
    obtain⟨u,eu⟩:∃u,F q b=P3 u:=by
     cases e2:F q b with
     |none=>exact absurd e2^(J q W b I).2 _^Pf (k.symm6 ok) ((J v U b I).1 d ed).1
     |some u=>exact#[u,rfl]
    exists#[_,rfl],_,AD (j:=1) rfl,_,_,iq,rfl,rfl,q1,q2,q3,q4,_,GO eq,_,Ov eb,_,AD (j:=2) rfl;rw[eu];show if(u==d - H)=r_ then _ else _
    rw[c',eu,iY]at Q;have ee:(P3 u==P3 (d - H))=(u==d - H):=rfl;rw[ee]at Q;exact CQ (λX=>h1 _ #[_,rfl]^by rw[Q]; exact X) λX=>h2 _ #[_,rfl]^by rw[Q]; exact iS.mpr X
   .have V:(v==x)=s_:=iS.mpr c'
    rw[V,oE]at Q;exact CQ (λX=>absurd X^by cbv) λ_=>h2 _ #[_,rfl] Q
  .rw[iD,km]
   let#[q0,Z,b0,b5]:=Rg ok J U I ed c;have a0:D.tup [.str x,.str q0,.int Z]∈(Gd N.ts).filter^Kb F b x d:=jt.mpr #[Vo ok b0,by show(x==x&&F q0 b==P3 (d - Z))=r_; rw[b5]; simp]
   obtain⟨e,r,a1⟩:∃e r,(Gd N.ts).filter^Kb F b x d=e::r:=by
    cases h:(Gd N.ts).filter^Kb F b x d with
    |nil=>rw[h]at a0; cases a0
    |cons e r=>exact#[e,r,rfl]
   have a2:=jt.mp (show e∈(Gd N.ts).filter (Kb F b x d) by rw[a1]; exact Sc);let#[v,q,H,rfl,k]:=Qn a2.1;have M:(v==x&&F q b==P3 (d - H))=r_:=a2.2;rw[iE]at M;have V:v=x:=eq_of_beq M.1;have ef:F q b=P3 (d - H):=eq_of_beq M.2;subst V;rw[a1];have b8:=k.pos ok;have W:=k.ins ok;have a3:=k;let#[t,ht,rfl,hj]:=k.tie ok;have a4:=HC hw o a3;rw[show B - d+t.len=B - (d - t.len) by lk]at a4;have b6:=((J q W b I).1 _ ef).1.pos ok;exists _,rfl,rfl,_,AD (j:=0) rfl,_,AD (j:=1) rfl,_,_,rfl,rfl,by rw[FM]; omega,(d - t.len).toNat,by lk,rfl,l++[q],q,d - t.len,.sh^od^P3 d,.sh^.lst (.tup [.str v,.str q,.int t.len]::r),?_,a4,by rw[←kI]; exact List.getLast?_concat ..,ef,rfl,?_,?_
   .rw[show(a::(l++[q])).map D.str=(a::l).map D.str++[D.str q] by rw[←kI,ij]; rfl]; rfl
   .intro y g
    rw[←kI]at g
    rcases iH.mp g with g|g
    .exact C y g
    .rw[h_.mp g]; exact W
   .rw[←kI,jh]
    refine#[S,iV.mpr #[iC,jI],λy g z hz e=>?_];rw[h_.mp hz]at e;rw[e]at g;let#[R,e1,e2]:=G q g;rw[ef]at e1;cases e1;lk
   .intro y g
    rw[←kI]at g
    rcases iH.mp g with g|g
    .let#[R,e1,e2]:=G y g
     exact#[R,e1,by lk]
    .rw[h_.mp g]; exact#[_,ef,kn _]
 .have c:x=b:=by
   have:(x==b)=r_:=by
    cases h:(x==b)with
    |true=>rfl
    |false=>rw[h]at c; exact absurd rfl c
   exact eq_of_beq this
  subst c;have Z:=(J x U x U).1 d ed
  have d0:d=0:=by
   have h1:=Z.2 0 Wk.nil;have h2:=Z.1.pos ok;lk
  rw[d0,Int.sub_zero]at hw;exact p l B ((J a ha x I).1 B L) hw o a8 C)
omit A in
theorem qb:A7 ["_law_feed_here","_law_thing","_law_at","_law_some"] ["_law_feed_here","_law_thing"]^AR HG:=by walk_at "s"
theorem Lk:A.Y "_law_bent" 13 ["_law_feed_here","_law_thing"] .sh^MH 10:=A.got A.h1g λT F m b=>have D:=Aq A; Km 1 F qb m b (λhk qc C=>(AC (Ai (DTW.dt^JS (Ag (BK kit_tuple (dv 1) rfl T.Gaa rfl T.Gab (by decide +kernel)))^JS (B4 Dy FZ (FY T.Gac^dv 1) AB)^IF^B4 Dy FZ (Ae D (C.mono^by lk) rfl (AU (A2 0)^BA AB AF)) AB) (AC (Bu 2 qb.nd (Ae D (C.mono^by lk) rfl (AU (A2 0)^BA (FY T.Gac^dv 1) AF)))
 (AE^AN^AV AY Ac (AV AY Ac (CF Dt CH (dv 1) A_^A9^dv 2)^Aa^AA (Ae qc (C.mono^Re _) rfl (AU (A2 0)^BA (Ah (dv 1)^dv 2) AF)) AG)^CF Dt CH (dv 1) (A9^AV AY Ac (dv 2) AB) A_)) AW)
 (AC (Ai (Ag (BK kit_tuple (dv 1) rfl T.Gaa rfl T.Gab (by decide +kernel))) (AC (Bu 3 qb.nd^Aj^AA (Be BX EX rfl T.Gaf mq (AM (dv 1) AS))^AA (AV AY Ac (dv 1)^CF Dt CH (dv 1) A_^A9 AB)^AA (CF Dt CH (dv 1) (A9 AB) A_)^AA (CF Dt CH (dv 1) A_^A9^ET AB)^AA (ah (dv 1)^ET AB)^AA (Aa AG)^AA BC^AA (AV AY Ac (dv 1)^Aa^AA AB AG) AG)
 (AC (Bu 3 qb.nd^AV AY Ac (dv 3)^Aj^AA (Aa^AA AX AG)^AA (AV AY Ac (Aa^AA AX AG)^CF Dt CH (dv 1) (A9 AB) A_)^AA (AV AY Ac (Aa^AA AX AG)^CF Dt CH (dv 1) (A9 AB) A_) AG)
 (AE^AN^Ah (dv 3) (Ae D (C.mono^by lk) rfl (AU (A2 0)^BA AB AF))))) AW)
 (AC (Ai (Ag (BK Lp (dv 1) rfl T.Gaa rfl T.Gam (by decide +kernel))) (AE^AN^Ah (Aj^AA AX^AA AX^AA AX^AA AX^AA AX^AA AX^AA BC^AA AB^AA (Aj AG)^AA (Aa^AA AX AG) AG) (Ae D (C.mono^by lk) rfl (AU (A2 0)^BA AB AF))) AW)
 (AC (Ai (DTW.dt^BL (Ag (BK Ez (dv 1) rfl T.Gaa rfl T.Gaj (by decide +kernel)))^BQ^A1^Ag (BK Lq (dv 1) rfl T.Gaa rfl T.Gal (by decide +kernel))) (AE^AN^Aa^AA AX AG) AW)
 (AE^AN^Ah (Aj^AA (AV AY Ac (dv 1) AB)^AA (AV Bb B9 (dv 1) AB)^AA (BY De Gg (dv 1) AB^BI _)^AA BC^AA (Be SU a_ rfl T.Gam boot_str (AM (dv 1) AS))^AA (AV Bb B9 (ET AB)^dv 1)^AA (AV Gw C2 AB AB)^AA AB AG) (Ae D (C.mono^by lk) rfl (AU (A2 0)^BA AB AF)))))))) (@λWr j ss n S E G=>by
 let#[x,B, rfl,q,t,u,hz,M,hn,p]:=G;have a2:=PySem.sizeLine_eq;have I:∀x∈[("enough":Str),"far","split","Far","","a"],(∀c∈cs x,c<1114112)/\x.length<=9:=by decide +kernel
 have str:∀s∈[("enough":Str),"far","split","Far","","a"],C1 B x^.str s:=λs U=>#[(I s U).1,iU (I s U).2 (by lk),XV _];have en:C1 B x^.tup [.str "enough"]:=#[#[(I _^by simp).1,trivial],by have:=(I "enough"^by simp).2; show("enough":Str).length+1+0<=_; lk,by show max 0 0+1<=_; lk];have int:∀i:Int,i.natAbs<=B+1->C1 B x^.int i:=λi h=>#[h,by show 200<=_; lk,XV _];have non:C1 B x .non:=#[trivial,XV _,XV _];cases x with
 |non=>exact#[z1,p _ n en^by lk]
 |bl b=>exact#[z1,p _ n en^by lk]
 |lst d=>exact#[z1,p _ n en^by lk]
 |dic V d=>exact(show False from q).elim
 |fdi V d=>exact(show False from q).elim
 |dit V d=>exact(show False from q).elim
 | str s=>
  exists z0,z1,(by cbv:10<=sizeLine);refine#[10,rfl,by cbv,by cbv,by lk,λr J L=>?_]
  let#[z, e,v]:=Og (Q:=C1 B^.str s) (c:=10) (zs:=[.str "enough",.str "far",.str "split",.str "Far",.str "",.str "a",.non,.int 1,.lst [],.tup [.str "enough"]]) (λz h=>by
   simp only[TW,iC,or_false]at h
   rcases h with rfl|rfl|rfl|rfl|rfl|rfl|rfl|rfl|rfl|rfl
   .exact str _^by simp
   .exact str _^by decide
   .exact str _^by decide
   .exact str _^by decide
   .exact str _^by decide
   .exact str _^by decide
   .exact non
   .exact int 1^by show 1<=_; lk
   .exact#[trivial,XV _,by show 0+1<=_; lk]
   .exact en) rfl J L
  exact#[z,e,p z _ v^by lk]
 | int i=>
  have W:i.natAbs<=B:=q
  have H:i.natAbs.log2<1920:=by
   by_cases G:i.natAbs=0
   .rw[G]; decide
   .exact mY ((Nat.log2_lt G).mpr^mY (kq W u) (by cbv:10 ^ 40<2 ^ 150))^by cbv
  have X:(jX^toString i).length<=41:=by
   rw[PySem.ofString_length];exact int_text_length_le10 (k:=40) (by cbv)^kq W u
  exists H,by lk,1,rfl,#[by cbv,by cbv,by cbv],(by cbv:8<=sizeLine);refine#[8,rfl,by cbv,by cbv,by lk,λr J L=>?_]
  let#[z, e,v]:=Og (Q:=C1 B^.int i) (c:=8) (zs:=[.int (i+1),.int (i - 1),.bl (i==1),.non,.str^toString i,.int (-1 - i),.int (10 ^ (30:Int).toNat),.int 0]) (λz h=>by
   simp only[TW,iC,or_false]at h
   rcases h with rfl|rfl|rfl|rfl|rfl|rfl|rfl|rfl
   .exact int _^by omega
   .exact int _^by omega
   .exact#[trivial,XV _,XV _]
   .exact non
   .exact#[R8 i,by show(jX^toString i).length<=_; lk,XV _]
   .exact int _^by omega
   .exact int _^o0 t
   .exact int 0^XV _) rfl J L
  exact#[z,e,p z _ v^by lk]
 | tup d=>
  have hl:=C6 d;have N:CO d<=100000:=hz;have hj:ES d+1<=j:=M;have l:∀m,n - 2<=m->Zi (EE S) m [.fd,.sh^.tup d,.no,.no]:=λm hm=>Tv (D2:={EE S with nx:=_}) q t N (by lk) λy g=>p y _ g (by lk);exists _,_,rfl,rfl;show if decide (0<(d.length:Int))=r_ then _ else _
  by_cases G:0<d.length
  .rw[decide_eq_true^by lk]
   refine Ar #[5,rfl,by cbv,by cbv,by lk,λr J L=>?_];show if decide (0<r)=r_ then _ else _
   refine CQ (λ_=>?_) λ_=>l _ (by lk);refine#[_,_,rfl,rfl,(d.length:Int),rfl,by lk,by lk,by lk,λa a0 a1=>?_];obtain⟨a,rfl⟩:∃k:Nat,a=(k:Int):=#[a.toNat,by lk];have O:a<d.length:=by lk
   exists d[a],AD^On O;have R:d[a]∈d:=jB O;have a3:=LC R;have a4:=qg.mp (Re^ES d) _ R;refine E _ _ _ (by lk) #[d[a],B,rfl,qv.mp q _ R,t,u,by lk,by lk,by lk,λe n' #[f1,f2,f3] f4=>?_];have Z:=Zl O e;have d1:=C6^Dp.cutD d q_^P3 (a:Int);have d2:=C6^Dp.cutD d (P3 ((a:Int)+1)) q_;have c1:=F6 d q_^P3 (a:Int);have c2:=F6 d (P3 ((a:Int)+1)) q_;have e1:(Dp.cutD d q_^P3 (a:Int)++[e]).length=_:=ZB;have e2:[e].length=1:=rfl
   have o:∀y∈Dp.cutD d q_^P3 (a:Int)++[e]++Dp.cutD d (P3 ((a:Int)+1)) q_,y∈d\/y=e:=λy g=>by
    rcases iH.mp g with g|g
    .rcases iH.mp g with g|g
     .exact .inl^EU g
     .exact .inr^h_.mp g
    .exact .inl^EU g
   refine#[z1,by lk,by lk,p (.tup _) _ #[?_,?_,?_]^by lk]
   .exact qv.mpr λy g=>(o y g).elim (λh=>(qv.mp q y h).mono^by lk) λh=>by simp only[h]; exact f1
   .show CO _<=2*CO d+300
    lk
   .show ES _+1<=ES d+1+1
    have:=qg (k:=ES d+1).mpr λy g=>(o y g).elim (λh=>o0^qg.mp (Re^ES d) y h) λh=>by rw[h]; lk
    lk
  .rw[decide_eq_false^by lk]
   exact As^l n^by lk) (by walk_at "l") (by cbv) 10
theorem Le:A.Y "_law_star" 3 ["_law_feed_here","_law_many"] .sh YB:=A.gk A.h1h ["_law_feed_here","_law_many","_law_places_here","_law_ties_here","_law_prices_here","_law_k"] (λT q r=>(AC (Bu 2 q^cg r (Et A)^AU (A2 0)^BA (AV AY Ac (dv 1) AB) AF)
 (AC (Bu 3 q^Sk T.Gab^Hb ["_law_places_here","_law_k"] [P3 2,q_] (DI.c (FL rfl T.Gad (AM AB^AM (AV AY Ac (dv 1) AB) AS))) (λt=>Co 1 t) BF^Aa^AA (Ah (dv 0) AB)^AA (Ah (dv 0)^dv 1)^AA (AV AY Ac AB^AV DM C2 (dv 1) AB) AG)
 (AC (aU 4 q^Aj AG)
 (AC (CL iW rfl (FL rfl T.Gad (AM AB^AM (AV AY Ac (dv 1) AB) AS)) (Co 5 q) (AE^Nh 4 cb eQ eN EA Qu (pv 4)^AA (Sk T.Gab^Hb ["_law_k","_law_j"] [P3 5,q_] (DI.c (Cu rfl T.Gad (AM (AV AY Ac (dv 1) AB) AS))) (λt=>Co 1 t) BF^AV Bs Ck (AV Gw C2 AB AB) (Be SX bC rfl T.Gal boot_int (AM (BY De Gg (dv 1) (dv 0)^BI _) AS))) AG))
 (QY 4^AE^AN^Aa^AA (Aa^AA (dv 2)^AA (dv 3) AG)^AA (dv 4) AG)))))) (@λL n M h=>by
 let#[m, rfl,B,N,C,p]:=h;have E:=PySem.sizeLine_eq;refine#[m+1,by simp only[Int.natCast_succ],by lk,C,λa y F r=>?_];refine#[1,(m:Int)+1,rfl,#[by lk,by lk,by lk,by lk],by rw[Bj]; lk,?_];rw[show((m:Int)+1 - 1).toNat=m by lk];refine Az (λd=>match d with|.int j=>AO #[a.getD 0 "",a.getD j.toNat "",1+j % 3]|d=>d) (λi=>∃s,i=[.sh^.tup^a.map .str,s]) _ _ _ _ ?_ #[_,rfl] ?_
 .rintro d u i l v ⟨s,rfl⟩ g
  let#[k, G,rfl]:=Eo u;have H:(a.map D.str)[0]?=P3^.str^a.getD 0 "":=by rw[T0,On^by lk,Jx (by lk:0<a.length)]; rfl
  have I:(a.map D.str)[1+k]?=P3^.str^a.getD (1+k) "":=by rw[T0,On^by lk,Jx (by lk:1+k<a.length)]; rfl
  exists _,AD H,_,by rw[show(1:Int)+(k:Int)=((1+k:Nat):Int) by lk]; exact AD I,by show(0:Int)<3; decide,z3
  have:=g [.sh^.tup^a.map .str,.sh^.int (1+(k:Int))] #[_,rfl]
  have J:(1+(k:Int)).toNat=1+k:=by lk
  have this:v (AO #[a.getD 0 "",a.getD (1+(k:Int)).toNat "",1+(1+(k:Int)) % 3]) l _:=this;rw[J]at this;exact this
 .have e:[]++(CJ 1 m).map (λd=>match d with|.int j=>AO #[a.getD 0 "",a.getD j.toNat "",1+j % 3]|d=>d)=(A4 a m).ts.map AO:=by
   show _=((iM m).map^Eg a).map AO;unfold CJ;simp only[iD,i_,i_];refine jF λk _=>?_;show AO #[a.getD 0 "",a.getD (1+(k:Int)).toNat "",1+(1+(k:Int)) % 3]=AO^Eg a k;rw[show(1+(k:Int)).toNat=k+1 by lk];rfl
  rw[e];exists z0,1,(m:Int)+1,rfl,#[by lk,by lk,by lk,by lk];rw[show((m:Int)+1 - 1).toNat=m by lk];refine B2 (all:=CJ 1 m) (λb l i=>l=n - 2/\∃x:Slot,i=[.fd,.sh^.int (m:Int),.sh^.tup^a.map .str,.sh^.tup^(A4 a m).ts.map AO,.ow^.lst^(iM b.length).map^Cp m,x]) ?_ ?_ _ [] _ _ rfl #[rfl,_,rfl]
  .rintro l i ⟨rfl,x,rfl⟩
   rw[Bj];exact#[_,rfl,(by cbv:2<=sizeLine),(by cbv:2<=sizeLine),p a y^WV y F r]
  .rintro b d z l i v o ⟨rfl,x,rfl⟩ g
   let#[rfl,O]:=F_ o;refine#[_,rfl,rfl,(m:Int)+1,rfl,#[by lk,by lk],by rw[Bj]; lk,?_];simp only[show((m:Int)+1).toNat=m+1 by lk];refine Az (eS (1+(b.length:Int))) (λi=>∃s,i=[.sh^.int (1+(b.length:Int)),s]) _ _ _ _ ?_ #[_,rfl] ?_
   .rintro d u i l v ⟨s,rfl⟩ g
    let#[k, G,rfl]:=Eo u;exact#[#[by cbv,by cbv,by cbv],.inl #[by cbv,by cbv],g [_,_] #[_,rfl]]
   .rw[iD]
    refine#[_,_,rfl,rfl,by simp only[FM,kC]; lk,g _ _ #[rfl,.sh^.int (1+(b.length:Int)),?_]];simp only[ZB,iB,List.range_succ,ij,List.map_singleton];show _=[_,_,_,_,Slot.ow^.lst (_++[.tup^(CJ 0 (m+1)).map^eS ((b.length:Int)+1)]),_];rw[Int.add_comm (b.length:Int) 1]
    rfl)
theorem Lh:A.Y "_law_held" 2 ["_law_net_here","_law_kept","_law_tie"] .sh Q0:=A.gk A.h1i ["_law_net_here","_law_kept","_law_tie","_law_row"] (λT m i=>(AC (Bu 3 m^Ah (cg i (Dh A)^BA (Ah (dv 0) AB)^Ax 1 AF)^D5 i (Ah (dv 0) AB)^AM (Ah (dv 2) AB) AS)
 (AE^AN^Sk T.Gab^Hb ["_law_one"] [q_] (A6^dv 3) (λo=>Co 0 o) BF^JW (B4 FF MC (dv 0) BC) AB^AV Gw C2 AB AB))) (@λL n M h=>by
 let#[N,S,u, rfl,b,g,q,p]:=h;have ok:=b.1;have r:=b.2.1;let#[ t,_]:=ok.tin u q;let#[B, ex,_]:=E3 t;let#[ C,E,G,H]:=Dl ok ex;refine#[_,AD (j:=0) rfl,#[N.ps,S],_,rfl,.inl rfl,g,by show N.ps.length<=1000; omega,λF O=>?_];exists _,AD (j:=0) rfl,#[_,rfl],_,AD (j:=0) rfl,_,_,B,rfl,rfl,C,E,G,H,_,GO ex;refine#[by show(N.ps.map λy=>od^F u.a y).length<=10000000; rw[FM]; omega,?_];refine Az (λd=>match d with|.non=>.int (10 ^ (13:Int).toNat)|_=>.int 0) (λl=>∃s,l=[s]) _ _ _ _ ?_ #[_,rfl] ?_
 .rintro d I l Q R ⟨s,rfl⟩ c
  let#[z, U,rfl]:=Rs.mp I;cases e:F u.a z with
  |none=>
   have k:=c [.sh .non] #[_,rfl];rw[e]at k;exact#[rfl,#[by cbv,by cbv,by cbv],k]
  |some v=>
   have k:=c [.sh^.int v] #[_,rfl];rw[e]at k;exact#[rfl,k]
 .rw[iD]
  have e:(N.ps.map λy=>od^F u.a y).map (λd=>match d with|.non=>D.int (10 ^ (13:Int).toNat)|_=>.int 0)=(N.ps.map λy=>match F u.a y with|none=>(10:Int) ^ 13|some _=>0).map .int:=by
   rw[i_,i_];refine jF λy _=>?_;show(match od (F u.a y)with|.non=>D.int (10 ^ (13:Int).toNat)|_=>.int 0)=.int (match F u.a y with|none=>(10:Int) ^ 13|some _=>0);cases F u.a y <;>rfl
  rw[e];refine p _ #[by rw[FM],λx J=>?_];let#[y, _,rfl]:=Rs.mp J;cases F u.a y with
  |none=>decide
  |some v=>show(0:Int)<=0/\(0:Int)<=10 ^ 14; decide)
theorem Lc:A.Y "_law_ways" 5 ["_law_net_here","_law_some"] .sh IM:=A.gk A.h1j ["_law_net_here","_law_some","_law_out"] (λT nd J=>(AC (Bu 2 nd^cg J (FT A)^BA (Hb ["_law_some","_law_tie"] [P3 1,q_] (A6^Ah (dv 0) AB) (λL=>Co 1 L) (C8^B4 (Bo J) Cz (dv 1)^dv 0)^dv 1) AF)
 (AE^AN^Sk T.Gab^Hb ["_law_some","_law_net_here","_law_tie"] [P3 1,P3 0,q_] (A6^dv 2) (λL=>Co 2 L) BF^cg J (ND A)^BA (Ah (dv 1) AB)^Ax 0^BA (Ah (dv 2) AB)^BA (Ah (dv 2) AB) AF))) (@λss n Pd h=>by
 let#[N,r,t,b, rfl,B,M,a0,W,hk,b1,q]:=h;have ok:=B.1;have i:=W.okN B;refine#[_,AD (j:=1) rfl,by show(N.ts.map AO).length<=10000000; rw[FM]; lk,?_];refine CC (λd=>!((r.map AO).any λy=>BS y d)) id (λX=>∃s,X=[.sh^B0 r,s]) _ _ _ _ ?_ #[_,rfl] ?_
 .rintro d hd X m nx sk ⟨s,rfl⟩ h1 h2
  let#[u, p,rfl]:=Rs.mp hd;exists Bi ok p,(Cy i.1 λx h=>h).2,_,rfl;exact CQ (λc=>h1 _ #[_,rfl] c) λc=>h2 _ #[_,rfl]^iS.mpr c
 rw[iD,km,NQ];have ll:(HN N r).length<=N.ts.length:=j8 _ _;have lr:=j8 (λt=>decide (t∈r)) N.ts;rw[Fc ok W]at lr;refine#[_,HN N r,rfl,rfl,by lk,λC H p2=>#[by show(C.map AO).length<=10000000; simp only[FM,H.length_eq]; lk,?_]]
 have go:∀(l:t_ AZ) (e:t_ D) (s:Slot) (P:t_ D->Nat->Prop),(∀u∈l,u∈N.ts)->(∀g:t_ D,g.length=l.length->O4 N g->(∀k,GW #[N.ps,r] t b k l g=.non)->P (e++g) n)->
   Di (A5 2) Gj (A0 V2^AL (AT^BE D7 (AJ 1)^wC^D.int 0)^AL (AT^AJ 0)^AL (AT^BE D7 (AJ 2)^wC^D.int 0)^AL (AT^BE D7 (AJ 2)^wC^D.int 1) A3) P (l.map AO) e n [.sh^B0 r,.sh^Bl N,s]:=by
  intro l
  induction l with
  |nil=>
   intro e s P _ h
   have:=h [] rfl (λ_ z=>absurd z iC) λ_=>rfl
   rw[im]at this;exact this
  | cons u l ih=>
   intro e s P p h;have E:=p u Sc;let#[ Z,m2,_,_]:=ok.tin u E;let#[d', F,O]:=hk u E;refine#[_,AD (j:=0) rfl,_,AD (j:=0) rfl,_,AD (j:=1) rfl,#[N.ps,r],u.a,u.b,rfl,i.1,M,by show r.length<60; lk,Z,m2,#[d',F],λw d o hw hl G Q=>?_];refine ih _ _ P (λv hv=>p v^TM _ hv) λg I R S=>?_;rw[i7];refine h (Hg (u.a::w)::g) (by simp only[UF,UF,I]) (λz U=>?_) λk=>?_
   .rcases TW.mp U with rfl|U
    .exact#[_,rfl,G,Q]
    .exact R z U
   .have V:d*b<=u.len*t:=Int.le_trans (kZ (o.2 d' F)^by lk) O
    unfold GW;rw[Sx i.1 Z hw hl V];exact S (k+1)
 refine go C [] _ _ (λu p=>(jt.mp^H.mem_iff.mp p).1) λg I R S=>?_;refine q _ (by simp only[iD,I,H.length_eq]; exact ll) (by simp only[iD]; exact R) #[C,H,p2,?_];show(if([]++g:t_ D).length=C.length then GW #[N.ps,r] t b 0 C ([]++g)else W0 "shape" 0)=_;rw[iD,if_pos I];exact S 0)
theorem Gz:A.Y "_law_is_right" 15 ["_law_net_here","_law_times_here","_law_thing"] .sh Jl:=A.gk A.h1k ["_law_net_here","_law_times_here","_law_thing","_law_some"] (λT H a=>(AC (Ai (DTW.dt^BL (A1^Ag (BK kit_tuple (dv 2) rfl T.Gaa rfl T.Gab (by decide +kernel)))^BL (B4 FQ J3 (FY T.Gac^dv 2) AB)^BQ^A1^Ag^cg a (Hl A)^Ax 0^BA (Ah (dv 2) AB) AF) (AE^AN BD) AW)
 (AC (Bu 3 H (Be BX EX rfl T.Gaf mq (AM (Ah (Ah (dv 2) AB) AB) AS)))
 (AE^AN^Cv (cg a (Fo A)^Ax 0^Ax 1^Ax 3^BA (Ah (dv 2) AB) AF)^DQ^cg a (GJ A)^Ax 0^Ax 1^BA (FY T.Gac^dv 3)^BA (Ah (dv 2) AB) AF)))) (@λR n S h=>by
 let#[N,t,b,x,rfl,g,C,s,q]:=h;have I:=g.2.2;cases x with
 | tup l=>
  exists _,_,rfl,rfl;show if(!((l.length:Int)==3))=r_ then _ else _
  by_cases E:l.length=3
  .obtain⟨d,p,c,rfl⟩:∃x y z,l=[x,y,z]:=by
    match l,E with
    |[x,y,z],_=>exact#[x,y,z,rfl]
   have J:=(s.pt.mem (y:=d)^by simp).1;have F:=s.pt.mem (y:=c) (by simp);have m:Br c<=10:=by have:=F.2; have:=s.2.2; lk
   refine As #[_,AD (j:=0) rfl,N,d,rfl,g,J,?_];show if(!zQ N d)=r_ then _ else _
   cases e:zQ N d with
   |false=>
    refine Ar^q s_^Hr ?_;rintro⟨r,i,k,z,a,_⟩;injection z with z; injection z with z _
    simp only[z,a.zQ]at e;cases e
   | true=>
    let#[r, rfl,a]:=zg.mp e;have a:thn N r:=a
    have o:∀{i k:D}{u:t_ AZ},D.tup [Bl #[N.ps,r],p,c]=.tup [Bl #[N.ps,u],i,k]->u=r/\i=p/\k=c:=λz=>by
     injection z with z; injection z with L z; injection z with M z; injection z with O z
     exact#[QU L,M.symm,O.symm]
    refine As #[_,AD (j:=0) rfl,_,AD (j:=1) rfl,?_];refine#[_,AD (j:=1) rfl,N,r,t,b,p,rfl,g,a,C,(s.pt.mem^by simp).1,λv G=>?_];cases v with
    |false=>
     refine q s_^Hr ?_;rintro⟨u,i,k,z,_,B,_⟩;let#[ rfl,rfl,rfl]:=o z;exact(nomatch G.mpr B)
    |true=>
     have B:=G.mp rfl;exists _,_,rfl,rfl,_,AD (j:=2) rfl,N,t,b,r.length,c,by rw[FM],g,C,#[F.1.1.mono^by cbv,by lk],m;rw[←Mh m];refine q _ #[λz=>#[r,p,c,rfl,a,B,z],?_];rintro⟨u,i,k,z,_,_,Q⟩;let#[rfl,rfl,rfl]:=o z;exact Q
  .rw[show((l.length:Int)==3)=s_ by rw[beq_eq_false_iff_ne]; lk]
   refine Ar^q s_^Hr ?_;rintro⟨r,i,k,e,_⟩;exact E^by rw[D.tup.inj e]; rfl
 |_=>
  refine q s_^Hr ?_;rintro⟨r,i,k,e,_⟩;cases e)
theorem FS:A.Y "_law_tells" 24 ["_law_net_here","_law_times_here","_law_thing","_law_due"] .sh Jh:=A.gk A.h1l ["_law_net_here","_law_times_here","_law_thing","_law_due","_law_kept","_law_found"] (λT j d=>(AC (Bu 4 j (Ak (DD d) G_ rfl T.Gai oV (AM (dv 2) AS)))
 (AC (Bu 5 j^cg d (NA A)^Ax 0^Ax 1^Ax 2 AF)
 (AE^AN^Cv (BK Ez (dv 5) rfl T.Gaa rfl T.Gaj (by decide +kernel))^Cv (BY De Gg (dv 5) (dv 3)^BI _)^DQ^BY De Gg (Ak (DD d) G_ rfl T.Gai oV (AM (dv 2) AS)) (dv 4)^BI _)))) (@λq n l h=>by
 let#[N,t,b,x,v, rfl,e,g,m,c,o,p]:=h;refine#[_,rfl,c.sh,N,t,b,x,rfl,e,g,m,c,λk i=>?_];obtain rfl:k=v:=jW.mpr^i.trans o.symm;have a:∀A:Str,l (.bl (A==A)) n:=λA=>by rw[beq_self_eq_true]; exact p
 cases k with
 |true=>exact#[_,rfl,c.sh,a _]
 |false=>exact#[_,rfl,c.sh,a _])
theorem Fp:A.Y "_law_star_right" 25 ["_law_feed_here"] .sh V0:=A.gk A.h1m ["_law_feed_here","_law_many","_law_net_here","_law_prices_here","_law_case_here","_law_k"] (λT i l=>(AC (Bu 1 i^AV AY Ac AB^cg l (Aq A)^AU (A2 0)^BA AB AF)
 (AC (aY (cg l (Le A)^AU (A2 0)^Ax 1 AF)^Xw^Aw (Co 2 i)^Aw (Co 3 i) C9)
 (AC (Bu 4 i^Aa^AA AX AG)
 (AC (CL iW rfl (Cu rfl T.Gad (AM (dv 1) AS)) (Co 5 i) (AE^Bu 4 i^Aa^AA AX^AA (Ah (Ah (dv 2) AB)^dv 5)^AA (dv 4)^AA (Aa^AA AX^AA (Ah (Ah (dv 2) AB)^dv 5)^AA (Ah (dv 3)^dv 5) AG) AG))
 (AE^AN^cg l (FS A)^Ax 2^BA (cg l (FR A)^AU (A2 0) AF)^BA (Aa^AA (dv 2)^AA (Aa AG)^AA (dv 4) AG)^BA (BY (Iu l) N6 (dv 1) AB^BI _) AF)))))) (@λss n Pd h=>by
 let#[ rfl,hn,p]:=h;have J:=PySem.sizeLine_eq;refine#[6,rfl,by cbv,by cbv,by lk,λr r0 r1=>?_];obtain⟨k,rfl⟩:∃k:Nat,r=(k:Int):=#[r.toNat,by lk];obtain⟨m,E,m1,s⟩:∃m:Nat,(11:Int)+(k:Int)=(m:Int)/\11<=m/\m<=16:=#[11+k,by lk,by lk,by lk];refine#[m,congrArg (λz=>[Slot.fd,.sh^.int z]) E,by lk,s,by lk,λxs u ok=>?_];let#[ o,g]:=WU u s ok;exists rfl,rfl,z1,(11:Int)+(k:Int),rfl,#[by lk,by lk];rw[E];refine B2 (all:=CJ 0 m) (λc v x=>v=n - 1 - 2/\∃y,x=[.fd,.sh^.int (m:Int),.sh^Bl^A4 xs m,.sh^.lst^(iM m).map^Cp m,.sh^DJ xs m c.length,y]) ?_ ?_ _ [] _ _ rfl #[rfl,_,rfl]
 .rintro v x ⟨rfl,y,rfl⟩
  rw[Bj];refine#[rfl,by lk,λt b L bt M=>?_];have F:CB t b:=#[L,by lk,by lk,M];let#[ O,f2,f3]:=KI u s ok m^Re _;let#[ Q,g2,g3]:=aI o
  have B:Fe (A4 xs m) t b m^DJ xs m m=decide ((m:Int)<15):=by
   unfold Fe;simp only[KH u ok F m 15 m [] (Re _) (λ_ _=>iC) (Nat.zero_add _).symm,decide_eq_true (show EV 14^DJ xs m m<=4000 by have:=IW (xs:=xs) (m:=m) m 14; lk),lU];exact decide_eq_decide.mpr^by lk
  have C:thn (A4 xs m) (A4 xs m).ts:=#[λ_ h=>h,ok.zq];have R:HN (A4 xs m) (A4 xs m).ts=[]:=List.filter_eq_nil_iff.mpr λa S=>by simp[S]
  refine#[z0,z3,A4 xs m,t,b,_,_,rfl,o,by show xs.length<=24; lk,F,#[#[Q.mono^by cbv,trivial,O,trivial],?_,?_],?_,p _^by lk]
  .show Bz^Bl^A4 xs m+1+(0+1+(Bz^DJ xs m m+1+0))<=150000
   lk
  .show max (Br^Bl^A4 xs m)^max (0+1)^max (Br^DJ xs m m) 0+1<=40
   omega
  .rw[←B]
   exists λz=>#[(A4 xs m).ts,_,_,rfl,C,#[[],by rw[R],.nil,rfl],by rw[g]; exact z];rintro⟨r,p',c',e,_,_,z⟩;injection e with e; injection e with U e; injection e with e2 e; injection e with V e
   have W:=QU (N:=A4 xs m) (ts:=(A4 xs m).ts) U;rw[W,g]at z;rw[V];exact z
 .rintro c d G v x nx q ⟨rfl,y,rfl⟩ D
  let#[rfl,H]:=F_ q
  have X:((A4 xs m).ts.map AO)[c.length]?=P3^AO^Eg xs c.length:=by
   show(((iM m).map^Eg xs).map AO)[c.length]?=_;simp only[T0,T0,n6 H];rfl
  have Z:((iM m).map^Cp m)[c.length]?=P3^Cp m c.length:=by
   simp only[T0,n6 H];rfl
  have I:atI ((A4 xs m).ts.map AO) (0+(c.length:Int))=P3^AO^Eg xs c.length:=by rw[ja]; exact AD X
  have i2:atI ((iM m).map^Cp m) (0+(c.length:Int))=P3^Cp m c.length:=by rw[ja]; exact AD Z
  refine#[_,AD (j:=1) rfl,_,I,_,AD (j:=1) rfl,_,I,_,i2,z3,(by cbv:4<=sizeLine),D _ _ #[rfl,.sh^.int (0+(c.length:Int)),?_]];simp only[ZB,iB]
  rfl)
end
section
variable {P:Program}{w:World}{K:Frag}{mg:Str->u_ Value}{base:Heap}
theorem LI:A7 ["_law_script"] ["_law_script"]^AR Em:=by constructor <;>first|rfl|decide +kernel
theorem Li(T:Txt K mg)(F:Fun K "_law_feed" "_law_feed" Em f fd):B_ P w K mg base FO 1 f fd ["_law_script"]^LF K:=by
 refine F.ok LI (λi H Q E h=>?_) λj A d s H i Q E n h=>?_
 .let#[a,k,rfl,_]:=h
  rfl
 .let#[a,k,rfl,#[l,m],q]:=h
  exists _,BR^Fi^Gv^Ap (KS BX rfl T.Gaf mq (Ap (Mt sl_list (pv 0) QA^P_ Au) BH))^Ap Au^Ap Au BH;refine#[_,rfl,63,rfl,a,_,rfl,m,λp o=>#[p,_,rfl,.inl^SqL.of AQ,λc r=>#[by show 3<=sizeLine; decide,λg e=>?_]]];rw[dW l]at e ⊢;have b:c≠g:=λz=>by simp only[←z,AQ]at e; cases e
  exact q c g _ b (by rw[AH b,AQ]) AQ
theorem qd:A7 ["_law_script","_law_feed_here","_law_turn","_law_net_here","_law_times_here","_law_least_here","_law_rows","_law_some","_law_right","_law_things","_law_world","_law_tie","_law_first","_law_more","_law_thing"] ["_law_script"]^AR Ic:=by walk_at "s"
theorem Z1(A:Ctx P w K mg base h)(n:B_ P w K mg base FO 1 e d ["_law_script"]^LF K)(o:mg "_law_feed"=P3^.ref e)(p:keepIn K^.ref e=r_)(q:Binds K d ["_law_script"] [])(F:Fun K "law" "law" Ic f fd):B_ P w K mg base FO 26 f fd ["_law_script"]^Mg K:=by
 have r:=Lk A;have k:=Lj A;have t:=EY A;have u:=Lh A;have v:=Gz A;have x:=FU A;have y:=Jv A;have z:=GK A;have B:=NE A;have C:=Aq A;have D:=Fp A;have l:=FS A;have G:=FR A;have m:=Lc A;have T:=A.T
 exact dA (n0:=60000) F qd rfl (by cbv) (λg A b s H E a=>Dv (i:=1) qd.nd rfl (kJ rfl) (LQ n (a.mono^by cbv) rfl o p q .nil QD (Ap (pv 0) BH)))
  (λg A b s H E a=>(AC (Ai (A1^Ag^cg a D^AU (A2 1) AF) (AE^AN BD) AW)
 (AC (CL iW rfl (Cu rfl T.Gad (AM AB AS)) (Co 2 qd.nd) (AC (Bu 3 qd.nd^cg a B^AU (A2 1)^BA AB^BA AB AF)
 (AC (Bu 4 qd.nd^cg a G^AU (A2 1) AF)
 (AC (Bu 5 qd.nd^cg a y^Ax 3^Ax 4 AF)
 (AC (Lz (i:=6) qd.nd rfl (jK rfl) rfl [("_law_net_here":Str),("_law_times_here":Str),("_law_some":Str)] [P3 3,P3 4,q_] (A6^cg a t^BA (Be BX EX rfl T.Gaf mq (AM (Ah (dv 3) AB) AS))^Ax 5 AF) (λ_ _ _ _ _=>(IH (i:=2) (show qC [("_law_net_here":Str),("_law_times_here":Str),("_law_some":Str)] by decide +kernel) rfl (jK rfl))) (λ_ _ _ _ _=>(C8^Ag^cg a x^Ax 0^Ax 1^Ax 2 AF)) (λ_ _ _ _ _=>(dv 2)) (by kernel_rfl))
 (AC (Bu 7 qd.nd^Ah (dv 6)^cg a C^AU (A2 1)^BA (FY T.Gac^dv 6) AF)
 (AC (Bu 8 qd.nd^Aa^AA (Aa^AA (Ah (dv 3) AB)^AA (Sk T.Gab^dv 7) AG)^AA (cg a m^Ax 3^Ax 7 AF)^AA (cg a k^AU (A2 1)^Ax 3^Ax 4^Ax 5 AF) AG)
 (AC (Ai (A1^Ag^cg a l^Ax 3^Ax 4^Ax 8^BA BD AF) (AE^AN BD) AW)
 (AC (aU 9 qd.nd^Aj^AA (AV AY Ac (CF Dt CH (dv 8) A_^A9 AB)^Aa^AA (Aa^AA (Aj AG) AG) AG)^AA (AV AY Ac (CF Dt CH (dv 8) A_^A9 AB)^Aa^AA (Aa^AA (Aj^AA AX AG)^AA AB^AA AB AG) AG)^AA (Aa^AA (Aj AG)^AA (Aj AG)^AA (Aj AG) AG)^AA (Aa^AA (dv 8)^AA (Ah (dv 8) AB)^AA (Ah (dv 8) AB) AG) AG)
 (AC (aU 9 qd.nd^AV LU HA (Xe 9)^Aj^AA (AV AY Ac (CF Dt CH (dv 8) A_^A9 AB)^Aa^AA (cg a k^AU (A2 1)^Ax 3^Ax 4^BA (Ak (Kw rfl) Vw rfl T.Gaq boot_max (AM AB^AM (AV Bb B9 (dv 5) AB) AS)) AF) AG)^AA (Be BX EX rfl T.Gaf mq (AM (dv 8) AS))^AA (CF Dt CH (dv 8) A_^A9 AB)^AA BC AG)
 (AC (Bu 10 qd.nd^Nl (pv 3) (pv 4) (pv 5) Ui)
 (AC (CL iW rfl (Fv^CF Dt CH (Ah (dv 3) AB) A_^A9 AB) (Co 11 qd.nd) (AC (Bu 12 qd.nd^cg a z^AU (A2 1)^Ax 10^BA (Aj^AA (dv 11) AG)^BA (Aj AG)^BA (Hb ["_law_tie","_law_one"] [P3 11,q_] (A6^Ah (dv 3) AB) (λj=>Co 1 j) (C8^B4 (Gx a) K2 (dv 1)^dv 0)^dv 1) AF)
 (AE^Nh 9 cb eQ eN EA Qu (pv 9)^AA (AV AY Ac (CF Dt CH (dv 8) A_^A9 AB)^Aa^AA (Aa^AA AX^AA (dv 11)^AA (dv 12)^AA (Aa^AA AX^AA (dv 11)^AA (cg a u^Ax 3^BA (Aj AG)^Ax 11 AF) AG) AG) AG) AG)))
 (AC (CL iW rfl (Fv^Ah (dv 3) AB) (Co 11 qd.nd) (AC (Bu 13 qd.nd^JW (B4 (Bo a) Cz (dv 11)^dv 7) (DE.sh (Ak Jc Qs rfl T.Gae oH (AM (AV AY Ac (dv 7)^Aj^AA (dv 11) AG) AS)))^dv 7)
 (AE^Nh 9 cb eQ eN EA Qu (pv 9)^AA (Aa^AA (Aa^AA (Ah (dv 3) AB)^AA (Sk T.Gab^dv 13) AG)^AA (cg a m^Ax 3^Ax 13 AF)^AA (Ah (dv 8) AB) AG) AG)))
 (AC (aU 9 qd.nd^AV LU HA (Xe 9)^Hb ["_law_feed_here","_law_right","_law_k"] [P3 1,P3 8,q_] (DI.c (Cu rfl T.Gad (AM AB AS))) (λj=>Co 2 j) BF^cg a r^AU (A2 0)^Ax 1 AF)
 (AE (Xn iW rfl (pv 9) (Co 14 qd.nd) (AE^Ai (A1^Ag^cg a l^Ax 3^Ax 4^Ax 14^BA (cg a v^Ax 3^Ax 4^Ax 14 AF) AF) (AE^AN BD) AW)))))))))))))))))
 (AE^AN BD)))) OV
end
local macro_rules|`(tactic|walk_at "B")=>`(tactic|(intro _ _ _ _ _ _; exact gP λ_=>rfl))
theorem all_mk{l:PySem.W.OpenLaw}{K:Frag}(e:d "law"=P3^.ref fa)(A:C0 K d h):∃fd:jG,(∀(s:No) (v:Ev),n8 s fd #[[v],[]] [("_law_script",v)])/\∀b:iG,K.In b->b.Ns mainGlobals d->B_ l.prog w K d b FO 26 fa fd ["_law_script"]^Mg K:=by
 let#[x,i, j,g]:=A.h0q.fn A.X A.G;have m:=g.binds (ps:=["_law_script"]) (by walk_at "B");let#[f,y,z,n,B,o,p,q,r,t,a,u,c,k]:=A.h1n;cases e.symm.trans^mg_of A.X A.G a;exact#[fnOf "law" "law" (CI Ic) (BG Ic) (AR Ic) .none o p q n r t,λs v=>.of_eq rfl,λb _ _=>Z1 A (Li A.T g) j g.kp m^O6 (st:=Ic) u c k]
theorem walk{l:PySem.W.OpenLaw}{K:Params->Frag}(m:l.most=P3 63)(g:d.params.defaults=[])
  (o:∀(w:iZ) (h:iG),i w h->(K w.params).In h)
  (F:∀(w:iZ) (e:Str->u_ Ev) (fa:Db) (h:iG),(K w.params).In h->h.Ns mainGlobals e->e d.name=P3^.ref fa->
   ∃fd:jG,(∀(s:No) (u:Ev),n8 s fd #[[u],[]] [("_law_script",u)])/\∀b:iG,(K w.params).In b->b.Ns mainGlobals e->B_ l.prog w (K w.params) e b FO 26 fa fd ["_law_script"]^Mg^K w.params):
  PySem.W.WalkO q c j i l.row.toRowW d [] (λf p=>PySem.call f p):=
 L2.Ph (n:=63) (k:=26) (x:="_law_script") (CX:=λ_=>FO) (sp:=λw=>Mg^K w.params) m (by cbv) g #[rfl,by cbv,by cbv,rfl] o F (λ_ _ a r t _ v=>#[a,r,rfl,#[t,v],λ_=>rfl]) λ_ _ _ _ _ z=>z
end K63
end _p
namespace PySem.W.Fast
def tw3357959218300974971:True:=⟨⟩
def tw7557150708991462906:True:=⟨⟩
def tw10102924718911596046:True:=⟨⟩
def tw3973239614540907121:True:=⟨⟩
def tw11605595774736688538:True:=⟨⟩
def tw8861874282256580375:True:=⟨⟩
def tw4256803843626961460:True:=⟨⟩
def tw2981305561289550568:True:=⟨⟩
def tw13482427487460373434:True:=⟨⟩
def tw4025041108341957224:True:=⟨⟩
def tw13561250636753637181:True:=⟨⟩
def tw8263182267879605680:True:=⟨⟩
def tw16711946835998388534:True:=⟨⟩
def tw6710917225538864685:True:=⟨⟩
def tw4728905707988702172:True:=⟨⟩
def tw901388105467925576:True:=⟨⟩
def tw9630505889528108991:True:=⟨⟩
def tw5582418000724583934:True:=⟨⟩
def tw12021843622324904898:True:=⟨⟩
def tw15090068625460881554:True:=⟨⟩
def tw5624939413741436839:True:=⟨⟩
def tw11632968898017781831:True:=⟨⟩
def tw12662043899061624066:True:=⟨⟩
def tw6703728923957908066:True:=⟨⟩
def tw12364486640025326376:True:=⟨⟩
def tw16926084444597496169:True:=⟨⟩
def tw11791608310025788859:True:=⟨⟩
def tw10553789918369458136:True:=⟨⟩
def tw8045750115507472807:True:=⟨⟩
def tw6187904781935461403:True:=⟨⟩
def tw3078391649428903774:True:=⟨⟩
def tw3259008285232324001:True:=⟨⟩
def tw9559659778034128624:True:=⟨⟩
def tw6862908750065143050:True:=⟨⟩
def tw14171821340064626878:True:=⟨⟩
def tw11341950824002131837:True:=⟨⟩
def tw1278115541792500759:True:=⟨⟩
def tw14252462664858377540:True:=⟨⟩
def tw320936121079666525:True:=⟨⟩
def tw1243511430354126089:True:=⟨⟩
def tw17059291331587646250:True:=⟨⟩
def tw6243562749459552031:True:=⟨⟩
def tw16499698819688984967:True:=⟨⟩
def tw8883465433288051047:True:=⟨⟩
def tw18195801871751396002:True:=⟨⟩
def tw450983812160695294:True:=⟨⟩
def tw10793870247858524658:True:=⟨⟩
def tw14768932669652399501:True:=⟨⟩
def tw8884213012695988351:True:=⟨⟩
def tw14028951807395033546:True:=⟨⟩
def tw3403573474249021152:True:=⟨⟩
def tw8390857506721722750:True:=⟨⟩
def tw5097922984524973241:True:=⟨⟩
def tw16598173146419500176:True:=⟨⟩
def tw6625573730964662912:True:=⟨⟩
def tw12942939546253581650:True:=⟨⟩
def tw11515613899794493615:True:=⟨⟩
def tw10044895211279121909:True:=⟨⟩
def tw16160103499079198085:True:=⟨⟩
def tw16403843732980527482:True:=⟨⟩
def tw17445333058286820471:True:=⟨⟩
def tw4921944771716578782:True:=⟨⟩
def tw14116186945765931700:True:=⟨⟩
def tw18388268269083190785:True:=⟨⟩
def tw8026113645925823132:True:=⟨⟩
def tw4702737167749948321:True:=⟨⟩
def tw7411298150862799084:True:=⟨⟩
def tw6499295917195467012:True:=⟨⟩
def tw7997954647356693606:True:=⟨⟩
def tw10462010683777626295:True:=⟨⟩
def tw3028427218176090831:True:=⟨⟩
def tw8554845061161845386:True:=⟨⟩
def tw5109695843518613300:True:=⟨⟩
def tw13026355205778661462:True:=⟨⟩
def tw44057809783652398:True:=⟨⟩
def tw4492082059810347781:True:=⟨⟩
def tw14394327593659699681:True:=⟨⟩
def tw6049685286216221622:True:=⟨⟩
def tw3000676292831780191:True:=⟨⟩
def tw11504980634114283698:True:=⟨⟩
def tw11843778683352506987:True:=⟨⟩
def tw4869440220481816528:True:=⟨⟩
def tw1233367163041781920:True:=⟨⟩
def tw12181391141728261838:True:=⟨⟩
def tw17180671303068265915:True:=⟨⟩
def tw2162188026396203923:True:=⟨⟩
def tw7396713406199738505:True:=⟨⟩
def tw14178414102404875769:True:=⟨⟩
def tw15471494353068717886:True:=⟨⟩
def tw5045734181075828071:True:=⟨⟩
def tw2893709359400478759:True:=⟨⟩
def tw17890430653439668723:True:=⟨⟩
def tw3741510570966507604:True:=⟨⟩
def tw1699538277961151189:True:=⟨⟩
def tw6274495624423337681:True:=⟨⟩
def tw4450799901985337930:True:=⟨⟩
def tw7698351013869506587:True:=⟨⟩
def tw13673694675142569935:True:=⟨⟩
def tw12716942454599408353:True:=⟨⟩
def tw8624569151229709230:True:=⟨⟩
def tw17905023267038657893:True:=⟨⟩
def tw7191239608703011636:True:=⟨⟩
def tw10047022593968410311:True:=⟨⟩
def tw9298177627084199344:True:=⟨⟩
def tw9640756492951187263:True:=⟨⟩
def tw14600068577133875952:True:=⟨⟩
def tw11219150067946023790:True:=⟨⟩
def tw13390424980999048130:True:=⟨⟩
def tw8348722701600992772:True:=⟨⟩
def tw4659083747724847395:True:=⟨⟩
def tw244913928631453786:True:=⟨⟩
def tw9215254636544353462:True:=⟨⟩
def tw4276601946614360670:True:=⟨⟩
def tw6826481027079763993:True:=⟨⟩
def tw7340593983355601687:True:=⟨⟩
def tw14275276158747813463:True:=⟨⟩
def tw12241101300925964583:True:=⟨⟩
def tw15796598720454310575:True:=⟨⟩
def tw6642678428879493487:True:=⟨⟩
def tw2281886348202238074:True:=⟨⟩
def tw2960707183643774737:True:=⟨⟩
def tw8246586591168627266:True:=⟨⟩
def tw1148313970604700800:True:=⟨⟩
def tw17332123047060455526:True:=⟨⟩
def tw8552718804171781020:True:=⟨⟩
def tw7957332953853768591:True:=⟨⟩
def tw1422557831661622783:True:=⟨⟩
def tw15984340797489211262:True:=⟨⟩
def tw9182459929414821105:True:=⟨⟩
def tw5219690217113153250:True:=⟨⟩
def tw14613604082056247161:True:=⟨⟩
def tw7393523029038575038:True:=⟨⟩
def tw4003382133228409539:True:=⟨⟩
def tw1453513591689108394:True:=⟨⟩
def tw5765217196947135724:True:=⟨⟩
def tw10805230626986391570:True:=⟨⟩
def tw12992550366436915708:True:=⟨⟩
def tw10838532306074718600:True:=⟨⟩
def tw3239466736273901901:True:=⟨⟩
def tw12206502335204212014:True:=⟨⟩
def tw1283085140018121741:True:=⟨⟩
def tw6784198404613418428:True:=⟨⟩
def tw16248631355800696626:True:=⟨⟩
def tw9831988239397078572:True:=⟨⟩
def tw1755350362285873029:True:=⟨⟩
def tw101548187376667172:True:=⟨⟩
def tw17706920763502900989:True:=⟨⟩
def tw9071598068918963771:True:=⟨⟩
def tw8456302279614045047:True:=⟨⟩
def tw15585210391941781024:True:=⟨⟩
def tw8454887624378104069:True:=⟨⟩
def tw12771583859847353127:True:=⟨⟩
def tw14387239931576151611:True:=⟨⟩
def tw14409648671319788465:True:=⟨⟩
def tw1281606957753228660:True:=⟨⟩
def tw7874104100026883775:True:=⟨⟩
def tw3243041974960106941:True:=⟨⟩
def tw2741477129071951736:True:=⟨⟩
def tw5076897172400895973:True:=⟨⟩
def tw338740777004683450:True:=⟨⟩
def tw2349290373478940006:True:=⟨⟩
def tw16555569895764132113:True:=⟨⟩
def tw12001051126818154402:True:=⟨⟩
def tw5450857446585522707:True:=⟨⟩
def tw7156826152330061242:True:=⟨⟩
def tw13622489813183049412:True:=⟨⟩
def tw16731873294288996504:True:=⟨⟩
def tw453729665436681692:True:=⟨⟩
def tw2558079845177264523:True:=⟨⟩
def tw12815388170229136727:True:=⟨⟩
def tw3689150303756557671:True:=⟨⟩
def tw10445584692657908577:True:=⟨⟩
def tw10906909305418282241:True:=⟨⟩
def tw1078257936472074321:True:=⟨⟩
def tw3874779639855183799:True:=⟨⟩
def tw5925470902714281197:True:=⟨⟩
def tw15772824362135398997:True:=⟨⟩
def tw7460146165610074400:True:=⟨⟩
def tw1683603701378069534:True:=⟨⟩
def tw17929737864049072007:True:=⟨⟩
def tw4951857230467188677:True:=⟨⟩
def tw4954550650840094517:True:=⟨⟩
def tw17128679129624371170:True:=⟨⟩
def tw16163648716858674871:True:=⟨⟩
def tw12919430804035188266:True:=⟨⟩
def tw17038045921643797024:True:=⟨⟩
def tw8785016539186818393:True:=⟨⟩
def tw6795583196860831620:True:=⟨⟩
def tw17268689765540379489:True:=⟨⟩
def tw12704574264840431878:True:=⟨⟩
def tw17691782694741917569:True:=⟨⟩
def tw17919797935105625367:True:=⟨⟩
def tw10255575607603629870:True:=⟨⟩
def tw14992840146871856293:True:=⟨⟩
def tw8819842237388175899:True:=⟨⟩
def tw17280810285065364171:True:=⟨⟩
def tw12838732671707727092:True:=⟨⟩
def tw11513150208041649998:True:=⟨⟩
def tw7471154622623455087:True:=⟨⟩
def tw9420670030405972476:True:=⟨⟩
def tw17577876566269912190:True:=⟨⟩
def tw14499597267012537876:True:=⟨⟩
def tw11731306259151852604:True:=⟨⟩
def tw14331263593169711099:True:=⟨⟩
def tw162621908565332702:True:=⟨⟩
def tw17523108990867610421:True:=⟨⟩
end PySem.W.Fast
open _p
open PySem.W
set_option maxRecDepth 100000 in
set_option maxHeartbeats 0 in
theorem PySem.Challenge.cw_thinnet_k63_answers_of_others_holds : PySem.Challenge.rw_thinnet_k63_answers_of_others.Holds := by
 w_on; o_law; k_head; (case hw=>w_witness2)
 k_fill
 refine K63.walk (l:=PySem.Challenge.rw_thinnet_k63_answers_of_others) rfl rfl (λw h Y=>PySem.W.kIn_of Y) ?F
 case F =>
  intro w mg fa h KX G hmg
  refine K63.all_mk (h:=h) hmg ?_
  apply K63.C0.mk KX G
  all_goals first
   | (refine' K63.Ht.mk ?a ?l ?c ?k; (case a=>k_is); (case l=>k_is); (case c=>k_is); (case k=>k_is))
   | (refine' K63.Hn.mk ?a; (case a=>k_is))
   | (refine' K63.Hi.mk ?a; (case a=>k_is))
   | (refine' K63.Hx.mk ?c; (case c=>(refine' K63.xc_mk ?at_ ?atU ?o ?u ?kp ?ga ?gt ?sa ?ca ?nw ?nn ?nr; (case at_=>k_is); (case atU=>k_is); (case o=>k_is); (case u=>k_is); (case kp=>k_is); (case ga=>k_is); (case gt=>k_is); (case sa=>k_is); (case ca=>k_is); (case nw=>k_is); (case nn=>k_is); (case nr=>k_is))))
   | (refine' K63.H2.mk ?c ?i ?ty ?l ?cc ?k; (case c=>(refine' K63.xc_mk ?at_ ?atU ?o ?u ?kp ?ga ?gt ?sa ?ca ?nw ?nn ?nr; (case at_=>k_is); (case atU=>k_is); (case o=>k_is); (case u=>k_is); (case kp=>k_is); (case ga=>k_is); (case gt=>k_is); (case sa=>k_is); (case ca=>k_is); (case nw=>k_is); (case nn=>k_is); (case nr=>k_is))); (case i=>k_is); (case ty=>k_is); (case l=>k_is); (case cc=>k_is); (case k=>k_is))
#print axioms PySem.Challenge.cw_thinnet_k63_answers_of_others_holds

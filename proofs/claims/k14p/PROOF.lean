import PyProof.Rows.All
import Wide.All
import OpenK.AllK
import Wide.FinOn
import Lean
import PyProof.EqAt
import PyProof.EqKinds
import PyProof.TupleCall
import PyProof.StationsW
import PyProof.PassesOwn
import PyProof.RulesAs
import PyProof.ExcClass3
import PyProof.Rows.CatchOwn
import OpenK.KMake
import OpenK.KWalk
import PyProof.InstStoreFacts
import PyProof.ExcBaseAll.ValueError
import PyProof.RangeIter
import OpenK.KRaise
import PyProof.NsDelKeeps
import KE.KIsAll
import PyProof.P3In
import PyProof.NeData
import PyProof.ExcArgs
import KE.KSortTup
import PyProof.CompUse
import KE.KRevIter
import PyProof.TupleOfGen
import PyProof.CollectIter
import PyProof.ListMulRoad
import PyProof.Draws
import PyProof.EnumMake
import PyProof.ListNew
import PyProof.AttrMissHeap
import PyProof.FactsAll.dict
import KE.KEqDict
import PyProof.FactsAll.zip
import PyProof.StrBlockH
import PyProof.MeetsStr2
import KE.KIntText
import PyProof.Rows.FStr
import PyProof.ReprLen
import PyProof.SumAny
import PyProof.Rows.SeqCalls
import PySem.Challenge.RW_thinnet_k14_papers_of_ways_bent
open PySem.W (Frag nsIn keepIn fnOf codeIn mg_of mg_none_of)
set_option Elab.async false
set_option linter.all false
set_option maxRecDepth 100000
open Array renaming length_toList->eT,mem_toList_iff->jk
open Array.Perm renaming refl->jX
open Bool renaming and_eq_true->cq,false_ne_true->c8,eq_false_iff->d7,eq_iff_iff->e_,true_and->fM,false_eq_true->fX,false_and->gP,and_false->iZ
open Classical renaming byContradiction->gi,propDecidable->gv
open False renaming elim->dX
open ForInStep renaming yield->gD
open Int renaming toNat_natCast->gH,mul_le_mul_of_nonneg_left->iT,eq_ofNat_of_zero_le->jV
open List renaming length_map->Go,getElem?_eq_getElem->No,mem_cons_self->Op,mem_cons_of_mem->Re,mem_map->Rs,mem_singleton->Tk,mem_cons->T0,replicate->Uf,length_append->XV,length_cons->ZB,getElem?_eq_some_iff->cr,mem_append->cu,nil_append->cy,not_mem_nil->c6,size_toArray->c9,length_singleton->dB,range->dD,map_cons->dG,mem_append_right->dH,toArray->dI,nodup_cons->dM,Nodup->dQ,getElem?_map->dR,append_nil->dS,getD_eq_getElem?_getD->dW,getElem_mem->dY,map_append->df,mem_of_getElem?->dj,pairwise_cons->dm,mem_range->d8,all_eq_true->d9,getElem?_append_right->eB,length_nil->eE,drop_eq_getElem_cons->eI,length_filter_le->eM,append_assoc->eR,mem_filter->eU,length_take->eg,any_eq_true->em,mem_append_left->eo,nodup_nil->e6,map_map->fA,all_cons->fB,length_range->fJ,pairwise_map->fK,nodup_append->fL,lookup_cons->fP,lookup->fR,length_set->fb,getElem?_append_left->fk,length->fo,length_drop->fu,drop_length->fz,mem_flatMap->f6,cons_append->f7,filterMap_cons->f8,length_eq_zero_iff->f_,reverse_cons->gI,lt_irrefl->gN,take_append_drop->gO,cons_ne_nil->gR,mem_of_mem_drop->gS,mem_reverse->gU,length_reverse->gg,of_mem_zip->gh,zip_cons_cons->gl,zipWith->gn,getElem?_replicate->gs,pairwise_singleton->gu,filter_cons_of_neg->gw,flatMap_cons->g0,range_succ_eq_map->g9,map_id->g_,take_length->hZ,mem_iff_getElem?->iB,getElem?_set_ne->iE,forIn_cons->iJ,mem_of_mem_take->iR,getLast?_eq_some_getLast->iU,map_congr_left->iW,mem_filterMap->ig,filterMap_map->ii,perm_ext_iff_of_nodup->i4,getElem?_set->i9,pairwise_iff_getElem->jC,mem_of_find?_eq_some->jE,all_map->jO,map_nil->jP,any_map->jQ,sublist_append_left->jT,getElem?_cons_succ->jU,filter_cons_of_pos->jW,getElem?_set_self->jY,take_of_length_le->jc,find?_cons_of_pos->jd,find?_cons_of_neg->je,length_replicate->jf,getElem?_zipWith->jg,drop_zero->jh,singleton_append->jj,sum_cons->jm
open List.Pairwise renaming imp_of_mem->jS,nil->jz
open List.Sublist renaming refl->g7
open List.cons renaming inj->eQ
open Nat renaming le_refl->On,zero_le->TM,le_trans->cx,ne_of_lt->c7,lt_of_lt_of_le->dA,le_succ->dq,lt_irrefl->eK,lt_of_le_of_lt->fD,lt_succ_of_lt->fI,ne_of_gt->fV,succ_le_succ->fw,min_eq_left->gj,lt_trans->iI,not_lt->iK,mod_lt->jD,le_of_lt->jG,le_of_eq->jK,lt_succ_self->jM
open Nat.succ renaming inj->jy
open Ne renaming symm->eF
open Option renaming map_eq_some_iff->fS,some_beq_some->gX,isSome_map->i8
open Option.some renaming inj->cv
open Or renaming inl->TW,inr->da
open PyProof.Rows renaming slot_tuple_getitem->dN,callWith_type1->e9,listUpdate_at->fg,get?_update_seq->gF,AllBare->gK,boot_all->gQ,boot_tuple->gY,boot_repr->gp,listItems_at->iQ,entry_tuple_getitem->iV,seqEpoch_at->ia,boot_sorted->ie,args_tuple_getitem->ij,lt_int->jZ
open PyProof.Rows.KeyOrd renaming kle_refl->eZ,kle_of_klt->gz,kle_trans->h_,kle_antisymm->jq
open PySem renaming Addr->Ch,Value->Cn,wpAny_bind->Db,Shared->FM,wpAny_pure->Sc,Heap->cw,Program->cz,Expr->c_,World->dC,Stmt->dE,Around->dL,wpAny_mono->dP,FuncData->dU,wpAny_field->de,wpAny_loadPart_at->dh,sizeLine_eq->di,wpAny_holding->dw,wpAny_isSubtype_exc->eA,wpAny_Call_Name_kw->eN,wpAny_callSpecial?_slot->eO,wpAny_pyIter_tuple->ef,IsPair->eh,wpAny_truthy_bool->e7,wpAny_pyIter_list->e8,Scope->fF,wpAny_loadPart'->fG,NameKind->fN,wpAny_call_entry->fO,wpAny_seqItems->fQ,tupleKind_room_in1->fW,wpAny_setField_rec->fY,wpAny_passesOwn->fZ,wpAny_newObj_type->fh,wpAny_call->fj,codeAny_mono->ft,wpAny_getItem_str_slice->f9,wpAny_execs_nil->gB,IsZip->gJ,Keyword->gL,ExceptHandler->gc,Builtin->gf,wpAny_setField->gq,wpAny_standAt->hG,wpAny_onRaise->hV,wpAny_attempt->hX,PassesOwn->iA,plainObj_wpAny_Assign_Attribute->iC,IsPart->iF,wpAny_typeOf->iG,codeAny_call_builtin->iL,post_val_or_str->iN,wpAny_updateSeq_pair->iO,BindsTo->iX,PyData->im,wpAny_newFunctionEnv_cells->ir,wpAny_newList->iy,wpAny_sequenceKey->i5,slot_list_getitem->i6,wpAny_rule->jB,wpAny_execs_cons->jH,noFill_tuple_add->jI,call_meetsIn->jL,wpAny_madeBy_exc->jN,wpAny_letGo->ja
open PySem.Around renaming frames_deeper->jl
open PySem.Builtin.List renaming listExtendWith->ip
open PySem.Builtin.ObjectAttr renaming storeInDict->iM
open PySem.Builtin.Slice renaming slicePlaces->eV,sliceAdjust->fm,sliceApplied->iu
open PySem.Builtin.SmallTypes renaming nextOf->eJ,ownedTupleIsFree->ez,ownedTupleHandOut->gm
open PySem.Builtin.Str renaming occurrences->d6,reprChar->iS
open PySem.Builtin.Tuple renaming tupleItemsOf->gZ,tupleIsExact->iw,tupleExact->jJ
open PySem.Calls renaming spliced_cons->gC,spliced_nil->gy,callWith_builtin->g8,evalArgs_plain->iH,Name_function_global->iq
open PySem.Code renaming quiet_builtin->gE
open PySem.EntryCells renaming newEntry->jn
open PySem.F renaming slot_tuple_iterator_next->fe,slot_zip_next->iP,args_tuple_iterator_next_1->iY,entry_tuple_iterator_next->io
open PySem.Heap renaming get?_push_of_some->Ev,lt_size->UF,get?_push_size->cj,get?_update_other->dJ,size_push->eq,get?_update_self->fC,SameBut->fq,IsTuple->jR,IsList->jb
open PySem.Heap.IsSliceOf renaming new->jw
open PySem.Heap.SameBut renaming update->jp
open PySem.Heap.UpToSlots renaming refl->jo
open PySem.NameKind renaming free->dg,cell->hU
open PySem.Obj renaming mapSeq->d_,mapFields->fc,data_mapFields->gk
open PySem.PassesOwn renaming never->dZ
open PySem.PyData renaming eqv->eW,depthAll->eY,canLayAll0->fi,hasDict->gM,eqvAll->iz,hasDictAll->jA,leavesShortAll->ji,shown->jx
open PySem.SeqAt.EqAt renaming int_str->ju,str_int->jv
open PySem.Shared renaming heap->gG
open PySem.Str renaming ofString->dk,length_append->i_
open PySem.Value renaming ref->cm,none->dO,type->fE,builtin->gA,bool->iD,int->jr,str->jt
open Sum renaming inr->fH,inl->jF
open Sum.inr renaming inj->fT
open True renaming intro->eP
open PySem PySem.Spec PyProof.Rows
local macro_rules | `(tactic| walk_at "s")=>`(tactic| (constructor <;> first | rfl | decide +kernel))
namespace _p
namespace L2
abbrev Key:=Sum Int Str
def Lf:Key->Cn->Bool
 | .inl k,v=>Value.isInt k v
 | .inr x,v=>Value.isStrOf x v
def bW(w:dC):Key->Int
 | .inl k=>hashInt k
 | .inr x=>hashStr w x
theorem BZ:∀{k:Key} {v:Cn},Lf k v=true->(∃i t,k=jF i/\v=jr i t)\/(∃x t,k=fH x/\v=jt x t)
 | .inl i,v,h=>by
  obtain⟨t,e⟩:=Value.isInt_shape h;exact .inl ⟨i,t,rfl,e⟩
 | .inr x,v,h=>by
  obtain⟨t,e⟩:=Value.isStrOf_shape h;exact .inr ⟨x,t,rfl,e⟩
theorem SV(i:Int)(t:Tok):Lf (.inl i) (.int i t)=true:=by simp [Lf,Value.isInt]
theorem SU(x:Str)(t:Tok):Lf (.inr x) (.str x t)=true:=by simp [Lf,Value.isStrOf]
theorem YY(a b:Int):decide ((jF a:Key)=jF b)=(a==b):=by
 grind
theorem YV(a b:Str):decide ((fH a:Key)=fH b)=decide (a=b):=by
 grind
theorem YX(a:Int)(b:Str):decide ((jF a:Key)=fH b)=false:=decide_eq_false (λq=>nomatch q)
theorem YW(a:Str)(b:Int):decide ((fH a:Key)=jF b)=false:=decide_eq_false (λq=>nomatch q)
def BV(c:cz)(w:dC):PySem.KeyKind c w Key where
 is:=Lf
 hash:=bW w
 inj:=λv a b l g=>by
  rcases BZ l with ⟨i,t,rfl,rfl⟩ | ⟨x,t,rfl,rfl⟩
  ·rcases BZ g with ⟨j,u,rfl,e⟩ | ⟨y,u,rfl,e⟩
   ·injection e with d _; rw [d]
   ·exact nomatch e
  ·rcases BZ g with ⟨j,u,rfl,e⟩ | ⟨y,u,rfl,e⟩
   ·exact nomatch e
   ·injection e with d _; rw [d]
 byValue:=λk v h=>by
  rcases BZ h with ⟨i,t,rfl,rfl⟩ | ⟨x,t,rfl,rfl⟩ <;> rfl
 pyHash:=λf h=>by
  rcases BZ f with ⟨i,t,rfl,rfl⟩ | ⟨x,t,rfl,rfl⟩
  ·exact wpAny_pyHash_int h
  ·exact wpAny_pyHash_str h
 eqBool:=λm f h=>by
  rcases BZ m with ⟨i,t,rfl,rfl⟩ | ⟨x,t,rfl,rfl⟩
  ·rcases BZ f with ⟨j,u,rfl,rfl⟩ | ⟨y,u,rfl,rfl⟩
   ·rw [YY] at h; exact wpAny_eqBool_int h
   ·rw [YX] at h; exact ju i t y u _ _ _ _ h
  ·rcases BZ f with ⟨j,u,rfl,rfl⟩ | ⟨y,u,rfl,rfl⟩
   ·rw [YW] at h; exact jv x t j u _ _ _ _ h
   ·rw [YV] at h; exact wpAny_eqBool_str h
 «strs»:=λk x t v h=>by
  rcases BZ h with ⟨i,u,rfl,e⟩ | ⟨y,u,rfl,e⟩
  ·exact nomatch e
  ·injection e with d _
   subst d
   cases v <;> rfl
theorem OM(a:cz)(w:dC)(i:Int)(t:Tok):(BV a w).is (.inl i) (.int i t)=true:=SV i t
theorem OL(a:cz)(w:dC)(x:Str)(t:Tok):(BV a w).is (.inr x) (.str x t)=true:=SU x t
inductive V where
 | non | bl (b:Bool) | int (i:Int) | str (x:Str) | byt (b:Array UInt8) | flt (b:UInt64) | ref (a:Ch) | ty (n:String)
 deriving DecidableEq
def RelV:V->Cn->Prop
 | .non,u=>u=dO
 | .bl b,u=>u=iD b
 | .int i,u=>∃t,u=jr i t
 | .str x,u=>∃t,u=jt x t
 | .byt b,u=>∃t,u=Value.bytes b t
 | .flt b,u=>∃t,u=Value.float b t
 | .ref a,u=>u=cm a
 | .ty n,u=>u=fE n
abbrev Vals:List V->List Cn->Prop:=Paired RelV
theorem Vals.length{a:List V}{b:List Cn}(r:Vals a b):a.length=b.length:=Paired.length r
theorem Vals.get:∀{a:List V} {b:List Cn} {i:Nat} {x:V},Vals a b->a[i]?=some x->∃u,b[i]?=some u/\RelV x u
 | _,_,_,_,.nil,e=>by simp at e
 | _,_,0,_,.cons r _,e=>by simp_all
 | _,_,i+1,x,.cons _ t,e=>by
  obtain⟨u,c,d⟩:=Vals.get t (by simpa using e)
  simp_all
theorem Vals.set{x:V}{u:Cn}(r:RelV x u):∀{a:List V} {b:List Cn} (i:Nat),Vals a b->Vals (a.set i x) (b.set i u)
 | _,_,_,.nil=>.nil
 | _,_,0,.cons _ t=>.cons r t
 | _,_,i+1,.cons q t=>.cons q (Vals.set r i t)
theorem Vals.append:∀{a b:List V} {c d:List Cn},Vals a c->Vals b d->Vals (a++b) (c++d)
 | _,_,_,_,.nil,s=>s
 | _,_,_,_,.cons r t,s=>.cons r (Vals.append t s)
theorem Vals.take:∀{a:List V} {b:List Cn} (n:Nat),Vals a b->Vals (a.take n) (b.take n)
 | _,_,0,_=>.nil
 | _,_,_+1,.nil=>.nil
 | _,_,n+1,.cons r t=>.cons r (Vals.take n t)
theorem Vals.drop:∀{a:List V} {b:List Cn} (n:Nat),Vals a b->Vals (a.drop n) (b.drop n)
 | _,_,0,r=>r
 | _,_,_+1,.nil=>.nil
 | _,_,n+1,.cons _ t=>Vals.drop n t
def RelO:Option V->Option Cn->Prop
 | some v,some u=>RelV v u
 | none,none=>True
 | _,_=>False
def KV{a:Type}:List (a×V)->List (a×Cn)->Prop:=Paired fun(p:a×V) (q:a×Cn)=>p.1=q.1/\RelV p.2 q.2
def kV:Key->V
 | .inl i=>.int i
 | .inr x=>.str x
inductive HO where
 | lst (xs:List V)
 | tup (xs:List V)
 | dK (kvs:List (Key×V)) | dT (kvs:List (List Key×V))
 | set (S:Int->Bool) (n:Nat)
 | ins (C dx:Ch) (fs:List (Str×V))
 | own (x:Ch)
 | xd (fs:List (Str×V))
 | met (f x:Ch)
 | rng (lo hi:Int)
 | frz (o:Obj) (u:HO)
 | tbl (ps:Array Cn)
 | ext (φ:cw->Prop)
abbrev Hp:=Ch->Option HO
def A4(H:Hp)(a:Ch)(o:HO):Hp:=λb=>if b=a then some o else H b
theorem AX{H:Hp}{a:Ch}{o:HO}:A4 H a o a=some o:=by unfold A4; grind
theorem AQ{H:Hp}{a b:Ch}{o:HO}(h:b≠a):A4 H a o b=H b:=by unfold A4; rw [if_neg h]
theorem Z5{H:Hp}{a b:Ch}{o u:HO}(h:H a=some o)(c:H b=some u)(d:o≠u):a≠b:=by
 grind
theorem A0{H:Hp}{a b:Ch}{o:HO}(h:H a=some o)(c:H b=none):a≠b:=by
 grind
def IsTupN(h:cw)(a:Ch)(b:Array Cn):Prop:=∃o,h.get? a=some o/\o.cls=.type "tuple"/\∃n,o.data=.seq b n/\o.dict=none/\o.slots=#[]
theorem IsTupN.tup{h:cw}{a:Ch}{b:Array Cn}(x:IsTupN h a b):IsTup h a b:=let ⟨o,c,d,n,e,_⟩:=x; ⟨o,c,d,n,e⟩
theorem IsTupN.new(h:cw)(a:Array Cn):IsTupN (h.push { cls:=.type "tuple",data:=.seq a }) h.objs.size a:=⟨_,cj _ rfl,rfl,_,rfl,rfl,rfl⟩
section
variable (P:Program)(w:World)
def ObjOk(H:Hp)(h:cw)(a:Ch):HO->Prop
 | .lst d=>d.length<=sizeLine/\∃(b:List Cn) (n:Nat),Vals d b/\h.get? a=some { cls:=.type "list",data:=.seq b.toArray n }
 | .tup d=>d.length<=sizeLine/\∃b:List Cn,Vals d b/\IsTupN h a b.toArray
 | .dK c=>c.length<=sizeLine/\(a==sysModules)=false/\∃k,KV c k/\h.DictOf (BV P w) a k
 | .dT c=>c.length<=sizeLine/\(a==sysModules)=false/\∃d:List (List Key×Ch×Cn),
   Paired (fun(p:List Key×V) (q:List Key×Ch×Cn)=>p.1=q.1/\H q.2.1=some (.tup (p.1.map kV))/\RelV p.2 q.2.2) c d /\
   ∃o l y,h.get? a=some o/\o.ExactDict/\o.data=.dict l y/\l.toList=d.map (entryOfKey (tupleKind (BV P w)))/\(d.map (·.1)).Nodup
 | .set S n=>h.SetOf (intKind P w) a S n
 | .ins C i g=>H i=some (.own a)/\g.length<=1000/\i≠a/\h.get? a=some (PySem.W.instObj C i) /\
   ∃e,h.Ns1 i e/\(∀f,RelO (g.lookup f) (e f))/\PySem.Within e (g.map (·.1))
 | .own _=>∃o,h.get? a=some o
 | .xd g=>∃e,h.Ns1 a e/\∀f,RelO (g.lookup f) (e f)
 | .rng z A=>∃t u v,h.get? a=some { cls:=.type "range",data:=.fields #[.int z t,.int A u,.int 1 v] }
 | .frz o u=>h.get? a=some o/\ObjOk H h a u
 | .tbl B=>h.get? a=some { cls:=.none,data:=.fields B }
 | .met f x=>h.get? a=some (PySem.W.methodObj (.ref f) (.ref x))
 | .ext j=>j h/\(∃o,h.get? a=some o)/\∀m r:cw,j m->(∀o,m.get? a=some o->r.get? a=some o)->j r
def HOk(H:Hp)(h:cw):Prop:=∀a o,H a=some o->ObjOk P w H h a o
end
section
variable {P:Program}{w:World}{H H':Hp}{h h':Heap}{a:Addr}{o:HO}
theorem ObjOk.lt(x:ObjOk P w H h a o):a<h.objs.size:=by
 cases o with
 | lst c=>obtain⟨_,_,_,_,e⟩:=x; exact UF e
 | tup c=>obtain⟨_,_,_,p⟩:=x; exact p.tup.lt
 | dK b=>obtain⟨_,_,_,_,o,_,_,e,_⟩:=x; exact UF e
 | dT b=>obtain⟨_,_,_,_,o,_,_,e,_⟩:=x; exact UF e
 | set S n=>obtain⟨o,_,_,_,e,_⟩:=x; exact UF e
 | ins C g d=>obtain⟨_,_,_,e,_⟩:=x; exact UF e
 | own y=>obtain⟨_,e⟩:=x; exact UF e
 | xd d=>obtain⟨_,⟨_,_,_,e,_⟩,_⟩:=x; exact UF e
 | rng i j=>obtain⟨_,_,_,e⟩:=x; exact UF e
 | frz k u=>obtain⟨e,_⟩:=x; exact UF e
 | tbl l=>exact UF (show h.get? a=some _ from x)
 | met f y=>exact UF (show h.get? a=some _ from x)
 | ext m=>obtain⟨_,⟨_,e⟩,_⟩:=x; exact UF e
theorem Paired.mapP{e g:Type}{F G:e->g->Prop}:∀{c:List e} {d:List g},Paired F c d->(∀a b,F a b->G a b)->Paired G c d
 | _,_,.nil,_=>.nil
 | _,_,.cons r t,f=>.cons (f _ _ r) (Paired.mapP t f)
theorem ObjOk.stay(x:ObjOk P w H h a o)(k:∀b u,(b=a\/H b=some (.own a))->h.get? b=some u->h'.get? b=some u)
  (F:∀b,H b=some (.own a)->H' b=some (.own a)) (G:∀b m,H b=some (.tup m)->H' b=some (.tup m)):ObjOk P w H' h' a o:=by
 induction o with
 | lst m=>obtain⟨z,l,n,r,e⟩:=x; exact⟨z,l,n,r,k _ _ (.inl rfl) e⟩
 | tup m=>obtain⟨z,l,r,g,e,c⟩:=x; exact⟨z,l,r,g,k _ _ (.inl rfl) e,c⟩
 | dK s=>obtain⟨z,y,I,r,g,i,j,e,c⟩:=x; exact⟨z,y,I,r,g,i,j,k _ _ (.inl rfl) e,c⟩
 | dT s =>
  obtain⟨z,y,m,r,g,i,j,e,c⟩:=x;exact⟨z,y,m,Paired.mapP r λp q z=>⟨z.1,G _ _ z.2.1,z.2.2⟩,g,i,j,k _ _ (.inl rfl) e,c⟩
 | set S n=>obtain⟨g,i,j,t,e,c⟩:=x; exact⟨g,i,j,t,k _ _ (.inl rfl) e,c⟩
 | ins C N J =>
  obtain⟨d,z,K,e,A,⟨B,i,j,L,c⟩,r⟩:=x;exact⟨F _ d,z,K,k _ _ (.inl rfl) e,A,⟨B,i,j,k _ _ (.inr d) L,c⟩,r⟩
 | own y=>obtain⟨g,e⟩:=x; exact⟨g,k _ _ (.inl rfl) e⟩
 | xd J=>obtain⟨A,⟨B,i,j,e,c⟩,r⟩:=x; exact⟨A,⟨B,i,j,k _ _ (.inl rfl) e,c⟩,r⟩
 | rng O Q=>obtain⟨t,u,v,e⟩:=x; exact⟨t,u,v,k _ _ (.inl rfl) e⟩
 | frz g u M=>obtain⟨e,q⟩:=x; exact⟨k _ _ (.inl rfl) e,M q⟩
 | tbl D =>
  have e:h.get? a=some { cls:=.none,data:=.fields D }:=x;show h'.get? a=some { cls:=.none,data:=.fields D };exact k a _ (.inl rfl) e
 | met f y =>
  have e:h.get? a=some (PySem.W.methodObj (.ref f) (.ref y)):=x;show h'.get? a=some (PySem.W.methodObj (.ref f) (.ref y));exact k a _ (.inl rfl) e
 | ext R=>obtain⟨p,⟨o,e⟩,E⟩:=x; exact⟨E _ _ p λo q=>k _ _ (.inl rfl) q,⟨o,k _ _ (.inl rfl) e⟩,E⟩
theorem HOk.lt(x:HOk P w H h)(e:H a=some o):a<h.objs.size:=(x a o e).lt
theorem HOk.fresh(x:HOk P w H h)(e:h.objs.size<=a):H a=none:=by
 cases q:H a with
 | none=>rfl
 | some u=>exact absurd (dA (x.lt q) e) (eK _)
theorem HOk.kept(x:HOk P w H h)(k:∀b u,h.get? b=some u->h'.get? b=some u):HOk P w H h':=λa o e =>
 (x a o e).stay (λb u _ q=>k b u q) (λ_ q=>q) λ_ _ q=>q
theorem HOk.laid(x:HOk P w H h)(k:∀b u,h.get? b=some u->h'.get? b=some u)(g:h.objs.size<=a)(new:ObjOk P w (A4 H a o) h' a o):HOk P w (A4 H a o) h':=λb u e=>by
 have d:=x.fresh g
 by_cases f:b=a
 ·subst f; rw [AX] at e; grind
 ·rw [AQ f] at e
  exact(x b u e).stay (λc v _ q=>k c v q) (λc q=>by rw [AQ (A0 q d)]; exact q) λc i q=>by rw [AQ (A0 q d)]; exact q
end
def Rd(H:Hp)(a:Ch)(u:HO):Prop:=H a=some u\/∃o,H a=some (.frz o u)
theorem Rd.ok{P:cz}{w:dC}{H:Hp}{h:cw}{a:Ch}{u:HO}(r:Rd H a u)(x:HOk P w H h):ObjOk P w H h a u:=by
 rcases r with r | ⟨o,r⟩
 ·exact x a u r
 ·obtain⟨_,q⟩:=x a _ r
  exact q
def aZ:Option HO->Prop
 | some (.lst _)=>True
 | some (.dK _)=>True
 | some (.dT _)=>True
 | some (.set _ _)=>True
 | some (.ins _ _ _)=>True
 | some (.ext _)=>True
 | _=>False
section
variable {P:Program}{w:World}{H:Hp}{h h':Heap}{x e:Addr}{o':HO}
theorem HOk.write(ok:HOk P w H h)(f:aZ (H x))(o:e=x\/H e=some (.own x))(k:∀b u,b≠e->h.get? b=some u->h'.get? b=some u)(i:∃u,h'.get? e=some u)
  (new:ObjOk P w (A4 H x o') h' x o'):HOk P w (A4 H x o') h':=λb u q=>by
 have a:∀c y,H c=some (.own y)->c≠x:=λc y r z=>by subst z; rw [r] at f; exact f
 have d:∀c g,H c=some (.tup g)->c≠x:=λc g r z=>by subst z; rw [r] at f; exact f
 by_cases l:b=x
 ·subst l; rw [AX] at q; cases q; exact new
 ·rw [AQ l] at q
  by_cases j:b=e
  ·have m:H b=some (.own x):=by
    grind
   rw [q] at m; cases m
   obtain⟨v,n⟩:=i;exact⟨v,by rw [j]; exact n⟩
  ·refine(ok b u q).stay (λc v p r=>k c v ?_ r) (λc r=>by rw [AQ (a c b r)]; exact r) λc g r=>by rw [AQ (d c g r)]; exact r
   grind
end
structure Un (fs ex:List Ch) (H H':Hp) (h h':cw):Prop where
 keep:∀b o,h.get? b=some o->H b=none->b∉fs->b∉ex->h'.get? b=some o
 slot:∀b o,h.get? b=some o->H b=none->b∈fs->b∉ex->∃sl,h'.get? b=some { o with slots:=sl }
 free:∀b o,h.get? b=some o->H b=none->b∉ex->H' b=none
 there:∀b o,h.get? b=some o->b∉ex->∃o',h'.get? b=some o'
 tups:∀b xs,H b=some (.tup xs)->H' b=some (.tup xs)
 frzs:∀b o u,H b=some (.frz o u)->H' b=some (.frz o u)
 tbls:∀b ps,H b=some (.tbl ps)->∃more,H' b=some (.tbl (ps++more))
section
variable {fs ex:List Addr}{H H1 H2:Hp}{h h1 h2 h':Heap}{a x e:Addr}{o:HO}
theorem Un.any(u:Un fs ex H H1 h h1){b:Ch}{c:Obj}(q:h.get? b=some c)(n:H b=none)(d:b∉ex):∃f,h1.get? b=some { c with slots:=f }:=by
 by_cases e:b∈fs
 ·exact u.slot b c q n e d
 ·exact⟨_,u.keep b c q n e d⟩
theorem Un.trans(a:Un fs ex H H1 h h1)(b:Un fs ex H1 H2 h1 h2):Un fs ex H H2 h h2 where
 keep:=λc d q n g e=>b.keep c d (a.keep c d q n g e) (a.free c d q n e) g e
 slot:=λc d q n g e=>by
  obtain⟨p,f⟩:=a.slot c d q n g e;obtain⟨l,k⟩:=b.slot c _ f (a.free c d q n e) g e;exact⟨_,k⟩
 free:=λc d q n e=>by
  obtain⟨j,f⟩:=a.there c d q e;exact b.free c j f (a.free c d q n e) e
 there:=λc d q e=>by
  obtain⟨j,f⟩:=a.there c d q e;exact b.there c j f e
 tups:=λc i q=>b.tups c i (a.tups c i q)
 frzs:=λc d i q=>b.frzs c d i (a.frzs c d i q)
 tbls:=λc m q=>by
  obtain⟨r,f⟩:=a.tbls c m q;obtain⟨s,k⟩:=b.tbls c _ f
  grind
theorem Un.kept(k:∀b u,h.get? b=some u->h'.get? b=some u):Un fs ex H H h h' :=
 ⟨λb c q _ _ _=>k b c q,λb c q _ _ _=>⟨_,k b c q⟩,λ_ _ _ n _=>n,λb c q _=>⟨c,k b c q⟩,λ_ _ q=>q,λ_ _ _ q=>q,λ_ d q=>⟨#[],by rw [q]; simp⟩⟩
theorem Un.refl:Un fs ex H H h h:=Un.kept λ_ _ q=>q
theorem Un.laid(k:∀b u,h.get? b=some u->h'.get? b=some u)(d:h.objs.size<=a)(c:H a=none):Un fs ex H (A4 H a o) h h' where
 keep:=λb u q _ _ _=>k b u q
 slot:=λb u q _ _ _=>⟨_,k b u q⟩
 free:=λb u q n _=>by rw [AQ (c7 (dA (UF q) d))]; exact n
 there:=λb u q _=>⟨u,k b u q⟩
 tups:=λb e q=>by rw [AQ (A0 q c)]; exact q
 frzs:=λb u e q=>by rw [AQ (A0 q c)]; exact q
 tbls:=λb f q=>⟨#[],by rw [AQ (A0 q c),q]; simp⟩
theorem Un.write(f:aZ (H x))(m:e=x\/H e=some (.own x))(k:∀b u,b≠e->h.get? b=some u->h'.get? b=some u)(i:∃u,h'.get? e=some u):Un fs ex H (A4 H x o) h h':=by
 have j:∀b,H b=none->b≠x:=λb n z=>by subst z; rw [n] at f; exact f
 have g:∀b,H b=none->b≠e:=λb n z=>by
  grind
 have c:∀b u,H b=some u->¬aZ (some u)->b≠x:=λb u q p z=>by grind
 refine⟨λb u q n _ _=>k b u (g b n) q,λb u q n _ _=>⟨u.slots,k b u (g b n) q⟩,λb u q n _=>by rw [AQ (j b n)]; exact n,λb u q _=>?_,
  λb l q=>by rw [AQ (c b _ q λz=>z)]; exact q,λb u l q=>by rw [AQ (c b _ q λz=>z)]; exact q,λb r q=>⟨#[],by rw [AQ (c b _ q λz=>z),q]; simp⟩⟩
 by_cases d:b=e
 ·simp_all
 ·exact⟨u,k b u d q⟩
end
def cL(h:cw)(H:Hp):List Ch:=(dD h.objs.size).filter λa=>(H a).isSome
def Mw(h:cw)(H:Hp):cw:=PySem.W.hideAll h (cL h H)
theorem Sa(h:cw)(H:Hp):(Mw h H).objs.size=h.objs.size:=PySem.W.hideAll_size _ _
theorem Uu{h:cw}{H:Hp}{b:Ch}{o:Obj}(e:h.get? b=some o)(n:H b=none):(Mw h H).get? b=some o :=
 PySem.W.hideAll_get _ e λa=>by
  have q:=(eU.mp a).2
  grind
theorem V0{h:cw}{H:Hp}{b:Ch}{o:Obj}(e:(Mw h H).get? b=some o):h.get? b=some o/\H b=none:=by
 have a:=PySem.W.of_hideAll _ e;refine⟨a,?_⟩;cases q:H b with
 | none=>rfl
 | some x =>
  have z:(Mw h H).get? b=none:=PySem.W.hideAll_none _ (eU.mpr ⟨d8.mpr (UF a),by simp [q]⟩)
  grind
structure Mod (K:Frag) (mg:Str->Option Cn) (base:cw):Prop where
 kin:K.In base
 glob:base.Ns mainGlobals mg
 blt:∃mb,base.Ns builtinsNs mb/\∀x:Str,x ≠ "__name__"->mb x=bootBuiltins x
 nolimit:base.NoLimit
/-- the context: a def's body (or a comprehension's block) running. base: fixed through the whole law; s₀, H₀: the entry; outer: the frames whose slots others may change (a def's callers); stack: all frames that run;
   ex: iterators that were made ahead of the entry and are walked here (a comprehension's); fn: the names whose cells were made at the entry (a def: all; a comprehension's block: its own); calm: not within an except suite; pn: zG that every state bears; xe: what is wanted of an exception that leaves the code -/
structure Cx where
 prog:cz
 w:dC
 K:Frag
 mg:Str->Option Cn
 base:cw
 A:dL
 N:List Str
 s₀:FM
 H₀:Hp
 env:Env
 outer:List Env
 stack:List Env
 ex:List Ch
 fn:Str->Bool
 calm:Bool
 pn:List (Ch×Obj)
 xe:Cn->FM->Prop
def Lj(l:List Env):List Ch:=l.filterMap (·.frame)
abbrev Cx.fs(X:Cx):List Ch:=Lj X.outer
def Sw(a:fF)(x:Str):Prop:=a.names.lookup x=some .local\/a.names.lookup x=some .cell\/a.names.lookup x=some .free
def Loc(a:fF)(x:Str):Prop:=a.names.lookup x=some .local\/a.names.lookup x=some .cell
def Look(a:Env)(h:cw)(m:Str->Option Cn)(x:Str)(u:Cn):Prop :=
 (a.kindOf x=some .local/\m x=some u)\/((a.kindOf x=some .cell\/a.kindOf x=some .free)/\∃c,a.cells.lookup x=some c/\h.IsCell c (some u))
structure Cx.Ok (X:Cx):Prop where
 mod:Mod X.K X.mg X.base
 kind:X.env.scope.kind=.function
 glob:X.env.globals=mainGlobals
 blt:X.env.builtins=builtinsNs
 above:X.s₀.heap.objs.size<=X.env.locals
 inj:∀x y c,X.env.cells.lookup x=some c->X.env.cells.lookup y=some c->x=y
 has:∀x,(X.env.kindOf x=some .cell\/X.env.kindOf x=some .free)->∃c,X.env.cells.lookup x=some c
 cab:∀x c,X.fn x=true->X.env.cells.lookup x=some c->X.s₀.heap.objs.size<=c
 hd:X.calm=true->X.A.handled=none
 frames:X.A.frames=some X.stack
 stk:X.stack=X.outer\/(X.stack=X.env::X.outer/\X.env.frame=some X.env.locals)
 exf:∀b∈X.ex,b≠X.env.locals/\∀x c,X.env.cells.lookup x=some c->c≠b
 bs:∀b o,X.base.get? b=some o->X.s₀.heap.get? b=some o/\X.H₀ b=none
 bsz:X.base.objs.size<=X.s₀.heap.objs.size
 noex:∀b o,X.base.get? b=some o->b∉X.ex
 exfs:∀b∈X.ex,b∉X.fs
 funs:X.s₀.heap.FunFrames X.base X.outer
 frf:∀b∈X.fs,X.H₀ b=none
structure Inv (X:Cx) (zG:List (Ch×Obj)) (σ:List (Option V)) (H:Hp) (s:FM):Prop where
 ok:X.Ok
 os:s.os=X.s₀.os
 bare:gK s.gens
 base:Un X.fs X.ex X.H₀ H X.s₀.heap s.heap
 loc:∃m,s.heap.Ns X.env.locals m/\∀(i:Nat) (x:Str) (v:V),X.N[i]?=some x->σ[i]?=some (some v)->Sw X.env.scope x->∃u,RelV v u/\Look X.env s.heap m x u
 cell:∀x c,X.env.cells.lookup x=some c->∃v,s.heap.IsCell c v
 free:H X.env.locals=none
 freeC:∀x c,X.env.cells.lookup x=some c->H c=none
 pin:∀p∈X.pn++zG,s.heap.get? p.1=some p.2/\H p.1=none/\p.1≠X.env.locals/\p.1∉X.fs/\∀v,p.2.data≠.cell v
 hok:HOk X.prog X.w H s.heap
 len:σ.length=X.N.length
section
variable {X:Cx}{zG:List (Addr×Obj)}{σ:List (Option V)}{H H':Hp}{s:Shared}{h':Heap}
theorem Cx.Ok.nofr(ok:X.Ok){b:Ch}{o:Obj}(e:X.base.get? b=some o):b∉X.fs:=λa=>by
 have:=(ok.funs.mem a).1
 grind
theorem Inv.bs(I:Inv X zG σ H s):∀b o,X.base.get? b=some o->s.heap.get? b=some o/\H b=none:=λb o e =>
 ⟨I.base.keep b o (I.ok.bs b o e).1 (I.ok.bs b o e).2 (I.ok.nofr e) (I.ok.noex b o e),I.base.free b o (I.ok.bs b o e).1 (I.ok.bs b o e).2 (I.ok.noex b o e)⟩
theorem Inv.bk(I:Inv X zG σ H s):∀b o,X.base.get? b=some o->s.heap.get? b=some o:=λb o e=>(I.bs b o e).1
theorem Inv.mod(I:Inv X zG σ H s):Mod X.K X.mg X.base:=I.ok.mod
theorem Inv.kIn(I:Inv X zG σ H s):X.K.In s.heap:=I.ok.mod.kin.keeps I.bk
theorem Inv.lt(I:Inv X zG σ H s):X.env.locals<s.heap.objs.size:=let ⟨_,a,_⟩:=I.loc; a.lt
theorem Inv.sz(I:Inv X zG σ H s):X.s₀.heap.objs.size<=s.heap.objs.size:=cx I.ok.above (jG I.lt)
theorem Inv.nofs(I:Inv X zG σ H s){a:Ch}(h:s.heap.objs.size<=a):a∉X.fs:=λb=>by
 obtain⟨_,o,c,_⟩:=I.ok.funs.mem b;exact absurd (dA (UF c) (cx I.sz h)) (eK _)
theorem Inv.cne(I:Inv X zG σ H s):∀x c,X.env.cells.lookup x=some c->c≠X.env.locals:=λx c e z=>by
 obtain⟨v,o,d,f⟩:=I.cell x c e;obtain⟨m,⟨g,h,i,a,b,_⟩,_⟩:=I.loc
 grind
theorem Inv.funs(I:Inv X zG σ H s):s.heap.FunFrames X.base X.outer:=by
 have all:∀(l:List _),(∀b∈Lj l,b∈X.fs)->X.s₀.heap.FunFrames X.base l->s.heap.FunFrames X.base l:=by
  intro l
  induction l with
  | nil=>intro _ _; trivial
  | cons g r h =>
   intro d i;obtain⟨j,⟨L,o,f,k,m,n⟩,p⟩:=i;have a:=d L (by unfold Lj; simp_all);obtain⟨q,e⟩:=I.base.slot L o m (I.ok.frf L a) a λz=>I.ok.exfs L z a;exact⟨j,⟨L,_,f,k,e,n⟩,h (λb c=>d b (by unfold Lj; rw [f8,f]; exact Re _ c)) p⟩
 exact all _ (λ_ c=>c) I.ok.funs
theorem Inv.stack(I:Inv X zG σ H s):s.heap.FunFrames X.base X.stack:=by
 rcases I.ok.stk with e | ⟨e,a⟩
 ·rw [e]; exact I.funs
 ·rw [e]
  obtain⟨m,b,_⟩:=I.loc;exact .cons (by rw [I.ok.kind]; decide) a b (Heap.get?_none_of_le (cx I.ok.bsz I.ok.above)) I.funs
theorem Inv.stkSub(I:Inv X zG σ H s):∀b∈Lj X.stack,b∈X.env.locals::X.fs:=λb a=>by
 rcases I.ok.stk with e | ⟨e,c⟩
 ·grind
 ·rw [e] at a
  unfold Lj at a;rw [f8,c] at a;exact a
theorem Inv.stkFree(I:Inv X zG σ H s):∀b∈Lj X.stack,H b=none:=λb a=>by
 rcases T0.mp (I.stkSub b a) with e | a
 ·rw [e]; exact I.free
 ·obtain⟨_,o,c,_⟩:=I.ok.funs.mem a
  exact I.base.free b o c (I.ok.frf b a) λz=>I.ok.exfs b z a
theorem Inv.step{g':Array GenState}{t':Nat}{d':Drawn}{ch:List Ch}(I:Inv X zG σ H s)
  (f:∀b∈ch,(b∈X.ex\/X.s₀.heap.objs.size<=b)/\b≠X.env.locals/\(∀x c,X.env.cells.lookup x=some c->c≠b)/\∀p∈X.pn++zG,p.1≠b)
  (keep:∀b o,b≠X.env.locals->b∉X.fs->b∉ch->s.heap.get? b=some o->H b=none->h'.get? b=some o)
  (y:∀b o,b≠X.env.locals->b∈X.fs->b∉ch->s.heap.get? b=some o->H b=none->∃N,h'.get? b=some { o with slots:=N }) (free:∀b o,b∉ch->s.heap.get? b=some o->H b=none->H' b=none)
  (B:∀b o,b∉ch->s.heap.get? b=some o->∃E,h'.get? b=some E)
  (tups:∀b A,H b=some (.tup A)->H' b=some (.tup A)) (F:∀b o u,H b=some (.frz o u)->H' b=some (.frz o u)) (G:∀b M,H b=some (.tbl M)->∃J,H' b=some (.tbl (M++J)))
  (V:∀m,s.heap.Ns X.env.locals m->h'.Ns X.env.locals m) (O:HOk X.prog X.w H' h') (W:gK g') :
  Inv X zG σ H' { s with heap:=h',gens:=g',drawn:=d',toks:=t' }:=by
 have K:∀b o,X.s₀.heap.get? b=some o->b≠X.env.locals:=λb o e=>c7 (dA (UF e) I.ok.above)
 have j:∀b o,X.s₀.heap.get? b=some o->b∉X.ex->b∉ch:=λb o e a C=>by
  rcases (f b C).1 with z | z
  ·exact a z
  ·exact absurd (dA (UF e) z) (eK _)
 have g:∀x c,X.env.cells.lookup x=some c->∀v,s.heap.IsCell c v->h'.IsCell c v:=λx c e v ⟨o,D,P⟩=>by
  have h:c∉ch:=λz=>(f c z).2.2.1 x c e rfl
  by_cases R:c∈X.fs
  ·obtain⟨N,q⟩:=y c o (I.cne x c e) R h D (I.freeC x c e)
   exact⟨_,q,P⟩
  ·exact⟨o,keep c o (I.cne x c e) R h D (I.freeC x c e),P⟩
 refine⟨I.ok,I.os,W,⟨λb o e n C a=>?_,λb o e n C a=>?_,λb o e n a=>?_,λb o e a=>?_,λb A e=>tups b A (I.base.tups b A e),λb o A e=>F b o A (I.base.frzs b o A e),λb M e=>?_⟩,?_,λx c e=>?_,?_,λx c e=>?_,λp S=>?_,O,I.len⟩
 ·exact keep b o (K b o e) C (j b o e a) (I.base.keep b o e n C a) (I.base.free b o e n a)
 ·obtain⟨N,t⟩:=I.base.slot b o e n C a
  obtain⟨Q,L⟩:=y b _ (K b o e) C (j b o e a) t (I.base.free b o e n a);exact⟨Q,L⟩
 ·obtain⟨E,t⟩:=I.base.there b o e a
  exact free b E (j b o e a) t (I.base.free b o e n a)
 ·obtain⟨E,t⟩:=I.base.there b o e a
  exact B b E (j b o e a) t
 ·obtain⟨Y,t⟩:=I.base.tbls b M e
  obtain⟨Z,L⟩:=G b _ t;exact⟨Y++Z,by rw [L,Array.append_assoc]⟩
 ·obtain⟨m,hn,hl⟩:=I.loc
  refine⟨m,V m hn,λi x v t L e3=>?_⟩;obtain⟨u,r,l⟩:=hl i x v t L e3;refine⟨u,r,?_⟩
  rcases l with l | ⟨k,c,e,z⟩
  ·exact .inl l
  ·exact .inr ⟨k,c,e,g x c e _ z⟩
 ·obtain⟨v,z⟩:=I.cell x c e
  exact⟨v,g x c e v z⟩
 ·obtain⟨m,⟨o,_,_,D,_⟩,_⟩:=I.loc
  exact free _ o (λz=>(f _ z).2.1 rfl) D I.free
 ·obtain⟨v,o,D,P⟩:=I.cell x c e
  exact free c o (λz=>(f c z).2.2.1 x c e rfl) D (I.freeC x c e)
 ·obtain⟨e,n,T,U,d⟩:=I.pin p S
  have h:p.1∉ch:=λz=>(f p.1 z).2.2.2 p S rfl;exact⟨keep p.1 p.2 T U h e n,free p.1 p.2 h e n,T,U,d⟩
theorem Inv.un{t':Nat}(I:Inv X zG σ H s)(u:Un X.fs [] H H' s.heap h')(c:HOk X.prog X.w H' h'):Inv X zG σ H' { s with heap:=h',toks:=t' }:=by
 obtain⟨m,⟨o,l,p,f,r⟩,_⟩:=id I.loc;obtain⟨q,g⟩:=u.any f I.free (by simp)
 exact I.step (ch:=[]) (λ_ z=>nomatch z) (λb o _ d _ e n=>u.keep b o e n d (by simp)) (λb o _ d _ e n=>u.slot b o e n d (by simp)) (λb o _ e n=>u.free b o e n (by simp)) (λb o _ e=>u.there b o e (by simp)) u.tups u.frzs u.tbls (λt h=>by
  obtain⟨v,i,j,a,k⟩:=h;rw [f] at a; cases a
  exact⟨_,_,_,g,k⟩) c I.bare
theorem Inv.call{i:Array GenState}{l:Nat}{q:Drawn}{j:List Ch}(I:Inv X zG σ H s)(u:Un (Lj X.stack) j H H' s.heap h')(g:HOk X.prog X.w H' h')(t:gK i)
  (d:∀b∈j,(b∈X.ex\/X.s₀.heap.objs.size<=b)/\b≠X.env.locals/\(∀x c,X.env.cells.lookup x=some c->c≠b)/\∀p∈X.pn++zG,p.1≠b) :
  Inv X zG σ H' { s with heap:=h',gens:=i,drawn:=q,toks:=l }:=by
 obtain⟨m,⟨o,D,E,k,r⟩,_⟩:=id I.loc;obtain⟨F,h⟩:=u.any k I.free λz=>(d _ z).2.1 rfl
 exact I.step d (λb o h v a e n=>u.keep b o e n (λz=>(T0.mp (I.stkSub b z)).elim h v) a) (λb o _ _ a e n=>u.any e n a) (λb o a e n=>u.free b o e n a) (λb o a e=>u.there b o e a) u.tups u.frzs u.tbls (λG y=>by
  obtain⟨J,A,B,f,C⟩:=y;rw [k] at f; cases f
  exact⟨_,_,_,h,C⟩) g t
theorem Inv.turned{t':Nat}{it:Ch}(I:Inv X zG σ H s)(k:∀b o,b≠it->s.heap.get? b=some o->h'.get? b=some o)(A:H it=none)(d:it≠X.env.locals)
  (f:it∈X.ex\/X.s₀.heap.objs.size<=it) (g:∀x c,X.env.cells.lookup x=some c->c≠it) (h:∀p∈X.pn++zG,p.1≠it):Inv X zG σ H { s with heap:=h',toks:=t' }:=by
 have i:∀b u,H b=some u->b≠it:=λb u e z=>by grind
 refine I.step (g':=s.gens) (d':=s.drawn) (ch:=[it]) (λb j=>?_) (λb o _ _ a e _=>k b o (λz=>a (by simp [z])) e) (λb o _ _ a e _=>⟨o.slots,k b o (λz=>a (by simp [z])) e⟩) (λ_ _ _ _ n=>n)
  (λb o a e=>⟨o,k b o (λz=>a (by simp [z])) e⟩) (λ_ _ e=>e) (λ_ _ _ e=>e) (λb B e=>⟨#[],by rw [e]; simp⟩) (λm l=>?_) (λb u e=>?_) I.bare
 ·have e:b=it:=by simpa using j
  subst e;exact⟨f,d,g,h⟩
 ·obtain⟨o,t,w,y,r⟩:=l
  exact⟨o,t,w,k _ o (eF d) y,r⟩
 ·refine(I.hok b u e).stay (λc v a q=>k c v ?_ q) (λ_ q=>q) λ_ _ q=>q
  grind
theorem Inv.tok(I:Inv X zG σ H s)(t:Nat):Inv X zG σ H { s with toks:=t }:=I.un Un.refl I.hok
theorem Inv.kept{t':Nat}(I:Inv X zG σ H s)(k:∀b u,s.heap.get? b=some u->h'.get? b=some u):Inv X zG σ H { s with heap:=h',toks:=t' }:=I.un (Un.kept k) (I.hok.kept k)
theorem Inv.laid{a:Ch}{o:HO}{t':Nat}(I:Inv X zG σ H s)(k:∀b u,s.heap.get? b=some u->h'.get? b=some u)(c:s.heap.objs.size<=a)(d:ObjOk X.prog X.w (A4 H a o) h' a o) :
  Inv X zG σ (A4 H a o) { s with heap:=h',toks:=t' }:=I.un (Un.laid k c (I.hok.fresh c)) (I.hok.laid k c d)
theorem Inv.write{x e:Ch}{o:HO}{g:Nat}(I:Inv X zG σ H s)(d:aZ (H x))(f:e=x\/H e=some (.own x))(k:∀b u,b≠e->s.heap.get? b=some u->h'.get? b=some u)(a:∃u,h'.get? e=some u)
  (c:ObjOk X.prog X.w (A4 H x o) h' x o):Inv X zG σ (A4 H x o) { s with heap:=h',toks:=g }:=I.un (Un.write d f k a) (I.hok.write d f k a c)
theorem Inv.pins_of{a:List (Ch×Obj)}(I:Inv X zG σ H s)(h:∀p∈a,s.heap.get? p.1=some p.2/\H p.1=none/\p.1≠X.env.locals/\p.1∉X.fs/\∀v,p.2.data≠.cell v):Inv X a σ H s :=
 ⟨I.ok,I.os,I.bare,I.base,I.loc,I.cell,I.free,I.freeC,λp b=>(cu.mp b).elim (λz=>I.pin p (eo _ z)) (h p),I.hok,I.len⟩
theorem Jt{N:List Str}(c:N.Nodup){i j:Nat}{x:Str}(a:N[i]?=some x)(b:N[j]?=some x):i=j:=by
 obtain⟨f,d⟩:=cr.mp a;obtain⟨g,e⟩:=cr.mp b;exact(List.getElem_inj c).mp (d.trans e.symm)
theorem LP{M:Model}{A:dL}{E:Cn->FM->Prop}{i:Nat}{x:Str}{v:V}{u:Cn}{Q:Unit->FM->Prop}(I:Inv X zG σ H s)(hN:X.N.Nodup)(P:X.N[i]?=some x)(B:Loc X.env.scope x)(r:RelV v u)
  (h:∀s',Inv X zG (σ.set i (some v)) H s'->(∃a,fq a s.heap s'.heap/\(a=X.env.locals\/X.env.cells.lookup x=some a))->Q () s') (hf:X.fn x=true\/X.env.scope.names.lookup x=some .local:=by first | exact .inl rfl | exact .inr rfl | assumption):wpAny M A (storeName X.env x u) Q E s:=by
 obtain⟨m,hn,hl⟩:=id I.loc;have R:(X.env.scope.kind==.class||(X.env.scope.kind==.module&&X.env.locals != X.env.globals))=false:=by rw [I.ok.kind]; rfl
 have F:i<σ.length:=by rw [I.len]; exact(cr.mp P).1
 have J:=I.cne
 have g:∀{a:Ch} {h':cw},(∃o,s.heap.get? a=some o/\H a=none)->fq a s.heap h'->HOk X.prog X.w H h':=λ{a h'} ha f b ob e=>by
  obtain⟨_,_,C⟩:=ha;refine(I.hok b ob e).stay (λc Y t q=>(f.2 c ?_).trans q) (λ_ q=>q) λ_ _ q=>q;rintro rfl
  rcases t with rfl | t
  ·rw [C] at e; cases e
  ·rw [C] at t; cases t
 rcases B with G | G
 ·refine wpAny_storeName_local G hn (λh' a0 f=>?_) R
  obtain⟨oL,_,_,a1,_⟩:=id hn;refine h _ ⟨I.ok,I.os,I.bare,⟨λb o e n K B=>?_,λb o e n K B=>?_,I.base.free,λb o e B=>?_,I.base.tups,I.base.frzs,I.base.tbls⟩,⟨_,a0,λj y v' l D e3=>?_⟩,λy c e=>?_,I.free,I.freeC,λp hp=>?_,g ⟨oL,a1,I.free⟩ f,by simpa using I.len⟩ ⟨_,f,.inl rfl⟩
  ·exact(f.2 b (c7 (dA (UF e) I.ok.above))).trans (I.base.keep b o e n K B)
  ·obtain⟨sl,l⟩:=I.base.slot b o e n K B
   exact⟨sl,(f.2 b (c7 (dA (UF e) I.ok.above))).trans l⟩
  ·obtain⟨o',l⟩:=I.base.there b o e B
   exact⟨o',(f.2 b (c7 (dA (UF e) I.ok.above))).trans l⟩
  ·by_cases L:j=i
   ·subst L
    rw [P] at l; cases l
    rw [jY F] at D;cases D;exact⟨u,r,.inl ⟨G,by simp⟩⟩
   ·rw [iE (eF L)] at D
    obtain⟨u',r',q⟩:=hl j y v' l D e3;refine⟨u',r',?_⟩
    rcases q with ⟨k,e⟩ | ⟨k,c,e,z⟩
    ·refine .inl ⟨k,?_⟩
     have:y≠x:=λe=>L (Jt hN l (e▸P))
     simp [this,e]
    ·exact .inr ⟨k,c,e,z.sameBut f (J y c e)⟩
  ·obtain⟨Y,z⟩:=I.cell y c e
   exact⟨Y,z.sameBut f (J y c e)⟩
  ·obtain⟨e,n,Z,nf,d⟩:=I.pin p hp
   exact⟨(f.2 p.1 Z).trans e,n,Z,nf,d⟩
 ·have O:X.fn x=true:=by
   rcases hf with z | z
   ·exact z
   ·rw [z] at G; cases G
  obtain⟨c,t⟩:=I.ok.has x (.inl G);obtain⟨Y,z⟩:=I.cell x c t;refine wpAny_storeName_cell I.ok.kind G t z (λh' S f=>?_);obtain⟨oc,T,U⟩:=id z;refine h { s with heap:=h' } ⟨I.ok,I.os,I.bare,⟨λb o e n K B=>?_,λb o e n K B=>?_,I.base.free,λb o e B=>?_,I.base.tups,I.base.frzs,I.base.tbls⟩,⟨m,hn.sameBut f (eF (J x c t)),λj y v' l D e3=>?_⟩,λy c' e=>?_,I.free,I.freeC,λp hp=>?_,g ⟨oc,T,I.freeC x c t⟩ f,by simpa using I.len⟩ ⟨c,f,.inr t⟩
  ·exact(f.2 b (c7 (dA (UF e) (I.ok.cab x c O t)))).trans (I.base.keep b o e n K B)
  ·obtain⟨sl,l⟩:=I.base.slot b o e n K B
   exact⟨sl,(f.2 b (c7 (dA (UF e) (I.ok.cab x c O t)))).trans l⟩
  ·obtain⟨o',l⟩:=I.base.there b o e B
   exact⟨o',(f.2 b (c7 (dA (UF e) (I.ok.cab x c O t)))).trans l⟩
  ·by_cases L:j=i
   ·subst L
    rw [P] at l; cases l
    rw [jY F] at D;cases D;exact⟨u,r,.inr ⟨.inl G,c,t,S⟩⟩
   ·rw [iE (eF L)] at D
    obtain⟨u',r',q⟩:=hl j y v' l D e3;refine⟨u',r',?_⟩
    rcases q with q | ⟨k,c',e,z'⟩
    ·exact .inl q
    ·refine .inr ⟨k,c',e,z'.sameBut f ?_⟩
     rintro rfl;exact L (Jt hN l (I.ok.inj _ _ _ e t▸P))
  ·by_cases W:c'=c
   ·subst W; exact⟨_,S⟩
   ·obtain⟨w2,z2⟩:=I.cell y c' e
    exact⟨w2,z2.sameBut f W⟩
  ·obtain⟨e,n,Z,nf,d⟩:=I.pin p hp
   refine⟨(f.2 p.1 ?_).trans e,n,Z,nf,d⟩;intro q;rw [q,T] at e;have q':oc=p.2:=cv e;exact d Y (by rw [← q']; exact U)
theorem FC{M:Model}{A:dL}{E:Cn->FM->Prop}{i:Nat}{x:Str}{v:V}{u:Cn}{Q:Unit->FM->Prop}(I:Inv X zG σ H s)(b:X.N.Nodup)(c:X.N[i]?=some x)(d:Loc X.env.scope x)(r:RelV v u)
  (h:∀a,Inv X zG (σ.set i (some v)) H a->Q () a) (e:X.fn x=true\/X.env.scope.names.lookup x=some .local:=by first | exact .inl rfl | exact .inr rfl | assumption):wpAny M A (storeName X.env x u) Q E s :=
 LP I b c d r (λa f _=>h a f) e
theorem Inv.call'{a:FM}{f:List Ch}(I:Inv X zG σ H s)(g:a.os=s.os)(u:Un (Lj X.stack) f H H' s.heap a.heap)(d:HOk X.prog X.w H' a.heap)(h:gK a.gens)
  (e:∀b∈f,(b∈X.ex\/X.s₀.heap.objs.size<=b)/\b≠X.env.locals/\(∀x c,X.env.cells.lookup x=some c->c≠b)/\∀p∈X.pn++zG,p.1≠b):Inv X zG σ H' a:=by
 obtain⟨h',i,j,k,l⟩:=a;subst g;exact I.call u d h e
end
abbrev XK:=Cn->Option Ch->Hp->Prop
abbrev St:=List (Option V)
abbrev VK:=V->Hp->Prop
abbrev TE:=St->Hp->VK->Prop
abbrev TT:=St->Hp->(Bool->Hp->Prop)->Prop
abbrev TA:=St->Hp->(List V->Hp->Prop)->Prop
structure Ends where
 nx:St->Hp->Prop
 rt:VK
 bk:St->Hp->Prop:=λ_ _=>False
 ct:St->Hp->Prop:=λ_ _=>False
abbrev TS:=Ends->St->Hp->Prop
def EP(X:Cx)(b:List (Ch×Obj))(c:St)(Q:VK)(u:Cn)(d:FM):Prop:=∃v a,Inv X b c a d/\RelV v u/\Q v a
def TP(X:Cx)(c:List (Ch×Obj))(d:St)(Q:Bool->Hp->Prop)(b:Bool)(e:FM):Prop:=∃a,Inv X c d a e/\Q b a
def AP(X:Cx)(c:List (Ch×Obj))(d:St)(Q:List V->Hp->Prop)(e:List Cn)(f:FM):Prop:=∃a b,Inv X c d b f/\Vals a e/\Q a b
def SP(X:Cx)(c:List (Ch×Obj))(D:Ends)(f:Flow)(d:FM):Prop :=
 match f with
 | .next=>∃b a,Inv X c b a d/\D.nx b a
 | .brk=>∃b a,Inv X c b a d/\D.bk b a
 | .cont=>∃b a,Inv X c b a d/\D.ct b a
 | .ret u=>∃v b a,Inv X c b a d/\RelV v u/\D.rt v a
def PE(X:Cx)(e:c_)(t:TE):Prop :=
 ∀(b:List (Ch×Obj)) (s:FM) (a:St) (H:Hp) (Q:VK),Inv X b a H s->t a H Q->wpAny (model X.prog X.w) X.A (eval e X.env) (EP X b a Q) X.xe s
def PT(X:Cx)(e:c_)(t:TT):Prop :=
 ∀(b:List (Ch×Obj)) (s:FM) (a:St) (H:Hp) (Q:Bool->Hp->Prop),Inv X b a H s->t a H Q->wpAny (model X.prog X.w) X.A (isTrue e X.env (eval e X.env)) (TP X b a Q) X.xe s
def PW(X:Cx)(e:c_)(t:TT):Prop :=
 ∀(a:Sem Cn) (c:List (Ch×Obj)) (s:FM) (b:St) (H:Hp) (Q:Bool->Hp->Prop),Inv X c b H s->t b H Q->wpAny (model X.prog X.w) X.A (isTrue e X.env a) (TP X c b Q) X.xe s
theorem PW.pt{X:Cx}{e:c_}{t:TT}(h:PW X e t):PT X e t:=h _
def PA(X:Cx)(c:List c_)(t:TA):Prop :=
 ∀(pos:Pos) (b:List (Ch×Obj)) (s:FM) (a:St) (H:Hp) (Q:List V->Hp->Prop),Inv X b a H s->t a H Q->wpAny (model X.prog X.w) X.A (spliced (backTo pos (starEach c X.env))) (AP X b a Q) X.xe s
def PS(X:Cx)(c:dE)(t:TS):Prop :=
 ∀(a:List (Ch×Obj)) (s:FM) (b:St) (H:Hp) (D:Ends),Inv X a b H s->t D b H->wpAny (model X.prog X.w) X.A (exec c X.env) (SP X a D) X.xe s
def PSs(X:Cx)(c:List dE)(t:TS):Prop :=
 ∀(a:List (Ch×Obj)) (s:FM) (b:St) (H:Hp) (D:Ends),Inv X a b H s->t D b H->wpAny (model X.prog X.w) X.A (execs c X.env) (SP X a D) X.xe s
theorem thn{b:Type}{t:Sem b}{Q c:b->FM->Prop}{M:Model}{A:dL}{E:Cn->FM->Prop}{s:FM}(h:wpAny M A t Q E s)(d:∀a s,Q a s->c a s):wpAny M A t c E s:=dP h d λ_ _ x=>x
section
variable {X:Cx}
def CH(i:Nat):TE:=λa H Q=>∃v,a[i]?=some (some v)/\Q v H
def tC(v:V):TE:=λ_ H Q=>Q v H
theorem Em{i:Nat}{x:Str}{pos:Pos}(j:X.N[i]?=some x)(k:Sw X.env.scope x)(hd:(x==("__debug__":Str))=false:=by decide)(f:(x==("__classdict__":Str))=false:=by decide):PE X (.Name x pos) (CH i):=by
 intro t s n H Q I h;obtain⟨v,e,h⟩:=h;obtain⟨m,o,p⟩:=I.loc;obtain⟨u,r,l⟩:=p i x v j e k;have b:EP X _ n Q u s:=⟨v,H,I,r,h⟩
 rcases l with ⟨d,q⟩ | ⟨d,c,g,a⟩
 ·exact wpAny_Name (wpAny_loadName_local I.ok.kind d o q b) hd
 ·rcases d with d | d
  ·exact wpAny_Name (wpAny_loadName_cell I.ok.kind d g a b) hd
  ·exact wpAny_Name (wpAny_loadName_free I.ok.kind d g a b f) hd
theorem A_{i j pos}:PE X (.Constant (.int i) j pos) (tC (.int i)):=λ_ _ _ H _ I h=>wpAny_Constant_int ⟨.int i,H,I.tok _,⟨_,rfl⟩,h⟩
theorem Z1{b j pos}:PE X (.Constant (.bool b) j pos) (tC (.bl b)):=λ_ _ _ H _ I h=>Constant_bool ⟨.bl b,H,I,rfl,h⟩
theorem YK{j pos}:PE X (.Constant .none j pos) (tC .non):=λ_ _ _ H _ I h=>Constant_none ⟨.non,H,I,rfl,h⟩
theorem YH{x j pos}:PE X (.Constant (.str x) j pos) (tC (.str x)):=λ_ _ _ H _ I h=>Calls.Constant_str ⟨.str x,H,I.tok _,⟨_,rfl⟩,h⟩
def Gl(X:Cx)(x:Str):Prop:=X.env.kindOf x=some .globalImplicit
theorem Dq{E:Cn->FM->Prop}{a:List (Ch×Obj)}{s:FM}{b:St}{H:Hp}{x:Str}{u:Cn}{pos:Pos}{Q:Cn->FM->Prop}(I:Inv X a b H s)(c:Gl X x)(d:X.mg x=some u)(h:Q u s)
  (hd:(x==("__debug__":Str))=false:=by decide):wpAny (model X.prog X.w) X.A (eval (.Name x pos) X.env) Q E s :=
 iq I.ok.kind c (Calls.loadGlobal_global (by rw [I.ok.glob]; exact I.mod.glob.keeps I.bk) d h) hd
theorem FT{E:Cn->FM->Prop}{a:List (Ch×Obj)}{s:FM}{b:St}{H:Hp}{x:Str}{u:Cn}{pos:Pos}{Q:Cn->FM->Prop}(I:Inv X a b H s)(c:Gl X x)(d:X.mg x=none)(e:bootBuiltins x=some u)(h:Q u s)
  (f:x ≠ "__name__":=by decide) (hd:(x==("__debug__":Str))=false:=by decide):wpAny (model X.prog X.w) X.A (eval (.Name x pos) X.env) Q E s:=by
 obtain⟨j,g,i⟩:=I.mod.blt;exact iq I.ok.kind c (Calls.loadGlobal_builtin (by rw [I.ok.glob]; exact I.mod.glob.keeps I.bk) d (by rw [I.ok.blt]; exact g.keeps I.bk) ((i x f).trans e) h) hd
theorem Qq{x:Str}{v:V}{u:Cn}{pos:Pos}(a:Gl X x)(b:X.mg x=some u)(r:RelV v u)(hd:(x==("__debug__":Str))=false:=by decide):PE X (.Name x pos) (tC v) :=
 λ_ _ _ H _ I h=>Dq I a b ⟨v,H,I,r,h⟩ hd
theorem Iv{x:Str}{v:V}{u:Cn}{pos:Pos}(a:Gl X x)(b:X.mg x=none)(c:bootBuiltins x=some u)(r:RelV v u)(d:x ≠ "__name__":=by decide)(hd:(x==("__debug__":Str))=false:=by decide):PE X (.Name x pos) (tC v) :=
 λ_ _ _ H _ I h=>FT I a b c ⟨v,H,I,r,h⟩ d hd
variable {a b:Expr}{ta tb:TE}{pos:Pos}
def tB(t:TE):TT:=λd H Q=>t d H λx e=>∃c,x=.bl c/\Q c e
theorem YB{e:c_}{t:TE}(h:PE X e t)(f:∀c,isTrue e X.env c=(do let v ← c; standAt e.pos; holding [v] (truthy v)):=by intro _; rfl):PT X e (tB t):=by
 intro n s g H Q I i;refine isTrue_plain (thn (h _ s g H _ I i) λv o ⟨x,j,k,l,m⟩=>?_) (f _);obtain⟨d,rfl,q⟩:=m;cases l;exact e7 ⟨j,k,q⟩
variable {tA tB':TT}{rest:List Expr}
def Ze(t u:TT):TT:=λd H Q=>t d H λc e=>if c=true then u d e Q else Q false e
def cP(t u:TT):TT:=λd H Q=>t d H λc e=>if c=true then Q true e else u d e Q
def bM(t:TT):TT:=λd H Q=>t d H λc e=>Q (!c) e
theorem Qh(d:PT X a tA):PW X (.BoolOp .And [a] pos) tA:=by
 intro g i s f H Q I h;refine isTrue_and (thn (d _ s f H Q I h) λc j e=>?_);cases c with
 | true=>exact isTrue_and_nil e
 | false=>exact e
theorem YA(d:PT X a tA):PW X (.BoolOp .Or [a] pos) tA:=by
 intro g i s f H Q I h;refine isTrue_or (thn (d _ s f H Q I h) λc j e=>?_);cases c with
 | false=>exact isTrue_or_nil e
 | true=>exact e
theorem T_(e:PT X a tA)(f:PW X (.BoolOp .And (b::rest) pos) tB'):PW X (.BoolOp .And (a::b::rest) pos) (Ze tA tB'):=by
 intro g m s d H Q I h;refine isTrue_and (thn (e _ s d H _ I h) λc i ⟨j,k,l⟩=>?_);cases c with
 | true=>exact f g _ i d j Q k l
 | false=>assumption
theorem Zy(e:PT X a tA)(f:PW X (.BoolOp .Or (b::rest) pos) tB'):PW X (.BoolOp .Or (a::b::rest) pos) (cP tA tB'):=by
 intro g m s d H Q I h;refine isTrue_or (thn (e _ s d H _ I h) λc i ⟨j,k,l⟩=>?_);cases c with
 | true=>assumption
 | false=>exact f g _ i d j Q k l
theorem YC(c:PT X a tA):PT X (.UnaryOp .Not a pos) (bM tA):=λe s d H Q I h=>isTrue_not (c _ s d H _ I h)
def Zd(ta tb:TE):TE:=λd H Q=>ta d H λx e=>∃c,x=.bl c/\if c=true then tb d e Q else Q (.bl false) e
def ZX(ta:TE):TE:=λd H Q=>ta d H λx e=>∃c,x=.bl c/\Q (.bl (!c)) e
theorem YL(i:PE X a ta)(j:PE X (.BoolOp .And (b::rest) pos) tb):PE X (.BoolOp .And (a::b::rest) pos) (Zd ta tb):=by
 intro m s e H Q I h;refine BoolOp_and (thn (i _ s e H _ I h) λv k ⟨x,f,g,l,d⟩=>?_);obtain⟨c,rfl,d⟩:=d;cases l;refine e7 ?_;cases c with
 | true=>exact j _ k e f Q g d
 | false=>exact⟨.bl _,f,g,rfl,d⟩
theorem YJ(e:PE X a ta):PE X (.UnaryOp .Not a pos) (ZX ta):=by
 intro k s f H Q I h;refine UnaryOp_ (thn (e _ s f H _ I h) λv l ⟨x,g,i,j,d⟩=>?_);obtain⟨c,rfl,d⟩:=d;cases j;exact not_of (e7 ⟨.bl _,g,i,rfl,d⟩)
def cQ(t:TT)(ta tb:TE):TE:=λd H Q=>t d H λc e=>if c=true then ta d e Q else tb d e Q
theorem N6{c:c_}(k:PT X c tA)(l:PE X a ta)(m:PE X b tb):PE X (.IfExp c a b pos) (cQ tA ta tb):=by
 intro n s e H Q I h;refine wpAny_IfExp (thn (k _ s e H _ I h) λd f ⟨g,i,j⟩=>?_);cases d with
 | true=>exact l _ f e g Q i j
 | false=>exact m _ f e g Q i j
end
def SqL(K:Frag)(H:Hp)(a:Ch)(c:List V):Prop :=
 Rd H a (.lst c) \/
  ∃(o:Obj) (b:Array Cn) (n:Nat),K.lookup a=some o/\o.cls=.type "list"/\o.dict=none/\o.data=.seq b n/\b.size<=sizeLine/\Vals c b.toList
def SqT(K:Frag)(H:Hp)(a:Ch)(c:List V):Prop :=
 Rd H a (.tup c) \/
  ∃(o:Obj) (b:Array Cn) (n:Nat),K.lookup a=some o/\o.cls=.type "tuple"/\o.data=.seq b n/\b.size<=sizeLine/\Vals c b.toList
def bo:Cn->Option V
 | .none=>some .non
 | .bool b=>some (.bl b)
 | .int i _=>some (.int i)
 | .str x _=>some (.str x)
 | .bytes b _=>some (.byt b)
 | .float b _=>some (.flt b)
 | .ref a=>some (.ref a)
 | .type n=>some (.ty n)
 | _=>none
theorem RelV.abs{x:V}{u:Cn}(r:RelV x u):bo u=some x:=by
 cases x with
 | non=>cases r; rfl
 | bl _=>cases r; rfl
 | int _=>obtain⟨t,rfl⟩:=r; rfl
 | str _=>obtain⟨t,rfl⟩:=r; rfl
 | byt _=>obtain⟨t,rfl⟩:=r; rfl
 | flt _=>obtain⟨t,rfl⟩:=r; rfl
 | ref _=>cases r; rfl
 | ty _=>cases r; rfl
theorem RelV.inj{x y:V}{u:Cn}(r:RelV x u)(q:RelV y u):x=y:=cv (r.abs.symm.trans q.abs)
theorem Vals.inj:∀{a b:List V} {c:List Cn},Vals a c->Vals b c->a=b
 | _,_,_,.nil,.nil=>rfl
 | _,_,_,.cons r t,.cons d e=>by rw [r.inj d,Vals.inj t e]
section
variable {X:Cx}{zG:List (Addr×Obj)}{σ:St}{H:Hp}{s:Shared}{a:Addr}{xs ys:List V}
theorem SqL.of{K:Frag}(h:H a=some (.lst xs)):SqL K H a xs:=.inl (.inl h)
theorem SqT.of{K:Frag}(h:H a=some (.tup xs)):SqT K H a xs:=.inl (.inl h)
theorem Inv.list(I:Inv X zG σ H s)(h:SqL X.K H a xs):∃b:List Cn,Vals xs b/\PlainL s.heap a b.toArray/\xs.length<=sizeLine:=by
 rcases h with h | ⟨o,b,n,c,d,f,g,i,r⟩
 ·obtain⟨z,b,n,r,e⟩:=h.ok I.hok
  exact⟨_,r,⟨_,n,e,rfl,rfl,rfl⟩,z⟩
 ·refine⟨_,r,⟨o,n,I.kIn a o c,d,f,by omega⟩,?_⟩
  have e:=r.length
  grind
theorem Inv.tuple(I:Inv X zG σ H s)(h:SqT X.K H a xs):∃b:List Cn,Vals xs b/\IsTup s.heap a b.toArray/\xs.length<=sizeLine:=by
 rcases h with h | ⟨o,b,n,c,d,f,g,r⟩
 ·obtain⟨z,b,r,p⟩:=h.ok I.hok
  exact⟨_,r,p.tup,z⟩
 ·refine⟨_,r,⟨o,I.kIn a o c,d,n,by omega⟩,?_⟩
  have e:=r.length
  grind
theorem Inv.list_inj(I:Inv X zG σ H s)(h:SqL X.K H a xs)(f:SqL X.K H a ys):xs=ys:=by
 obtain⟨c,r,⟨o,n,e,_,_,d⟩,_⟩:=I.list h;obtain⟨b,g,⟨i,j,k,_,_,l⟩,_⟩:=I.list f
 have:c=b:=by grind
 subst this;exact r.inj g
theorem Inv.tuple_inj(I:Inv X zG σ H s)(h:SqT X.K H a xs)(f:SqT X.K H a ys):xs=ys:=by
 obtain⟨c,r,⟨o,e,_,n,d⟩,_⟩:=I.tuple h;obtain⟨b,g,⟨i,j,_,k,l⟩,_⟩:=I.tuple f
 have:c=b:=by grind
 subst this;exact r.inj g
end
abbrev Cx.wish(X:Cx)(E:Cn->FM->Prop):Cx:={ X with xe:=E }
abbrev Cx.nox(X:Cx):Cx:=X.wish λ_ _=>False
theorem Cx.Ok.wish{X:Cx}(ok:X.Ok)(E:Cn->FM->Prop):(X.wish E).Ok :=
 ⟨ok.mod,ok.kind,ok.glob,ok.blt,ok.above,ok.inj,ok.has,ok.cab,ok.hd,ok.frames,ok.stk,ok.exf,ok.bs,ok.bsz,ok.noex,ok.exfs,ok.funs,ok.frf⟩
theorem Cx.Ok.unwish{X:Cx}{E:Cn->FM->Prop}(ok:(X.wish E).Ok):X.Ok :=
 ⟨ok.mod,ok.kind,ok.glob,ok.blt,ok.above,ok.inj,ok.has,ok.cab,ok.hd,ok.frames,ok.stk,ok.exf,ok.bs,ok.bsz,ok.noex,ok.exfs,ok.funs,ok.frf⟩
section
variable {X:Cx}{zG:List (Addr×Obj)}{σ:St}{H:Hp}{s:Shared}{E:Value->Shared->Prop}
theorem Inv.wish(I:Inv X zG σ H s)(E:Cn->FM->Prop):Inv (X.wish E) zG σ H s:=⟨I.ok.wish E,I.os,I.bare,I.base,I.loc,I.cell,I.free,I.freeC,I.pin,I.hok,I.len⟩
theorem Inv.unwish(I:Inv (X.wish E) zG σ H s):Inv X zG σ H s:=⟨I.ok.unwish,I.os,I.bare,I.base,I.loc,I.cell,I.free,I.freeC,I.pin,I.hok,I.len⟩
theorem SP.unwish{D:Ends}{f:Flow}{c:FM}(h:SP (X.wish E) zG D f c):SP X zG D f c:=by
 cases f with
 | next=>obtain⟨b,a,I,q⟩:=h; exact⟨_,a,I.unwish,q⟩
 | brk=>obtain⟨b,a,I,q⟩:=h; exact⟨_,a,I.unwish,q⟩
 | cont=>obtain⟨b,a,I,q⟩:=h; exact⟨_,a,I.unwish,q⟩
 | ret u=>obtain⟨v,b,a,I,r,q⟩:=h; exact⟨v,_,a,I.unwish,r,q⟩
theorem PSs.nox{a:List dE}{t:TS}(h:PSs X.nox a t):PSs X a t:=λzG s σ H D I b =>
 dP (h _ s σ H D (I.wish _) b) (λ_ _ q=>q.unwish) λ_ _ z=>dX z
end
section
variable {X:Cx}{st:Stmt}{rest:List Stmt}{t u:TS}{e:Expr}{te:TE}{pos:Pos}
def Wx:TS:=λD a H=>D.nx a H
def Rl(t u:TS):TS:=λD a H=>t { D with nx:=u D } a H
theorem MV:PSs X [] Wx:=λ_ _ a H _ I h=>gB ⟨a,H,I,h⟩
theorem BL(a:PS X st t)(b:PSs X rest u):PSs X (st::rest) (Rl t u):=by
 intro i s c H D I h;refine jH (thn (a _ s c H _ I h) λf d q=>?_);cases f with
 | next =>
  obtain⟨j,e,g,q⟩:=q;exact b _ d _ e D g q
 | ret v=>exact q
 | brk=>exact q
 | cont=>exact q
theorem Cb(a:PS X st t):PSs X [st] t:=by
 intro c s b H D I h;refine jH (thn (a _ s b H D I h) λf d q=>?_);cases f with
 | next=>exact gB q
 | ret v=>exact q
 | brk=>exact q
 | cont=>exact q
theorem Inv.quiet{a:List (Ch×Obj)}{b:St}{H:Hp}{s:FM}(I:Inv X a b H s):interactive X.env=false:=by simp [interactive,I.ok.kind]
def Za(te:TE):TS:=λD a H=>te a H λ_ b=>D.nx a b
theorem Qm(b:PE X e te)(c:swapsWith e none pos.line X.env=pure false:=by rfl):PS X (.Expr e pos) (Za te):=λi s a H D I h=>wpAny_Expr_any (thn (b _ s a H _ I h) λv j ⟨x,d,f,k,g⟩=>⟨a,d,f,g⟩) I.quiet c
def Va(te:TE):TS:=λD a H=>te a H D.rt
theorem GV(b:PE X e te):PS X (.Return (some e) pos) (Va te):=λi s a H D I h=>wpAny_Return_some (thn (b _ s a H _ I h) λv j ⟨x,c,d,f,g⟩=>⟨x,a,c,d,f,g⟩)
def ZY(c:TT)(t u:TS):TS:=λD a H=>c a H λb d=>if b=true then t D a d else u D a d
theorem Ql{c:c_}{a b:List dE}{f:TT}(l:PT X c f)(m:PSs X a t)(n:PSs X b u):PS X (.If c a b pos) (ZY f t u):=by
 intro o s e H D I h;refine wpAny_If (thn (l _ s e H _ I h) λd g ⟨i,j,k⟩=>?_);cases d with
 | true=>exact m _ g e i D j k
 | false=>exact n _ g e i D j k
end
abbrev TG:=V->St->Hp->(St->Hp->Prop)->Prop
abbrev Y4:=List V->St->Hp->(St->Hp->Prop)->Prop
def PG(X:Cx)(a:c_)(t:TG):Prop :=
 ∀(b:List (Ch×Obj)) (s:FM) (c:St) (H:Hp) (v:V) (u:Cn) (Q:St->Hp->Prop),Inv X b c H s->RelV v u->t v c H Q ->
  wpAny (model X.prog X.w) X.A (assign a X.env u) (λ_ f=>∃d e,Inv X b d e f/\Q d e) X.xe s
def aW(X:Cx)(g:List c_)(t:Y4):Prop :=
 ∀(a:List (Ch×Obj)) (s:FM) (b:St) (H:Hp) (c:List V) (d:List Cn) (Q:St->Hp->Prop),Inv X a b H s->Vals c d->t c b H Q ->
  wpAny (model X.prog X.w) X.A (assignInOrder ((assignEach g X.env).map (·.2)) d) (λ_ h=>∃e f,Inv X a e f h/\Q e f) X.xe s
abbrev Y3:=V->V->V->Hp->(Hp->Prop)->Prop
def aU(X:Cx)(t:Y3):Prop :=
 ∀(a:List (Ch×Obj)) (s:FM) (b:St) (H:Hp) (o i v:V) (c d u:Cn) (Q:Hp->Prop),Inv X a b H s->RelV o c->RelV i d->RelV v u->t o i v H Q ->
  wpAny (model X.prog X.w) X.A (setItem c d u) (λ_ f=>∃e,Inv X a b e f/\Q e) X.xe s
abbrev ay:=V->V->Hp->VK->Prop
def cF(X:Cx)(c:Operator)(t:ay):Prop :=
 ∀(a:List (Ch×Obj)) (s:FM) (b:St) (H:Hp) (x y:V) (v u:Cn) (Q:VK),Inv X a b H s->RelV x v->RelV y u->t x y H Q ->
  wpAny (model X.prog X.w) X.A (inplaceOp c v u) (EP X a b Q) X.xe s
section
variable {X:Cx}{pos:Pos}
def IB(i:Nat):TG:=λv a H Q=>Q (a.set i (some v)) H
theorem Gx{i:Nat}{x:Str}(a:X.N.Nodup)(b:X.N[i]?=some x)(c:Loc X.env.scope x)(d:X.fn x=true\/X.env.scope.names.lookup x=some .local:=by first | exact .inl rfl | exact .inr rfl | assumption):PG X (.Name x pos) (IB i):=λf s g H v u Q I r h=>wpAny_assign_Name (FC I a b c r (λj e=>⟨_,H,e,h⟩) d)
def bc:Y4:=λa b H Q=>a=[]/\Q b H
def aE(t:TG)(u:Y4):Y4:=λa b H Q=>∃v r,a=v::r/\t v b H λc d=>u r c d Q
theorem Qp:aW X [] bc:=by
 intro b s a H c d Q I r h;obtain⟨e,h⟩:=h;exact assignInOrder_nil ⟨a,H,I,h⟩
theorem Gw{e:c_}{a:List c_}{t:TG}{u:Y4}(b:PG X e t)(c:aW X a u)
  (d:(assignEach (e::a) X.env).map (·.2)=assign e X.env::(assignEach a X.env).map (·.2):=by rfl):aW X (e::a) (aE t u):=by
 intro n s f H o p Q I r h;obtain⟨v,q,g,h⟩:=h;subst g;cases r with
 | cons r i =>
  rw [d];exact assignInOrder_cons (thn (b _ s f H _ _ _ I r h) λ_ j ⟨_,k,l,m⟩=>c _ j _ k _ _ Q l i m)
def bb(K:Frag)(n:Nat)(t:Y4):TG:=λv c H Q=>∃a b,v=.ref a/\SqT K H a b/\b.length=n/\t b c H Q
theorem UK{c:List c_}{k:Nat}{t:Y4}{n:Nat}(g:X.calm=true)(h:aW X c t)
  (i:(assignEach c X.env).length=n:=by rfl) (d:(assignEach c X.env).findIdx? (·.1)=none:=by rfl):PG X (.Tuple c k pos) (bb X.K n t):=by
 intro A s j H v u Q I r f;obtain⟨a,l,m,p,q,f⟩:=f;subst m;cases r;obtain⟨w,x,y,B⟩:=I.tuple p;exact assign_Tuple_tuple (I.ok.hd g) y (by simp [i,← q,x.length]) d λC z=>h _ _ j H l _ Q (I.kept λb o e=>z b o (c7 (UF e)) e) (by omega) f
def aD(b c:TE)(t:Y3):TG:=λv a H Q=>b a H λo d=>c a d λi H2=>t o i v H2 λe=>Q a e
theorem Ps{o i:c_}{d e:TE}{t:Y3}(f:PE X o d)(g:PE X i e)(j:aU X t)
  (E:∀v,assign (.Subscript o i pos) X.env v=(do
   let a ← holding [v] (eval o X.env)
   let b ← holding [v,a] (eval i X.env)
   standAt pos
   holding [v,a,b] (setItem a b v)
   release [v,a,b] []):=by intro _; rfl):PG X (.Subscript o i pos) (aD d e t):=λF s c H v u Q I r h=>Db (dw (thn (f _ s c H _ I h) λa k ⟨x,l,m,n,p⟩=>Db (dw (thn (g _ k c l _ m p) λb q ⟨y,H2,w,z,A⟩=>Db (hG (Db (dw (thn (j _ q c H2 x y v a b u _ w n z r A) λ_ G ⟨B,C,D⟩=>wpAny_release ⟨c,B,C,D⟩))))))))
def Nj(b:TE)(g:TG):TS:=λD a H=>b a H λx c=>g x a c D.nx
theorem MW{a e:c_}{b:TE}{g:TG}(d:PE X e b)(f:PG X a g)(i:swapsWithSole [a] e pos.line X.env=pure false:=by rfl)(j:swappedStores [a] e X.env=pure none:=by rfl)
  (k:(assignEach [a] X.env).map (·.2)=[assign a X.env]:=by rfl):PS X (.Assign [a] e pos) (Nj b g):=by
 intro r s c H D I h;refine wpAny_Assign_stores (thn (d _ s c H _ I h) λv l ⟨x,m,n,o,p⟩=>?_) i j;rw [k];exact thn (f _ l c m x v _ n o p) λ_ t q=>q
theorem FO{i:Nat}{x:Str}{e:c_}{b:TE}{a:Pos}(c:X.N.Nodup)(d:X.N[i]?=some x)(f:Loc X.env.scope x)(g:PE X e b)(j:swapsWith e (some (.Name x a)) pos.line X.env=pure false:=by rfl)(k:X.fn x=true\/X.env.scope.names.lookup x=some .local:=by first | exact .inl rfl | exact .inr rfl | assumption) :
  PS X (.Assign [.Name x a] e pos) (Nj b (IB i)):=λr s l H D I h=>wpAny_Assign_Name (thn (g _ s l H _ I h) λv t ⟨y,m,n,o,p⟩=>FC n c d f o (λu q=>⟨_,m,q,p⟩) k) j
def bQ(i:Nat)(b:TE)(c:ay):TS:=λD a H=>∃x,a[i]?=some (some x)/\b a H λy d=>c x y d λz H2=>D.nx (a.set i (some z)) H2
theorem YE{i:Nat}{x:Str}{e:c_}{q:TE}{j:Operator}{t:ay}{d:Pos}(F:X.N.Nodup)(B:X.N[i]?=some x)(n:Loc X.env.scope x)(G:PE X e q)(J:cF X j t)(K:X.fn x=true\/X.env.scope.names.lookup x=some .local:=by first | exact .inl rfl | exact .inr rfl | assumption) :
  PS X (.AugAssign (.Name x d) j e pos) (bQ i q t):=by
 intro o s C H D I h;obtain⟨v,L,h⟩:=h;obtain⟨m,M,O⟩:=I.loc;have p:Sw X.env.scope x:=by rcases n with k | k; exact .inl k; exact .inr (.inl k)
 obtain⟨u,r,l⟩:=O i x v B L p;refine wpAny_AugAssign_Name ?_
 have E:wpAny (model X.prog X.w) X.A (eval e X.env) (λw f=>wpAny (model X.prog X.w) X.A (inplaceOp j u w) (λr g=>wpAny (model X.prog X.w) X.A (storeName X.env x r) (λ_=>SP X o D .next) X.xe g) X.xe f) X.xe s:=by
  refine thn (G o s C H _ I h) λw P ⟨y,Q,R,S,T⟩=>?_;refine thn (J o P C Q v y u w _ R r S T) λz s2 ⟨zv,H2,U,V,W⟩=>?_;exact FC U F B n V (λs3 Y=>⟨_,H2,Y,W⟩) K
 rcases l with ⟨a,Z⟩ | ⟨a,c,hc,b⟩
 ·exact wpAny_loadName_local I.ok.kind a M Z E
 ·rcases a with a | a
  ·exact wpAny_loadName_cell I.ok.kind a hc b E
  ·rcases n with k | k
   ·have:X.env.scope.names.lookup x=some .free:=a
    rw [k] at this; cases this
   ·have:X.env.scope.names.lookup x=some .free:=a
    rw [k] at this; cases this
def cU(f:Int->Int->Int):ay:=λx y H Q=>∃i j,x=.int i/\y=.int j/\Q (.int (f i j)) H
theorem Ye:cF X .Add (cU λi j=>i+j):=by
 intro e s f H x y v u Q I a b h;obtain⟨i,j,c,d,q⟩:=h;subst c; subst d
 obtain⟨t,rfl⟩:=a;obtain⟨g,rfl⟩:=b;exact iadd_int ⟨.int _,H,I.tok _,⟨_,rfl⟩,q⟩
end
section
variable {X:Cx}{pos:Pos}
def Xs(c:TT)(h:TS):TS:=λD a H=>∃W:Nat->St->Hp->Prop,(∃m,W m a H)/\∀m a H,W m a H ->
 c a H λb d=>if b=true then ∃N:St->Hp->Prop,(∀e f,N e f->∃g,g<m/\W g e f)/\h { D with nx:=N,ct:=N,bk:=D.nx } a d else D.nx a d
theorem UE{c:c_}{a:List dE}{t:TT}{u:TS}(x:iA (model X.prog X.w) X.A X.env X.xe)(F:PT X c t)(G:PSs X a u):PS X (.While c a [] pos) (Xs t u):=by
 intro l s J H D I h;obtain⟨W,⟨K,L⟩,d⟩:=h;refine wpAny_While (codeAny_whileLoop (λn M=>∃y z,Inv X l y z M/\W n y z) ?_ K ⟨J,H,I,L⟩);rintro n O ⟨i,B,P,Q⟩;refine fZ x (thn (F l O i B _ P (d n i B Q)) λb R ⟨H2,C,j⟩=>?_);cases b with
 | true =>
  obtain⟨N,E,j⟩:=j;rw [if_pos rfl];refine fZ x (thn (G l R i H2 _ C j) λf S k=>?_);cases f with
  | next =>
   obtain⟨e,g,m,o⟩:=k;obtain⟨p,q,r⟩:=E e g o;exact⟨p,q,e,g,m,r⟩
  | cont =>
   obtain⟨e,g,m,o⟩:=k;obtain⟨p,q,r⟩:=E e g o;exact⟨p,q,e,g,m,r⟩
  | brk=>exact k
  | ret v=>exact k
 | false =>
  rw [if_neg c8];exact gB ⟨i,H2,C,j⟩
end
structure It where
 go:Nat->Hp->Prop
 yld:Nat->Hp->V->Hp->Prop
 stop:Nat->Hp->Prop
def Gh(X:Cx)(a:List (Ch×Obj))(H:Hp)(b:Ch):Prop :=
 H b=none/\b≠X.env.locals/\b∉X.fs/\(b∈X.ex\/X.s₀.heap.objs.size<=b)/\(∀x c,X.env.cells.lookup x=some c->c≠b)/\∀p∈X.pn++a,p.1≠b
theorem Inv.fpOk{X:Cx}{d:List (Ch×Obj)}{g:St}{H f:Hp}{s:FM}{b:Ch}(I:Inv X d g H s)(a:s.heap.objs.size<=b)(h:f b=none):Gh X d f b:=by
 refine⟨h,fV (dA I.lt a),I.nofs a,.inr (cx I.sz a),λx c e z=>?_,λp i z=>?_⟩
 ·obtain⟨v,q⟩:=I.cell x c e
  exact absurd (dA q.lt (by rw [z]; exact a)) (eK _)
 ·exact absurd (dA (UF (I.pin p i).1) (by rw [z]; exact a)) (eK _)
structure Turn (P:cz) (w:dC) (K:Frag) (tg:c_) (J:It) (fp:List Ch) (it:Ch) (tn:Nat->cw->Prop):Prop where
 mem:it∈fp
 obj:∀i h,tn i h->∀b∈fp,∃o,h.get? b=some o/\∀v,o.data≠.cell v
 keep:∀i h h',tn i h->(∀b∈fp,∀o,h.get? b=some o->h'.get? b=some o)->tn i h'
 item:∀(X:Cx),X.prog=P->X.w=w->X.K=K->X.calm=true->∀(i:Nat) (zG:List (Ch×Obj)) (s:FM) (σ:St) (H:Hp) (E:Cn->FM->Prop),Inv X zG σ H s->(∀b∈fp,Gh X zG H b)->tn i s.heap->J.go i H ->
  wpAny (model P w) X.A (pyNext (.ref it)) (λr s1=>∃u,r=some u /\
   wpAny (model P w) X.A (letOwnedTupleGo tg (.ref it) u) (λ_ s2=>∃x H',Inv X zG σ H' s2/\RelV x u/\J.yld i H x H'/\tn (i+1) s2.heap/\∀b∈fp,H' b=none) E s1) E s
 done:∀(X:Cx),X.prog=P->X.w=w->X.K=K->X.calm=true->∀(i:Nat) (zG:List (Ch×Obj)) (s:FM) (σ:St) (H:Hp) (E:Cn->FM->Prop),Inv X zG σ H s->(∀b∈fp,Gh X zG H b)->tn i s.heap->J.stop i H ->
  wpAny (model P w) X.A (pyNext (.ref it)) (λr s1=>r=none/\Inv X zG σ H s1) E s
 self:∀(A:dL) (i:Nat) (s:FM) (Q:Cn->FM->Prop) (E:Cn->FM->Prop),tn i s.heap->Q (.ref it) s->wpAny (model P w) A (pyIter (.ref it)) Q E s
abbrev TI:=St->Hp->(It->Hp->Prop)->Prop
def cG(X:Cx)(d:List (Ch×Obj))(i:St)(j:c_)(R:It->Hp->Prop)(a:Cn)(e:FM):Prop :=
 ∃(f:Ch) (g:List Ch) (h:Nat->cw->Prop) (J:It) (c:Hp),a=.ref f/\Inv X d i c e/\Turn X.prog X.w X.K j J g f h/\h 0 e.heap/\(∀b∈g,Gh X d c b)/\R J c
def PI(X:Cx)(d a:c_)(e:TI):Prop :=
 ∀(c:List (Ch×Obj)) (s:FM) (b:St) (H:Hp) (R:It->Hp->Prop),Inv X c b H s->e b H R ->
  wpAny (model X.prog X.w) X.A (eval a X.env) (λv f=>wpAny (model X.prog X.w) X.A (pyIter v) (cG X c b d R) X.xe f) X.xe s
theorem Oe {M : Model} {A : dL} {E : Cn → FM → Prop} {s : FM} {b : c_} {c : Ch} {u : Cn} {o : Obj} {n : String} {d : Array Cn} {Q : Unit → FM → Prop} (e : s.heap.get? c = some o) (f : o.cls = .type n) (hd : o.data = .fields d)
    (g : ["enumerate", "zip", "dict_itemiterator", "dict_reverseitemiterator", "odict_iterator", "itertools.zip_longest", "itertools.pairwise"].contains n = false) (a : Q () s) : wpAny M A (letOwnedTupleGo b (.ref c) u) Q E s := by
  unfold letOwnedTupleGo
  cases b <;> first
    | exact Sc a
    | (cases u <;> first
        | exact Sc a
        | (refine Db (wpAny_load e ?_)
           rw [f, hd];show wpAny M A (if (["enumerate", "zip", "dict_itemiterator", "dict_reverseitemiterator", "odict_iterator", "itertools.zip_longest", "itertools.pairwise"].contains n && d[0]? == some (rawInt _)) = true then _ else _) Q E s;rw [if_neg (by grind)];exact Sc a))
def bw(K:Frag)(a:Ch):It :=
 ⟨λi H=>∃b x,SqL K H a b/\b[i]?=some x,λi H x c=>c=H/\∀b,SqL K H a b->b[i]?=some x,λi H=>∃b,SqL K H a b/\b.length<=i⟩
def Y_(K:Frag)(a:Ch):It :=
 ⟨λi H=>∃b x,SqT K H a b/\b[i]?=some x,λi H x c=>c=H/\∀b,SqT K H a b->b[i]?=some x,λi H=>∃b,SqT K H a b/\b.length<=i⟩
def ac(a:Int)(n:Nat):It:=⟨λi _=>i<n,λi H x b=>b=H/\x=.int (a+i),λi _=>n<=i⟩
theorem Rf{P:cz}{w:dC}{K:Frag}{R:c_}(a g:Ch):Turn P w K R (bw K a) [g] g (λi h=>h.IsListIter g a i) where
 mem:=by simp
 obj:=λi h f b j=>by
  have e:b=g:=by simpa using j
  subst e;obtain⟨o,e,c,d⟩:=f;exact⟨o,e,λv z=>by rw [d] at z; cases z⟩
 keep:=λi h m f k=>f.at λo e=>k g (by simp) o e
 item:=by
  intro X r t y N i O s Q H E I n f A;subst r t y;obtain⟨S,x,q,B⟩:=A;obtain⟨C,D,p,T⟩:=I.list q;obtain⟨u,U,V⟩:=D.get B;obtain⟨F,G,W,J,L,M⟩:=n g (by simp);refine wpAny_pyNext_list_item f p.isList (x:=u) (by simpa using U) λm l Y=>?_;have Z:Inv X O Q H { s with heap:=m }:=I.turned (t':=s.toks) (λb o j e=>(Y.2 b j).trans e) F G J L M;obtain⟨o,e,c,d⟩:=id l;exact⟨u,rfl,Oe (s:={ s with heap:=m }) e c d (by decide) ⟨x,H,Z,V,⟨rfl,λys hy=>by rw [I.list_inj hy q]; exact B⟩,l,λb j=>(n b j).1⟩⟩
 done:=by
  intro X r t y N i O s Q H E I n f A;subst r t y;obtain⟨S,q,B⟩:=A;obtain⟨C,D,p,T⟩:=I.list q;obtain⟨F,G,W,J,L,M⟩:=n g (by simp);have hl:=D.length;exact wpAny_pyNext_list_end (I.ok.hd N) f p.isList (by simp; omega) λm eb=>⟨rfl,I.turned (t':=s.toks) (λb o j e=>eb b o j e) F G J L M⟩
 self:=λ_ _ _ _ _ f h=>wpAny_pyIter_listiter f h
theorem JP{P:cz}{w:dC}{K:Frag}{R:c_}(a g:Ch):Turn P w K R (Y_ K a) [g] g (λi h=>h.IsTupleIter g a i) where
 mem:=by simp
 obj:=λi h f b j=>by
  have e:b=g:=by simpa using j
  subst e;obtain⟨o,e,c,d⟩:=f;exact⟨o,e,λv z=>by rw [d] at z; cases z⟩
 keep:=λi h n f k=>f.at λo e=>k g (by simp) o e
 item:=by
  intro X t y A N i O s Q H E I q f B;subst t y A;obtain⟨S,x,r,C⟩:=B;obtain⟨l,D,p,T⟩:=I.tuple r;obtain⟨u,U,V⟩:=D.get C;obtain⟨F,G,W,J,L,M⟩:=q g (by simp);refine wpAny_pyNext_tuple_item f (show s.heap.IsTuple a l.toArray from p) (x:=u) (by simpa using U) λn m Y=>?_;have Z:Inv X O Q H { s with heap:=n }:=I.turned (t':=s.toks) (λb o j e=>(Y.2 b j).trans e) F G J L M;obtain⟨o,e,c,d⟩:=id m;exact⟨u,rfl,Oe (s:={ s with heap:=n }) e c d (by decide) ⟨x,H,Z,V,⟨rfl,λys hy=>by rw [I.tuple_inj hy r]; exact C⟩,m,λb j=>(q b j).1⟩⟩
 done:=by
  intro X t y A N i O s Q H E I q f B;subst t y A;obtain⟨S,r,C⟩:=B;obtain⟨l,D,p,T⟩:=I.tuple r;obtain⟨F,G,W,J,L,M⟩:=q g (by simp);have hl:=D.length;exact wpAny_pyNext_tuple_end (I.ok.hd N) f (show s.heap.IsTuple a l.toArray from p) (by simp; omega) λn eb=>⟨rfl,I.turned (t':=s.toks) (λb o j e=>eb b o j e) F G J L M⟩
 self:=λ_ _ _ _ _ f h=>wpAny_pyIter_tupleiter f h
theorem PM{P:cz}{w:dC}{K:Frag}{G:c_}(c:Ch)(g:Int)(n:Nat):Turn P w K G (ac g n) [c] c (λi h=>IsRangeIter h c (g+(i:Nat)*1) ((n:Int) - (i:Nat)) 1) where
 mem:=by simp
 obj:=λi h a b d=>by
  simp_all
 keep:=λi h j a k=>k c (by simp) _ a
 item:=by
  intro X m p q r i C s D H E I l a u;subst m p q;obtain⟨x,y,J,z,A,B⟩:=l c (by simp);have W:=Walks.range (prog:=X.prog) (w:=X.w) (I.ok.hd r) c g 1 n;refine W.item i s _ _ u a λv j F L f M=>?_;obtain⟨t,rfl⟩:=L;have N:Inv X C D H { s with heap:=j,toks:=F }:=I.turned (λb o d e=>M b o (by simpa using d) e) x y z A B;refine⟨_,rfl,Oe (s:={ s with heap:=j,toks:=F }) (n := "range_iterator") f rfl rfl (by decide) ⟨.int (g+i),H,N,⟨t,?_⟩,⟨rfl,rfl⟩,f,λb d=>(l b d).1⟩⟩;rw [Int.mul_one]
 done:=by
  intro X m p q r i C s D H E I l a u;subst m p q;obtain⟨x,y,J,z,A,B⟩:=l c (by simp);exact wpAny_pyNext_range_end (I.ok.hd r) a (by have:n<=i:=u; omega) λj O=>⟨rfl,I.turned (t':=s.toks) (λb o d e=>O b o d e) x y z A B⟩
 self:=λ_ _ _ _ _ a h=>wpAny_pyIter_rangeiter a h
section
variable {X:Cx}{tg:Expr}
def bZ(K:Frag)(c:TE):TI:=λd H R=>c d H λx b=>∃a,x=.ref a/\(∃e,SqT K b a e)/\R (Y_ K a) b
theorem UJ{l:c_}{d:TE}(f:PE X l d):PI X tg l (bZ X.K d):=by
 intro t s g H R I h;refine thn (f _ s g H _ I h) λv i ⟨x,j,c,k,m⟩=>?_;obtain⟨a,e,⟨u,n⟩,q⟩:=m;subst e;cases k;obtain⟨r,w,p,y⟩:=c.tuple n;refine ef (p) ?_;refine⟨_,_,_,_,j,rfl,c.kept λb o e=>Ev _ e,JP a _,⟨_,cj _ rfl,rfl,rfl⟩,λb z=>?_,q⟩;have e:b=i.heap.objs.size:=by grind
 subst e;exact c.fpOk (On _) (c.hok.fresh (On _))
theorem N4{d:List (Ch×Obj)}{f:St}{H:Hp}{s:FM}{R:It->Hp->Prop}{E:Cn->FM->Prop}{a c:Int}{t u v:Tok}{g:Nat}(I:Inv X d f H s)(i:-(2 ^ 62)<=a)(j:a<2 ^ 62)(k:-(2 ^ 62)<=c)(l:c<2 ^ 62)
  (q:R (ac a (c - a).toNat) H):wpAny (model X.prog X.w) X.A (pyIter (.ref s.heap.objs.size)) (cG X d f tg R) E { s with heap:=s.heap.push { cls:=.type "range",data:=.fields #[.int a t,.int c u,.int 1 v] },toks:=g }:=by
 refine wpAny_pyIter_range (IsRange.new ..) (small_one i j k l) ?_;have h:Inv X d f H { s with heap:=s.heap.push { cls:=.type "range",data:=.fields #[.int a t,.int c u,.int 1 v] },toks:=g }:=I.kept λb o e=>Ev _ e
 refine⟨(s.heap.push { cls:=.type "range",data:=.fields #[.int a t,.int c u,.int 1 v] }).objs.size,[(s.heap.push { cls:=.type "range",data:=.fields #[.int a t,.int c u,.int 1 v] }).objs.size],_,_,H,rfl,
  h.kept (t':=g) λb o e=>Ev _ e,PM _ a (c - a).toNat,?_,λb m=>?_,q⟩
 ·have n:a+((0:Nat):Int)*1=a:=by simp
  have p:(((c - a).toNat:Nat):Int) - ((0:Nat):Int)=Builtin.Range.rangeSize a c 1:=by rw [rangeSize_one]; grind
  show IsRangeIter _ _ (a+((0:Nat):Int)*1) ((((c - a).toNat:Nat):Int) - ((0:Nat):Int)) 1;rw [n,p];exact cj _ rfl
 ·have e:b=(s.heap.push { cls:=.type "range",data:=.fields #[.int a t,.int c u,.int 1 v] }).objs.size:=by simpa using m
  subst e;exact h.fpOk (On _) (h.hok.fresh (On _))
def aA(a:TA):TI:=λb H R=>a b H λc d=>∃j:Int,c=[.int j]/\-(2 ^ 62)<=j/\j<2 ^ 62/\R (ac 0 j.toNat) d
def Z_(a:TA):TI:=λb H R=>a b H λc d=>∃i j:Int,c=[.int i,.int j]/\(-(2 ^ 62)<=i/\i<2 ^ 62/\-(2 ^ 62)<=j/\j<2 ^ 62)/\R (ac i (j - i).toNat) d
theorem R0{a:c_}{c:TA}{p pos:Pos}(d:Gl X "range")(f:X.mg "range"=none)(g:PA X [a] c)(i:starEach [a] X.env=[(false,eval a X.env)]:=by rfl):PI X tg (.Call (.Name "range" p) [a] [] pos) (aA c):=by
 intro u s k H R I h;refine Call_ (FT I d f boot_range (e9 (thn (g _ _ s k H _ I h) λv w ⟨x,y,l,m,b⟩=>?_) i rfl));obtain⟨j,e,b,n,q⟩:=b;subst e;cases m with
 | cons r o =>
  cases o;obtain⟨t,rfl⟩:=r;exact call_range_1 (N4 l (by omega) (by omega) b n (by simpa using q))
theorem Rz{a b:c_}{g:TA}{p pos:Pos}(k:Gl X "range")(l:X.mg "range"=none)(m:PA X [a,b] g)(n:starEach [a,b] X.env=[(false,eval a X.env),(false,eval b X.env)]:=by rfl)(c:starEach [b] X.env=[(false,eval b X.env)]:=by rfl) :
  PI X tg (.Call (.Name "range" p) [a,b] [] pos) (Z_ g):=by
 intro A s o H R I h;refine Call_ (FT I k l boot_range (e9 (thn (m _ _ s o H _ I h) λB C ⟨D,E,u,v,d⟩=>?_) (by rw [n,c]) (by rw [c]; rfl)));obtain⟨i,j,e,⟨d,w,x,y⟩,q⟩:=d;subst e;cases v with
 | cons r f =>
  cases f with
  | cons z f =>
   cases f;obtain⟨t,rfl⟩:=r;obtain⟨F,rfl⟩:=z;exact call_range_2 (N4 u d w x y q)
def bP(e:TI)(g:TG)(f:TS):TS:=λD a H=>e a H λJ h=>∃W:Nat->Nat->St->Hp->Prop,(∃m,W 0 m a h)/\∀i m a H,W i m a H ->
 (J.stop i H/\D.nx a H)\/(J.go i H/\∃N:St->Hp->Prop,(∀c b,N c b->∃d,d<m/\W (i+1) d c b)/\∀x b,J.yld i H x b->g x a b λj H2=>f { D with nx:=N,ct:=N,bk:=D.nx } j H2)
def Jj(a:List Ch)(h:cw):List (Ch×Obj):=a.filterMap λb=>(h.get? b).map λo=>(b,o)
theorem Ep{a:List Ch}{h:cw}{b:Ch}{o:Obj}(c:b∈a)(e:h.get? b=some o):(b,o)∈Jj a h:=ig.mpr ⟨b,c,by rw [e]; rfl⟩
theorem SD{a:List Ch}{h:cw}{p:Ch×Obj}(c:p∈Jj a h):p.1∈a/\h.get? p.1=some p.2:=by
 obtain⟨b,f,e⟩:=ig.mp c;cases q:h.get? b with
 | none=>grind
 | some o =>
  rw [q] at e;have d:=cv e;subst d
  simp_all
theorem Inv.pinned{a:List (Ch×Obj)}{f:St}{H:Hp}{s:FM}{c:List Ch}(I:Inv X a f H s)(h:∀b∈c,Gh X a H b)(i:∀b∈c,∃o,s.heap.get? b=some o/\∀v,o.data≠.cell v):Inv X (a++Jj c s.heap) f H s :=
 I.pins_of λp j=>(cu.mp j).elim (λz=>I.pin p (dH _ z)) λz=>by
  obtain⟨g,e⟩:=SD z;obtain⟨k,l,m,_⟩:=h _ g;obtain⟨o,n,d⟩:=i _ g
  grind
theorem Inv.unpinned{a c:List (Ch×Obj)}{b:St}{H:Hp}{s:FM}(I:Inv X (a++c) b H s):Inv X a b H s:=I.pins_of λp d=>I.pin p (dH _ (eo _ d))
theorem Jh{a:c_}{t:List dE}{wi:TI}{g:TG}{tb:TS}{pos:Pos}(C:iA (model X.prog X.w) X.A X.env X.xe)(hc:X.calm=true)(hi:PI X tg a wi)(hg:PG X tg g)(c:PSs X t tb)
  (hs:∀x,foldedSetIterable a X.env x=pure x:=by intro _; rfl):PS X (.For tg a t [] pos) (bP wi g tb):=by
 intro z s σ H D I h;refine wpAny_For (thn (hi z s σ H _ I h) λv s1 h1=>thn h1 λa0 s2 h2=>?_) hs;obtain⟨it,E,tn,J,H2,e,I2,T,R,f2,W,⟨m0,w0⟩,F⟩:=h2;subst e;have j:∀{q:Hp},(∀b∈E,q b=none)->∀b∈E,Gh X z q b:=λhn b c=>⟨hn b c,(f2 b c).2⟩;refine codeAny_forLoop_any (λn s'=>∃i G q,Inv X z G q s'/\tn i s'.heap/\(∀b∈E,q b=none)/\W i n G q) ?_ m0 ⟨0,σ,H2,I2,R,λb c=>(f2 b c).1,w0⟩;rintro n s3 ⟨i,K,Q,I3,L,M,w3⟩
 rcases F i n K Q w3 with ⟨O,qn⟩ | ⟨go,N,hN,step⟩
 ·refine fZ C (thn (T.done X rfl rfl rfl hc i z s3 K Q X.xe I3 (j M) L O) λr s4 ⟨S,I4⟩=>?_)
  subst S;exact gB ⟨K,Q,I4,qn⟩
 ·refine fZ C (thn (T.item X rfl rfl rfl hc i z s3 K Q X.xe I3 (j M) L go) λr s4 ⟨u,S,h4⟩=>?_)
  subst S;refine fZ C (thn h4 λ_ s5 ⟨x,H5,I5,r5,y5,B,U⟩=>?_);have V:=I5.pinned (j U) (T.obj _ _ B);refine fZ C (thn (hg _ s5 K H5 x u _ V r5 (step x H5 y5)) λ_ s6 ⟨Y,H6,I6,q6⟩=>?_);refine fZ C (thn (c _ s6 Y H6 _ I6 q6) λf Z y=>?_)
  have again:∀{k:St} {l:Hp},Inv X (z++Jj E s5.heap) k l Z->N k l->∃m,m<n/\∃i G q,Inv X z G q Z/\tn i Z.heap/\(∀b∈E,q b=none)/\W i m G q:=λ{k l} p P=>by
   obtain⟨m',hm,w7⟩:=hN k l P;refine⟨m',hm,i+1,k,l,p.unpinned,T.keep _ _ _ B λb c o e=>(p.pin (b,o) (dH _ (dH _ (Ep c e)))).1,λb c=>?_,w7⟩;obtain⟨o,e,d⟩:=T.obj _ _ B b c;exact(p.pin (b,o) (dH _ (dH _ (Ep c e)))).2.1
  cases f with
  | next=>obtain⟨k,l,p,P⟩:=y; exact again p P
  | cont=>obtain⟨k,l,p,P⟩:=y; exact again p P
  | brk=>obtain⟨k,l,p,y⟩:=y; exact⟨k,l,p.unpinned,y⟩
  | ret v=>obtain⟨x7,k,l,p,r7,y⟩:=y; exact⟨x7,k,l,p.unpinned,r7,y⟩
end
theorem Q2{K:Frag}{a:Ch}{xs:List V}{g:TG}{k:TS}{D:Ends}{b:St}{H:Hp}(c:Nat->St->Hp->Prop)(n:c 0 b H)(o:∀i b H,i<=xs.length->c i b H->SqT K H a xs)
  (r:∀i x b H,xs[i]?=some x->c i b H->g x b H λf H2=>k { D with nx:=c (i+1),ct:=c (i+1),bk:=D.nx } f H2) (s:∀b H,c xs.length b H->D.nx b H) :
  ∃W:Nat->Nat->St->Hp->Prop,(∃m,W 0 m b H)/\∀i m b H,W i m b H ->
   ((Y_ K a).stop i H/\D.nx b H)\/((Y_ K a).go i H/\∃N:St->Hp->Prop,(∀h d,N h d->∃l,l<m/\W (i+1) l h d)/\∀x d,(Y_ K a).yld i H x d->g x b d λf H2=>k { D with nx:=N,ct:=N,bk:=D.nx } f H2):=by
 refine⟨λi m b H=>m=xs.length - i/\i<=xs.length/\c i b H,⟨xs.length,by simp,TM _,n⟩,?_⟩;rintro i m b H ⟨rfl,t,p⟩;have q:=o i b H t p
 by_cases j:i<xs.length
 ·refine .inr ⟨⟨xs,xs[i],q,by simp⟩,_,λh d u=>⟨_,by omega,rfl,j,u⟩,λx d y=>?_⟩
  obtain⟨e,y⟩:=y;subst e;exact r i x b _ (y xs q) p
 ·have e:i=xs.length:=by omega
  subst e;exact .inl ⟨⟨xs,q,On _⟩,s b H p⟩
abbrev R2:=V->V->Hp->VK->Prop
def OpR(X:Cx)(f:Cn->Cn->Sem Cn)(r:R2):Prop :=
 ∀(a:List (Ch×Obj)) (s:FM) (b:St) (H:Hp) (x y:V) (v u:Cn) (Q:VK),Inv X a b H s->RelV x v->RelV y u->r x y H Q ->
  wpAny (model X.prog X.w) X.A (f v u) (EP X a b Q) X.xe s
def bp(X:Cx)(f:Cn->Sem Cn)(r:V->Hp->VK->Prop):Prop :=
 ∀(a:List (Ch×Obj)) (s:FM) (b:St) (H:Hp) (x:V) (v:Cn) (Q:VK),Inv X a b H s->RelV x v->r x H Q ->
  wpAny (model X.prog X.w) X.A (f v) (EP X a b Q) X.xe s
def C2(X:Cx)(f:Cn)(r:List V->Hp->VK->Prop):Prop :=
 ∀(a:List (Ch×Obj)) (s:FM) (b:St) (H:Hp) (c:List V) (d:List Cn) (Q:VK),Inv X a b H s->Vals c d->r c H Q ->
  wpAny (model X.prog X.w) X.A (call f d) (EP X a b Q) X.xe s
def EK(r:R2)(b c:TE):TE:=λa H Q=>b a H λx d=>c a d λy H2=>r x y H2 Q
def cN(r:V->Hp->VK->Prop)(a:TE):TE:=λb H Q=>a b H λx c=>r x c Q
def rI(C:Int->Int->Prop)(g:Int->Int->V):R2:=λx y H Q=>∃i j,x=.int i/\y=.int j/\C i j/\Q (g i j) H
def IY(g:Int->Int->V):R2:=λx y H Q=>∃i j,x=.int i/\y=.int j/\Q (g i j) H
def rU(g:Int->V):V->Hp->VK->Prop:=λx H Q=>∃i,x=.int i/\Q (g i) H
section
variable {X:Cx}{a b:Expr}{ta tb:TE}{pos:Pos}
theorem Yx(k:PE X a ta)(l:PE X b tb){j:List (Ch×Obj)}{s:FM}{c:St}{H:Hp}{R:V->V->Hp->Prop}(I:Inv X j c H s)
  (h:ta c H λx i=>tb c i λy H2=>R x y H2) {Q:Cn->FM->Prop} {f:Cn->Cn->Sem Cn}
  (m:∀v u g x y H2,Inv X j c H2 g->RelV x v->RelV y u->R x y H2->wpAny (model X.prog X.w) X.A (f v u) Q X.xe g) :
  wpAny (model X.prog X.w) X.A (eval a X.env) (λv d=>wpAny (model X.prog X.w) X.A (eval b X.env) (λu e=>wpAny (model X.prog X.w) X.A (f v u) Q X.xe e) X.xe d) X.xe s:=thn (k _ s c H _ I h) λv n ⟨x,i,o,p,q⟩=>thn (l _ n c i _ o q) λu g ⟨y,H2,r,t,z⟩=>m v u g x y H2 r p t z
theorem CA{c:Operator}{r:R2}(d:OpR X (binaryOp c) r)(e:PE X a ta)(f:PE X b tb):PE X (.BinOp a c b pos) (EK r ta tb):=λm s g H Q I h=>wpAny_BinOp (Yx e f I h λv u i x y H2 j k l q=>d _ i g H2 x y v u Q j k l q)
theorem Z0{c:UnaryOp}{r:V->Hp->VK->Prop}(e:bp X (unaryOp c) r)(f:PE X a ta):PE X (.UnaryOp c a pos) (cN r ta):=λm s d H Q I h=>UnaryOp_ (thn (f _ s d H _ I h) λv g ⟨x,i,j,k,l⟩=>e _ g d i x v Q j k l)
theorem aq{f:Cn->Cn->Sem Cn}{C:Int->Int->Prop}{g:Int->Int->Int}
  (c:∀(i j:Int) (t u:Tok) (s:FM) (Q:Cn->FM->Prop) (E:Cn->FM->Prop),C i j->Q (.int (g i j) s.toks) { s with toks:=s.toks+1 }->wpAny (model X.prog X.w) X.A (f (.int i t) (.int j u)) Q E s) :
  OpR X f (rI C λi j=>.int (g i j)):=by
 intro m s n H x y v u Q I d e h;obtain⟨i,j,rfl,rfl,k,q⟩:=h;obtain⟨t,rfl⟩:=d;obtain⟨l,rfl⟩:=e;exact c i j t l s _ _ k ⟨.int _,H,I.tok _,⟨_,rfl⟩,q⟩
theorem Z3{f:Cn->Cn->Sem Cn}{g:Int->Int->Int}
  (c:∀(i j:Int) (t u:Tok) (s:FM) (Q:Cn->FM->Prop) (E:Cn->FM->Prop),Q (.int (g i j) s.toks) { s with toks:=s.toks+1 }->wpAny (model X.prog X.w) X.A (f (.int i t) (.int j u)) Q E s) :
  OpR X f (IY λi j=>.int (g i j)):=by
 intro l s m H x y v u Q I d e h;obtain⟨i,j,rfl,rfl,q⟩:=h;obtain⟨t,rfl⟩:=d;obtain⟨k,rfl⟩:=e;exact c i j t k s _ _ ⟨.int _,H,I.tok _,⟨_,rfl⟩,q⟩
theorem Vy{f:Cn->Cn->Sem Cn}{g:Int->Int->Bool}
  (c:∀(i j:Int) (t u:Tok) (s:FM) (Q:Cn->FM->Prop) (E:Cn->FM->Prop),Q (.bool (g i j)) s->wpAny (model X.prog X.w) X.A (f (.int i t) (.int j u)) Q E s) :
  OpR X f (IY λi j=>.bl (g i j)):=by
 intro l s m H x y v u Q I d e h;obtain⟨i,j,rfl,rfl,q⟩:=h;obtain⟨t,rfl⟩:=d;obtain⟨k,rfl⟩:=e;exact c i j t k s _ _ ⟨.bl _,H,I,rfl,q⟩
def Wn(i j:Int):Prop:=0<j/\j<1073741824
def Ik(i j:Int):Prop:=0<=j/\j<=1000000/\i.natAbs<2 ^ 64
def CMul(i j:Int):Prop:=(-(2 ^ 64)<i/\i<2 ^ 64)\/(-(2 ^ 64)<j/\j<2 ^ 64)
theorem CMul.ok{i j:Int}(h:CMul i j):IntMulOk i j:=by
 rcases h with ⟨c,d⟩ | ⟨c,d⟩
 ·exact .of_left (intBits_le_64 c d)
 ·exact .of_right (intBits_le_64 c d)
theorem op_add:OpR X (binaryOp .Add) (IY λi j=>.int (i+j)):=Z3 λ_ _ _ _ _ _ _ q=>add_int q
theorem op_sub:OpR X (binaryOp .Sub) (IY λi j=>.int (i - j)):=Z3 λ_ _ _ _ _ _ _ q=>sub_int q
theorem op_mul:OpR X (binaryOp .Mult) (rI CMul λi j=>.int (i*j)):=aq λ_ _ _ _ _ _ _ c q=>mul_int q c.ok
theorem Ma:OpR X (binaryOp .FloorDiv) (rI Wn λi j=>.int (i / j)):=aq λi j _ _ _ _ _ c q=>by
 have d:=c.1;have e:=c.2;exact floordiv_int (by omega) (by grind) (.inl (PyProof.noPylong_small (by omega)))
theorem D5:OpR X (binaryOp .Mod) (rI (λ_ j=>0<j) λi j=>.int (i % j)):=aq λi j _ _ _ _ _ c q=>mod_int' (by omega) (by rw [Int.fmod_eq_emod_of_nonneg i (by omega)]; exact q)
theorem Eo:OpR X (binaryOp .Pow) (rI Ik λi j=>.int (i ^ j.toNat)):=aq λ_ _ _ _ _ _ _ c q=>pow_int_small c.1 c.2.1 c.2.2 q
theorem cK{f:Cn->Sem Cn}{g:Int->Int}
  (c:∀(i:Int) (t:Tok) (s:FM) (Q:Cn->FM->Prop) (E:Cn->FM->Prop),Q (.int (g i) s.toks) { s with toks:=s.toks+1 }->wpAny (model X.prog X.w) X.A (f (.int i t)) Q E s) :
  bp X f (rU λi=>.int (g i)):=by
 intro e s j H x v Q I d h;obtain⟨i,rfl,q⟩:=h;obtain⟨t,rfl⟩:=d;exact c i t s _ _ ⟨.int _,H,I.tok _,⟨_,rfl⟩,q⟩
theorem Xo:bp X (unaryOp .USub) (rU λi=>.int (-i)):=cK λ_ _ _ _ _ q=>neg_int q
end
def Zf:V->V->Bool
 | .non,.non=>true | .non,.int _=>true | .int _,.non=>true | .non,.bl _=>true | .bl _,.non=>true | .non,.str _=>true | .str _,.non=>true
 | .int _,.int _=>true | .bl _,.bl _=>true | .str _,.str _=>true | .byt _,.byt _=>true
 | .int _,.str _=>true | .str _,.int _=>true | .bl _,.str _=>true | .str _,.bl _=>true
 | _,_=>false
def b_:R2:=λx y H Q=>Zf x y=true/\Q (.bl (decide (x=y))) H
def b7:R2:=λx y H Q=>Zf x y=true/\Q (.bl (!decide (x=y))) H
theorem JC{i j:Int}:decide (V.int i=V.int j)=(i==j):=by
 rw [e_];simp
theorem NB{i j:Bool}:decide (V.bl i=V.bl j)=(i==j):=by
 rw [e_];simp
theorem JB{i j:Str}:decide (V.str i=V.str j)=(i==j):=by
 rw [e_];simp
theorem RB{i j:Array UInt8}:decide (V.byt i=V.byt j)=(i.toList==j.toList):=by
 rw [e_]
 simp_all
section
variable {X:Cx}{a b c:Expr}{ta tb tc:TE}{pos:Pos}
theorem A7{c:List (Ch×Obj)}{d:St}{H:Hp}{s:FM}{Q:VK}{k f:Bool}(I:Inv X c d H s)(q:Q (.bl k) H)(e:k=f):EP X c d Q (.bool f) s:=by
 subst e;exact⟨.bl k,H,I,rfl,q⟩
theorem CB:OpR X (compareOp .Eq) b_:=by
 intro g s k H x y v u Q I f c h;obtain⟨e,q⟩:=h;cases x with
 | non =>
  cases f;cases y with
  | non=>cases c; exact PySem.EqNone.eq_none_none (A7 I q (by simp))
  | bl j=>cases c; exact PySem.EqNone.eq_none_bool (A7 I q (by simp))
  | int j=>obtain⟨d,rfl⟩:=c; exact PySem.EqNone.eq_none_int (A7 I q (by simp))
  | str j=>obtain⟨d,rfl⟩:=c; exact PySem.EqNone.eq_none_str (A7 I q (by simp))
  | _=>exact absurd (show false=true from e) c8
 | bl i =>
  cases f;cases y with
  | non=>cases c; exact PySem.EqNone.eq_bool_none (A7 I q (by simp))
  | bl j=>cases c; exact eq_bool (A7 I q NB)
  | str j=>obtain⟨d,rfl⟩:=c; exact PySem.EqMixed.eq_bool_str (A7 I q (by simp))
  | _=>exact absurd (show false=true from e) c8
 | int i =>
  obtain⟨t,rfl⟩:=f;cases y with
  | non=>cases c; exact PySem.EqNone.eq_int_none (A7 I q (by simp))
  | int j=>obtain⟨d,rfl⟩:=c; exact eq_int (A7 I q JC)
  | str j=>obtain⟨d,rfl⟩:=c; exact PySem.EqMixed.eq_int_str (A7 I q (by simp))
  | _=>exact absurd (show false=true from e) c8
 | str i =>
  obtain⟨t,rfl⟩:=f;cases y with
  | non=>cases c; exact PySem.EqNone.eq_str_none (A7 I q (by simp))
  | bl j=>cases c; exact PySem.EqMixed.eq_str_bool (A7 I q (by simp))
  | int j=>obtain⟨d,rfl⟩:=c; exact PySem.EqMixed.eq_str_int (A7 I q (by simp))
  | str j=>obtain⟨d,rfl⟩:=c; exact eq_str (A7 I q JB)
  | _=>exact absurd (show false=true from e) c8
 | byt i =>
  obtain⟨t,rfl⟩:=f;cases y with
  | byt j=>obtain⟨d,rfl⟩:=c; exact PySem.W.eq_bytes (A7 I q RB)
  | _=>exact absurd (show false=true from e) c8
 | _=>cases y <;> exact absurd (show false=true from e) c8
theorem F7:OpR X (compareOp .NotEq) b7:=by
 intro g s k H x y v u Q I f c h;obtain⟨e,q⟩:=h;cases x with
 | non =>
  cases f;cases y with
  | non=>cases c; exact PySem.EqNone.ne_none_none (A7 I q (by simp))
  | bl j=>cases c; exact PySem.EqNone.ne_none_bool (A7 I q (by simp))
  | int j=>obtain⟨d,rfl⟩:=c; exact PySem.EqNone.ne_none_int (A7 I q (by simp))
  | str j=>obtain⟨d,rfl⟩:=c; exact PySem.EqNone.ne_none_str (A7 I q (by simp))
  | _=>exact absurd (show false=true from e) c8
 | bl i =>
  cases f;cases y with
  | non=>cases c; exact PySem.EqNone.ne_bool_none (A7 I q (by simp))
  | bl j=>cases c; exact ne_bool (A7 I q (congrArg not NB))
  | str j=>obtain⟨d,rfl⟩:=c; exact PySem.EqMixed.ne_bool_str (A7 I q (by simp))
  | _=>exact absurd (show false=true from e) c8
 | int i =>
  obtain⟨t,rfl⟩:=f;cases y with
  | non=>cases c; exact PySem.EqNone.ne_int_none (A7 I q (by simp))
  | int j=>obtain⟨d,rfl⟩:=c; exact ne_int (A7 I q (congrArg not JC))
  | str j=>obtain⟨d,rfl⟩:=c; exact PySem.EqMixed.ne_int_str (A7 I q (by simp))
  | _=>exact absurd (show false=true from e) c8
 | str i =>
  obtain⟨t,rfl⟩:=f;cases y with
  | non=>cases c; exact PySem.EqNone.ne_str_none (A7 I q (by simp))
  | bl j=>cases c; exact PySem.EqMixed.ne_str_bool (A7 I q (by simp))
  | int j=>obtain⟨d,rfl⟩:=c; exact PySem.EqMixed.ne_str_int (A7 I q (by simp))
  | str j=>obtain⟨d,rfl⟩:=c; exact ne_str (A7 I q (congrArg not JB))
  | _=>exact absurd (show false=true from e) c8
 | byt i =>
  obtain⟨t,rfl⟩:=f;cases y with
  | byt j=>obtain⟨d,rfl⟩:=c; exact PySem.W.ne_bytes (A7 I q (congrArg not RB))
  | _=>exact absurd (show false=true from e) c8
 | _=>cases y <;> exact absurd (show false=true from e) c8
theorem op_lt:OpR X (compareOp .Lt) (IY λi j=>.bl (decide (i<j))):=Vy λ_ _ _ _ _ _ _ q=>jZ q
theorem op_le:OpR X (compareOp .LtE) (IY λi j=>.bl (decide (i<=j))):=Vy λ_ _ _ _ _ _ _ q=>le_int q
theorem XD:OpR X (compareOp .Gt) (IY λi j=>.bl (decide (j<i))):=Vy λ_ _ _ _ _ _ _ q=>gt_int q
theorem Z2:OpR X (compareOp .GtE) (IY λi j=>.bl (decide (j<=i))):=Vy λ_ _ _ _ _ _ _ q=>ge_int q
theorem R9:OpR X (compareOp .Lt) (λx y H Q=>∃i j,x=.str i/\y=.str j/\Q (.bl (decide (i.cps.toList<j.cps.toList))) H):=by
 intro e s f H x y v u Q I c d h;obtain⟨i,j,rfl,rfl,q⟩:=h;obtain⟨t,rfl⟩:=c;obtain⟨g,rfl⟩:=d;exact lt_str (A7 I q rfl)
theorem SA:OpR X (compareOp .In) (λx y H Q=>∃i j,x=.str i/\y=.str j/\Q (.bl (!(d6 j i 0 j.length 1).isEmpty)) H):=by
 intro e s f H x y v u Q I c d h;obtain⟨i,j,rfl,rfl,q⟩:=h;obtain⟨t,rfl⟩:=c;obtain⟨g,rfl⟩:=d;exact in_str (A7 I q rfl)
theorem Jk:OpR X (compareOp .Is) (λx y H Q=>y=.non/\Q (.bl (decide (x=.non))) H):=by
 intro e s f H x y v u Q I c d h;obtain⟨rfl,q⟩:=h;cases d;refine is_none_gen (A7 I q ?_)
 cases x <;> first
  | omega
  | (obtain⟨t,rfl⟩:=c; rfl)
theorem Qu:OpR X (compareOp .IsNot) (λx y H Q=>y=.non/\Q (.bl (!decide (x=.non))) H):=by
 intro e s f H x y v u Q I c d h;obtain⟨rfl,q⟩:=h;cases d;refine isnot_none_gen (A7 I q ?_)
 cases x <;> first
  | omega
  | (obtain⟨t,rfl⟩:=c; rfl)
theorem OpR.or{f:Cn->Cn->Sem Cn}{r c:R2}(h:OpR X f r)(i:OpR X f c):OpR X f (λx y H Q=>r x y H Q\/c x y H Q):=by
 intro j s d H x y v u Q I e g q
 rcases q with q | q
 ·exact h _ s d H x y v u Q I e g q
 ·exact i _ s d H x y v u Q I e g q
theorem Ag(b:c_){c:CmpOp}(h:c≠.In:=by decide)(f:c≠.NotIn:=by decide):behindInMarks c b=false:=by
 have d:(c==CmpOp.In)=false:=by grind
 have e:(c==CmpOp.NotIn)=false:=by grind
 cases b <;> simp [behindInMarks,d,e]
theorem Vu{c:CmpOp}{r:R2}(d:OpR X (compareOp c) r)(e:PE X a ta)(f:PE X b tb)(g:behindInMarks c b=false):PE X (.Compare a [c] [b] pos) (EK r ta tb):=λn s i H Q I h=>wpAny_Compare1 (Yx e f I h λv u j x y H2 k l m q=>d _ j i H2 x y v u Q k l m q) g
def Qb(t:TE):TT:=λc H Q=>t c H λx d=>∃k,x=.bl k/\Q k d
theorem Gv{d:CmpOp}{r:R2}(g:OpR X (compareOp d) r)(i:PE X a ta)(j:PE X b tb)(l:behindInMarks d b=false):PT X (.Compare a [d] [b] pos) (Qb (EK r ta tb)):=by
 intro G s f H Q I h
 refine wpAny_isTrue_Compare1 (thn (i _ s f H _ I h) λv m ⟨x,n,o,p,q⟩=>thn (j _ m f n _ o q) λu t ⟨y,H2,w,A,B⟩ =>
  thn (g _ t f H2 x y v u _ w p A B) λc J ⟨z,C,D,E,k,e,F⟩=>?_) l
 subst e;cases E;exact e7 ⟨C,D,F⟩
def PR(r e:R2)(ta tb tc:TE):TE:=λc H Q=>ta c H λx f=>tb c f λy H2=>r x y H2 λz d=>∃k,z=.bl k /\
 (if k=true then tc c d λg h=>e y g h Q else Q (.bl false) d)
theorem UR{i f:CmpOp}{r l:R2}(q:OpR X (compareOp i) r)(j:OpR X (compareOp f) l)(t:PE X a ta)(w:PE X b tb)(A:PE X c tc)
  (B:lastMarks [i,f] [b,c]=false:=by with_unfolding_all rfl):PE X (.Compare a [i,f] [b,c] C) (PR r l ta tb tc):=by
 intro Y s g H Q I h
 refine Compare_chain (thn (t _ s g H _ I h) λv D ⟨x,E,F,G,J⟩=>chain_link (thn (w _ D g E _ F J) λu K ⟨y,H2,L,m,M⟩ =>
  thn (q _ K g H2 x y v u _ L G m M) λd N ⟨z,n,o,O,k,e,p⟩=>?_)) B
 subst e;cases O;refine e7 ?_;cases k with
 | false=>exact ite_ff ⟨.bl _,n,o,rfl,p⟩
 | true=>exact ite_tt (chain_last (thn (A _ N g n _ o p) λP R ⟨S,T,U,V,W⟩=>j _ R g T y S u P Q U m V W))
theorem UC{i f:CmpOp}{r l:R2}(q:OpR X (compareOp i) r)(j:OpR X (compareOp f) l)(t:PE X a ta)(w:PE X b tb)(A:PE X c tc)
  (B:lastMarks [i,f] [b,c]=false:=by with_unfolding_all rfl):PT X (.Compare a [i,f] [b,c] C) (Qb (PR r l ta tb tc)):=by
 intro zG s g H Q I h
 refine isTrue_chain (thn (t _ s g H _ I h) λv D ⟨x,E,F,G,J⟩=>test_link (thn (w _ D g E _ F J) λu K ⟨y,H2,L,m,M⟩ =>
  thn (q _ K g H2 x y v u _ L G m M) λd N ⟨z,n,o,O,k,e,p⟩=>?_)) B
 subst e;cases O;refine e7 ?_;cases k with
 | false =>
  obtain⟨k',P,R⟩:=p;cases P;exact ite_ff ⟨n,o,R⟩
 | true =>
  refine ite_tt (test_last (thn (A _ N g n _ o p) λS T ⟨U,V,W,Y,Z⟩=>thn (j _ T g V y U u S _ W m Y Z) λd' s5 ⟨z2,H5,I5,r5,k2,e2,q5⟩=>?_));subst e2;cases r5;exact e7 ⟨H5,I5,q5⟩
theorem Jx:(sizeLine:Nat)<2 ^ 63:=by decide
theorem Pw:OpR X (binaryOp .Add) (λx y H Q=>∃i j,x=.str i/\y=.str j/\i.length+j.length<=sizeLine/\Q (.str (i++j)) H):=by
 intro g s k H x y v u Q I c d h;obtain⟨i,j,rfl,rfl,e,q⟩:=h;obtain⟨t,rfl⟩:=c;obtain⟨f,rfl⟩:=d;exact add_str (λf l=>⟨.str _,H,I.tok _,⟨_,rfl⟩,q⟩) e
theorem vals1{x:V}{c:List Cn}(r:Vals [x] c):∃u,c=[u]/\RelV x u:=by
 cases r with
 | cons e d=>cases d; grind
theorem vals2{x y:V}{c:List Cn}(r:Vals [x,y] c):∃u d,c=[u,d]/\RelV x u/\RelV y d:=by
 cases r with
 | cons e f =>
  cases f with
  | cons g h=>cases h; exact⟨_,_,rfl,e,g⟩
theorem NJ:C2 X (.type "str") (λc H Q=>∃i,c=[.int i]/\i.natAbs.log2<1920/\Q (.str (toString i)) H):=by
 intro e s f H c g Q I r h;obtain⟨i,rfl,d,q⟩:=h;obtain⟨u,rfl,t,rfl⟩:=vals1 r;exact PySem.P.str_of_int d ⟨.str _,H,I.tok _,⟨_,rfl⟩,q⟩
def Y9(K:Frag)(x:V)(H:Hp)(n:Nat):Prop :=
 match x with
 | .str y=>y.length<=sizeLine/\n=y.length
 | .byt y=>y.size<=sizeLine/\n=y.size
 | .ref p=>(∃c,SqL K H p c/\n=c.length)\/∃c,SqT K H p c/\n=c.length
 | _=>False
theorem As:C2 X (.builtin "len") (λc H Q=>∃x n,c=[x]/\Y9 X.K x H n/\Q (.int n) H):=by
 intro v s w H c z Q I r h;obtain⟨x,n,rfl,e,q⟩:=h;obtain⟨u,rfl,g⟩:=vals1 r;have A:=Jx;have B:sizeLine=16777216:=di;cases x with
 | str y =>
  obtain⟨t,rfl⟩:=g;obtain⟨m,f⟩:y.length<=sizeLine/\n=y.length:=e;subst f;exact len_str (by omega) ⟨.int _,H,I.tok _,⟨_,rfl⟩,q⟩
 | byt y =>
  obtain⟨t,rfl⟩:=g;obtain⟨m,f⟩:y.size<=sizeLine/\n=y.size:=e;subst f;exact PySem.W.len_bytes (by omega) ⟨.int _,H,I.tok _,⟨_,rfl⟩,q⟩
 | ref p =>
  cases g;have f:(∃c,SqL X.K H p c/\n=c.length)\/∃c,SqT X.K H p c/\n=c.length:=e
  rcases f with ⟨c,i,f⟩ | ⟨c,i,f⟩
  ·subst f
   obtain⟨j,k,l,o⟩:=I.list i;have d:=k.length;exact Calls.call_len_list l.isList (by simp only [c9]; omega) ⟨.int c.length,H,I.tok _,⟨_,by simp only [c9]; rw [d]⟩,q⟩
  ·subst f
   obtain⟨j,k,l,o⟩:=I.tuple i;have d:=k.length;exact len_tuple l (by simp only [c9]; omega) ⟨.int c.length,H,I.tok _,⟨_,by simp only [c9]; rw [d]⟩,q⟩
 | _=>exact(show False from e).elim
end
structure ObjM (h:cw) (x dx C:Ch) (mA:Str->Option Cn):Prop where
 obj:h.get? x=some (PySem.W.instObj C dx)
 ns:h.Ns1 dx mA
 ne:dx≠x
theorem LZ{h:cw}{d:Ch}{f:Str->Option Cn}(n:h.Ns1 d f):∃g,h.get? d=some g/\∀b,PySem.W.lookIn b g=some (f b):=by
 obtain⟨o,i,q,j,k,l,_,m⟩:=n;refine⟨o,j,λb=>?_⟩;have e:=m b;unfold nsFind findBy at e;unfold PySem.W.lookIn;rw [k]
 dsimp only
 split
 ·simp_all
 ·have a:i.toList.any (·.refKey)=false:=by
   rw [List.any_eq_false];intro y p;obtain⟨z,t,c⟩:=l y (jk.mp p);simp [DictEntry.refKey,c]
  grind
theorem ObjM.look{h:cw}{x c C:Ch}{d:Str->Option Cn}(I:ObjM h x c C d):∃b,PySem.W.InstAt h x (PySem.W.instObj C c) C (some b)/\∀a,PySem.W.lookIn a b=some (d a) :=
 let ⟨b,e,f⟩:=LZ I.ns
 ⟨b,⟨I.obj,rfl,rfl,e⟩,f⟩
def EM(f:Str)(v:V):List (Str×V)->List (Str×V)
 | []=>[(f,v)]
 | (g,x)::r=>if g=f then (g,v)::r else (g,x)::EM f v r
theorem Hx(f g:Str)(v:V):∀c:List (Str×V),(EM f v c).lookup g=if g=f then some v else c.lookup g
 | []=>by
  show fR g [(f,v)]=_
  by_cases h:g=f
  ·simp_all
  simp_all
 | (k,x)::r=>by
  have d:=Hx f g v r;rw [show EM f v ((k,x)::r)=(if k=f then (k,v)::r else (k,x)::EM f v r) from rfl]
  by_cases a:k=f
  ·rw [if_pos a]
   by_cases h:g=k
   ·simp_all
   ·have b:(g==k)=false:=beq_eq_false_iff_ne.mpr h
    simp only [fR,b,if_neg (λe:g=f=>h (e.trans a.symm))]
  ·rw [if_neg a]
   by_cases h:g=k
   ·simp_all
   ·have b:(g==k)=false:=beq_eq_false_iff_ne.mpr h
    simp only [fR,b];exact d
theorem Hg(f:Str)(v:V):∀a:List (Str×V),f∈(EM f v a).map (·.1)/\∀g,g∈a.map (·.1)->g∈(EM f v a).map (·.1)
 | []=>⟨by simp [EM],λg h=>by simp at h⟩
 | (k,x)::r=>by
  obtain⟨b,c⟩:=Hg f v r;rw [show EM f v _=(if k=f then (k,v)::r else (k,x)::EM f v r) from rfl]
  grind
theorem Hy(f:Str)(v:V):∀a:List (Str×V),(EM f v a).length<=a.length+1
 | []=>by simp [EM]
 | (k,x)::r=>by
  have b:=Hy f v r;rw [show EM f v _=(if k=f then (k,v)::r else (k,x)::EM f v r) from rfl]
  grind
theorem RelO.some_of{v:V}{o:Option Cn}(r:RelO (some v) o):∃u,o=some u/\RelV v u:=by
 cases o with
 | none=>exact(r).elim
 | some u=>exact⟨u,rfl,r⟩
theorem Sb{v:V}{u:Cn}(r:RelV v u):PySem.W.handedIn u=true:=by
 cases v with
 | non=>cases (r); rfl
 | bl b=>cases (r); rfl
 | int i=>obtain⟨t,e⟩:=(r); cases e; rfl
 | str x=>obtain⟨t,e⟩:=(r); cases e; rfl
 | byt b=>obtain⟨t,e⟩:=(r); cases e; rfl
 | flt b=>obtain⟨t,e⟩:=(r); cases e; rfl
 | ref a=>cases (r); rfl
 | ty n=>cases (r); rfl
section
variable {P:Program}{w:World}{H:Hp}{h:Heap}{a C dx:Addr}{fs:List (Str×V)}
theorem WA(c:HOk P w H h)(e:H a=some (.ins C dx fs)):∃b,ObjM h a dx C b/\(∀f,RelO (fs.lookup f) (b f))/\PySem.Within b (fs.map (·.1))/\fs.length<=1000/\H dx=some (.own a):=by
 obtain⟨d,z,g,i,b,n,r,q⟩:=(c a _ e);exact⟨b,⟨i,n,g⟩,r,q,z,d⟩
end
structure Cls (K:Frag) (C:Ch):Prop where
 pg:PySem.W.plainGet K C Str.empty=true
 hd:PySem.W.hasDictIn K C=true
 po:PySem.W.plainOver K C=true
 sa:PySem.W.findIn K (.ref C) "__setattr__"=some (some (.builtin "object.__setattr__"))
theorem Cls.get{K:Frag}{C:Ch}(c:Cls K C)(f:Str):PySem.W.plainGet K C f=true:=c.pg
def Gg(K:Frag)(C:Ch)(f:Str):Prop:=PySem.W.findIn K (.ref C) f=some none
structure cf (K:Frag) (C:Ch) (f:Str) (v:V) (u:Cn):Prop where
 at_:PySem.W.findIn K (.ref C) f=some (some u)
 rel:RelV v u
 get:PySem.W.specialIn K u "__get__"=some none
 cp:PySem.W.copiedNames.contains f=false
structure cZ (K:Frag) (C:Ch) (m:Str) (f:Ch):Prop where
 at_:PySem.W.findIn K (.ref C) m=some (some (.ref f))
 fn:PySem.W.isFn K (.ref f)=true
 kp:keepIn K (.ref f)=true
section
variable {s:Shared}{f:Str}{A:Around}{E:Value->Shared->Prop}
theorem Wg{a:cz}{w:dC}{b:Env}{e:c_}{f:Str}{pos:Pos}{s:FM}{Q:Cn->FM->Prop}(d:attributeBase e f b (eval e b)=eval e b)
  (h:wpAny (model a w) A (eval e b) (λo c=>wpAny (model a w) A (getAttr o f true) Q E c) E s):wpAny (model a w) A (eval (.Attribute e f pos) b) Q E s :=
 Attribute_any_ h (by rw [arm_eval_Attribute,d])
end
section
variable {X:Cx}{zG:List (Addr×Obj)}{σ:St}{H:Hp}{s:Shared}{A:Around}{E:Value->Shared->Prop}{Q:Value->Shared->Prop}{c:Value}{b:Bool}
inductive F4 (K:Frag) (H:Hp):V->Cn->Prop where
 | non:F4 K H .non (.type "NoneType")
 | bl (x:Bool):F4 K H (.bl x) (.type "bool")
 | int (i:Int):F4 K H (.int i) (.type "int")
 | str (x:Str):F4 K H (.str x) (.type "str")
 | flt (x:UInt64):F4 K H (.flt x) (.type "float")
 | lst {a:Ch} {xs:List V} (e:H a=some (.lst xs)):F4 K H (.ref a) (.type "list")
 | frz {a:Ch} {o:Obj} {xs:List V} (e:H a=some (.frz o (.lst xs))):F4 K H (.ref a) (.type "list")
 | tup {a:Ch} {xs:List V} (e:H a=some (.tup xs)):F4 K H (.ref a) (.type "tuple")
 | dF {a:Ch} {o:Obj} {kvs:List (Key×V)} (e:H a=some (.frz o (.dK kvs))):F4 K H (.ref a) (.type "dict")
 | dK {a:Ch} {kvs:List (Key×V)} (e:H a=some (.dK kvs)):F4 K H (.ref a) (.type "dict")
 | dT {a:Ch} {kvs:List (List Key×V)} (e:H a=some (.dT kvs)):F4 K H (.ref a) (.type "dict")
 | ins {a C dx:Ch} {fs:List (Str×V)} (e:H a=some (.ins C dx fs)) (cl:Cls K C) (ha:PySem.W.findIn K (.ref C) "__class__"=some (some (.builtin "object.__class__")))
   (hn:PySem.W.specialIn K (.builtin "object.__class__") "__get__"=some (some (.builtin "getset_descriptor.__get__"))) (htk:PySem.W.takesIn K (.builtin "object.__class__")=some true)
   (hm:PySem.W.mroIn K C (.type "object")=some true):F4 K H (.ref a) (.ref C)
theorem SW{x:V}{u t:Cn}(I:Inv X zG σ H s)(f:RelV x u)(ty:F4 X.K H x t)(e:PySem.W.kitOne X.K t c=some b)(h:∀F,Q (.bool b) { s with toks:=F }) :
  wpAny (model X.prog X.w) A (call (.builtin "isinstance") [u,c]) Q E s:=by
 cases ty with
 | non=>cases (show u=dO from f); exact PySem.W.kia_one PySem.W.kitx_none I.kIn eP e (λz=>nomatch z) h
 | bl y=>cases (show u=iD y from f); exact PySem.W.kia_one PySem.W.kitx_bool I.kIn eP e (λz=>nomatch z) h
 | int i=>obtain⟨t,q⟩:=(show ∃t,u=jr i t from f); cases q; exact PySem.W.kia_one PySem.W.kitx_int I.kIn eP e (λz=>nomatch z) h
 | str y=>obtain⟨t,q⟩:=(show ∃t,u=jt y t from f); cases q; exact PySem.W.kia_one PySem.W.kitx_str I.kIn eP e (λz=>nomatch z) h
 | flt y=>obtain⟨t,q⟩:=(show ∃t,u=Value.float y t from f); cases q; exact PySem.W.kia_one PySem.W.kitx_float I.kIn eP e (λz=>nomatch z) h
 | @lst a l d =>
  cases (show u=cm a from f);obtain⟨_,_,n,_,g⟩:=(show ObjOk X.prog X.w H s.heap a (.lst l) from I.hok a _ d);exact PySem.W.kia_one PySem.W.kitx_list I.kIn ⟨_,g,rfl⟩ e (λz=>nomatch z) h
 | @frz a m l d =>
  cases (show u=cm a from f);obtain⟨_,_,_,n,_,g⟩:=(show ObjOk X.prog X.w H s.heap a (.frz m (.lst l)) from I.hok a _ d);exact PySem.W.kia_one PySem.W.kitx_list I.kIn ⟨_,g,rfl⟩ e (λz=>nomatch z) h
 | @tup a l d =>
  cases (show u=cm a from f);obtain⟨_,_,_,p⟩:=(show ObjOk X.prog X.w H s.heap a (.tup l) from I.hok a _ d);obtain⟨o,g,k,_⟩:=p;exact PySem.W.kia_one PySem.W.kitx_tuple I.kIn ⟨o,g,k⟩ e (λz=>nomatch z) h
 | @dF a m j d =>
  cases (show u=cm a from f);obtain⟨_,_,_,G,_,p⟩:=(show ObjOk X.prog X.w H s.heap a (.frz m (.dK j)) from I.hok a _ d);obtain⟨o,v,B,g,k,_⟩:=p;exact PySem.W.kia_one PySem.W.kitx_dict I.kIn ⟨o,g,k.1⟩ e (λz=>nomatch z) h
 | @dK a j d =>
  cases (show u=cm a from f);obtain⟨_,_,G,_,p⟩:=(show ObjOk X.prog X.w H s.heap a (.dK j) from I.hok a _ d);obtain⟨o,v,B,g,k,_⟩:=p;exact PySem.W.kia_one PySem.W.kitx_dict I.kIn ⟨o,g,k.1⟩ e (λz=>nomatch z) h
 | @dT a j d =>
  cases (show u=cm a from f);obtain⟨_,_,l,_,o,v,B,g,k,_⟩:=(show ObjOk X.prog X.w H s.heap a (.dT j) from I.hok a _ d);exact PySem.W.kia_one PySem.W.kitx_dict I.kIn ⟨o,g,k.1⟩ e (λz=>nomatch z) h
 | @ins a C P R d D L M r N =>
  cases (show u=cm a from f);obtain⟨S,O,_⟩:=WA I.hok d;obtain⟨T,J,_⟩:=O.look;exact PySem.W.kia_one (PySem.W.kitx_own (D.get _) D.hd L M r N) I.kIn J e (λz=>nomatch z) h
end
structure Room (k:Nat) (A:dL):Prop where
 hd:A.handled=none
 dp:A.depth+3*k+5<recursionLimit
 un:A.units+16*k+200<cLine
 gd:A.guards=some []
theorem Room.mono{j k:Nat}{A:dL}(r:Room k A)(h:j<=k):Room j A:=⟨r.hd,by have:=r.dp; omega,by have:=r.un; omega,by first | exact r.gd | grind | grind⟩
theorem Room.deeper{k:Nat}{A:dL}(r:Room (k+1) A)(a:Env):Room k (A.deeper a) :=
 ⟨r.hd,by have:=r.dp; show A.depth+1+3*k+5<_; omega,by have:=r.un; show A.units+3+16*k+200<_; omega,by first | exact r.gd | omega | grind⟩
theorem Room.in1{k:Nat}{A:dL}(r:Room (k+1) A):Room k A.in1 :=
 ⟨r.hd,by have:=r.dp; grind,by have:=r.un; grind,by first | exact r.gd | omega | grind⟩
theorem P7{A:dL}{C:Ch}{a:List Cn}{b:List (Str×Cn)}:(A.under (.builtin "type.__call__" ⟨.ref C::a,b⟩)).depth=A.depth+1:=by
 first | rfl | omega
theorem P6{A:dL}{C:Ch}{a:List Cn}{b:List (Str×Cn)}:(A.under (.builtin "type.__call__" ⟨.ref C::a,b⟩)).units=A.units+1:=by
 first | rfl | omega
theorem Room.make{k:Nat}{A:dL}(r:Room (k+1) A)(C:Ch)(a:List Cn)(b:List (Str×Cn)):Room k (A.under (.builtin "type.__call__" ⟨.ref C::a,b⟩)) :=
 ⟨r.hd,by have:=r.dp; rw [P7]; omega,by have:=r.un; rw [P6]; omega,by first | exact r.gd | omega | grind⟩
theorem Room.depth{k:Nat}{A:dL}(r:Room k A):A.depth<recursionLimit:=by have:=r.dp; omega
theorem Room.units{k:Nat}{A:dL}(r:Room k A):A.units+64<cLine:=by have:=r.un; omega
theorem Room.units0{k:Nat}{A:dL}(r:Room k A):A.units<cLine:=by have:=r.un; omega
def Ve:TA:=λ_ H Q=>Q [] H
def Qc(b:TE)(c:TA):TA:=λa H Q=>b a H λx d=>c a d λe H2=>Q (x::e) H2
section
variable {X:Cx}{e:Expr}{es:List Expr}{te:TE}{t:TA}{pos:Pos}
theorem B0:PA X [] Ve:=λ_ _ _ _ H Q I h=>gy ⟨[],H,I,.nil,h⟩
theorem BB(b:PE X e te)(c:PA X es t)(d:starEach (e::es) X.env=(false,eval e X.env)::starEach es X.env:=by rfl):PA X (e::es) (Qc te t):=by
 intro f p s a H Q I h;rw [d];exact gC (thn (b _ s a H _ I h) λu g ⟨x,i,j,k,l⟩=>thn (c _ _ g a i _ j l) λq r ⟨v,H2,m,n,o⟩=>⟨_,H2,m,.cons k n,o⟩)
def bJ(t:TA):TE:=λc H Q=>t c H λa b=>a.length<=sizeLine/\∀p,b p=none->Q (.ref p) (A4 b p (.tup a))
def bN(t:TA):TE:=λc H Q=>t c H λa b=>a.length<=sizeLine/\∀p,b p=none->Q (.ref p) (A4 b p (.lst a))
theorem Pt{x1}(h:PA X es t):PE X (.Tuple es x1 pos) (bJ t):=by
 intro f s g H Q I i;refine wpAny_Tuple_spliced (thn (h pos f s g H _ I i) λj a ⟨k,c,d,r,z,q⟩=>⟨by rw [← r.length]; exact z,?_⟩);have l:c a.heap.objs.size=none:=d.hok.fresh (On _);refine⟨.ref a.heap.objs.size,A4 c a.heap.objs.size (.tup k),d.laid (t':=a.toks) (λb u e=>Ev _ e) (On _) ?_,rfl,q _ l⟩;exact⟨z,j,r,IsTupN.new _ _⟩
theorem Pu(h:PA X es t):PE X (.List es pos) (bN t):=by
 intro f s g H Q I i;refine wpAny_List_spliced (thn (h pos f s g H _ I i) λj a ⟨k,c,d,r,z,q⟩=>⟨by rw [← r.length]; exact z,?_⟩);have l:c a.heap.objs.size=none:=d.hok.fresh (On _);refine⟨.ref a.heap.objs.size,A4 c a.heap.objs.size (.lst k),d.laid (t':=a.toks) (λb u e=>Ev _ e) (On _) ?_,rfl,q _ l⟩;exact⟨z,j,0,r,cj _ rfl⟩
end
abbrev Sp:=List V->Hp->VK->XK->Prop
abbrev S2:=List Env->Hp->FM->XK->Cn->FM->Prop
structure Env0 (P:cz) (w:dC) (K:Frag) (mg:Str->Option Cn) (base:cw) (A:dL) (outer:List Env) (s:FM) (H:Hp):Prop where
 frames:A.frames=some outer
 mod:Mod K mg base
 bs:∀b o,base.get? b=some o->s.heap.get? b=some o/\H b=none
 bsz:base.objs.size<=s.heap.objs.size
 funs:s.heap.FunFrames base outer
 frf:∀b∈Lj outer,H b=none
 hok:HOk P w H s.heap
 bare:gK s.gens
def CE(a:List Env)(P:cz)(w:dC)(H:Hp)(s:FM)(Q:VK)(u:Cn)(b:FM):Prop :=
 ∃v c,b.os=s.os/\gK b.gens/\Un (Lj a) [] H c s.heap b.heap/\HOk P w c b.heap/\RelV v u/\Q v c
def CR(c:S2)(a:List Env)(P:cz)(w:dC)(H:Hp)(s:FM)(Q:VK)(E:XK)(r:Result)(b:FM):Prop :=
 match r with
 | .ok (.ret u)=>CE a P w H s Q u b
 | .ok _=>False
 | .error e=>c a H s E e b
structure BD (P:cz) (w:dC) (K:Frag) (mg:Str->Option Cn) (base:cw) (CX:S2) (k:Nat) (f:Ch) (fd:dU) (ps:List Str) (sp:Sp):Prop where
 len:∀vs H Q E,sp vs H Q E->vs.length=ps.length
 run:∀(A:dL) (outer:List Env) (s:FM) (H:Hp) (args:Args) (us:List Cn) (vs:List V) (Q:VK) (E:XK),Room k A->Env0 P w K mg base A outer s H->iX s fd args (ps.zip us)->Vals vs us->sp vs H Q E ->
  codeAny (model P w) A (.call (.ref f) args) (CR CX outer P w H s Q E) s
theorem Env0.make{P:cz}{w:dC}{K:Frag}{c:Str->Option Cn}{b:cw}{A:dL}{a:List Env}{s:FM}{H:Hp}(e:Env0 P w K c b A a s H)(C:Ch)(d:List Cn)(f:List (Str×Cn)) :
  Env0 P w K c b (A.under (.builtin "type.__call__" ⟨.ref C::d,f⟩)) a s H:=⟨by first | exact e.frames | grind,e.mod,e.bs,e.bsz,e.funs,e.frf,e.hok,e.bare⟩
theorem Env0.in1{P:cz}{w:dC}{K:Frag}{c:Str->Option Cn}{b:cw}{A:dL}{a:List Env}{s:FM}{H:Hp}(e:Env0 P w K c b A a s H) :
  Env0 P w K c b A.in1 a s H:=⟨e.frames,e.mod,e.bs,e.bsz,e.funs,e.frf,e.hok,e.bare⟩
section
variable {X:Cx}{zG:List (Addr×Obj)}{σ:St}{H:Hp}{s s':Shared}
theorem Inv.env0(I:Inv X zG σ H s):Env0 X.prog X.w X.K X.mg X.base X.A X.stack s H :=
 ⟨I.ok.frames,I.ok.mod,I.bs,cx I.ok.bsz I.sz,I.stack,I.stkFree,I.hok,I.bare⟩
theorem Inv.after{Q:VK}{u:Cn}(I:Inv X zG σ H s)(h:CE X.stack X.prog X.w H s Q u s'):EP X zG σ Q u s':=by
 obtain⟨v,f,i,a,j,c,r,q⟩:=h;obtain⟨k,g,d,t,e⟩:=s';obtain rfl:e=s.os:=i;exact⟨v,f,I.call j c a (λb z=>absurd z (by simp)),r,q⟩
end
def Th(b:Sp)(a:List V)(E:XK)(t:TA):TE:=λc H Q=>t c H λd e=>b (d++a) e Q E
def Binds(K:Frag)(fd:dU)(b:List Str)(c:List Cn):Prop :=
 ∀(s:FM) (a:List Cn),K.In s.heap->(a++c).length=b.length->iX s fd ⟨a,[]⟩ (b.zip (a++c))
theorem Binds.all{K:Frag}{fd:dU}{b:List Str}(h:∀a:List Cn,a.length=b.length->bindArgs fd ⟨a,[]⟩=pure (b.zip a)):Binds K fd b []:=λs a _ c=>by
 rw [dS] at c ⊢;exact .of_eq (h a c)
def Hr(b:S2)(X:Cx)(E:XK):Prop:=∀(c:List (Ch×Obj)) (d:St) (H:Hp) (s:FM) (e:Cn) (a:FM),Inv X c d H s->b X.stack H s E e a->X.xe e a
section
variable {X:Cx}{CX:S2}{k:Nat}{f C:Addr}{fd:FuncData}{ps:List Str}{sp:Sp}{dvs:List V}{ds:List Value}{E:XK}{x:Str}{p pos:Pos}{e:Expr}{es:List Expr}{t:TA}
theorem X3{d:List (Ch×Obj)}{g:St}{H:Hp}{s:FM}{Q:VK}{a:List Cn}{c:List V}(F:BD X.prog X.w X.K X.mg X.base CX k f fd ps sp)(j:Room k X.A)(l:Binds X.K fd ps ds)(hd:Vals dvs ds)(m:Hr CX X E)
  (I:Inv X d g H s) (r:Vals c a) (h:sp (c++dvs) H Q E):wpAny (model X.prog X.w) X.A (call (.ref f) a) (EP X d g Q) X.xe s:=by
 have i:Vals (c++dvs) (a++ds):=r.append hd;have n:(a++ds).length=ps.length:=by rw [← i.length]; exact F.len _ _ _ _ h
 refine fj (ft (F.run X.A X.stack s H ⟨a,[]⟩ (a++ds) (c++dvs) Q E j I.env0 (l s a I.kIn n) i h) λr o b=>?_);cases r with
 | error e=>exact m d g H s e o I b
 | ok q =>
  cases q with
  | ret u=>exact I.after b
  | next=>exact dX b
  | brk=>exact dX b
  | cont=>exact dX b
theorem Qr(F:BD X.prog X.w X.K X.mg X.base CX k f fd ps sp)(d:Room k X.A)(g:Gl X x)(i:X.mg x=some (.ref f))(j:keepIn X.K (.ref f)=true)(l:Binds X.K fd ps ds)(hd:Vals dvs ds)(m:Hr CX X E)
  (n:PA X (e::es) t) (a:(x==("__debug__":Str))=false:=by decide) (o:starEach (e::es) X.env=(false,eval e X.env)::starEach es X.env:=by rfl) (b:(backTo pos (starEach es X.env)).any (·.1)=false:=by rfl) :
  PE X (.Call (.Name x p) (e::es) [] pos) (Th sp dvs E t):=λv s u H Q I h=>eN (Dq I g i (PySem.W.callWith_K I.ok.mod.kin j (thn (n _ _ s u H _ I h) λy z ⟨B,D,c,r,q⟩=>⟨c.kIn,X3 F d l hd m c r q⟩) o b) a)
structure Mk (K:Frag) (C f:Ch):Prop where
 makes:PySem.W.makesIn K C=true
 init:PySem.W.findIn K (.ref C) "__init__"=some (some (.ref f))
 fn:PySem.W.isFn K (.ref f)=true
 kp:keepIn K (.ref C)=true
end
section
variable {fd:FuncData}{ps ks:List Str}
structure bu (K:Frag) (fd:dU) (ps ks:List Str) (g:List Cn->List Cn->List Cn) (gV:List V->List V->List V):Prop where
 to:∀(s:FM) (us ws:List Cn),K.In s.heap->(g us ws).length=ps.length->iX s fd ⟨us,ks.zip ws⟩ (ps.zip (g us ws))
 rel:∀{vs:List V} {us:List Cn} {zs:List V} {ws:List Cn},Vals vs us->Vals zs ws->Vals (gV vs zs) (g us ws)
end
structure Ai (N P:List Str) (sc:fF):Prop where
 kind:sc.kind=.function
 co:sc.isCoroutine=false
 gen:sc.isGenerator=false
 nd:N.Nodup
 pre:N.take P.length=P
 par:∀x∈P,sc.names.lookup x=some .local\/sc.names.lookup x=some .cell
 nofree:∀y∈sc.names,y.2≠.free
theorem Lu{a:Str->Option fN}{x:Str}:∀{binds:List (Str×Cn)} {m:Str->Option Cn},(∀v,(x,v)∉binds)->bindL a binds m x=m x
 | [],_,_=>rfl
 | (n,v)::r,m,h=>by
  unfold bindL;rw [Lu λw b=>h w (Re _ b)]
  split
  ·grind
  ·rfl
theorem Lw{a:Str->Option fN}{x:Str}:∀{binds:List (Str×Cn)} {m:Str->Option Cn},(∀v,(x,v)∉binds)->bindC a binds m x=m x
 | [],_,_=>rfl
 | (n,v)::r,m,h=>by
  unfold bindC;rw [Lw λw b=>h w (Re _ b)]
  split
  ·rfl
  grind
theorem Lv{a:Str->Option fN}{x:Str}{v:Cn}:∀{P:List Str} {b:List Cn} {i:Nat} {m:Str->Option Cn},P.Nodup->P[i]?=some x->b[i]?=some v->a x=some .local ->
  bindL a (P.zip b) m x=some v
 | [],_,_,_,_,h,_,_=>by simp at h
 | _::_,[],_,_,_,_,h,_=>by simp at h
 | p::P,w::b,0,m,c,d,e,f=>by
  simp at d e; subst d; subst e
  show bindL a ((p,w)::P.zip b) m p=_;unfold bindL;rw [Lu λv g=>(dM.mp c).1 (gh g).1,if_pos f];simp
 | p::P,w::b,i+1,m,c,d,e,f=>by
  unfold bindL;exact Lv (i:=i) (dM.mp c).2 (by simp_all) (by simp_all) f
theorem Lx{a:Str->Option fN}{x:Str}{v:Cn}:∀{P:List Str} {b:List Cn} {i:Nat} {m:Str->Option Cn},P.Nodup->P[i]?=some x->b[i]?=some v->a x≠some .local ->
  bindC a (P.zip b) m x=some v
 | [],_,_,_,_,h,_,_=>by simp at h
 | _::_,[],_,_,_,_,h,_=>by simp at h
 | p::P,w::b,0,m,c,d,e,f=>by
  simp at d e; subst d; subst e
  show bindC a ((p,w)::P.zip b) m p=_;unfold bindC;rw [Lw λv g=>(dM.mp c).1 (gh g).1,if_neg f];simp
 | p::P,w::b,i+1,m,c,d,e,f=>by
  unfold bindC;exact Lx (i:=i) (dM.mp c).2 (by simp_all) (by simp_all) f
def start(N:List Str)(a:List V):St:=a.map some++Uf (N.length - a.length) none
def EX(i:S2)(P:cz)(w:dC)(K:Frag)(mg:Str->Option Cn)(base:cw)(N:List Str)(c:Str)(a:fF)(f:Ch)(h:Cn)(A:dL)(outer:List Env)(s:FM)(H:Hp)(E:XK):Cx where
 prog:=P
 w:=w
 K:=K
 mg:=mg
 base:=base
 A:=A.deeper (envOfC c a s.heap.objs.size f h)
 N:=N
 s₀:=s
 H₀:=H
 env:=envOfC c a s.heap.objs.size f h
 outer:=outer
 stack:=envOfC c a s.heap.objs.size f h::outer
 ex:=[]
 calm:=true
 fn:=λ_=>true
 pn:=[]
 xe:=λe k=>wpAny (model P w) (A.deeper (envOfC c a s.heap.objs.size f h)) (leaving (envOfC c a s.heap.objs.size f h) e) (λ_ g=>i outer H s E e g) (λl g=>i outer H s E l g) k
theorem Oz{a:fF}{n:Nat}{x:Str}(h:a.names.lookup x=some .cell):∃c,(cellsFrom n a.names []).lookup x=some c:=by
 have q:=PySem.W.cellsFrom_some a.names n [] (.inl h);exact Option.isSome_iff_exists.mp q
theorem Lh{Q:S2}{P:cz}{w:dC}{K:Frag}{M:Str->Option Cn}{m:cw}{N t:List Str}{j:Str}{d:fF}{f:Ch}{I:Cn}{A:dL}{g:List Env}{s R:FM}{H:Hp}{E:XK}{O:List Cn}{B:List V}
  (S:Ai N t d) (hd:A.handled=none) (o:Env0 P w K M m A g s H) (Z:B.length=t.length) (r:Vals B O)
  (x:InCallC s s.heap.objs.size (bindL (envOfC j d s.heap.objs.size f I).kindOf (t.zip O) λ_=>none) (cellsFrom (s.heap.objs.size+1) d.names []) (bindC (envOfC j d s.heap.objs.size f I).kindOf (t.zip O) λ_=>none) R) :
  Inv (EX Q P w K M m N j d f I A g s H E) [] (start N B) H R:=by
 have W:t.length<=N.length:=by have:=congrArg fo S.pre; rw [eg] at this; omega
 obtain⟨J,tk,rfl,T⟩:=x.done;have C:∀b:Ch,b∉(EX Q P w K M m N j d f I A g s H E).ex:=λb z=>absurd (show b∈([]:List Ch) from z) (by simp)
 refine⟨⟨o.mod,S.kind,rfl,rfl,On _,λy z c J l=>?_,λy D=>?_,λy c _ h=>?_,λ_=>hd,jl o.frames,.inr ⟨rfl,rfl⟩,λb z=>absurd z (C b),o.bs,o.bsz,λb _ _=>C b,λb z=>absurd z (C b),o.funs,o.frf⟩,
  rfl,o.bare,Un.kept T,⟨_,x.toInCall.ns,λi y v J l h3=>?_⟩,λy c h=>⟨_,x.cell y c h⟩,o.hok.fresh (On _),λy c h=>?_,λp F=>absurd (show p∈([]:List (Ch×Obj)) from F) (by simp),o.hok.kept T,?_⟩
 ·exact name_of_addr x.apart (PySem.mem_of_lookup J) (PySem.mem_of_lookup l)
 ·have D:d.names.lookup y=some .cell\/d.names.lookup y=some .free:=D
  rcases D with D | D
  ·exact Oz D
  ·exact absurd rfl (S.nofree _ (PySem.mem_of_lookup D))
 ·exact jG (x.above y c (PySem.mem_of_lookup h))
 ·have L:i<B.length:=by
   unfold start at l
   by_cases L:i<B.length
   ·exact L
   ·rw [eB (by simpa using L)] at l
    rw [gs] at l
    split at l <;> cases l
  have X:B[i]?=some v:=by
   unfold start at l;rw [fk (by simpa using L),dR] at l;cases e:B[i]? with
   | none=>rw [e] at l; cases l
   | some a=>rw [e] at l; cases l; rfl
  obtain⟨u,U,Y⟩:=r.get X
  have F:t[i]?=some y:=by
   rw [← S.pre,List.getElem?_take_of_lt (by omega)]; exact J
  have G:t.Nodup:=by rw [← S.pre]; exact S.nd.sublist (List.take_sublist _ _)
  refine⟨u,Y,?_⟩
  rcases S.par y (dj F) with k | k
  ·exact .inl ⟨k,Lv G F U k⟩
  ·obtain⟨c,e⟩:=Oz (n:=s.heap.objs.size+1) k
   refine .inr ⟨.inl k,c,e,?_⟩;have q:=x.cell y c e;rw [Lx G F U (by show d.names.lookup y≠_; rw [k]; decide)] at q;exact q
 ·exact o.hok.fresh (jG (x.above y c (PySem.mem_of_lookup h)))
 ·unfold start
  show _=N.length;rw [XV,Go,jf];omega
theorem XI{L:S2}{P:cz}{w:dC}{K:Frag}{M:Str->Option Cn}{h:cw}{k:Nat}{f:Ch}{name d:Str}{i:Arguments}{j:List dE}{a:fF}{dV kV C pm g ct oc:Cn}{an od:Option Ch}
  {T:Array (Option Cn)} {N O:List Str} {U:Sp} (lk:K.lookup f=some ⟨oc,od,.func (fnOf name d i j a dV kV C pm an g ct),T⟩) (X:codeIn K g d=true) (S:Ai N O a)
  (len:∀l H Q E,U l H Q E->l.length=O.length)
  (p:∀(A:dL) (c:List Env) (s:FM) (H:Hp) (l:List V) (Q:VK) (E:XK),Room k (A.deeper (envOfC d a s.heap.objs.size f g))->U l H Q E ->
   ∃t,PSs (EX L P w K M h N d a f g A c s H E) j t/\t { nx:=λ_ m=>Q .non m,rt:=Q } (start N l) H) :
  BD P w K M h L (k+1) f (fnOf name d i j a dV kV C pm an g ct) O U:=by
 refine⟨len,λA c s H a0 us l Q E Y D hb r F=>?_⟩;have hl:=len _ _ _ _ F;have KX:K.In s.heap:=D.mod.kin.keeps λb o e=>(D.bs b o e).1;have Z:s.heap.NoLimit:=D.mod.nolimit.keeps λb o e=>(D.bs b o e).1
 have z:∀y∈O.zip us,a.names.lookup y.1=some .local\/(a.names.lookup y.1=some .cell/\((cellsFrom (s.heap.objs.size+1) a.names []).lookup y.1).isSome=true):=fun⟨n,v⟩ hy=>by
  rcases S.par n (gh hy).1 with q | q
  ·exact .inl q
  ·exact .inr ⟨q,PySem.W.cellsFrom_some _ _ _ (.inl q)⟩
 refine codeAny_call_function Y.depth (KX _ _ lk) rfl S.co S.gen rfl (PySem.W.codeRec_of KX X) (hb _ _ _ _ ?_);refine ir S.kind z λa1 he s1 x=>?_;subst he;refine⟨Z.keeps x.toInCall.keep,codeAny_func ?_⟩;obtain⟨t,ht,hq⟩:=p A c s H l Q E (Y.deeper _) F;have I:Inv (EX L P w K M h N d a f g A c s H E) [] (start N l) H s1:=Lh S Y.hd D hl r x;refine dP (ht [] s1 (start N l) H _ I hq) (λfl s' B=>?_) λe s' B=>B
 have G:∀{R:St} {m:Hp} {v:V} {u:Cn},Inv (EX L P w K M h N d a f g A c s H E) [] R m s'->RelV v u->Q v m->CE c P w H s Q u s' :=
  λ{R m v u} J rv q=>⟨v,m,J.os,J.bare,J.base,J.hok,rv,q⟩
 cases fl with
 | ret u =>
  obtain⟨v,R,m,J,rv,q⟩:=B;exact G J rv q
 | next =>
  obtain⟨R,m,J,q⟩:=B;exact G (v:=V.non) (u:=dO) J rfl q
 | brk =>
  obtain⟨_,_,_,q⟩:=B;exact dX q
 | cont =>
  obtain⟨_,_,_,q⟩:=B;exact dX q
section
variable {X:Cx}{x:Str}{p pos:Pos}{e:Expr}{es:List Expr}{t:TA}{id T:String}{r:List V->Hp->VK->Prop}
def al(r:List V->Hp->VK->Prop)(t:TA):TE:=λa H Q=>t a H λb c=>r b c Q
theorem Cv(d:C2 X (.builtin id) r)(f:Gl X x)(g:X.mg x=none)(i:bootBuiltins x=some (.builtin id))(j:PA X (e::es) t)(k:x ≠ "__name__":=by decide)(a:(x==("__debug__":Str))=false:=by decide)
  (l:starEach (e::es) X.env=(false,eval e X.env)::starEach es X.env:=by rfl) (b:(backTo pos (starEach es X.env)).any (·.1)=false:=by rfl):PE X (.Call (.Name x p) (e::es) [] pos) (al r t):=λy s c H Q I h=>eN (FT I f g i (PyProof.Rows.callWith_builtin1 (thn (j _ _ s c H _ I h) λm n ⟨o,q,u,v,w⟩=>d _ n c q o m Q u v w) l b) k a)
theorem LU(d:C2 X (.type T) r)(f:Gl X x)(g:X.mg x=none)(i:bootBuiltins x=some (.type T))(j:PA X (e::es) t)(k:x ≠ "__name__":=by decide)(a:(x==("__debug__":Str))=false:=by decide)
  (l:starEach (e::es) X.env=(false,eval e X.env)::starEach es X.env:=by rfl) (b:(backTo pos (starEach es X.env)).any (·.1)=false:=by rfl):PE X (.Call (.Name x p) (e::es) [] pos) (al r t):=λy s c H Q I h=>eN (FT I f g i (e9 (thn (j _ _ s c H _ I h) λm n ⟨o,q,u,v,w⟩=>d _ n c q o m Q u v w) l b) k a)
end
end L2
namespace HT
section
variable {prog:Program}{w:World}{A:Around}{E:Value->Shared->Prop}{s:Shared}
theorem cat_tup{t b:Ch}{d c:List Cn}{Q:Cn->FM->Prop}(u:IsTup s.heap t d.toArray)(v:IsTup s.heap b c.toArray)(z:d≠[])
  (x:c=[]->Q (.ref t) s) (B:c≠[]->Q (.ref s.heap.objs.size) { s with heap:=s.heap.push { cls:=.type "tuple",data:=.seq (d++c).toArray } })
  (y:d.length+c.length<=sizeLine):wpAny (model prog w) A (binaryOp .Add (.ref t) (.ref b)) Q E s:=by
 obtain⟨⟨cls,k,data,l⟩,i,m,n,o⟩:=id u;obtain⟨⟨p,e,j,f⟩,a,g,q,h⟩:=id v;simp only at m o g h;subst m o g h
 by_cases r:c=[]
 ·exact concat_meets ⟨_,i,rfl⟩ ⟨_,a,rfl⟩ jI seq_tuple_add PySem.F.slot_tuple_add PySem.F.entry_tuple_add (PySem.F.args_tuple_add_2 _ _)
   (tuple_addW1 t b d.toArray c.toArray n q k e l f (by simp_all) (by simp [r])) ⟨i,a,x r⟩
 ·refine concat_meets ⟨_,i,rfl⟩ ⟨_,a,rfl⟩ jI seq_tuple_add PySem.F.slot_tuple_add PySem.F.entry_tuple_add (PySem.F.args_tuple_add_2 _ _)
   (tuple_addW2 t b d.toArray c.toArray n q k e l f (by grind) (by grind) (by omega)) ⟨i,a,?_⟩
  simp_all
def sIx(n d:Nat):Option Int->Nat
 | none=>d
 | some v=>if v<0 then (v+(n:Int)).toNat else min v.toNat n
theorem sIx_none(n d:Nat):sIx n d none=d:=rfl
theorem sIx_nat(n d k:Nat):sIx n d (some (k:Int))=min k n:=by
 show (if k<0 then ((k:Int)+n).toNat else min _ n)=min k n;rw [if_neg (by omega),gH]
theorem X2(n d:Nat)(hd:d<=n)(o:Option Int):sIx n d o<=n:=by
 cases o with
 | none=>exact hd
 | some v =>
  show (if v<0 then (v+n).toNat else min _ n)<=n
  grind
theorem RD(v:Int)(n d:Nat):(if v<0 then max (v+(n:Int)) 0 else min v (n:Int))=((sIx n d (some v):Nat):Int):=by
 show (if v<0 then max _ 0 else min v _)=(if v<0 then (v+n).toNat else min _ n)
 grind
theorem QN(a b:Option Int)(n:Nat):fm a b 1 (n:Int)=(((sIx n 0 a:Nat):Int),((sIx n n b:Nat):Int)):=by
 refine Prod.ext ?_ ?_
 ·cases a with
  | none=>rfl
  | some v=>exact RD v n 0
 ·cases b with
  | none=>rfl
  | some v=>exact RD v n n
theorem Pp(i j:Nat):eV (i:Int) (j:Int) 1=j - i:=by
 unfold eV
 grind
theorem slicePart_{v:Cn}{o:Option Int}{Q:Option Int->FM->Prop}(p:iF v o)(h:Q o s):wpAny (model prog w) A (Builtin.Slice.slicePartIndex v) Q E s:=by
 cases p with
 | none=>exact slicePart_none h
 | int i t=>exact slicePart_int h
theorem sliceApplied_gen{g:Ch}{e f:Cn}{a d:Option Int}{n:Nat}{Q:Int×Int×Nat->FM->Prop}(i:s.heap.IsSliceOf g e f .none)(j:iF e a)(k:iF f d)
  (h:Q (((sIx n 0 a:Nat):Int),1,sIx n n d - sIx n 0 a) s):wpAny (model prog w) A (iu (.ref g) (pure (n:Int))) Q E s:=by
 obtain⟨m,b,l,c⟩:=id i;refine Db (Db (de b c (x:=e) rfl (Db (de b c (x:=f) rfl (Db (de b c (x:=.none) rfl (Sc ?_)))))));refine Db (slicePart_none ?_);refine Db (slicePart_ j (Db (slicePart_ k (Db (Sc ?_)))));show wpAny _ _ (match fm a d 1 (n:Int) with | (a,d)=>pure (a,(1:Int),eV a d 1)) _ _ s;rw [QN a d n];show wpAny _ _ (pure _) _ _ s;rw [Pp];exact Sc h
theorem UH(a:Array Cn)(i k:Nat):((dD k).filterMap fun(m:Nat)=>a[((i:Int)+(m:Int)*1).toNat]?).toArray=((a.toList.drop i).take k).toArray:=by
 have e:(fun(m:Nat)=>a[((i:Int)+(m:Int)*1).toNat]?)=λm=>a[i+m]?:=by
  grind
 rw [e]
 have:=pick_run a i k
 rw [ii] at this;have b:((λx=>a[x]?)∘λx=>i+x)=λm=>a[i+m]?:=rfl
 grind
theorem getItem_tuple_cut{t g:Ch}{a:Array Cn}{n o:Cn}{c d:Option Int}{Q:Cn->FM->Prop}(f:IsTup s.heap t a)(p:s.heap.IsSliceOf g n o .none)(q:iF n c)(r:iF o d)
  (y:¬(sIx a.size 0 c=0/\sIx a.size a.size d=a.size))
  (h:Q (.ref s.heap.objs.size) { s with heap:=s.heap.push { cls:=.type "tuple",data:=.seq ((a.toList.drop (sIx a.size 0 c)).take (sIx a.size a.size d - sIx a.size 0 c)).toArray } })
  (u:a.size<=sizeLine):wpAny (model prog w) A (getItem (.ref t) (.ref g)) Q E s:=by
 have e:sizeOk (.seq ((a.toList.drop (sIx a.size 0 c)).take (sIx a.size a.size d - sIx a.size 0 c)).toArray):=by
  show ((a.toList.drop (sIx a.size 0 c)).take (sIx a.size a.size d - sIx a.size 0 c)).toArray.size<=sizeLine;rw [c9,eg,fu,eT];omega
 have z:sIx a.size a.size d<=a.size:=X2 _ _ (On _) d;obtain⟨v,i,j,x⟩:=id p;have k:s.TypeIs (.ref g) "slice":=⟨v,i,j⟩;unfold getItem
 try with_reducible refine dw ?_
 first | refine Db (Sc ?_) | skip
 refine Db (i5 f.typeIs (by decide) ?_)
 refine Db (eO (name:=dk "__getitem__") f.typeIs dN
  (fO dN f.typeIs iV ?_ (ij _ _)))
 show wpAny _ _ (gZ (.ref t) >>= _) _ _ s;refine Db (tupleItemsOf_ f ?_);refine Db (iG k ?_);rw [if_pos (by decide)];refine Db (sliceApplied_gen p q r ?_)
 have l:¬((((sIx a.size 0 c:Nat):Int)==0&&(1:Int)==1&&(sIx a.size a.size d - sIx a.size 0 c)==a.size)=true):=by
  grind
 show wpAny _ _ (if (((sIx a.size 0 c:Nat):Int)==0&&(1:Int)==1&&(sIx a.size a.size d - sIx a.size 0 c)==a.size)=true then _ else _) _ _ s;rw [if_neg l,UH]
 first
  | exact Db (m:=jJ _) (fh (Sc ⟨_,rfl,Sc h⟩) e)
  | grind
  | grind
  | grind
end
end HT
namespace L2
abbrev TO:=St->Hp->(Option Int->Hp->Prop)->Prop
def PO(X:Cx)(e:Option c_)(t:TO):Prop :=
 ∀(b:List (Ch×Obj)) (s:FM) (a:St) (H:Hp) (Q:Option Int->Hp->Prop),Inv X b a H s->t a H Q ->
  wpAny (model X.prog X.w) X.A (evalPart e X.env) (λu d=>∃o c,Inv X b a c d/\iF u o/\Q o c) X.xe s
def Vd:TO:=λ_ H Q=>Q none H
def ZW(t:TE):TO:=λa H Q=>t a H λx b=>∃i,x=.int i/\Q (some i) b
section
variable {X:Cx}{e:Expr}{te:TE}{lo hi:Option Expr}{tl th:TO}{pos p2:Pos}
theorem Qo:PO X none Vd:=λa s b H Q I h=>Sc ⟨_,H,I,.none,h⟩
theorem Qn(h:PE X e te):PO X (some e) (ZW te):=by
 intro j s a H Q I b;refine thn (h _ s a H _ I b) λu k ⟨x,c,d,f,g⟩=>?_;obtain⟨i,rfl,q⟩:=g;obtain⟨t,rfl⟩:=f;exact⟨_,c,d,.int i t,q⟩
def SlR(X:Cx)(r:V->Option Int->Option Int->Hp->VK->Prop):Prop :=
 ∀(a:List (Ch×Obj)) (s:FM) (b:St) (H:Hp) (x:V) (v c d:Cn) (lo hi:Option Int) (e:Ch) (Q:VK),Inv X a b H s->RelV x v->s.heap.IsSliceOf e c d .none->iF c lo->iF d hi->r x lo hi H Q ->
  ∃T f,typeLookup (.type T) "__getitem__"=pure (some (.builtin f))/\s.TypeIs v T/\wpAny (model X.prog X.w) X.A (getItem v (.ref e)) (EP X a b Q) X.xe s
theorem SlR.or{r a:V->Option Int->Option Int->Hp->VK->Prop}(h:SlR X r)(k:SlR X a):SlR X (λx lo hi H Q=>r x lo hi H Q\/a x lo hi H Q):=by
 intro l s b H x v c d lo hi e Q I f g i j q
 rcases q with q | q
 ·exact h _ s b H x v c d lo hi e Q I f g i j q
 ·exact k _ s b H x v c d lo hi e Q I f g i j q
def cO(r:V->Option Int->Option Int->Hp->VK->Prop)(te:TE)(tl th:TO):TE:=λa H Q=>te a H λx b=>tl a b λl H2=>th a H2 λu c=>r x l u c Q
theorem N5{r:V->Option Int->Option Int->Hp->VK->Prop}(j:SlR X r)(k:PE X e te)(m:PO X lo tl)(n:PO X hi th):PE X (.Subscript e (.Slice lo hi none p2) pos) (cO r te tl th):=by
 intro c s d H Q I h;refine Subscript_ (thn (k c s d H _ I h) λv o ⟨x,p,t,y,z⟩=>?_);refine wpAny_Slice (thn (m c o d p _ t z) λf B ⟨l,H2,C,D,E⟩=>thn (n c B d H2 _ C E) λg a ⟨u,i,F,G,J⟩=>?_);rw [evalPart_none];refine Sc ?_;have K:Inv X c d i { a with heap:=a.heap.push { cls:=.type "slice",data:=.fields #[f,g,.none] } }:=F.kept (t':=a.toks) λb O q=>Ev _ q;obtain⟨T,P,L,M,N⟩:=j c { a with heap:=a.heap.push { cls:=.type "slice",data:=.fields #[f,g,.none] } } d i x v f g l u a.heap.objs.size Q K y (jw ..) D G J;show wpAny (model X.prog X.w) X.A (subscriptTail e (.Slice lo hi none p2) v (.ref a.heap.objs.size)) (EP X c d Q) X.xe { a with heap:=a.heap.push { cls:=.type "slice",data:=.fields #[f,g,.none] } };exact tail_any (ops:=[.ref a.heap.objs.size,v]) M L N (by with_unfolding_all rfl)
def Ot(a:List V)(lo hi:Option Int):List V:=(a.drop (HT.sIx a.length 0 lo)).take (HT.sIx a.length a.length hi - HT.sIx a.length 0 lo)
theorem IG(a:List V)(lo hi:Option Int):(Ot a lo hi).length<=a.length:=by
 unfold Ot
 grind
def Zi(K:Frag):V->Option Int->Option Int->Hp->VK->Prop:=λx lo hi H Q=>∃a b,x=.ref a/\SqT K H a b /\
 ¬(HT.sIx b.length 0 lo=0/\HT.sIx b.length b.length hi=b.length)/\∀p,H p=none->Q (.ref p) (A4 H p (.tup (Ot b lo hi)))
theorem sl_tup:SlR X (Zi X.K):=by
 intro n s o H x v p t lo hi u Q I g i j k h;obtain⟨a,e,rfl,l,w,q⟩:=h;cases g;obtain⟨d,r,f,m⟩:=I.tuple l;have c:d.toArray.size=e.length:=by exact r.length.symm
 refine⟨_,_,dN.lookup,f.typeIs,?_⟩;refine HT.getItem_tuple_cut f i j k (by grind) ?_ (by simp_all);rw [c];refine⟨.ref _,_,I.laid (λb y q=>Ev _ q) (On _) ?_,rfl,q _ (I.hok.fresh (On _))⟩;exact⟨cx (IG e lo hi) m,_,(r.drop _).take _,IsTupN.new _ _⟩
def T8(K:Frag):R2:=λx y H Q=>∃a b d c,x=.ref a/\y=.ref b/\SqT K H a d/\SqT K H b c/\d≠[]/\d.length+c.length<=sizeLine /\
 (c=[]->Q (.ref a) H)/\(c≠[]->∀p,H p=none->Q (.ref p) (A4 H p (.tup (d++c))))
theorem Vals.nil_iff{a:List V}{b:List Cn}(r:Vals a b):b=[]↔a=[]:=by
 cases r with
 | nil=>simp
 | cons _ _=>simp
theorem op_catT:OpR X (binaryOp .Add) (T8 X.K):=by
 intro r s t H x y v u Q I f g h;obtain⟨a,b,A,B,rfl,rfl,i,j,k,l,m,n⟩:=h;cases f;cases g;obtain⟨o,d,p,_⟩:=I.tuple i;obtain⟨e,c,p2,_⟩:=I.tuple j;refine HT.cat_tup p p2 (λz=>k (d.nil_iff.mp z)) (λz=>⟨.ref a,H,I,rfl,m (c.nil_iff.mp z)⟩) (λz=>?_) (by rw [← d.length,← c.length]; exact l);refine⟨.ref _,_,I.laid (λb C q=>Ev _ q) (On _) ?_,rfl,n (λw=>z (c.nil_iff.mpr w)) _ (I.hok.fresh (On _))⟩;exact⟨by simp_all,_,d.append c,IsTupN.new _ _⟩
end
def S0(n:Nat)(i:Int):Option Nat:=if 0<=i then (if i<n then some i.toNat else none) else if -(n:Int)<=i then some (i+n).toNat else none
def atI{a:Type}(b:List a)(i:Int):Option a:=(S0 b.length i).bind λj=>b[j]?
theorem Mv{n:Nat}{i:Int}{j:Nat}(h:S0 n i=some j):seqIndex? i n=some j/\j<n/\-(n:Int)<=i/\i<n:=by
 unfold S0 at h
 by_cases b:0<=i
 ·rw [if_pos b] at h
  by_cases a:i<n
  ·rw [if_pos a] at h
   have e:i.toNat=j:=cv h;exact⟨by rw [seqIndex_of b a,e],by omega,by omega,a⟩
  grind
 ·rw [if_neg b] at h
  by_cases a:-(n:Int)<=i
  ·rw [if_pos a] at h
   have e:(i+n).toNat=j:=cv h;exact⟨by rw [seqIndex_neg (by omega) a,e],by omega,a,by omega⟩
  grind
theorem NO{b:Type}{a:List b}{i:Int}{v:b}(h:atI a i=some v):∃j,seqIndex? i a.length=some j/\a[j]?=some v/\j<a.length/\-(a.length:Int)<=i/\i<a.length:=by
 unfold atI at h;cases e:S0 a.length i with
 | none=>simp_all
 | some j =>
  obtain⟨c,d,f,g⟩:=Mv e
  simp_all
theorem AO{b:Type}{a:List b}{j:Nat}{v:b}(h:a[j]?=some v):atI a (j:Int)=some v:=by
 have c:=(cr.mp h).1
 have e:S0 a.length j=some j:=by
  unfold S0
  simp_all
 unfold atI; grind
theorem VN{b:Type}(a:List b)(v:b):atI (a++[v]) (-1)=some v:=by
 have e:S0 (a++[v]).length (-1)=some a.length:=by
  unfold S0
  grind
 unfold atI
 grind
def RW(b:c_):Prop:=∀o i,subscripted b false o i=operate [o,i] (getItem o i)
def IxR(X:Cx)(r:R2):Prop :=
 ∀(value a:c_) (b:List (Ch×Obj)) (s:FM) (c:St) (H:Hp) (x y:V) (v u:Cn) (Q:VK),Inv X b c H s->RelV x v->RelV y u->r x y H Q ->
  subscripted a false v u=operate [v,u] (getItem v u)->wpAny (model X.prog X.w) X.A (subscriptTail value a v u) (EP X b c Q) X.xe s
def a9(X:Cx)(e:String)(r:V->List V->Hp->VK->Prop):Prop :=
 ∀(a:List (Ch×Obj)) (s:FM) (b:St) (H:Hp) (x:V) (c:List V) (v:Cn) (d:List Cn) (Q:VK),Inv X a b H s->RelV x v->Vals c d->r x c H Q ->
  wpAny (model X.prog X.w) X.A (call (.builtin e) (v::d)) (EP X a b Q) X.xe s
section
variable {X:Cx}{a b:Expr}{ta tb:TE}{pos:Pos}
theorem IxR.or{r d:R2}(h:IxR X r)(j:IxR X d):IxR X (λx y H Q=>r x y H Q\/d x y H Q):=by
 intro value c k s e H x y v u Q I f g q i
 rcases q with q | q
 ·exact h _ _ _ s e H x y v u Q I f g q i
 ·exact j _ _ _ s e H x y v u Q I f g q i
theorem Eu{r:R2}(c:IxR X r)(d:PE X a ta)(e:PE X b tb)(f:RW b):PE X (.Subscript a b pos) (EK r ta tb):=λm s g H Q I h=>Subscript_ (Yx d e I h λv u i x y H2 j k l q=>c a b _ i g H2 x y v u Q j k l q (f _ _))
def X9(K:Frag):R2:=λx y H Q=>∃p c i v,x=.ref p/\y=.int i/\SqL K H p c/\atI c i=some v/\Q v H
def Zp(K:Frag):R2:=λx y H Q=>∃p c i v,x=.ref p/\y=.int i/\SqT K H p c/\atI c i=some v/\Q v H
def Zq:R2:=λx y H Q=>∃z i c,x=.str z/\y=.int i/\z.length<=sizeLine/\atI z.cps.toList i=some c/\Q (.str ⟨#[c]⟩) H
theorem ix_list:IxR X (X9 X.K):=by
 intro value d k s l H x y v u Q I B C h m;obtain⟨p,N,i,z,rfl,rfl,D,E,q⟩:=h;cases B;obtain⟨t,rfl⟩:=C;obtain⟨e,r,f,O⟩:=I.list D;obtain⟨j,n,F,P,G,J⟩:=NO E;obtain⟨w,L,g⟩:=r.get F;have R:=r.length;have S:=Jx;have c:EP X k l Q w s:=⟨z,H,I,g,q⟩
 by_cases o:0<=i
 ·have A:i.toNat=j:=by
   rw [seqIndex_of o J] at n
   grind
  exact item_listR f.isList o (by omega) (by rw [A]; simpa using L) c m
 ·have A:(i+(e.toArray.size:Int)).toNat=j:=by
   rw [seqIndex_neg (by omega) G] at n
   grind
  exact subscriptTail_builtinR (x:=w) f.isList.typeIs i6.lookup
   (wpAny_getItem_list_neg (Q:=λr M=>r=w/\EP X k l Q r M) f.isList (by omega) (by grind) (by omega) (by grind) ⟨rfl,c⟩) m
theorem ix_tup:IxR X (Zp X.K):=by
 intro value c A s B H x y v u Q I f g h k;obtain⟨p,C,i,z,rfl,rfl,l,m,q⟩:=h;cases f;obtain⟨t,rfl⟩:=g;obtain⟨n,r,e,D⟩:=I.tuple l;obtain⟨j,E,o,F,G,J⟩:=NO m;obtain⟨w,L,d⟩:=r.get o;have M:=r.length;have N:=Jx
 exact subscriptTail_builtinR e.typeIs dN.lookup
  (getItem_tuple (j:=j) e (by omega) (by omega) (by grind) (by grind) ⟨rfl,⟨z,H,I,d,q⟩⟩) k
theorem Yb:IxR X Zq:=by
 intro value d l s m H x y v u Q I e f h g;obtain⟨z,i,c,rfl,rfl,n,k,q⟩:=h;obtain⟨t,rfl⟩:=e;obtain⟨o,rfl⟩:=f;obtain⟨j,p,r,w,A,B⟩:=NO k;have C:z.cps.toList.length=z.length:=by simp [Str.length]
 have D:=Jx
 exact tail_any (typeIs_str s z t) slot_str_getitem.lookup (getItem_str (by
  grind) (by grind) ⟨.str _,H,I.tok _,⟨_,rfl⟩,q⟩) g
def b8(K:Frag):R2:=λx y H Q=>X9 K x y H Q\/Zp K x y H Q\/Zq x y H Q
theorem AL:IxR X (b8 X.K):=ix_list.or (ix_tup.or Yb)
theorem P5(c:List Cn)(n j:Nat)(u:Cn):d_ (·.setIfInBounds j u) { cls:=.type "list",data:=.seq c.toArray n }={ cls:=.type "list",data:=.seq (c.set j u).toArray n }:=by
 simp [d_]
theorem Inv.lst{f:List (Ch×Obj)}{g:St}{H:Hp}{s:FM}{p:Ch}{d:List V}(I:Inv X f g H s)(h:H p=some (.lst d)) :
  ∃(c:List Cn) (n:Nat),Vals d c/\s.heap.get? p=some { cls:=.type "list",data:=.seq c.toArray n }/\d.length<=sizeLine:=by
 obtain⟨z,c,n,r,e⟩:=I.hok p _ h;exact⟨_,n,r,e,z⟩
theorem Inv.lstUpd{j:List (Ch×Obj)}{k:St}{H:Hp}{s:FM}{p:Ch}{m g:List V}{d c:List Cn}{n i:Nat}{f:Obj->Obj}(I:Inv X j k H s)(h:H p=some (.lst m))
  (o:s.heap.get? p=some { cls:=.type "list",data:=.seq d.toArray n }) (l:f { cls:=.type "list",data:=.seq d.toArray n }={ cls:=.type "list",data:=.seq c.toArray i }) (r:Vals g c) (v:g.length<=sizeLine) (t:Nat) :
  Inv X j k (A4 H p (.lst g)) { s with heap:=s.heap.update p f,toks:=t }:=by
 have e:(s.heap.update p f).get? p=some { cls:=.type "list",data:=.seq c.toArray i }:=by
  rw [fC f o (by rw [l] <;> rfl),l]
 exact I.write (by rw [h]; trivial) (.inl rfl) (λb u w q=>(dJ _ _ (eF w)).trans q) ⟨_,e⟩ ⟨v,_,i,r,e⟩
def W3:V->V->V->Hp->(Hp->Prop)->Prop:=λo i v H Q=>∃p c k j,o=.ref p/\i=.int k/\H p=some (.lst c)/\S0 c.length k=some j/\Q (A4 H p (.lst (c.set j v)))
theorem set_list:aU X W3:=by
 intro w s x H o i v F G u Q I y z A h;obtain⟨p,B,k,j,rfl,rfl,f,C,q⟩:=h;cases y;obtain⟨t,rfl⟩:=z;obtain⟨c,n,r,d,J⟩:=I.lst f;obtain⟨g,K,D,E⟩:=Mv C;have L:=r.length;have M:=Jx
 have l:Inv X w x (A4 H p (.lst (B.set j v))) { s with heap:=s.heap.update p (d_ (·.setIfInBounds j u)) } :=
  I.lstUpd f d (P5 c n j u) (r.set A j) (by simp_all) s.toks
 by_cases m:0<=k
 ·have e:k.toNat=j:=by
   rw [seqIndex_of m E] at g
   grind
  exact PySem.W.ki_setAt d m (by omega) (by grind) (by rw [e]; exact⟨_,l,q⟩)
 ·have e:(k+(c.toArray.size:Int)).toNat=j:=by
   rw [seqIndex_neg (by omega) D] at g
   grind
  exact PySem.W.ki_setBack d (by omega) (by grind) (by omega) (by rw [e]; exact⟨_,l,q⟩)
theorem MF(c d:Option Int)(n:Nat):(sliceBounds c d none n).1=((HT.sIx n 0 c:Nat):Int)/\(sliceBounds c d none n).2.1=((HT.sIx n n d:Nat):Int)/\(sliceBounds c d none n).2.2=1:=by
 refine⟨?_,?_,rfl⟩
 ·cases c with
  | none=>simp [sliceBounds,HT.sIx]
  | some i =>
   simp only [sliceBounds,HT.sIx,Option.getD_none,show (1:Int) > 0 by decide,if_true]
   by_cases h:i<0
   ·grind
   ·simp only [h,if_false] <;> omega
 ·cases d with
  | none=>simp [sliceBounds,HT.sIx]
  | some i =>
   simp only [sliceBounds,HT.sIx,Option.getD_none,show (1:Int) > 0 by decide,if_true]
   by_cases h:i<0
   ·grind
   ·simp only [h,if_false] <;> omega
theorem Ku(c:List Cn)(d e:Option Int):slicePick c.toArray d e none=((c.drop (HT.sIx c.length 0 d)).take (HT.sIx c.length c.length e - HT.sIx c.length 0 d)).toArray:=by
 obtain⟨f,g,h⟩:=MF d e _;unfold slicePick;rw [f,g,h];simp only [sliceRange_one,pick_run] <;> rfl
def Zj(K:Frag):V->Option Int->Option Int->Hp->VK->Prop:=λx d e H Q=>∃a c,x=.ref a/\SqL K H a c/\∀p,H p=none->Q (.ref p) (A4 H p (.lst (Ot c d e)))
theorem sl_list:SlR X (Zj X.K):=by
 intro p s t H x v u w e f y Q I g i j k h;obtain⟨a,l,rfl,m,q⟩:=h;cases g;obtain⟨n,r,d,o⟩:=I.list m;have c:=r.length;refine⟨_,_,i6.lookup,d.isList.typeIs,?_⟩;refine wpAny_getItem_list_slice d.isList i j k .none (by simp) ?_ (by grind);rw [Ku,← c];refine⟨.ref _,_,I.laid (λb z q=>Ev _ q) (On _) ?_,rfl,q _ (I.hok.fresh (On _))⟩;exact⟨cx (IG l e f) o,_,0,(r.drop _).take _,cj _ rfl⟩
def XJ:V->Bool
 | .non=>true
 | .bl _=>true
 | .int _=>true
 | .str _=>true
 | _=>false
def aJ:V->V->Bool
 | .non,.non=>true
 | .bl a,.bl b=>a==b
 | .bl a,.int b=>(if a then 1 else 0)==b
 | .int a,.bl b=>a==(if b then 1 else 0)
 | .int a,.int b=>a==b
 | .str a,.str b=>a==b
 | _,_=>false
theorem M9{A:dL}{s:FM}{y x:V}{u v:Cn}(e:RelV y u)(c:RelV x v)(g:XJ y=true)(f:XJ x=true):SeqAt.EqAt A s u v (aJ y x):=by
 cases y with
 | non =>
  cases e;cases x with
  | non=>cases c; exact SeqAt.EqAt.same _
  | bl b=>cases c; exact SeqAt.EqAt.none_bool b
  | int b=>obtain⟨t,rfl⟩:=c; exact SeqAt.EqAt.none_int b t
  | str b=>obtain⟨t,rfl⟩:=c; exact SeqAt.EqAt.none_str b t
  | _=>exact absurd (show false=true from f) c8
 | bl a =>
  cases e;cases x with
  | non=>cases c; exact SeqAt.EqAt.bool_none a
  | bl b=>cases c; exact SeqAt.EqAt.bool_bool a b
  | int b=>obtain⟨t,rfl⟩:=c; exact SeqAt.EqAt.bool_int a b t
  | str b=>obtain⟨t,rfl⟩:=c; exact SeqAt.EqAt.bool_str a b t
  | _=>exact absurd (show false=true from f) c8
 | int a =>
  obtain⟨d,rfl⟩:=e;cases x with
  | non=>cases c; exact SeqAt.EqAt.int_none a d
  | bl b=>cases c; exact SeqAt.EqAt.int_bool a d b
  | int b=>obtain⟨t,rfl⟩:=c; exact SeqAt.EqAt.int_int a d b t
  | str b=>obtain⟨t,rfl⟩:=c; exact ju a d b t
  | _=>exact absurd (show false=true from f) c8
 | str a =>
  obtain⟨d,rfl⟩:=e;cases x with
  | non=>cases c; exact SeqAt.EqAt.str_none a d
  | bl b=>cases c; exact SeqAt.EqAt.str_bool a d b
  | int b=>obtain⟨t,rfl⟩:=c; exact jv a d b t
  | str b=>obtain⟨t,rfl⟩:=c; exact SeqAt.EqAt.str_str a d b t
  | _=>exact absurd (show false=true from f) c8
 | _=>exact absurd (show false=true from g) c8
theorem Es:C2 X (.type "list") (λB H Q=>∃p f,B=[.ref p]/\(SqL X.K H p f\/SqT X.K H p f)/\∀l,H l=none->Q (.ref l) (A4 H l (.lst f))):=by
 intro D s E H B G Q I r h;obtain⟨p,f,rfl,j,q⟩:=h;obtain⟨u,rfl,F⟩:=vals1 r;cases F
 have k:∀(c:List Cn),Vals f c->f.length<=sizeLine->∀(d:cw) (i:Nat),(∀b C,s.heap.get? b=some C->d.get? b=some C) ->
   d.get? s.heap.objs.size=some _->EP X D E Q (.ref s.heap.objs.size) { s with heap:=d }:=λc g m d i t e =>
  ⟨.ref s.heap.objs.size,_,I.laid (t':=s.toks) t (On _) (show ObjOk X.prog X.w _ d _ (.lst f) from⟨m,c,i,g,e⟩),rfl,q _ (I.hok.fresh (On _))⟩
 rcases j with j | j
 ·obtain⟨c,g,x,m⟩:=I.list j
  have v:=g.length;obtain⟨o,y,z,n,A⟩:=x.isList;exact call_list_seq p (.inl rfl) y z A (λd i t e=>k c g m d i t e) (by grind)
 ·obtain⟨c,g,x,m⟩:=I.tuple j
  have v:=g.length;obtain⟨o,y,z,n,A⟩:=x;exact call_list_seq p (.inr rfl) y z A (λd i t e=>k c g m d i t e) (by grind)
theorem Bb:C2 X (.type "tuple") (λj H Q=>∃p c,j=[.ref p]/\((SqL X.K H p c/\∀l,H l=none->Q (.ref l) (A4 H l (.tup c)))\/(SqT X.K H p c/\Q (.ref p) H))):=by
 intro w s x H j y Q I r h;obtain⟨p,c,rfl,h⟩:=h;obtain⟨u,rfl,t⟩:=vals1 r;cases t
 rcases h with ⟨d,q⟩ | ⟨d,q⟩
 ·obtain⟨f,g,i,k⟩:=I.list d
  have m:=g.length;refine call_tuple_list i.isList (λz v=>?_) (by grind);have n:=I.kept (t':=s.toks) v;exact⟨.ref _,_,n.laid (t':=s.toks) (λb o e=>Ev _ e) (On _) (show ObjOk _ _ _ _ _ (.tup c) from⟨k,_,g,IsTupN.new _ _⟩),rfl,q _ (n.hok.fresh (On _))⟩
 ·obtain⟨f,g,i,k⟩:=I.tuple d
  exact call_tuple_same i ⟨.ref p,H,I,rfl,q⟩
def bE(K:Frag)(T:String)(x:V)(H:Hp):Prop:=match x with
 | .str _=>T = "str"
 | .int _=>T = "int"
 | .ref p=>(T = "list"/\∃d,SqL K H p d)\/(T = "tuple"/\∃o,K.lookup p=some o/\o.cls=.type "tuple"/\o.dict=none) \/
   (T = "dict"/\((∃c,H p=some (.dK c))\/∃c,H p=some (.dT c)))\/(T = "set"/\∃S n,H p=some (.set S n))
 | _=>False
theorem Xp{l:List (Ch×Obj)}{m:St}{H:Hp}{s:FM}{T:String}{x:V}{v:Cn}(I:Inv X l m H s)(r:RelV x v)(ty:bE X.K T x H) :
  s.TypeIs v T/\∀a,v=.ref a->∃j,s.heap.get? a=some j/\j.dict=none:=by
 cases x with
 | str z =>
  obtain⟨t,rfl⟩:=r;cases (show T = "str" from ty);exact⟨typeIs_str s z t,λ_ e=>nomatch e⟩
 | int i =>
  obtain⟨t,rfl⟩:=r;cases (show T = "int" from ty);exact⟨typeIs_int s i t,λ_ e=>nomatch e⟩
 | ref p =>
  cases r
  rcases ty with ⟨rfl,y,q⟩ | ⟨rfl,o,d,u,f⟩ | ⟨rfl,d⟩ | ⟨rfl,S,n,d⟩
  ·obtain⟨w,_,k,_⟩:=I.list q
   refine⟨k.isList.typeIs,λa e=>?_⟩;cases e;obtain⟨o,n,e,c,f,_⟩:=k;exact⟨o,e,f⟩
  ·refine⟨⟨o,I.kIn p o d,u⟩,λa e=>?_⟩
   cases e;exact⟨o,I.kIn _ o d,f⟩
  ·have z:∃o,s.heap.get? p=some o/\o.ExactDict:=by
    rcases d with ⟨g,d⟩ | ⟨g,d⟩
    ·obtain⟨_,_,_,_,o,_,_,e,ex,_⟩:=I.hok p _ d
     exact⟨o,e,ex⟩
    ·obtain⟨_,_,_,_,o,_,_,e,ex,_⟩:=I.hok p _ d
     exact⟨o,e,ex⟩
   obtain⟨o,e,ex⟩:=z;refine⟨⟨o,e,ex.1⟩,λa h=>?_⟩;cases h;exact⟨o,e,ex.2.1⟩
  ·obtain⟨o,_,_,_,e,ex,_⟩:=I.hok p _ d
   refine⟨⟨o,e,ex.1⟩,λa h=>?_⟩;cases h;exact⟨o,e,ex.2.1⟩
 | _=>exact dX ty
def cR(K:Frag)(T:String)(r:V->List V->Hp->VK->Prop)(e:TE)(t:TA):TE:=λc H Q=>e c H λx d=>bE K T x d/\t c d λf H2=>r x f H2 Q
variable {o e:Expr}{es:List Expr}{to:TE}{t:TA}{name:Str}{apos cpos:Pos}{T id:String}{r:V->List V->Hp->VK->Prop}
theorem UT(p:PlainAttrs T)(f:Slot T name id)(j:typeOf (.builtin id)=pure (.type "method_descriptor"))(q:a9 X id r)(u:PE X o to)(w:PA X (e::es) t)
  (c:attributeBase o name X.env (eval o X.env)=eval o X.env:=by rfl)
  (g:((backTo cpos (starEach (e::es) X.env)).all (λx=>!x.1)&&(backToKw cpos (keywordEach [] X.env)).all (λx=>x.1.isSome)
   && decide ((e::es).length+([]:List gL).length+(if ([]:List gL).isEmpty then 0 else 1)<30))=true:=by rfl)
  (d:(apos.endLine==cpos.line)=true:=by rfl) (y:starEach (e::es) X.env=(false,eval e X.env)::starEach es X.env:=by rfl) (i:(backTo cpos (starEach es X.env)).any (·.1)=false:=by rfl) :
  PE X (.Call (.Attribute o name apos) (e::es) [] cpos) (cR X.K T r to t):=by
 intro N s k H Q I h;refine wpAny_Call_method_late c g d rfl (thn (u _ s k H _ I h) λv z ⟨x,A,l,m,ty,B⟩=>?_);obtain⟨C,D⟩:=Xp l m ty;refine⟨T,id,p,f,j,C,D,?_⟩;have n:=w cpos _ z k A _ l B;rw [y] at n ⊢;refine g8 (by simp_all) (iH ?_);exact thn n λE F ⟨G,H2,J,L,M⟩=>q _ F k H2 x G v E Q J m L M
end
def cH(X:Cx)(e:String)(r:V->List V->Hp->VK->Prop):Prop :=
 ∀(a:List (Ch×Obj)) (s:FM) (b:St) (H:Hp) (x:V) (c:List V) (v:Cn) (d:List Cn) (Q:VK),Inv X a b H s->RelV x v->Vals c d->r x c H Q ->
  wpAny (model X.prog X.w) X.A (call (.builtin e) (v::d)) (EP X a b Q) X.xe s
theorem Vals.one:∀{x:V} {a:List Cn},Vals [x] a->∃u,a=[u]/\RelV x u
 | _,_,.cons r .nil=>⟨_,rfl,r⟩
theorem Vals.eraseIdx:∀{a:List V} {b:List Cn} (i:Nat),Vals a b->Vals (a.eraseIdx i) (b.eraseIdx i)
 | _,_,_,.nil=>.nil
 | _,_,0,.cons _ t=>t
 | _,_,i+1,.cons r t=>.cons r (Vals.eraseIdx i t)
theorem Vals.reverse{a:List V}{b:List Cn}(h:Vals a b):Vals a.reverse b.reverse:=by
 induction h with
 | nil=>exact .nil
 | cons r t c=>rw [gI,gI]; exact Vals.append c (.cons r .nil)
theorem Lc{a:Type}:∀(l:List a) (i:Nat),(l.eraseIdx i).length<=l.length
 | [],_=>On _
 | _::_,0=>dq _
 | _::r,i+1=>fw (Lc r i)
section
variable {X:Cx}{zG:List (Addr×Obj)}{σ:St}{H:Hp}{s:Shared}{l:Addr}{xs ys:List V}
theorem Inv.lset{a its':List Cn}{n:Nat}{f:Array Cn->Array Cn}{b:Nat}(I:Inv X zG σ H s)(c:H l=some (.lst xs))
  (e:s.heap.get? l=some { cls:=.type "list",data:=.seq a.toArray n }) (d:f a.toArray=its'.toArray) (g:Vals ys its') (h:ys.length<=sizeLine) :
  Inv X zG σ (A4 H l (.lst ys)) { s with heap:=s.heap.update l (d_ f),toks:=b }:=by
 have q:=PySem.IsL.update e f;rw [d] at q;exact I.write (by rw [c]; exact trivial) (.inl rfl) (λm u i j=>(dJ _ _ (eF i)).trans j) ⟨_,q⟩ ⟨h,_,_,g,q⟩
theorem Inv.lnew{a:List Cn}{b:Nat}(I:Inv X zG σ H s)(c:Vals ys a)(d:ys.length<=sizeLine) :
  Inv X zG σ (A4 H s.heap.objs.size (.lst ys)) { s with heap:=s.heap.push { cls:=.type "list",data:=.seq a.toArray },toks:=b } :=
 I.laid (λ_ _ q=>Ev _ q) (On _) ⟨d,_,0,c,cj _ rfl⟩
theorem Inv.fresh(I:Inv X zG σ H s):H s.heap.objs.size=none:=I.hok.fresh (On _)
theorem Inv.lstM(I:Inv X zG σ H s)(b:H l=some (.lst xs)):xs.length<=sizeLine/\∃(a:List Cn) (n:Nat),Vals xs a/\xs.length=a.length/\s.heap.get? l=some { cls:=.type "list",data:=.seq a.toArray n }:=by
 obtain⟨z,a,n,r,e⟩:=I.hok l _ b;exact⟨z,_,n,r,r.length,e⟩
end
section
variable {X:Cx}
def Qg:V->List V->Hp->VK->Prop:=λx b H Q=>∃l a y,x=.ref l/\b=[y]/\H l=some (.lst a)/\a.length<sizeLine/\Q .non (A4 H l (.lst (a++[y])))
theorem DC:cH X "list.append" Qg:=by
 intro g s i H x j v k Q I b c h;obtain⟨l,m,y,rfl,rfl,a,o,q⟩:=h;cases b;obtain⟨u,rfl,d⟩:=c.one;obtain⟨z,f,n,r,p,e⟩:=I.lstM a;refine call_meets F.slot_list_append ⟨_,e,rfl⟩ F.entry_list_append (F.args_list_append_2 _ _) (PySem.list_append l _ n u (by grind)) ⟨e,?_⟩;refine⟨.non,_,I.lset a e (by simp) (r.append (.cons d .nil)) ?_,rfl,q⟩
 grind
def X7:V->List V->Hp->VK->Prop:=λx b H Q=>∃l a i k y,x=.ref l/\b=[.int i]/\H l=some (.lst a)/\-(2 ^ 63)<=i/\i<2 ^ 63/\seqIndex? i a.length=some k/\a[k]?=some y/\Q y (A4 H l (.lst (a.eraseIdx k)))
theorem Ue:cH X "list.pop" X7:=by
 intro A s B H x C v D Q I d f h;obtain⟨l,g,i,k,y,rfl,rfl,c,j,m,E,o,q⟩:=h;cases d;obtain⟨u,rfl,p⟩:=f.one;obtain⟨t,rfl⟩:=p;obtain⟨z,a,n,r,G,e⟩:=I.lstM c;obtain⟨w,J,b⟩:=r.get o
 refine call_meets F.slot_list_pop ⟨_,e,rfl⟩ F.entry_list_pop (F.args_list_pop_2 _ _)
  (MeetsSeq.list_pop_at l a.toArray n i t k w (fitsIndex_both j m) (by simp_all) (by simp_all) (by grind)) ⟨e,?_⟩
 refine⟨y,_,I.lset (its':=a.eraseIdx k) c e ?_ (r.eraseIdx k) ?_,b,q⟩
 ·simp_all
 ·have:=Lc g k
  omega
end
end L2
namespace Att
open PySem.W PySem.Calls
theorem Ii{P:Params}{h:cw}:∀(c:List Int) (d:List Cn),WellAll P h d (c.map WData.int)->IntsAre d c:=by
 intro c
 induction c with
 | nil =>
  intro d w;cases w;exact .nil
 | cons n c e =>
  intro d w;cases w with
  | cons a b =>
   cases a;exact .cons _ _ (e _ b)
theorem Rt{l:OpenLaw}{n:Nat}(w:l.most=some n){P:Params}{h:cw}{args:List WData}{b:List Cn}
  (c:l.row.toRowW.claim.pre args=true) (i:WellAll P h b args) :
  ∃a k e,b=[cm a]/\args=[WData.list (e.map WData.int)]/\h.get? a=some { cls:=.type "list",data:=.seq k.toArray }/\IntsAre k e/\e.length<=n:=by
 have j:WShape.hasAll [] args [.list .int]=true:=(pre_splitW c).1;have m:l.pre.holds [] { args:=args }=true:=(pre_splitW c).2;obtain⟨d,r,rfl,p,q⟩:=hasAllW_cons j;obtain rfl:=hasAllW_nil q;obtain⟨x,rfl,s⟩:=hasW_list p;obtain⟨e,rfl⟩:=items_int s
 have f:e.length<=n:=by
  unfold OpenLaw.pre at m
  have o:(WTm.not (.lt (.lit (.int (n:Int))) (.len (.arg 0)))).holds [] { args:=[.list (e.map .int)] }=true:=by
   have o:=(holds_andW m).1
   grind
  have y:=condW_of o (w_not (w_lt w_lit (w_len_list (w_arg rfl))))
  grind
 cases i with
 | cons t u =>
  cases u;cases t with
  | list v g=>exact⟨_,_,e,rfl,rfl,v,Ii e _ g,f⟩
theorem Ry(l:OpenLaw)(a:List WData):l.row.toRowW.claim.post a (.bool true) a=true :=
 postW_of
  (show WShape.has [] _ _=true by first | rfl | decide | omega)
  (w_eq_bool (w_res rfl) w_lit) rfl
theorem attach_call{l:OpenLaw}{n:Nat}{q:cz}{c:List Str}{D:(Str->Option Cn)->cw->Prop}{E:dC->cw->Prop}{d:DefRec}
  (K:l.most=some n) (x:d.params.defaults=[])
  (call:∀(w:dC) (e b:FM) (s y:Str->Option Cn) (j:Ch) (o:Obj) (z t g:Cn) (a:Ch) (i:List Cn) (u:List Int),
   Ground q c [] D w e s y b.heap->E w b.heap ->
   b.heap.get? j=some o->o.data=.func (docDef d.name d.params d.body d.scope z t g)->b.heap.CodeRec t d.name->s d.name=some (.ref j) ->
   b.heap.get? a=some { cls:=.type "list",data:=.seq i.toArray }->IntsAre i u->u.length<=n->b.gens=#[] ->
   codeAny (model l.prog w) callerA (.call (.ref j) ⟨[.ref a],[]⟩) (λr v=>r=.ok (.ret (.bool true))/\OldK b.heap v.heap/\v.os=b.os/\gK v.gens) b) :
  WalkO q c D E l.row.toRowW d [] (λf i=>PySem.call f i):=by
 intro w e b s y G Y j o z t g L M N O A F B P H I X k J Q C R;obtain rfl:L=.none:=Dflts.none F x;obtain rfl:M=.none:=Dflts.noKw F;obtain⟨a,i,u,rfl,rfl,m,h,p⟩:=Rt K k C;refine enter_call (ft (call w e b s y j o z t g a i u G Y N (fd_plain O) A B m h p P) λr v S=>?_);obtain⟨rfl,T,U,V⟩:=S;exact⟨.inl ⟨.bool true,.bool true,[],rfl,λ_=>rfl,.bool true,Ry l _,λ_=>⟨jz,λ_ W=>(nomatch W)⟩⟩,T,U,V⟩
end Att
namespace L2
theorem LJ:∀{a:List Cn} {b:List Int},IntsAre a b->Vals (b.map V.int) a
 | _,_,.nil=>.nil
 | _,_,.cons n t h=>.cons ⟨t,rfl⟩ (LJ h)
def Y7(H:Hp):Prop:=∀b,H b=none\/∃o a,H b=some (.frz o (.lst a))
theorem Um{P:cz}{w:dC}{K:Frag}{A R:Str->Option Cn}{CX:S2}{k:Nat}{S a:Ch}{fd:dU}{x:Str}{sp:Sp}{c:FM}{t:List Cn}{B:List Int}
  (KX:K.In c.heap) (C:c.heap.Ns mainGlobals A) (g:c.heap.Ns builtinsNs R) (T:∀x:Str,x ≠ "__name__"->R x=bootBuiltins x) (D:c.heap.NoLimit) (hg:c.gens=#[])
  (Q:c.heap.get? a=some { cls:=.type "list",data:=.seq t.toArray }) (hi:IntsAre t B) (hl:B.length<=sizeLine) (hr:Room k callerA)
  (F:∀i:cw,K.In i->i.Ns mainGlobals A->BD P w K A i CX k S fd [x] sp) (y:∀(s:FM) (u:Cn),iX s fd ⟨[u],[]⟩ [(x,u)])
  (U:∀H:Hp,Y7 H->SqL K H a (B.map V.int)->sp [.ref a] H (λv _=>v=.bl true) λ_ _ _=>False)
  (W:∀H e j,CX [] H c (λ_ _ _=>False) e j->False) :
  codeAny (model P w) callerA (.call (.ref S) ⟨[.ref a],[]⟩) (λr j=>r=.ok (.ret (.bool true))/\OldK c.heap j.heap/\j.os=c.os/\gK j.gens) c:=by
 have rv:=LJ hi;have E:=hi.length
 have p:∀H:Hp,Y7 H->SqL K H a (B.map V.int)->HOk P w H c.heap->(∀b,H b≠none->b=a)->(H a≠none->K.lookup a=none) ->
   codeAny (model P w) callerA (.call (.ref S) ⟨[.ref a],[]⟩) (λr j=>r=.ok (.ret (.bool true))/\OldK c.heap j.heap/\j.os=c.os/\gK j.gens) c:=by
  intro H hO hS G hA hK;have f:∀{b:Ch} {o:Obj},c.heap.get? b=some o->H b=none->(Mw c.heap H).get? b=some o:=λe n=>Uu e n
  have X:∀{b:Ch} {o:Obj} {I:Array DictEntry} {J:Nat},c.heap.get? b=some o->o.data=.dict I J->H b=none:=λ{b o I J} e d=>by
   cases q:H b with
   | none=>rfl
   | some u =>
    have Y:b=a:=hA b (by rw [q]; simp);subst Y;rw [Q] at e; cases e
    have d':Data.seq t.toArray _=Data.dict I J:=d;cases d'
  have l:∀{b:Ch} {m:Str->Option Cn},c.heap.Ns b m->(Mw c.heap H).Ns b m:=λ{b m} ⟨o,I,J,e,d,r⟩=>⟨o,I,J,f e (X e d),d,r⟩
  have L:K.In (Mw c.heap H):=λb o e=>f (KX b o e) (by
   cases q:H b with
   | none=>rfl
   | some u =>
    have Y:b=a:=hA b (by rw [q]; simp);subst Y;rw [hK (by rw [q]; simp)] at e; cases e)
  have hM:Mod K A (Mw c.heap H):=⟨L,l C,⟨R,l g,T⟩,let ⟨mc,h1,h2⟩:=D; ⟨mc,l h1,h2⟩⟩;have e0:Env0 P w K A (Mw c.heap H) callerA [] c H:=⟨rfl,hM,λb o e=>V0 e,jK (Sa _ _),trivial,λb g=>absurd (show b∈([]:List Ch) from g) (by simp),G,.of_eq hg⟩;refine ft ((F _ L (l C)).run callerA [] c H ⟨[.ref a],[]⟩ [.ref a] [.ref a] _ _ hr e0 (y c (.ref a)) (.cons rfl .nil) (U H hO hS)) λr j h=>?_;cases r with
  | error e=>exact(W H e j h).elim
  | ok fl =>
   cases fl with
   | next=>exact dX h
   | brk=>exact dX h
   | cont=>exact dX h
   | ret u =>
    obtain⟨v,H',os,M,un,N,r',q⟩:=h;have q':v=.bl true:=q;subst q';obtain rfl:u=iD true:=r';refine⟨rfl,OldK.of_keep λb o e=>?_,os,M⟩;cases q:H b with
    | none=>exact un.keep b o e q (by intro z; exact absurd (show b∈([]:List Ch) from z) (by simp)) (by simp)
    | some u =>
     rcases hO b with z | ⟨ob,xs,z⟩
     ·rw [q] at z; cases z
     ·have z2:=un.frzs b ob _ z
      obtain⟨e1,_⟩:=G b _ z;obtain⟨e2,_⟩:=N b _ z2;rw [e] at e1; cases e1
      exact e2
 cases Z:K.lookup a with
 | some o =>
  have e:=KX a o Z;rw [Q] at e;cases e;refine p (λ_=>none) (λ_=>.inl rfl) (.inr ⟨_,t.toArray,_,Z,rfl,rfl,rfl,by rw [c9,E]; exact hl,by simpa using rv⟩) (λb u z=>by have O:(none:Option HO)=some u:=z; cases O) (λb z=>absurd rfl z) λz=>absurd rfl z
 | none =>
  refine p (λb=>if b=a then some (.frz { cls:=.type "list",data:=.seq t.toArray } (.lst (B.map V.int))) else none) (λb=>?_) (.inl (.inr ⟨{ cls:=.type "list",data:=.seq t.toArray },if_pos rfl⟩)) (λb u z=>?_) (λb z=>?_) λ_=>Z
  ·by_cases g:b=a
   ·exact .inr ⟨_,_,if_pos g⟩
   ·exact .inl (if_neg g)
  ·by_cases g:b=a
   ·have O:=(if_pos g).symm.trans z
    cases O;subst g;exact⟨Q,by rw [Go]; exact hl,t,_,rv,Q⟩
   ·have O:=(if_neg g).symm.trans z
    cases O
  ·by_cases g:b=a
   ·exact g
   ·exact absurd (if_neg g) z
theorem QS{l:PySem.W.OpenLaw}{n k:Nat}{q:cz}{j:List Str}{O:(Str->Option Cn)->cw->Prop}{I:dC->cw->Prop}{d:DefRec}{K:Params->Frag}{CX:dC->S2}{sp:dC->Sp}{x:Str}
  (P:l.most=some n) (z:n<=sizeLine) (A:d.params.defaults=[]) (Q:Room k callerA)
  (R:∀(w:dC) (h:cw),I w h->(K w.params).In h)
  (F:∀(w:dC) (p:Str->Option Cn) (t:Ch) (h:cw),(K w.params).In h->h.Ns mainGlobals p->p d.name=some (.ref t) ->
   ∃fd:dU,(∀(s:FM) (u:Cn),iX s fd ⟨[u],[]⟩ [(x,u)]) /\
    ∀c:cw,(K w.params).In c->c.Ns mainGlobals p->BD l.prog w (K w.params) p c (CX w) k t fd [x] (sp w))
  (B:∀(w:dC) (H:Hp) (a:Ch) (y:List Int),y.length<=n->Y7 H->SqL (K w.params) H a (y.map V.int)->sp w [.ref a] H (λv _=>v=.bl true) λ_ _ _=>False)
  (C:∀(w:dC) (H:Hp) (s:FM) (e:Cn) (D:FM),CX w [] H s (λ_ _ _=>False) e D->False) :
  PySem.W.WalkO q j O I l.row.toRowW d [] (λf J=>PySem.call f J):=by
 refine Att.attach_call P A λw L M p mb t o pm cd S a J y G Y ho hd U E r m i X=>?_;have N:=R w _ Y;obtain⟨fd,Z,hF⟩:=F w p t _ N G.T.g E;exact Um N G.T.g G.T.b G.T.builtins G.T.nolimit X r m (cx i z) Q hF Z (λH hO hS=>B w H a y i hO hS) λH e D=>C w H _ e D
end L2
/- THE LAST THEOREM (shape; LID, My.* are yours):
   My.Adr: a structure of the addresses that your layer names (classes, functions); My.Txt K t: a structure (Prop) of the equations over K;
   My.txt_mk : {K} {implicit addresses ..} (e1 : nsIn K mainGlobals "law" = some (some (.ref f))) (e2 : K.lookup f = some ⟨oc, od, .func (fnOf "law" "law" params body scope dV kV doc pm an cdv ct), sl⟩) (e3 : codeIn K cdv "law" = true) .. : ∃ t, My.Txt K t
set_option maxRecDepth 100000 in
set_option maxHeartbeats 0 in
theorem PySem.Challenge.cw_LID_holds : PySem.Challenge.rw_LID.Holds := by
 w_on; o_law; k_head; (case hw=>w_witness2)
 k_fill
 refine L2.QS (l:=PySem.Challenge.rw_LID) (n:=63) (k:=40) (x := "script") (CX:=λw=>..) (sp:=λ_=>My.sp_law) rfl (by decide) rfl ⟨rfl,by decide,by decide⟩ (λw h Y=>PySem.W.kIn_of Y) ?F ?S ?C
 case F =>
  intro w mg fa h KX G hmg
  have T:∃t,My.Txt (L2.KOf KX) t:=by
   dsimp only [L2.KOf]                          -- K must stand as «<heap const> w.params» for k_is
   refine' My.txt_mk ?e1 ?e2 ?e3 ..
   (case e1=>PySem.W.k_is)                    -- in the order: a name -> its address -> its object -> its parts
   (case e2=>PySem.W.k_is)
   ..
  obtain⟨t,T⟩:=T;have e0:=hmg.symm.trans (mg_of KX G T.law);cases e0                                       -- fa is the law's own address;exact⟨_,λs u=>.of_eq rfl,λbase kb nb=>My.law_fn T kb nb⟩     -- if «.of_eq rfl» comes too early: refine' ⟨_,?b,λbase kb nb=>My.law_fn T kb nb⟩; exact λs u=>.of_eq rfl
 case S=>exact λw H a ns hl hO hS=>..
 case C=>exact ..
(the tactic k_is has no namespace: write k_is) -/
namespace L2
def CP(s:dE):Arguments:=match s with
 | .FunctionDef _ a _ _ _ _ _ _ _ _=>a
 | _=>{ posonlyargs:=[],args:=[],vararg:=none,kwonlyargs:=[],kw_defaults:=[],kwarg:=none,defaults:=[] }
def BX(s:dE):List dE:=match s with
 | .FunctionDef _ _ b _ _ _ _ _ _ _=>b
 | _=>[]
def AH(s:dE):fF:=match s with
 | .FunctionDef _ _ _ _ _ _ a _ _ _=>a
 | _=>{ kind:=.function,names:=[],isGenerator:=false,isCoroutine:=false }
abbrev CL:S2:=λ_ _ _ _ _ _=>False
abbrev E0:XK:=λ_ _ _=>False
theorem XB{X:Cx}:Hr CL X E0:=λ_ _ _ _ _ _ _ h=>h.elim
structure Fun (K:Frag) (x qual:Str) (st:dE) (f:Ch) (fd:dU):Prop where
 ex:∃(oc:Cn) (od:Option Ch) (kV doc pm:Cn) (an:Option Ch) (cdv ct:Cn) (osl:Array (Option Cn)),
  fd=fnOf x qual (CP st) (BX st) (AH st) .none kV doc pm an cdv ct/\K.lookup f=some ⟨oc,od,.func fd,osl⟩/\codeIn K cdv qual=true
 kp:keepIn K (.ref f)=true
section
variable {P:Program}{w:World}{K:Frag}{mg:Str->Option Value}{base:Heap}
theorem Fun.ok{x a:Str}{g:dE}{f:Ch}{fd:dU}{N i:List Str}{k:Nat}{j:Sp}(F:Fun K x a g f fd)(S:Ai N i (AH g))(len:∀c H Q E,j c H Q E->c.length=i.length)
  (d:∀(e:Cn) (A:dL) (b:List Env) (s:FM) (H:Hp) (c:List V) (Q:VK) (E:XK),Room k (A.deeper (envOfC a (AH g) s.heap.objs.size f e))->j c H Q E ->
   ∃t,PSs (EX CL P w K mg base N a (AH g) f e A b s H E).nox (BX g) t/\t { nx:=λ_ n=>Q .non n,rt:=Q } (start N c) H):BD P w K mg base CL (k+1) f fd i j:=by
 obtain⟨v,y,z,o,B,C,e,D,p,rfl,r,l⟩:=F.ex;refine XI r l S len λA b s H c Q E u m=>?_;obtain⟨t,h,q⟩:=d _ A _ s H c Q E u m;exact⟨t,h.nox,q⟩
theorem Fun.binds{x a:Str}{d:dE}{f:Ch}{fd:dU}{ps:List Str}(F:Fun K x a d f fd)
  (h:∀(e b g:Cn) (i:Option Ch) (c j:Cn) (k:List Cn),k.length=ps.length->bindArgs (fnOf x a (CP d) (BX d) (AH d) .none e b g i c j) ⟨k,[]⟩=pure (ps.zip k)):Binds K fd ps []:=by
 obtain⟨n,o,e,b,g,i,c,j,l,rfl,p,m⟩:=F.ex;exact .all (h e _ g i _ j)
theorem Mx{x a:Str}{st:dE}{f:Ch}{j:Cn}{m e:Option Ch}{g:Array (Option Cn)}{kV d h b i:Cn}(l:K.lookup f=some ⟨j,m,.func (fnOf x a (CP st) (BX st) (AH st) .none kV d h e b i),g⟩)
  (c:codeIn K b a=true) (k:keepIn K (.ref f)=true):Fun K x a st f (fnOf x a (CP st) (BX st) (AH st) .none kV d h e b i):=⟨⟨j,m,kV,_,h,e,_,i,_,rfl,l,c⟩,k⟩
end
theorem J9{A:dL}{k:Nat}(a:Room k A):A.units+1<cLine:=fD (Nat.add_le_add_left (by decide) _) a.units
section
variable {X:Cx}
theorem pv(i:Nat){x:Str}{pos:Pos}(b:X.N[i]?=some x:=by rfl)(c:Sw X.env.scope x:=by first | exact TW rfl | exact da (TW rfl) | exact da (da rfl))(hd:(x==("__debug__":Str))=false:=by decide)
  (a:(x==("__classdict__":Str))=false:=by decide):PE X (.Name x pos) (CH i):=Em b c hd a
end
theorem BQ{A B:Prop}(h:B):if false=true then A else B:=by
 grind
theorem Bi{A B:Prop}(h:A):if true=true then A else B:=by
 grind
theorem B3{c A B:Prop}[Decidable c](a:c->A)(b:¬c->B):if c then A else B:=by
 grind
section
variable {κ:Type}[DecidableEq κ]
def E7(a:List (κ×V))(k:κ):Option V:=(a.find? λb=>decide (b.1=k)).map (·.2)
def putK(a:List (κ×V))(k:κ)(v:V):List (κ×V) :=
 if (a.any λb=>decide (b.1=k))=true then a.map (λb=>if b.1=k then (b.1,v) else b) else a++[(k,v)]
theorem E_{p:κ×V}{r:List (κ×V)}{k:κ}(e:p.1=k):E7 (p::r) k=some p.2:=by simp [E7,e]
theorem FA{p:κ×V}{r:List (κ×V)}{k:κ}(e:¬p.1=k):E7 (p::r) k=E7 r k:=by simp [E7,e]
theorem Nb(k:κ):∀a:List (κ×V),(a.any λb=>decide (b.1=k))=(E7 a k).isSome
 | []=>rfl
 | p::r=>by
  rw [List.any_cons]
  by_cases e:p.1=k
  ·simp [E_ e,decide_eq_true e,Bool.true_or]
  ·rw [FA e,decide_eq_false e]; exact Nb k r
theorem FR(a:List (κ×V))(k:κ)(v:V):(putK a k v).length<=a.length+1:=by
 unfold putK
 grind
theorem RelO.isSome_eq{o:Option V}{u:Option Cn}(r:RelO o u):o.isSome=u.isSome:=by
 cases o with
 | none=>cases u with
  | none=>rfl
  | some _=>exact(r).elim
 | some _=>cases u with
  | none=>exact(r).elim
  | some _=>rfl
theorem RelO.getD{o:Option V}{u:Option Cn}{d:V}{a:Cn}(r:RelO o u)(b:RelV d a):RelV (o.getD d) (u.getD a):=by
 cases o with
 | none=>cases u with
  | none=>exact b
  | some _=>exact(r).elim
 | some _=>cases u with
  | none=>exact(r).elim
  | some _=>exact r
theorem KV.val{a:List (κ×V)}{f:List (κ×Cn)}(r:KV a f)(k:κ):RelO (E7 a k) (valueAt f k):=by
 induction r with
 | nil=>exact eP
 | @cons p q l c h t i =>
  obtain⟨g,j⟩:=h
  by_cases e:p.1=k
  ·have d:=g.symm.trans e
   have b:valueAt (q::c) k=some q.2:=by simp [valueAt,d]
   rw [E_ e,b]; exact j
  ·have d:¬q.1=k:=λz=>e (g.trans z)
   have b:valueAt (q::c) k=valueAt c k:=by simp [valueAt,d]
   rw [FA e,b]; exact i
theorem KV.any{a:List (κ×V)}{c:List (κ×Cn)}(r:KV a c)(k:κ):(a.any λb=>decide (b.1=k))=c.any λb=>decide (b.1=k):=by
 induction r with
 | nil=>rfl
 | cons h t d=>simp_all
theorem KV.repl{b:List (κ×V)}{c:List (κ×Cn)}(r:KV b c)(k:κ){y:V}{u:Cn}(f:RelV y u) :
  KV (b.map λa=>if a.1=k then (a.1,y) else a) (c.map λa=>if a.1=k then (a.1,u) else a):=by
 induction r with
 | nil=>exact .nil
 | @cons p q g i h t d =>
  refine .cons ?_ d
  by_cases e:p.1=k
  ·simp_all
  simp_all
theorem KV.put{kvs:List (κ×V)}{a:List (κ×Cn)}(r:KV kvs a)(k:κ){y:V}{u:Cn}(b:RelV y u):KV (putK kvs k y) (stored a k u):=by
 unfold putK stored;rw [r.any k]
 by_cases e:(a.any λc=>decide (c.1=k))=true
 ·rw [if_pos e,if_pos e]; exact r.repl k b
 ·rw [if_neg e,if_neg e]; exact Paired.snoc r ⟨rfl,b⟩
theorem KV.length{a:List (κ×V)}{b:List (κ×Cn)}(r:KV a b):a.length=b.length:=Paired.length r
end
theorem H_{P:cz}{w:dC}{k:Key}{u:Cn}(r:RelV (kV k) u):(BV P w).is k u=true:=by
 cases k with
 | inl i=>obtain⟨t,e⟩:=(r); subst e; exact OM P w i t
 | inr x=>obtain⟨t,e⟩:=(r); subst e; exact OL P w x t
theorem Lg{P:cz}{w:dC}:∀{a:List Key} {b:List Cn},Vals (a.map kV) b->ItemsAre (BV P w) a b
 | [],_,r=>by cases r; exact .nil
 | k::a,_,r=>by
  cases r with
  | cons h t=>exact .cons (H_ h) (Lg t)
abbrev KT(H:Hp):List (List Key×V)->List (List Key×Ch×Cn)->Prop:=Paired λp q=>p.1=q.1/\H q.2.1=some (.tup (p.1.map kV))/\RelV p.2 q.2.2
theorem KT.val{H:Hp}{a:List (List Key×V)}{f:List (List Key×Ch×Cn)}(r:KT H a f)(k:List Key):RelO (E7 a k) ((atKey f k).map (·.2)):=by
 induction r with
 | nil=>exact eP
 | @cons p q l c h t i =>
  obtain⟨g,_,j⟩:=h
  by_cases e:p.1=k
  ·have d:=g.symm.trans e
   have b:atKey (q::c) k=some q.2:=by simp [atKey,d]
   rw [E_ e,b]; exact j
  ·have d:¬q.1=k:=λz=>e (g.trans z)
   have b:atKey (q::c) k=atKey c k:=by simp [atKey,d]
   rw [FA e,b]; exact i
theorem KT.repl{H:Hp}{a:List (List Key×V)}{c:List (List Key×Ch×Cn)}(r:KT H a c)(k:List Key){y:V}{u:Cn}(f:RelV y u) :
  KT H (a.map λb=>if b.1=k then (b.1,y) else b) (c.map (putAt k u)):=by
 induction r with
 | nil=>exact .nil
 | @cons p q g i h t d =>
  refine .cons ?_ d;unfold putAt
  by_cases e:p.1=k
  ·simp_all
  simp_all
theorem KT.put{H:Hp}{kvs:List (List Key×V)}{a:List (List Key×Ch×Cn)}(r:KT H kvs a)(k:List Key){b:Ch}{y:V}{u:Cn}(d:H b=some (.tup (k.map kV)))(c:RelV y u) :
  KT H (putK kvs k y) (storedH a k b u):=by
 have e:(kvs.any λf=>decide (f.1=k))=(atKey a k).isSome:=by
  rw [Nb,(r.val k).isSome_eq,i8]
 unfold putK storedH;rw [e]
 by_cases q:(atKey a k).isSome=true
 ·rw [if_pos q,if_pos q]; exact r.repl k c
 ·rw [if_neg q,if_neg q]; exact Paired.snoc r ⟨rfl,d,c⟩
theorem KT.keeps{H c:Hp}{a:List (List Key×V)}{d:List (List Key×Ch×Cn)}(r:KT H a d)(f:∀b e,H b=some (.tup e)->c b=some (.tup e)):KT c a d :=
 Paired.mapP r λ_ _ z=>⟨z.1,f _ _ z.2.1,z.2.2⟩
section
variable {P:Program}{w:World}{H:Hp}{h:Heap}{a:Addr}
theorem Wy{u:HO}(ok:HOk P w H h)(e:Rd H a u):ObjOk P w H h a u:=e.ok ok
theorem G7{b:List (Key×V)}(ok:HOk P w H h)(e:Rd H a (.dK b)):b.length<=sizeLine/\(a==sysModules)=false/\∃c,KV b c/\h.DictOf (BV P w) a c :=
 Wy ok e
theorem XR{b:List (Key×V)}(ok:HOk P w H h)(e:H a=some (.dK b)):b.length<=sizeLine/\(a==sysModules)=false/\∃c,KV b c/\h.DictOf (BV P w) a c:=G7 ok (.inl e)
theorem GZ{b:List Key}(ok:HOk P w H h)(e:H a=some (.tup (b.map kV))):(tupleKind (BV P w)).is h b a:=by
 obtain⟨_,c,r,o,d,f,n,g,_⟩:=(ok a _ e);exact⟨o,_,n,d,f,g,by simpa using Lg r⟩
theorem IE{b:List (List Key×V)}(ok:HOk P w H h)(e:Rd H a (.dT b)):b.length<=sizeLine/\(a==sysModules)=false /\
  ∃d,KT H b d/\h.DictOfH (tupleKind (BV P w)) a d:=by
 obtain⟨z,y,d,r,o,f,g,i,j,k,n,s⟩:=(Wy ok e);refine⟨z,y,d,r,o,f,g,i,j,k,n,λx c=>?_,s⟩
 have all:∀{l:List _} {m:List _},KT H l m->∀x∈m,(tupleKind (BV P w)).is h x.1 x.2.1:=by
  intro l m q
  induction q with
  | nil=>grind
  | @cons p q v A B t u =>
   intro x c
   rcases T0.mp c with e | c
   ·exact GZ ok (by grind)
   ·exact u x c
 exact all r x c
theorem aL{b:List (List Key×V)}(ok:HOk P w H h)(e:H a=some (.dT b)):b.length<=sizeLine/\(a==sysModules)=false /\
  ∃c,KT H b c/\h.DictOfH (tupleKind (BV P w)) a c:=IE ok (.inl e)
end
def DGet(H:Hp)(a:Ch)(y:V)(r:Option V):Prop :=
 (∃c k,Rd H a (.dK c)/\y=kV k/\r=E7 c k)\/∃c k b,Rd H a (.dT c)/\y=.ref b/\H b=some (.tup (k.map kV))/\r=E7 c k
def DPut(H:Hp)(a:Ch)(y v:V)(d:Hp):Prop :=
 (∃c k,H a=some (.dK c)/\y=kV k/\c.length<sizeLine/\d=A4 H a (.dK (putK c k v))) \/
 ∃c k b,H a=some (.dT c)/\y=.ref b/\H b=some (.tup (k.map kV))/\c.length<sizeLine/\d=A4 H a (.dT (putK c k v))
theorem DGet.k{H:Hp}{a:Ch}{b:List (Key×V)}{k:Key}(e:H a=some (.dK b)):DGet H a (kV k) (E7 b k):=.inl ⟨_,k,.inl e,rfl,rfl⟩
theorem DPut.k{H:Hp}{a:Ch}{b:List (Key×V)}{k:Key}{v:V}(e:H a=some (.dK b))(c:b.length<sizeLine):DPut H a (kV k) v (A4 H a (.dK (putK b k v))):=.inl ⟨_,k,e,rfl,c,rfl⟩
section
variable {X:Cx}{zG:List (Addr×Obj)}{σ:St}{H:Hp}{s:Shared}{a:Addr}{y v:V}{u r:Value}{o:Option V}{A:Around}{E:Value->Shared->Prop}
theorem Inv.big(I:Inv X zG σ H s):sysModules<s.heap.objs.size:=iI (by decide) (I.mod.glob.keeps I.bk).lt
theorem Sn{Q:Cn->FM->Prop}(B:A.units+1<cLine)(I:Inv X zG σ H s)(g:DGet H a y (some v))(t:RelV y u)(h:∀f x,Inv X zG σ H x->RelV v f->Q f x) :
  wpAny (model X.prog X.w) A (getItem (.ref a) u) Q E s:=by
 rcases g with ⟨i,k,e,j,l⟩ | ⟨i,k,b,e,j,C,l⟩
 ·subst j
  obtain⟨z,D,F,c,m⟩:=G7 I.hok e;obtain⟨f,n,d⟩:=RelO.some_of (v:=v) (o:=valueAt F k) (by rw [l]; exact c.val k);exact wpAny_getItem_of (H_ t) m.mapOf n (h f _ (I.tok _) d)
 ·subst j
  cases (show u=cm b from t);obtain⟨z,D,G,c,m⟩:=IE I.hok e;obtain⟨f,n,d⟩:=RelO.some_of (v:=v) (o:=(atKey G k).map (·.2)) (by rw [l]; exact c.val k);obtain⟨p,J,q⟩:=fS.mp n;refine wpAny_getItem_heap (fW B) (GZ I.hok C) m J ?_;rw [q];exact h f _ (I.tok _) d
theorem bi{Q:Cn->FM->Prop}(p:A.units+1<cLine)(I:Inv X zG σ H s)(g:DGet H a y o)(m:RelV y u)(h:∀n,Inv X zG σ H n->Q (.bool o.isSome) n) :
  wpAny (model X.prog X.w) A (compareOp .In u (.ref a)) Q E s:=by
 rcases g with ⟨d,k,e,f,l⟩ | ⟨d,k,b,e,f,t,l⟩
 ·subst f
  obtain⟨z,i,x,c,j⟩:=G7 I.hok e;refine wpAny_in_of (H_ m) i j.mapOf ?_;rw [← (c.val k).isSome_eq,← l];exact h _ (I.tok _)
 ·subst f
  cases (show u=cm b from m);obtain⟨z,i,B,c,j⟩:=IE I.hok e;refine wpAny_in_heap (fW p) (GZ I.hok t) i j ?_;have q:=(c.val k).isSome_eq;rw [i8] at q;rw [← q,← l];exact h _ (I.tok _)
theorem We{Q:Cn->FM->Prop}(p:A.units+1<cLine)(I:Inv X zG σ H s)(g:DGet H a y o)(m:RelV y u)(h:∀n,Inv X zG σ H n->Q (.bool (!o.isSome)) n) :
  wpAny (model X.prog X.w) A (compareOp .NotIn u (.ref a)) Q E s:=by
 rcases g with ⟨d,k,e,f,l⟩ | ⟨d,k,b,e,f,t,l⟩
 ·subst f
  obtain⟨z,i,x,c,j⟩:=G7 I.hok e;refine wpAny_notIn_of (H_ m) i j.mapOf ?_;rw [← (c.val k).isSome_eq,← l];exact h _ (I.tok _)
 ·subst f
  cases (show u=cm b from m);obtain⟨z,i,B,c,j⟩:=IE I.hok e;refine wpAny_notIn_heap (fW p) (GZ I.hok t) i j ?_;have q:=(c.val k).isSome_eq;rw [i8] at q;rw [← q,← l];exact h _ (I.tok _)
theorem NE{c:cw}{e:Nat}{d:HO}(I:Inv X zG σ H s)(f:aZ (H a))(g:fq a s.heap c)(h:∃q,c.get? a=some q)(new:ObjOk X.prog X.w (A4 H a d) c a d) :
  Inv X zG σ (A4 H a d) { s with heap:=c,toks:=e } :=
 I.write f (.inl rfl) (λb q i z=>(g.2 b i).trans z) h new
theorem U8{P:cz}{w:dC}{f:Hp}{e:cw}{b:List (Key×V)}{c:List (Key×Cn)}(z:b.length<=sizeLine)(hd:(a==sysModules)=false)(d:KV b c)(g:e.DictOf (BV P w) a c) :
  ObjOk P w f e a (.dK b):=⟨z,hd,c,d,g⟩
theorem Sm{D:Hp}{Q:Unit->FM->Prop}(M:A.units+1<cLine)(I:Inv X zG σ H s)(g:DPut H a y v D)(F:RelV y u)(rv:RelV v r)(h:∀G,Inv X zG σ D G->Q () G) :
  wpAny (model X.prog X.w) A (setItem (.ref a) u r) Q E s:=by
 rcases g with ⟨d,k,e,m,l,n⟩ | ⟨d,k,b,e,m,J,l,n⟩
 ·subst m n
  obtain⟨z,p,N,f,t⟩:=XR I.hok e;have x:N.length<=sizeLine:=by rw [← f.length]; exact z
  have B:(putK d k v).length<=sizeLine:=by have:=FR d k v; omega
  refine wpAny_setItem_pairs (hsz:=x) (H_ F) t λK i C=>h _ ?_;have O:∃q,K.get? a=some q:=let ⟨q,_,_,j,_⟩:=i; ⟨q,j⟩
  exact NE I (by rw [e]; exact eP) C O (U8 B p (f.put k rv) i)
 ·subst m n
  cases (show u=cm b from F);obtain⟨z,p,P,f,t⟩:=aL I.hok e;have x:P.length<=sizeLine:=by rw [← Paired.length f]; exact z
  have B:(putK d k v).length<=sizeLine:=by have:=FR d k v; omega
  refine wpAny_setItem_heap (hsz:=x) (fW M) (GZ I.hok J) t λK i C=>h _ ?_;obtain⟨q,R,S,j,T,U,V,_,W⟩:=i;refine NE I (by rw [e]; exact eP) C ⟨q,j⟩ ⟨B,p,_,(f.put k J rv).keeps λc Y L=>?_,q,R,S,j,T,U,V,W⟩;rw [AQ (Z5 L e (λz=>nomatch z))];exact L
end
def Y8(i:c_):Prop:=∀a b,subscripted i false a b=operate [a,b] (getItem a b)
theorem Vf{b:cz}{w:dC}{A:dL}{E:Cn->FM->Prop}{s:FM}{f:Env}{value a:c_}{pos:Pos}{T l:String}{Q:Cn->FM->Prop}
  (m:typeLookup (.type T) "__getitem__"=pure (some (.builtin l))) (n:Y8 a)
  (h:wpAny (model b w) A (eval value f) (λo e=>wpAny (model b w) A (eval a f) (λi c=>c.TypeIs o T/\wpAny (model b w) A (getItem o i) Q E c) E e) E s) :
  wpAny (model b w) A (eval (.Subscript value a pos) f) Q E s:=by
 refine Subscript_ (dP h (λo e g=>dP g (λi c d=>?_) λ_ _ x=>x) λ_ _ x=>x);obtain⟨p,d⟩:=d;refine Db ?_;refine Db (wpAny_specialOf p m ?_)
 first
  | exact Sc (Db (by
  rw [n o i];exact wpAny_operating (dP d (λr k j=>Db (wpAny_letTemporaryGo (Sc j))) λ_ _ x=>x)))
  | grind
  | grind
theorem Oq{X:Cx}{f:List (Ch×Obj)}{h:St}{H:Hp}{s:FM}{a:Ch}{y:V}{o:Option V}(I:Inv X f h H s)(g:DGet H a y o):s.TypeIs (.ref a) "dict":=by
 rcases g with ⟨c,k,e,_,_⟩ | ⟨c,k,b,e,_,_,_⟩
 ·obtain⟨_,_,i,_,d⟩:=G7 I.hok e
  exact d.typeIs
 ·obtain⟨_,_,j,_,d⟩:=IE I.hok e
  exact d.typeIs
def Zc(c ty:TE):TE:=λb H Q=>c b H λx d=>ty b d λy H2=>∃a v,x=.ref a/\DGet H2 a y (some v)/\Q v H2
def Zg(d ty e:TE):TS:=λD b H=>e b H λv f=>d b f λx H2=>ty b H2 λy g=>∃a c,x=.ref a/\DPut g a y v c/\D.nx b c
section
variable {X:Cx}{o i value:Expr}{pos pos':Pos}{td ty tv:TE}
theorem MY(e:X.A.units+1<cLine)(f:PE X o td)(j:PE X i ty)(k:Y8 i):PE X (.Subscript o i pos) (Zc td ty):=by
 intro z s c H Q I h;refine Vf PySem.F.slot_dict_getitem.lookup k (thn (f _ s c H _ I h) λu l ⟨x,m,n,p,q⟩=>thn (j _ l c m _ n q) λB C ⟨y,H2,d,r,a,v,ex,g,t⟩=>?_);subst ex;obtain rfl:u=cm a:=p;exact⟨Oq d g,Sn e d g r λD E w b=>⟨v,H2,w,b,t⟩⟩
theorem Ir(c:X.A.units+1<cLine)(d:PE X o td)(e:PE X i ty)(f:PE X value tv)(j:swapsWith value (some (.Subscript o i pos')) pos.line X.env=pure false) :
  PS X (.Assign [.Subscript o i pos'] value pos) (Zg td ty tv):=by
 intro J s b H D I h;refine wpAny_Assign_Subscript (thn (f _ s b H _ I h) λr k ⟨v,l,m,n,p⟩=>thn (d _ k b l _ m p) λu q ⟨x,H2,t,w,z⟩=>thn (e _ q b H2 _ t z) λK L ⟨y,M,B,C,a,E,ex,g,F⟩=>?_) j;subst ex;obtain rfl:u=cm a:=w;exact Sm c B g C n λN G=>⟨b,E,G,F⟩
end
theorem Oo{P:cz}{w:dC}{H:Hp}(h:cw)(a:sysModules<h.objs.size):ObjOk P w H (h.push { cls:=.type "dict",data:=.dict #[] }) h.objs.size (.dK []) :=
 ⟨TM _,beq_eq_false_iff_ne.mpr (eF (c7 a)),[],.nil,Heap.DictOf.new h⟩
def Xv:TE:=λ_ H Q=>∀p,H p=none->Q (.ref p) (A4 H p (.dK []))
section
variable {X:Cx}{pos:Pos}
theorem N7:PE X (.Dict [] [] pos) Xv:=λa s b H Q I h =>
 wpAny_Dict_empty ⟨.ref _,_,I.laid (λ_ _ q=>Ev _ q) (On _) (Oo _ I.big),rfl,h _ (I.hok.fresh (On _))⟩
end
def PQ:List (TE×TE)->St->Hp->(List (V×V)->Hp->Prop)->Prop
 | [],_,H,Q=>Q [] H
 | (b,c)::r,a,H,Q=>b a H λx d=>c a d λy H2=>PQ r a H2 λe f=>Q ((x,y)::e) f
abbrev VV:List (V×V)->List (Cn×Cn)->Prop:=Paired λp q=>RelV p.1 q.1/\RelV p.2 q.2
def az(X:Cx)(pos:Pos)(b:List (Option c_))(a:List c_)(c:List (TE×TE)):Prop :=
 ∀(e:List (Ch×Obj)) (s:FM) (d:St) (H:Hp) (Q:List (V×V)->Hp->Prop),Inv X e d H s->PQ c d H Q ->
  wpAny (model X.prog X.w) X.A (evalPairs (pairTrees b a X.env pos)) (λh i=>∃f g,Inv X e d g i/\VV f h/\Q f g) X.xe s
theorem Vm{X:Cx}{pos:Pos}:az X pos [] [] []:=λa s b H Q I h=>pairTrees_nil_walk ⟨[],H,I,.nil,h⟩
theorem UG{X:Cx}{pos:Pos}{k v:c_}{d:List (Option c_)}{e:List c_}{f g:TE}{a:List (TE×TE)}(i:PE X k f)(j:PE X v g)(l:az X pos d e a) :
  az X pos (some k::d) (v::e) ((f,g)::a):=λD s b H Q I h =>
 pairTrees_cons_walk (thn (i _ s b H _ I h) λu m ⟨x,n,o,p,q⟩=>thn (j _ m b n _ o q) λE r ⟨y,H2,t,w,z⟩ =>
  thn (l _ r b H2 _ t z) λF G ⟨J,A,B,c,C⟩=>⟨_,A,B,.cons ⟨p,w⟩ c,C⟩)
def Jv(a more:List (Key×V)):List (Key×V):=more.foldl (λb c=>putK b c.1 c.2) a
theorem KV.merge:∀{a:List (Key×V)} {d:List (Key×Cn)} {b:List (Key×V)} {c:List (Key×Cn)},KV a d->KV b c->KV (Jv b a) (merged c d):=by
 intro a d b c r
 induction r generalizing b c with
 | nil=>intro q; exact q
 | @cons p q g i h t e =>
  intro f
  exact e (by
   have:=f.put p.1 h.2
   simp_all)
theorem F8:∀(more a:List (Key×V)),(Jv a more).length<=a.length+more.length
 | [],a=>by show a.length<=a.length+0; omega
 | p::r,a=>by
  have b:=F8 r (putK a p.1 p.2);have c:=FR a p.1 p.2;show (Jv _ r).length<=_
  grind
theorem KS{P:cz}{w:dC}:∀{d:List (Key×V)} {f:List (Cn×Cn)},VV (d.map λg=>(kV g.1,g.2)) f->∃e,Carries (BV P w) f e/\KV d e
 | [],_,r=>by cases r; exact⟨[],eP,.nil⟩
 | p::d,_,r=>by
  cases r with
  | @cons a b j k h t =>
   obtain⟨e,c,q⟩:=KS t;obtain⟨l,i⟩:=b;exact⟨(p.1,i)::e,⟨H_ h.1,rfl,c⟩,.cons ⟨rfl,h.2⟩ q⟩
def Zb(b:List (TE×TE)):TE:=λd H Q=>∀p,H p=none->PQ b d (A4 H p (.dK [])) λe H2=>H2 p=some (.dK [])/\∃a:List (Key×V),e=a.map (λc=>(kV c.1,c.2))/\a.length<=15/\Q (.ref p) (A4 H2 p (.dK (Jv [] a)))
theorem Vs{X:Cx}{pos:Pos}{b:List (Option c_)}{d:List c_}{f:List (TE×TE)}(h:az X pos b d f)(g:b.all (·.isSome)=true)(n:b.length=d.length)(p:b≠[])
  (k:b.length<=15):PE X (.Dict b d pos) (Zb f):=by
 intro r s t H Q I q;have u:=I.hok.fresh (On s.heap.objs.size);have v:=I.laid (a:=s.heap.objs.size) (o:=.dK []) (h':=s.heap.push { cls:=.type "dict",data:=.dict #[] }) (t':=s.toks) (λ_ _ q=>Ev _ q) (On _) (Oo s.heap I.big);refine wpAny_Dict_walk (knd:=BV X.prog X.w) g n p k (thn (h r _ t _ _ v (q _ u)) λN O ⟨R,H2,m,l,e,i,x,S,y⟩=>?_);subst x;obtain⟨A,c,B⟩:=KS (P:=X.prog) (w:=X.w) l;obtain⟨z,C,D,E,F⟩:=XR m.hok e;cases E;refine⟨A,c,F,λh' j G=>⟨.ref s.heap.objs.size,_,?_,rfl,y⟩⟩
 have J:(Jv [] i).length<=sizeLine:=by
  have K:=F8 i [];rw [eE] at K;rw [di]; omega
 have L:∃q,h'.get? s.heap.objs.size=some q:=let ⟨q,_,_,M,_⟩:=j; ⟨q,M⟩
 exact NE m (by rw [e]; exact eP) G L (U8 J C (B.merge .nil) j)
structure M1 (X:Cx) (o:c_) (m:Str) (apos:Pos) (e:c_) (cpos:Pos):Prop where
 base:attributeBase o m X.env (eval o X.env)=eval o X.env
 few:((backTo cpos (starEach [e] X.env)).all (λx=>!x.1)&&(backToKw cpos (keywordEach [] X.env)).all (λx=>x.1.isSome)
  && decide (([e]:List c_).length+([]:List gL).length+(if ([]:List gL).isEmpty then 0 else 1)<30))=true
 line:(apos.endLine==cpos.line)=true
 trees:backTo cpos (starEach [e] X.env)=[(false,eval e X.env)]
structure M2 (X:Cx) (o:c_) (m:Str) (apos:Pos) (e f:c_) (cpos:Pos):Prop where
 base:attributeBase o m X.env (eval o X.env)=eval o X.env
 few:((backTo cpos (starEach [e,f] X.env)).all (λx=>!x.1)&&(backToKw cpos (keywordEach [] X.env)).all (λx=>x.1.isSome)
  && decide (([e,f]:List c_).length+([]:List gL).length+(if ([]:List gL).isEmpty then 0 else 1)<30))=true
 line:(apos.endLine==cpos.line)=true
 trees:backTo cpos (starEach [e,f] X.env)=[(false,eval e X.env),(false,eval f X.env)]
def a_(H:Hp)(a:Ch):Prop:=(∃b,Rd H a (.dK b))\/∃b,Rd H a (.dT b)
theorem Ut{X:Cx}{k:List (Ch×Obj)}{l:St}{H:Hp}{s:FM}{a:Ch}(I:Inv X k l H s)(d:a_ H a) :
  s.TypeIs (.ref a) "dict"/\(∀b,cm a=.ref b->∃c,s.heap.get? b=some c/\c.dict=none)/\(a==sysModules)=false:=by
 rcases d with ⟨g,e⟩ | ⟨g,e⟩
 ·obtain⟨_,h,m,_,f⟩:=G7 I.hok e
  refine⟨f.typeIs,λb q=>?_,h⟩;cases q;obtain⟨c,_,_,i,j,_⟩:=f;exact⟨c,i,j.2.1⟩
 ·obtain⟨_,h,n,_,f⟩:=IE I.hok e
  refine⟨f.typeIs,λb q=>?_,h⟩;cases q;obtain⟨c,_,_,i,j,_⟩:=f;exact⟨c,i,j.2.1⟩
section
variable {X:Cx}{zG:List (Addr×Obj)}{σ:St}{H:Hp}{s:Shared}{a:Addr}{y d:V}{u r:Value}{o:Option V}{A:Around}{E:Value->Shared->Prop}
theorem Yp{Q:Cn->FM->Prop}(t:A.units+1<cLine)(I:Inv X zG σ H s)(g:DGet H a y o)(n:RelV y u)(h:∀p q,Inv X zG σ H q->RelV (o.getD .non) p->Q p q) :
  wpAny (model X.prog X.w) A (call (.builtin "dict.get") [.ref a,u]) Q E s:=by
 rcases g with ⟨i,k,e,j,l⟩ | ⟨i,k,b,e,j,v,l⟩
 ·subst j
  obtain⟨z,m,B,c,f⟩:=G7 I.hok e;refine jL PySem.F.slot_dict_get f.typeIs PySem.F.entry_dict_get (PySem.F.args_dict_get_2 _ _) (meets_dict_get (BV X.prog X.w) a (H_ n) m) ⟨_,f.mapOf,h _ _ (I.tok _) ?_⟩;rw [l];exact(c.val k).getD rfl
 ·subst j
  cases (n);obtain⟨z,m,x,c,f⟩:=IE I.hok e;refine jL PySem.F.slot_dict_get f.typeIs PySem.F.entry_dict_get (PySem.F.args_dict_get_2 _ _) (meetsH_dict_get _ a b m) ⟨fW t,k,x,GZ I.hok v,f,h _ _ (I.tok _) ?_⟩;rw [l];exact(c.val k).getD rfl
theorem Yo{Q:Cn->FM->Prop}(v:A.units+1<cLine)(I:Inv X zG σ H s)(g:DGet H a y o)(n:RelV y u)(p:RelV d r)(h:∀q t,Inv X zG σ H t->RelV (o.getD d) q->Q q t) :
  wpAny (model X.prog X.w) A (call (.builtin "dict.get") [.ref a,u,r]) Q E s:=by
 rcases g with ⟨i,k,e,j,l⟩ | ⟨i,k,b,e,j,x,l⟩
 ·subst j
  obtain⟨z,m,C,c,f⟩:=G7 I.hok e;refine jL PySem.F.slot_dict_get f.typeIs PySem.F.entry_dict_get (PySem.F.args_dict_get_3 _ _ _) (meets_dict_get_default (BV X.prog X.w) a (H_ n) m r) ⟨_,f.mapOf,h _ _ (I.tok _) ?_⟩;rw [l];exact(c.val k).getD p
 ·subst j
  cases (n);obtain⟨z,m,B,c,f⟩:=IE I.hok e;refine jL PySem.F.slot_dict_get f.typeIs PySem.F.entry_dict_get (PySem.F.args_dict_get_3 _ _ _) (meetsH_dict_get_default _ a b m r) ⟨fW v,k,B,GZ I.hok x,f,h _ _ (I.tok _) ?_⟩;rw [l];exact(c.val k).getD p
end
def Xx(d ty:TE):TE:=λb H Q=>d b H λx c=>∃a,x=.ref a/\a_ c a/\ty b c λy H2=>∃o,DGet H2 a y o/\Q (o.getD .non) H2
def Xw(e ty f:TE):TE:=λb H Q=>e b H λx c=>∃a,x=.ref a/\a_ c a/\ty b c λy H2=>f b H2 λz d=>∃o,DGet d a y o/\Q (o.getD z) d
section
variable {X:Cx}{o e f:Expr}{apos cpos:Pos}{td ty tx:TE}
theorem UQ(j:X.A.units+1<cLine)(k:PE X o td)(l:PE X e ty)(m:M1 X o "get" apos e cpos):PE X (.Call (.Attribute o "get" apos) [e] [] cpos) (Xx td ty):=by
 intro D s c H Q I h;refine wpAny_Call_method m.base m.few m.line PySem.F.plainAttrs_dict PySem.F.slot_dict_get PySem.F.type_dict_get (thn (k _ s c H _ I h) λu n ⟨x,p,i,q,a,ex,d,r⟩=>?_);subst ex;obtain rfl:u=cm a:=q;obtain⟨t,v,_⟩:=Ut i d;refine⟨t,v,?_⟩;rw [m.trees];exact g8 rfl (iH (gC (thn (l _ n c p _ i r) λE G ⟨y,H2,w,z,J,g,B⟩=>gy (Yp j w g z λK L C b=>⟨_,H2,C,b,B⟩))))
theorem UP(j:X.A.units+1<cLine)(k:PE X o td)(l:PE X e ty)(n:PE X f tx)(m:M2 X o "get" apos e f cpos):PE X (.Call (.Attribute o "get" apos) [e,f] [] cpos) (Xw td ty tx):=by
 intro N s b H Q I h;refine wpAny_Call_method m.base m.few m.line PySem.F.plainAttrs_dict PySem.F.slot_dict_get PySem.F.type_dict_get (thn (k _ s b H _ I h) λu p ⟨x,q,i,r,a,ex,d,t⟩=>?_);subst ex;obtain rfl:u=cm a:=r;obtain⟨v,w,_⟩:=Ut i d;refine⟨v,w,?_⟩;rw [m.trees]
 exact g8 rfl (iH (gC (thn (l _ p b q _ i t) λO B ⟨y,H2,C,D,E⟩ =>
  gC (thn (n _ B b H2 _ C E) λP R ⟨z,G,J,K,S,g,L⟩=>gy (Yo j J g D K λT U M c=>⟨_,G,M,c,L⟩)))))
end
end L2
set_option maxHeartbeats 4000000
namespace L2
section
theorem QH{g:Env}:∀(f:List (Str×fN)) (h:List (Str×Ch)),(∀x,(x,dg)∈f->∃c,g.cells.lookup x=some c)->(∀x c,h.lookup x=some c->g.cells.lookup x=some c) ->
  ∃i,(forIn f h fun(x:Str×fN) (r:List (Str×Ch))=>(if (x.2==dg)=true then do let a ← cellOf g x.1; pure (gD ((x.1,a)::r)) else pure (gD r):Sem (ForInStep (List (Str×Ch)))))=(pure i:Sem _) /\
   (∀x c,i.lookup x=some c->g.cells.lookup x=some c)/\(∀x,((x,dg)∈f\/∃c,h.lookup x=some c)->∃c,i.lookup x=some c):=by
 intro f
 induction f with
 | nil =>
  intro h _ m;exact⟨h,rfl,m,λx d=>d.elim (λz=>absurd z (by simp)) λz=>z⟩
 | cons p r w =>
  intro h q m;obtain⟨n,k⟩:=p
  by_cases s:k=dg
  ·subst s
   obtain⟨c,y⟩:=q n Op;have j:cellOf g n=pure c:=by simp only [cellOf,y]
   obtain⟨i,e,a,b⟩:=w ((n,c)::h) (λx d=>q x (Re _ d)) (λx o d=>by
    rw [fP] at d;cases t:x==n with
    | true =>
     rw [t] at d;have u:some c=some o:=d;cases u
     have:x=n:=by simpa using t
     rw [this]; exact y
    | false=>rw [t] at d; exact m x o d)
   refine⟨i,?_,a,λx d=>b x ?_⟩
   ·rw [iJ]
    simp only [beq_self_eq_true,if_true,j,pure_bind];exact e
   ·by_cases l:x=n
    ·subst l
     exact .inr ⟨c,by simp [fP]⟩
    ·rcases d with d | ⟨o,d⟩
     ·rcases T0.mp d with d | d
      ·cases d; exact absurd rfl l
      ·exact .inl d
     ·refine .inr ⟨o,?_⟩
      have:(x==n)=false:=by simpa using l
      rw [fP,this];exact d
  ·have v:(k==dg)=false:=by simpa using s
   obtain⟨i,e,a,b⟩:=w h (λx d=>q x (Re _ d)) m;refine⟨i,?_,a,λx d=>b x ?_⟩
   ·rw [iJ]
    simp only [v,fX,if_false,pure_bind];exact e
   ·rcases d with d | d
    ·rcases T0.mp d with d | d
     ·cases d; exact absurd rfl s
     ·exact .inl d
    ·exact .inr d
theorem KR{scope:fF}{env:Env}(h:∀x,(x,dg)∈scope.names->∃c,env.cells.lookup x=some c) :
  ∃d,closureFor scope env=pure d/\(∀x c,d.lookup x=some c->env.cells.lookup x=some c)/\(∀x,(x,dg)∈scope.names->∃c,d.lookup x=some c):=by
 obtain⟨d,e,a,b⟩:=QH _ [] h (λx c f=>by simp at f);refine⟨d,?_,a,λx f=>b x (.inl f)⟩;simp [closureFor]
 simp_all
variable {prog:Program}{w:World}{A:Around}{R:Result->Shared->Prop}{s:Shared}
theorem NF{t a u:c_}{y:List c_}{p:fF}{pos:Pos}{F z:Cn}{b:Env}(I:Nat->FM->Prop)
  (B:∀n s,I n s->wpAny (model prog w) A (pyNext F) (λr d=>match r with
   | none=>R (.ok .next) d
   | some v=>wpAny (model prog w) A (letOwnedTupleGo a F v) (λ_ e=>wpAny (model prog w) A (assign a b v) (λ_ i =>
     wpAny (model prog w) A (forIn y true λc r=>if r=true then do let ok ← isTrue c b (eval c b); pure (gD ok) else pure (gD r)) (λok f =>
      if ok=true then wpAny (model prog w) A (eval t b) (λx j =>
       wpAny (model prog w) A (call (.builtin "list.append") [z,x]) (λ_ k=>∃m,m<n/\I m k) (λ_ _=>False) j) (λ_ _=>False) f
      else ∃m,m<n/\I m f) (λ_ _=>False) i) (λ_ _=>False) e) (λ_ _=>False) d) (λ_ _=>False) s)
  (n:Nat) (h:I n s) :
  codeAny (model prog w) A (.compLoop (.ListComp t [⟨a,u,y,0⟩] p pos) 0 F z b) R s:=by
 refine codeAny_loop rfl I (λn s G=>?_) n h;refine wpAny_noted ?_;refine Db (hG (Db (dP (B n s G) (λr d l=>?_) λ_ _ g=>g.elim)));cases r with
 | none=>exact Sc l
 | some v =>
  refine Db (dP l (λ_ e q=>?_) λ_ _ g=>g.elim);refine Db (dP q (λ_ i C=>Db (dP C (λok f o=>?_) λ_ _ g=>g.elim)) λ_ _ g=>g.elim);cases ok with
  | false=>exact Sc ⟨rfl,o⟩
  | true =>
   exact Db (Db (dP o (λx j D=>Db (dP D (λ_ k E=>Sc (Sc ⟨rfl,E⟩)) λ_ _ g=>g.elim)) λ_ _ g=>g.elim))
end
def A3(X:Cx)(a:fF)(b:List Str)(c:List (Str×Ch))(C:Ch)(s:FM)(H:Hp)(ex:List Ch):Cx where
 prog:=X.prog
 w:=X.w
 K:=X.K
 mg:=X.mg
 base:=X.base
 A:=X.A
 N:=b
 s₀:=s
 H₀:=H
 env:=compEnvC a c C X.env
 outer:=X.stack
 stack:=X.stack
 ex:=ex
 fn:=λ_=>false
 calm:=true
 pn:=[]
 xe:=λ_ _=>False
def Co(a:List (Option Nat))(b:St):St:=a.map λo=>match o with
 | some i=>(b[i]?).getD none
 | none=>none
def V9(o:Option fN):Bool:=match o with
 | some .cell=>true
 | some .free=>true
 | _=>false
theorem Q1{o:Option fN}(h:V9 o=true):o=some .cell\/o=some .free:=by
 unfold V9 at h
 split at h
 ·grind
 ·grind
 ·cases h
def isFree(o:Option fN):Bool:=match o with
 | some .free=>true
 | _=>false
theorem SX{o:Option fN}(h:isFree o=true):o=some .free:=by
 unfold isFree at h
 split at h
 ·rfl
 ·cases h
def Up(o:Option fN):Bool:=match o with
 | some .local=>true
 | _=>false
theorem Uo{o:Option fN}(h:Up o=true):o=some .local:=by
 unfold Up at h
 split at h
 ·rfl
 ·cases h
def Ur(k:ScopeKind):Bool:=match k with
 | .function=>true
 | _=>false
theorem Uq{k:ScopeKind}(h:Ur k=true):k=.function:=by
 unfold Ur at h
 split at h
 ·rfl
 ·cases h
def bU(b a:fF)(p:Str×fN):Bool:=match p.2 with
 | .cell=>false
 | .free=>V9 (a.names.lookup p.1)
 | .local=>Up (b.names.lookup p.1)
 | _=>true
def bh(x:Option Str)(y:Str):Bool:=match x with
 | some z=>z==y
 | none=>false
theorem Yg{x:Option Str}{y:Str}(h:bh x y=true):x=some y:=by
 unfold bh at h
 split at h
 ·grind
 ·cases h
def KU(b a:fF)(N:List Str):List Str->List (Option Nat)->Bool
 | [],[]=>true
 | x::c,some j::d=>isFree (b.names.lookup x)&&bh (N[j]?) x&&V9 (a.names.lookup x)&&KU b a N c d
 | _::c,none::d=>KU b a N c d
 | _,_=>false
def G9(b a:fF)(N c:List Str)(d:List (Option Nat)):Bool:=Ur b.kind&&b.names.all (bU b a)&&KU b a N c d
theorem Fb{d b:fF}{N:List Str}:∀{c:List Str} {a:List (Option Nat)},KU d b N c a=true->a.length=c.length
 | [],[],_=>rfl
 | x::e,some j::a,h=>by
  unfold KU at h;rw [cq] at h;rw [ZB,ZB,Fb h.2]
 | x::e,none::a,h=>by
  unfold KU at h;rw [ZB,ZB,Fb h]
 | [],some _::_,h=>by cases h
 | [],none::_,h=>by cases h
 | _::_,[],h=>by cases h
theorem NH{e a:fF}{N:List Str}:∀{f:List Str} {d:List (Option Nat)},KU e a N f d=true->∀{k:Nat} {x:Str} {j:Nat},f[k]?=some x->d[k]?=some (some j) ->
  e.names.lookup x=some .free/\N[j]?=some x/\(a.names.lookup x=some .cell\/a.names.lookup x=some .free)
 | [],_,_,k,x,j,b,_=>by simp at b
 | _::_,[],h,_,_,_,_,_=>by unfold KU at h; cases h
 | y::g,some i::d,h,k,x,j,b,c=>by
  unfold KU at h;rw [cq,cq,cq] at h;cases k with
  | zero =>
   simp at b c;subst b c;exact⟨SX h.1.1.1,Yg h.1.1.2,Q1 h.1.2⟩
  | succ k=>exact NH h.2 (k:=k) (by simpa using b) (by simpa using c)
 | y::g,none::d,h,k,x,j,b,c=>by
  unfold KU at h;cases k with
  | zero=>simp at c
  | succ k=>exact NH h (k:=k) (by simpa using b) (by simpa using c)
theorem SN{a:List (Option Nat)}{b:St}{k:Nat}{v:V}(h:(Co a b)[k]?=some (some v)):∃j,a[k]?=some (some j)/\b[j]?=some (some v):=by
 unfold Co at h;rw [dR] at h;cases e:a[k]? with
 | none=>simp_all
 | some o =>
  rw [e] at h;cases o with
  | none=>cases h
  | some j =>
   cases q:b[j]? with
   | none=>simp_all
   | some w=>simp_all
theorem C7{a:Env}:∀{b:List (Str×fN)} {x:Str},b.lookup x=some .free ->
  (b.map fun(n,k)=>if (k==dg&&a.scope.kind==.function&&a.kindOf n==some .cell) then (n,hU) else (n,k)).lookup x=some .cell \/
  (b.map fun(n,k)=>if (k==dg&&a.scope.kind==.function&&a.kindOf n==some .cell) then (n,hU) else (n,k)).lookup x=some .free
 | [],_,h=>by simp at h
 | (n,k)::r,x,h=>by
  have d:=@C7 a r x;show fR x ((if (k==dg&&a.scope.kind==.function&&a.kindOf n==some .cell)=true then (n,hU) else (n,k))::_)=_\/fR x ((if (k==dg&&a.scope.kind==.function&&a.kindOf n==some .cell)=true then (n,hU) else (n,k))::_)=_
  by_cases e:(k==dg&&a.scope.kind==.function&&a.kindOf n==some .cell)=true
  ·rw [if_pos e]
   cases c:x==n with
   | true=>exact .inl (by simp only [fP,c])
   | false =>
    simp only [fP,c] at h ⊢;exact d h
  ·rw [if_neg e]
   cases c:x==n with
   | true =>
    simp_all
   | false =>
    simp only [fP,c] at h ⊢;exact d h
theorem Pe{env:Env}{a:fF}(c:∀y∈a.names,y.2≠.cell){x:Str}(h:(relabel a env).names.lookup x=some .cell\/(relabel a env).names.lookup x=some .free):(x,dg)∈a.names:=by
 have e:(x,hU)∈(relabel a _).names\/(x,dg)∈(relabel a _).names:=h.elim (λz=>.inl (PySem.mem_of_lookup z)) λz=>.inr (PySem.mem_of_lookup z)
 have d:∀k,(k=.cell\/k=.free)->(x,k)∈(relabel a env).names->(x,dg)∈a.names:=by
  intro k f b;unfold relabel at b
  grind
 exact e.elim (d _ (.inl rfl)) (d _ (.inr rfl))
section
variable {X:Cx}{zG:List (Addr×Obj)}{σ:St}{H:Hp}{s:Shared}
structure CompOk (X:Cx) (sc:fF) (N':List Str) (js:List (Option Nat)):Prop where
 kind:sc.kind=.function
 cell:∀y∈sc.names,y.2≠.cell
 free:∀x,(x,dg)∈sc.names->X.env.scope.names.lookup x=some .cell\/X.env.scope.names.lookup x=some .free
 names:∀y∈sc.names,y.2=.local->sc.names.lookup y.1=some .local
 cap:KU sc X.env.scope X.N N' js=true
theorem CompOk.of{c:fF}{d:List Str}{f:List (Option Nat)}(h:G9 c X.env.scope X.N d f=true):CompOk X c d f:=by
 unfold G9 at h;rw [cq,cq,d9] at h;obtain⟨⟨g,a⟩,i⟩:=h;refine⟨Uq g,λy b e=>?_,λx j=>?_,λy b e=>?_,i⟩
 ·have q:=a y b
  unfold bU at q
  simp_all
 ·have q:=a _ j
  exact Q1 q
 ·have q:=a y b
  unfold bU at q;rw [e] at q;exact Uo q
theorem Od{D:fF}{E:List Str}{K:List (Option Nat)}{B:List (Str×Ch)}{F:List Ch}{f:cw}{V:Nat}(I:Inv X zG σ H s)(W:X.calm=true)(O:CompOk X D E K)
  (d:∀x c,B.lookup x=some c->X.env.cells.lookup x=some c) (k:∀x,(x,dg)∈D.names->∃c,B.lookup x=some c)
  (G:∀b∈F,Gh X zG H b) (Y:∀b∈F,∃o,s.heap.get? b=some o)
  (L:f.Ns (s.heap.objs.size+1) (λ_=>none)) (J:∀b o,s.heap.get? b=some o->f.get? b=some o) (Z:∃n,f.get? s.heap.objs.size=some { cls:=.type "list",data:=.seq #[] n }) :
  Inv (A3 X D E B (s.heap.objs.size+1) s H F) [] (Co K σ) (A4 H s.heap.objs.size (.lst [])) { s with heap:=f,toks:=V }:=by
 have fr:∀a,s.heap.objs.size<=a->H a=none:=λa ha=>I.hok.fresh ha
 have h:∀x c,B.lookup x=some c->c<s.heap.objs.size:=λx c e=>by
  obtain⟨v,q⟩:=I.cell x c (d x c e);exact q.lt
 have ok:(A3 X D E B (s.heap.objs.size+1) s H F).Ok:=by
  refine⟨I.ok.mod,O.kind,I.ok.glob,I.ok.blt,dq _,λx y c C M=>I.ok.inj x y c (d x c C) (d y c M),λx N=>?_,λx c N=>?_,λ_=>I.ok.hd W,I.ok.frames,.inl rfl,λb t=>⟨?_,λx c e=>?_⟩,I.bs,cx I.ok.bsz I.sz,λb o e t=>?_,λb t P=>?_,I.stack,I.stkFree⟩
  ·exact k x (Pe (env:=X.env) O.cell N)
  ·exact absurd (show false=true from N) c8
  ·obtain⟨o,e⟩:=Y b t
   exact c7 (fI (UF e))
  ·exact(G b t).2.2.2.2.1 x c (d x c e)
  ·rcases (G b t).2.2.2.1 with z | z
   ·exact I.ok.noex b o e z
   ·have C:b<X.base.objs.size:=UF e
    exact absurd (dA C (cx I.ok.bsz z)) (eK _)
  ·rcases T0.mp (I.stkSub b P) with z | z
   ·exact(G b t).2.1 z
   ·exact(G b t).2.2.1 z
 refine⟨ok,rfl,I.bare,?_,⟨_,L,λi x v C M h3=>?_⟩,λx c e=>?_,?_,λx c e=>?_,λp hp=>absurd (show p∈([]:List (Ch×Obj)) from hp) (by simp),?_,?_⟩
 ·exact Un.laid J (On _) (fr _ (On _))
 ·obtain⟨j,e1,e2⟩:=SN M
  obtain⟨T,c2,A⟩:=NH O.cap C e1;obtain⟨m,_,hl⟩:=I.loc;obtain⟨u,r,l⟩:=hl j x v c2 e2 (.inr A);refine⟨u,r,.inr ⟨C7 T,?_⟩⟩
  rcases l with ⟨l1,_⟩ | ⟨_,c,l2,l3⟩
  ·have Q:X.env.scope.names.lookup x=some .local:=l1
   rcases A with A | A <;> (rw [Q] at A; cases A)
  ·obtain⟨R,U⟩:=k x (PySem.mem_of_lookup T)
   have:R=c:=cv ((d x R U).symm.trans l2)
   subst this;obtain⟨S,w,g⟩:=id l3;exact⟨R,U,S,J _ _ w,g⟩
 ·obtain⟨v,S,w,g⟩:=I.cell x c (d x c e)
  exact⟨v,S,J _ _ w,g⟩
 ·show A4 H s.heap.objs.size (.lst []) (s.heap.objs.size+1)=none
  rw [AQ (Nat.succ_ne_self _)];exact fr _ (dq _)
 ·show A4 H s.heap.objs.size (.lst []) c=none
  rw [AQ (c7 (h x c e))];exact I.freeC x c (d x c e)
 ·refine I.hok.laid J (On _) ?_
  obtain⟨n,e⟩:=Z;exact⟨TM _,[],n,.nil,e⟩
 ·unfold Co
  show (K.map _).length=E.length;rw [Go];exact Fb O.cap
theorem Un.but{fs ex:List Ch}{H d:Hp}{h a f:cw}{C:Ch}(u:Un fs ex H d h a)(k:h.get? C=none)(g:∀b,b≠C->f.get? b=a.get? b):Un fs ex H d h f:=by
 have i:∀{b:Ch} {o:Obj},h.get? b=some o->b≠C:=λ{b o} e z=>by grind
 refine⟨λb o e n a c=>(g b (i e)).trans (u.keep b o e n a c),λb o e n a c=>?_,u.free,λb o e a=>?_,u.tups,u.frzs,u.tbls⟩
 ·obtain⟨j,q⟩:=u.slot b o e n a c
  exact⟨j,(g b (i e)).trans q⟩
 ·obtain⟨l,q⟩:=u.there b o e a
  simp_all
theorem J7{j:fF}{k:List Str}{l:List (Str×Ch)}{C:Ch}{g:List Ch}{c:List (Ch×Obj)}{m:St}{d:Hp}{f:FM}{h':cw}(I:Inv X zG σ H s)(n:∀b∈g,Gh X zG H b)(p:s.heap.objs.size<=C)
  (J:Inv (A3 X j k l C s H g) c m d f) (h:∀b,b≠C->h'.get? b=f.heap.get? b):Inv X zG σ d { f with heap:=h' }:=by
 have r:d C=none:=J.free
 refine I.call' J.os (Un.but J.base (by
  cases e:s.heap.get? C with
  | none=>rfl
  | some o=>exact absurd (UF e) (iK.mpr p)) h) (λa o e=>(J.hok a o e).stay (λb u i q=>(h b (λz=>by
   grind)).trans q) (λ_ q=>q) λ_ _ q=>q) J.bare λb i=>?_
 ·obtain⟨y,t,A,v,w,x⟩:=n b i
  exact⟨v,t,w,x⟩
end
def aV(X:Cx)(a:List c_)(t:TT):Prop :=
 ∀(d:List (Ch×Obj)) (s:FM) (b:St) (H:Hp) (Q:Bool->Hp->Prop),Inv X d b H s->t b H Q ->
  wpAny (model X.prog X.w) X.A (forIn a true λc r=>if r=true then do let ok ← isTrue c X.env (eval c X.env); pure (gD ok) else pure (gD r)) (TP X d b Q) X.xe s
def bH:TT:=λ_ H Q=>Q true H
theorem Vo{X:Cx}:aV X [] bH:=λa s b H Q I h=>wpAny_tests_nil ⟨H,I,h⟩
theorem Vn{X:Cx}{c:c_}{t:TT}(h:PT X c t):aV X [c] t:=λb s a H Q I q=>wpAny_tests_one (h _ s a H Q I q)
def Tg(X:Cx)(e:fF)(f:List Str)(z:List (Option Nat))(A h:c_)(j:List c_)(B:TI):TE:=λp H Q=>B p H λJ q=>∀l,q l=none->X.K.lookup l=none->∀k C s H0 n,∃(g:TG) (r:TT) (t:TE) (W:Nat->Nat->St->Hp->Prop),
 PG (A3 X e f k C s H0 n) A g/\aV (A3 X e f k C s H0 n) j r/\PE (A3 X e f k C s H0 n) h t/\(∃m,W 0 m (Co z p) (A4 q l (.lst [])))/\∀i m u a,W i m u a ->
 (J.stop i a/\Q (.ref l) a)\/(J.go i a/\∀x H2,J.yld i a x H2->g x u H2 λd D=>r d D λb v=>if b=true then t d v λy w=>∃o,w l=some (.lst o)/\o.length<sizeLine/\∃c,c<m/\W (i+1) c d (A4 w l (.lst (o++[y]))) else ∃c,c<m/\W (i+1) c d v)
section
variable {X:Cx}{tg elt iter:Expr}{ifs:List Expr}{sc:Scope}{pos:Pos}{N':List Str}{js:List (Option Nat)}{wi:TI}{g:TG}{tt:TT}{te:TE}
theorem Ls{zG:List (Ch×Obj)}{σ:St}{H:Hp}{s:FM}{h:List (Str×Ch)}{C l it:Ch}{a:List Ch}{U:Nat->cw->Prop}{J:It}{s3:FM}{Q:VK}{R:Result->FM->Prop}{W:Nat->Nat->St->Hp->Prop}{m0:Nat}{zH:St}{H0:Hp}
  (I:Inv X zG σ H s) (hf:∀b∈a,Gh X zG H b) (a3:∀b∈a,b<s.heap.objs.size) (hC:s.heap.objs.size<=C)
  (T:Turn X.prog X.w X.K tg J a it U)
  (hg:PG (A3 X sc N' h C s H a) tg g) (ht:aV (A3 X sc N' h C s H a) ifs tt) (he:PE (A3 X sc N' h C s H a) elt te)
  (hW:∀i m k c,W i m k c ->
   (J.stop i c/\Q (.ref l) c)\/(J.go i c/\∀x H2,J.yld i c x H2->g x k H2 λV H3=>tt V H3 λb z=>if b=true then te V z λy H5=>∃E,H5 l=some (.lst E)/\E.length<sizeLine/\∃f,f<m/\W (i+1) f V (A4 H5 l (.lst (E++[y]))) else ∃f,f<m/\W (i+1) f V z))
  (hR:∀k c G,Inv (A3 X sc N' h C s H a) [] k c G->Q (.ref l) c->R (.ok .next) G)
  (I3:Inv (A3 X sc N' h C s H a) [] zH H0 s3) (t3:U 0 s3.heap) (f3:∀b∈a,H0 b=none) (w0:W 0 m0 zH H0) :
  codeAny (model X.prog X.w) X.A (.compLoop (.ListComp elt [⟨tg,iter,ifs,0⟩] sc pos) 0 (.ref it) (.ref l) (compEnvC sc h C X.env)) R s3:=by
 have j:∀{c:Hp},(∀b∈a,c b=none)->∀b∈a,Gh (A3 X sc N' h C s H a) [] c b:=λhn b t=>by
  have q:=I3.ok.exf b t;refine⟨hn b t,q.1,I3.ok.exfs b t,.inl t,q.2,λp hp=>absurd (show p∈([]:List (Ch×Obj)) from hp) (by simp)⟩
 refine NF (λn G=>∃i k c,Inv (A3 X sc N' h C s H a) [] k c G/\U i G.heap/\(∀b∈a,c b=none)/\W i n k c) ?_ m0 ⟨0,zH,H0,I3,t3,f3,w0⟩;rintro n s4 ⟨i,L,z,I4,M,N,w4⟩
 rcases hW i n L z w4 with ⟨O,qn⟩ | ⟨go,step⟩
 ·refine thn (T.done (A3 X sc N' h C s H a) rfl rfl rfl rfl i [] s4 L z (λ_ _=>False) I4 (j N) M O) λr s5 ⟨hr,I5⟩=>?_
  subst hr;exact hR L z s5 I5 qn
 ·refine thn (T.item (A3 X sc N' h C s H a) rfl rfl rfl rfl i [] s4 L z (λ_ _=>False) I4 (j N) M go) λr s5 ⟨u,hr,h5⟩=>?_
  subst hr;refine thn h5 λ_ s6 ⟨x,H6,I6,r6,y6,B,a0⟩=>?_;have a1:=I6.pinned (j a0) (T.obj _ _ B);refine thn (hg _ s6 L H6 x u _ a1 r6 (step x H6 y6)) λ_ s7 ⟨Y,H7,I7,q7⟩=>?_
  have again:∀{Z:St} {D:Hp} {F:FM} {f:Nat},Inv (A3 X sc N' h C s H a) ([]++Jj a s6.heap) Z D F->f<n->W (i+1) f Z D->∃m,m<n/\∃i k c,Inv (A3 X sc N' h C s H a) [] k c F/\U i F.heap/\(∀b∈a,c b=none)/\W i m k c:=λ{Z D F f} P S w9=>by
   refine⟨f,S,i+1,Z,D,P.unpinned,T.keep _ _ _ B λb t o e=>(P.pin (b,o) (dH _ (dH _ (Ep t e)))).1,λb t=>?_,w9⟩;obtain⟨o,e,d⟩:=T.obj _ _ B b t;exact(P.pin (b,o) (dH _ (dH _ (Ep t e)))).2.1
  refine thn (ht _ s7 Y H7 _ I7 q7) λok s8 ⟨H8,I8,q8⟩=>?_;cases ok with
  | false =>
   have a2:∃f,f<n/\W (i+1) f Y H8:=q8;obtain⟨f,S,w8⟩:=a2;show ∃m,m<n/\_;exact again I8 S w8
  | true =>
   refine thn (he _ s8 Y H8 _ I8 q8) λy F ⟨yv,D,P,ry,q9⟩=>?_;obtain⟨E,hl,hz,f,S,w9⟩:=q9;refine thn (DC (X:=A3 X sc N' h C s H a) _ F Y D (.ref l) [yv] (.ref l) [y] (λv c=>v=.non/\c=A4 D l (.lst (E++[yv]))) P rfl (.cons ry .nil) ⟨l,E,yv,rfl,rfl,hl,hz,rfl,rfl⟩) λ_ sa ⟨v,Ha,Ia,_,_,eH⟩=>?_;subst eH;exact again Ia S w9
theorem Vt(Z:X.calm=true)(N':List Str)(js:List (Option Nat))(hi:PI X tg iter wi)
  (hB:G9 sc X.env.scope X.N N' js=true)
  (hs:∀x,foldedSetIterable iter X.env x=pure x:=by intro _; rfl) :
  PE X (.ListComp elt [⟨tg,iter,ifs,0⟩] sc pos) (Tg X sc N' js tg elt ifs wi):=by
 intro U s M H Q I h;have O:CompOk X sc N' js:=CompOk.of hB;obtain⟨z,l,P,B⟩:=KR (scope:=sc) (env:=X.env) λx hx=>I.ok.has x (O.free x hx);rw [eval_ListComp];refine wpAny_comprehension_free (use:=none) rfl hs l O.kind O.names (thn (hi U s M H _ I h) λv s1 h1=>thn h1 λa0 c h2=>?_);obtain⟨V,G,tn,J,H2,e,C,T,p,L,hq⟩:=h2;subst e
 have r:X.K.lookup c.heap.objs.size=none:=by
  cases q:X.K.lookup c.heap.objs.size with
  | none=>rfl
  | some o=>exact absurd (UF (C.kIn _ _ q)) (eK _)
 obtain⟨g,tt,te,W,hg,ht,he,⟨m0,w0⟩,hW⟩:=hq c.heap.objs.size (C.hok.fresh (On _)) r z (c.heap.objs.size+1) c H2 G;refine fh (wpAny_newFunctionEnv O.cell (by intro y hy; simp at hy) (λf d a=>?_) O.kind)
 dsimp only at d a ⊢
 generalize t:c.heap.push { cls:=.type "list",dict:=none,data:=.seq ([]:List Cn).toArray }=Hh at d a ⊢;have i:Hh.objs.size=c.heap.objs.size+1:=by rw [← t,eq]
 have D:∀b∈G,b<c.heap.objs.size:=λb j=>by
  obtain⟨o,e,_⟩:=T.obj _ _ p b j;exact UF e
 have E:∀b o,c.heap.get? b=some o->f.get? b=some o:=λb o e=>a.extBut b o (by rw [i]; exact c7 (fI (UF e))) (Ev _ (t▸Ev _ e));have hD:∃n,f.get? c.heap.objs.size=some { cls:=.type "list",data:=.seq #[] n }:=⟨_,a.extBut _ _ (by rw [i]; exact c7 (jM _)) (Ev _ (t▸cj _ rfl))⟩
 have I3:∀u,Inv (A3 X sc N' z (c.heap.objs.size+1) c H2 G) [] (Co js M) (A4 H2 c.heap.objs.size (.lst [])) { c with heap:=f,toks:=u }:=λu =>
  Od C Z O P B L (λb j=>let ⟨o,e,_⟩:=T.obj _ _ p b j; ⟨o,e⟩) (by rw [← i]; exact d) E hD
 have F:tn 0 f:=T.keep _ _ _ p λb j o e=>E b o e
 have R:∀b∈G,A4 H2 c.heap.objs.size (.lst []) b=none:=λb j=>by
  rw [AQ (c7 (D b j))];exact(L b j).1
 have k:∀u,codeAny (model X.prog X.w) X.A (.compLoop (.ListComp elt [⟨tg,iter,ifs,0⟩] sc pos) 0 (.ref V) (.ref c.heap.objs.size) (compEnvC sc z (c.heap.objs.size+1) X.env))
   (compPost (model X.prog X.w) X.A X.xe none (EP X U M Q) (.ref c.heap.objs.size) (c.heap.objs.size+1)) { c with heap:=f,toks:=u }:=λu=>by
  refine Ls (W:=W) (m0:=m0) (Q:=Q) C L D (dq _) T hg ht he hW (λzZ H' s' Y q'=>?_) (I3 u) F R w0;obtain⟨m,hn,_⟩:=Y.loc;exact⟨m,hn,λh' S=>⟨.ref _,H',J7 C L (dq _) Y λb j=>S.2 b j,rfl,q'⟩⟩
 rw [show (newEnv sc Hh.objs.size X.env.globals z X.env.qual none .none (some X.env) builtinsNs).locals=c.heap.objs.size+1 from i];show codeAny (model X.prog X.w) X.A (.compStart (.ListComp elt [⟨tg,iter,ifs,0⟩] sc pos) 0 (.ref V) (.ref c.heap.objs.size) (compEnvC sc z (c.heap.objs.size+1) X.env)) _ _;exact codeAny_compStart_list (k _) (T.self _ 0 _ _ _ F (k _))
end
structure Fly (B:cw) (l:List Env) (a C:Ch) (dx:Option Ch) (h:cw):Prop where
 stays:B.StaysIn h
 new:B.get? a=none
 frames:h.FunFrames B l
 obj:∃vs sl tb,h.get? a=some ⟨.ref C,dx,.fields vs,sl⟩/\vs[2]?=some .none/\vs[1]?=some tb/\(tb=.none\/∃T oT ts,tb=.ref T/\B.get? T=none/\T≠a/\h.get? T=some oT/\oT.data=.fields ts/\3<ts.size)
section
variable {M:Model}{A:Around}{E:Value->Shared->Prop}{s:Shared}{B:Heap}{env:Env}{outer l:List Env}{L a C:Addr}{dx:Option Addr}{Q:Unit->Shared->Prop}
theorem size_of{b:Array Cn}{i:Nat}{x:Cn}(h:b[i]?=some x):i<b.size:=(Array.getElem?_eq_some_iff.mp h).1
theorem Lk{d:Array Cn}{r:Array (Option Cn)}{g O:Cn}{P:Bool}(t:A.frames=some (env::outer))(R:env.frame=some L)(m:s.heap.FunFrames B (env::outer))(S:B.StaysIn s.heap)(y:B.get? a=none)
  (u:s.heap.get? a=some ⟨.ref C,dx,.fields d,r⟩) (T:d[1]?=some O) (D:d[2]?=some .none)
  (h:∀v,Fly B (env::outer) a C dx v->s.heap.UpToSlots v->Q () { s with heap:=v }) :
  wpAny M A (do let f ← frameOf env; let n ← entryPlaceOf L P; let b ← jn g f .none (rawInt L) .none n; setField (.ref a) 1 b) Q E s:=by
 have F:=size_of T;have Y:=size_of D
 have U:a∉(env::outer).filterMap (·.frame):=λq=>by
  obtain⟨_,o,G,c⟩:=m.mem q;rw [u] at G;cases G;exact c d rfl
 refine Db (wpAny_frameOf_fun t m R λk p=>?_);refine Db (wpAny_entryPlaceOf λn w=>?_);unfold jn newFields;refine Db (fh ?_ (w.sizeOk5 _ _ _ _ _));have H:k.get? a=some ⟨.ref C,dx,.fields d,r⟩:=(p.2.1 a U).trans u;have I:B.StaysIn k:=λb o q=>(p.2.1 b λz=>by rw [(m.mem z).1] at q; cases q).trans (S b o q);generalize i:({ cls:=.type "traceback",dict:=none,data:=.fields ([g,.ref L,.none,rawInt L,.none]++(if n.isEmpty then Uf 6 dO else n)).toArray }:Obj)=ob;have J:(k.push ob).get? a=some ⟨.ref C,dx,.fields d,r⟩:=Ev _ H;refine gq J rfl F ?_;have K:k.objs.size≠a:=fV (UF H);have V:=fC (fc (·.setIfInBounds 1 (cm k.objs.size))) J rfl
 have W:((k.push ob).update a (fc (·.setIfInBounds 1 (cm k.objs.size)))).get? k.objs.size=some ob:=by
  rw [dJ _ _ (eF K)];exact cj k (by subst i; rfl)
 have x:∀b o,b≠a->k.get? b=some o->((k.push ob).update a (fc (·.setIfInBounds 1 (cm k.objs.size)))).get? b=some o:=λb o X q=>by
  rw [dJ _ _ (eF X)];exact Ev _ q
 have N:∀b o,s.heap.get? b=some o->(∀d,o.data≠.fields d)->b≠a:=λb o q c z=>by
  rw [z,u] at q;cases q;exact c d rfl
 refine h _ ⟨λb o q=>x b o (λz=>by rw [z,y] at q; cases q) (I b o q),y,m.of_keeps λb o q c=>?_,_,_,_,V,?_,?_,.inr ⟨k.objs.size,ob,_,rfl,I.fresh,K,W,by subst i; rfl,?_⟩⟩ λb o q c=>?_
 ·obtain⟨j,e⟩:=p.2.2 b o q
  exact⟨_,x b _ (N b o q c) e,rfl⟩
 ·rw [Array.getElem?_setIfInBounds_ne (by decide)]; exact D
 ·simp [F]
 ·simp only [c9,XV,ZB,eE]; omega
 ·obtain⟨j,e⟩:=p.2.2 b o q
  exact⟨j,x b _ (N b o q c) e⟩
theorem Fly.mark{T:Ch}{g:Obj}{h d:Array Cn}{x:Cn}{f:Array (Option Cn)}(F:Fly B l a C dx s.heap)(m:s.heap.get? a=some ⟨.ref C,dx,.fields d,f⟩)(n:d[1]?=some (.ref T))(p:d[2]?=some .none)(r:B.get? T=none)(i:T≠a)(t:s.heap.get? T=some g)
  (hd:g.data=.fields h) (v:3<h.size):Fly B l a C dx (s.heap.update T (fc (·.setIfInBounds 3 x)))/\s.heap.UpToSlots (s.heap.update T (fc (·.setIfInBounds 3 x)))/\(s.heap.update T (fc (·.setIfInBounds 3 x))).get? a=some ⟨.ref C,dx,.fields d,f⟩:=by
 have e:∀b,b≠T->(s.heap.update T (fc (·.setIfInBounds 3 x))).get? b=s.heap.get? b:=λb u=>dJ _ _ (eF u)
 have j:∀b o,s.heap.get? b=some o->(∀d,o.data≠.fields d)->b≠T:=λb o q c z=>by
  simp_all
 have k:=(e a (eF i)).trans m;refine⟨⟨λb o q=>(e b λz=>by grind).trans (F.stays b o q),F.new,F.frames.of_keeps λb o q c=>⟨o,(e b (j b o q c)).trans q,rfl⟩,d,f,_,k,p,n,.inr ⟨T,_,_,rfl,r,i,fC _ t (Obj.isFreed_of_fields (gk hd _)),gk hd _,by simp_all⟩⟩,λb o q c=>⟨o.slots,(e b (j b o q c)).trans q⟩,k⟩
theorem Gb(F:Fly B l a C dx s.heap)(h:∀c,Fly B l a C dx c->s.heap.UpToSlots c->Q () { s with heap:=c }):wpAny M A (setFlight (.ref a) none) Q E s:=by
 obtain⟨q,r,t,d,j,e,k⟩:=F.obj;refine Db (de d rfl e ?_)
 rcases k with rfl | ⟨T,u,v,rfl,m,n,f,g,i⟩
 ·exact Sc (h _ F (jo _))
 ·obtain⟨o,p,_⟩:=F.mark d e j m n f g i
  exact gq f g i (h _ o p)
theorem Of(c:A.frames=some (env::outer))(g:env.frame=some L)(F:Fly B (env::outer) a C dx s.heap)
  (h:∀d,Fly B (env::outer) a C dx d->s.heap.UpToSlots d->Q () { s with heap:=d }):wpAny M A (noteFrame (.ref a) env) Q E s:=by
 obtain⟨D,G,H,i,j,f,p⟩:=F.obj;unfold noteFrame;simp only [g];refine Db (de i rfl f ?_)
 rcases p with rfl | ⟨T,I,q,rfl,r,t,k,m,n⟩
 ·rw [if_neg (by decide)]
  exact Lk c g F.frames F.stays F.new i f j h
 ·rw [if_pos (show (cm T != dO)=true by simp)]
  obtain⟨x,u⟩:∃x,q[3]?=some x:=⟨_,Array.getElem?_eq_getElem n⟩;refine Db (de k m u ?_)
  by_cases e:(x==rawInt L)=true
  ·rw [if_pos e]
   exact Sc (h _ F (jo _))
  ·rw [if_neg e]
   obtain⟨o,v,w⟩:=F.mark (x:=dO) i f j r t k m n;refine Db (gq k m n ?_);exact Lk c g o.frames o.stays o.new w f j λd y z=>h d y (v.trans z)
theorem Se(d:A.frames=some (env::outer))(e:env.frame=some L)(F:Fly B (env::outer) a C dx s.heap)
  (h:∀c,Fly B (env::outer) a C dx c->s.heap.UpToSlots c->Q () { s with heap:=c }):wpAny M A (leaving env (.ref a)) Q E s:=Db (Of d e F λc f g=>Gb f λi j k=>h i j (g.trans k))
theorem Fly.tail(F:Fly B (env::outer) a C dx s.heap):Fly B outer a C dx s.heap:=⟨F.stays,F.new,F.frames.2.2,F.obj⟩
end
section
variable {A:Around}{E:Value->Shared->Prop}{R:Result->Shared->Prop}{h:Heap}{g:Array GenState}{d:Drawn}{t:Nat}{os:OsState}
variable {nm q:Str}{C N f:Addr}{bs bm:List Value}{hdct:Bool}{sn:List Str}{sub:List Value}{ab:Bool}{col:Option Bool}{dd:Option Addr}{k0 k1 k2 k3 k5:Option Value}{newId:String}
def B4(C t:Ch):Obj:={ cls:=.ref C,data:=.fields #[.ref t,.none,.none,.none,.bool false,.none] }
def af(x:Ch)(R:Result->FM->Prop)(r:Result)(a:FM):Prop:=match r with
 | .ok (.ret v)=>v=.none/\R (.ok (.ret (.ref x))) a
 | .ok _=>False
 | .error e=>R (.error e) a
theorem Pk{s:FM}{env:Env}{x:Sem Cn}{Q:Flow->FM->Prop}{M:Model}(hbase:bm.contains (.type "BaseException")=true)(hh:A.handled=none)
  (hx:wpAny M A x (λv s₁=>∃e dx vs sl,v=.ref e/\s₁.heap.get? C=some (excClassObj nm q C N bs bm hdct sn sub ab col dd k0 k1 k2 k3 k5 newId) /\
   s₁.heap.get? e=some ⟨.ref C,dx,.fields vs,sl⟩/\vs[1]?=some .none/\E (.ref e) s₁) E s) :
  wpAny M A (raiseStmt env (some x) none) Q E s:=by
 have hcB:(cm C::bm).contains (.type "BaseException")=true:=by grind
 unfold raiseStmt;refine Db (dP hx (λv s₁ h₁=>?_) λ_ _ x=>x);obtain⟨e,dx,vs,sl,rfl,hC,he,h1,hE⟩:=h₁
 repeat (first | omega | omega | (with_reducible refine eA hC ?_; rw [hcB]) | wp_step)
 rw [h1];refine Sc ?_;exact Sc (wpAny_raiseNew_none hh hE)
theorem Sh{M:Model}{e D N':Ch}{oe:Obj}{nm' q':Str}{bs' bmD:List Cn}{hdct':Bool}{sn':List Str}{sub':List Cn}{ab':Bool}{col':Option Bool}{dd':Option Ch}{l0 l1 l2 l3 l5:Option Cn}{newId':String}{Q:Bool->FM->Prop}
  (hC:h.get? C=some (excClassObj nm q C N bs bm hdct sn sub ab col dd k0 k1 k2 k3 k5 newId)) (hD:h.get? D=some (excClassObj nm' q' D N' bs' bmD hdct' sn' sub' ab' col' dd' l0 l1 l2 l3 l5 newId')) (hbase:bmD.contains (.type "BaseException")=true)
  (he:h.get? e=some oe) (hcls:oe.cls=.ref C) (hq:Q ((cm C::bm).contains (.ref D)) ⟨h,g,d,t,os⟩):wpAny M A (excMatches (.ref e) (.ref D)) Q E ⟨h,g,d,t,os⟩:=by
 have hcB:(cm D::bmD).contains (.type "BaseException")=true:=by grind
 have f:=tc_notTuple;generalize hb:(cm C::bm).contains (.ref D)=b at hq;unfold excMatches
 repeat (first | (with_reducible refine dh he ?_; rw [hcls]) | omega | (with_reducible refine eA hD ?_; rw [hcB]) | wp_step)
 refine eA hC ?_;rw [hb];cases b <;> (wp_walk; exact hq)
end
def Ct:List Cn:=[.type "ValueError",.type "Exception",.type "BaseException",.type "object"]
structure XC (K:Frag) (nm:Str) (C U:Ch):Prop where
 obj:∃q N bs sn sub ab col dd k0 k1 k2 k3 k5,K.lookup C=some (excClassObj nm q C N bs (.ref U::Ct) true sn sub ab col dd k0 k1 k2 k3 k5 "ValueError.__new__")
 up:∃q N bs sn sub ab col dd k0 k1 k2 k3 k5 hd,K.lookup U=some (excClassObj "ThinError" q U N bs Ct hd sn sub ab col dd k0 k1 k2 k3 k5 "ValueError.__new__")
 kp:keepIn K (.ref C)=true
 ga:PySem.W.findIn K (.ref C) "__getattribute__"=some (some (.builtin "BaseException.__getattribute__"))
 gt:PySem.W.findIn K (.ref C) "__getattr__"=some none
 sa:PySem.W.findIn K (.ref C) "__setattr__"=some (some (.builtin "object.__setattr__"))
 at_:nsIn K mainGlobals nm=some (some (.ref C))
 atU:nsIn K mainGlobals "ThinError"=some (some (.ref U))
 ca:PySem.W.findIn K (.ref C) "__class__"=some (some (.builtin "object.__class__"))
 nw:PySem.W.findIn K (.ref C) "word"=some none
 nn:PySem.W.findIn K (.ref C) "number"=some none
 nr:PySem.W.findIn K (.ref C) "row"=some none
section
variable {prog:Program}{w:World}{A:Around}{E:Value->Shared->Prop}{s:Shared}{K:Frag}{nm name:Str}{x C U:Addr}{v:Value}{R:Result->Shared->Prop}
theorem XC.cls(c:XC K nm C U):∃a,PySem.W.clsIn K C=some a/\a.mro=.ref C::.ref U::Ct/\a.hasDict=true/\a.name=nm:=by
 obtain⟨q,N,f,g,b,h,d,i,j,k,l,m,n,e⟩:=c.obj;refine⟨_,by unfold PySem.W.clsIn; rw [e],rfl,rfl,rfl⟩
theorem Qs{n:Obj}{o:Option Obj}{d:Tok}(X:K.In s.heap)(c:XC K nm C U)(I:PySem.W.InstAt s.heap x n C o)(p:PySem.W.findIn K (.ref C) name=some none)
  (h:∀b,wpAny (model prog w) A.in1 (Builtin.ObjectAttr.storeInOwnDict (.ref x) (.ref C) (.str name d) name v b)
   (λi g=>match i with | .done f=>R (.ok f) g | .again c'=>c'.quiet=true/\codeAny (model prog w) A c' R g) (λe g=>R (.error e) g) s) :
  codeAny (model prog w) A (.call (.builtin "object.__setattr__") ⟨[.ref x,.str name d,v],[]⟩) R s:=by
 have a:=PySem.F.store_ValueError;obtain⟨q,l,m,_⟩:=c.cls;have j:PySem.W.Looks (model prog w) s.heap (isInstance (.ref x) (.type "object")) true:=I.type.andThen (PySem.W.looks_mroIn X (by unfold PySem.W.mroIn; rw [l,Option.bind_some,m]; rfl));refine iL a.slot.plain a.entry (@PySem.W.check_slot (model prog w) _ _ s "object.__setattr__" "object" "__setattr__" (.ref x) [.str name d,v] [] _ a.kind a.split j (a.args (.ref x) (.str name d) v) ?_);have k:PySem.W.Looks (model prog w) s.heap (mroOf (.ref C)) q.mro:=(PySem.W.looks_clsIn X l).andThen .now;rw [PySem.W.osa_eq,refuse_eq];refine Db (Db (I.type.here (Db (k.here ?_))));rw [m,refuseLoop_ref,refuseLoop_ref,show refuseLoop (.ref x) "__setattr__" Ct=pure () from a.passes _];exact Sc (Db (I.type.here (Db ((PySem.W.looks_findIn X p).here (Db (Sc (h _)))))))
theorem Tr{f:Array Cn}{g:Array (Option Cn)}{Q:Unit->FM->Prop}(X:K.In s.heap)(c:XC K nm C U)(j:s.heap.get? x=some ⟨.ref C,none,.fields f,g⟩)(t:PySem.W.findIn K (.ref C) name=some none)
  (h:∀d u,d.get? x=some ⟨.ref C,some s.heap.objs.size,.fields f,g⟩->d.Ns1 s.heap.objs.size (λy=>if y=name then some v else none)->(∀b o,b≠x->s.heap.get? b=some o->d.get? b=some o)->Q () { s with heap:=d,toks:=u }) :
  wpAny (model prog w) A (setAttr (.ref x) name v) Q E s:=by
 obtain⟨N,z,O,B,_⟩:=c.cls;have J:PySem.W.InstAt s.heap x ⟨.ref C,none,.fields f,g⟩ C none:=⟨j,rfl,rfl,trivial⟩;refine PySem.W.set_plain X J c.sa (Qs (s:={ s with toks:=s.toks+1 }) X c J t λb=>?_);refine Db (Sc (Db (Db (wpAny_loadPart j (Db (PySem.W.Looks.here (s:={ s with toks:=s.toks+1 }) (PySem.W.looks_clsIn X z) ?_))))));rw [B];have i:(s.heap.push { cls:=.type "dict",data:=.dict #[] }).get? x=some ⟨.ref C,none,.fields f,g⟩:=Ev _ j;have p:x≠s.heap.objs.size:=c7 (UF j);show wpAny _ _ (alloc _ >>= _) _ _ _;refine Db (wpAny_alloc (Db (wpAny_update i (Sc ?_))));generalize a:((s.heap.push { cls:=.type "dict",data:=.dict #[] }).update x λo=>{ cls:=o.cls,dict:=some s.heap.objs.size,data:=o.data,slots:=o.slots })=hh
 have D:hh.get? s.heap.objs.size=some { cls:=.type "dict",data:=.dict #[] }:=by
  rw [← a,Heap.get?_update_ne _ _ _ _ p.symm];exact cj _ rfl
 have F:hh.get? x=some ⟨.ref C,some s.heap.objs.size,.fields f,g⟩:=by
  rw [← a];exact fC _ i rfl
 have G:∀b o,b≠x->s.heap.get? b=some o->hh.get? b=some o:=λb o k e=>by
  rw [← a,Heap.get?_update_ne _ _ _ _ k];exact Ev _ e
 have H:hh.Ns s.heap.objs.size (λ_=>none):=⟨_,#[],_,D,rfl,λe I=>absurd I (by simp),λ_=>rfl⟩;show wpAny _ _ (iM s.heap.objs.size _ name v) _ _ _;unfold iM Builtin.ObjectAttr.newKeyGuard;refine Db (Sc (Db (wpAny_nsSet1 (Heap.Ns1.of_empty H) λd q r=>?_)));obtain⟨P,L,M,l,m,n⟩:=q.count (PySem.Within.cons name v PySem.Within.nil);refine Db (wpAny_lookBehind l (by rw [m]; exact pastItsLine_dict (cx n (by rw [ZB,eE,di]; omega))) ?_);refine Sc (h d _ ((r.2 x p).trans F) q λb o k e=>(r.2 b (c7 (UF e))).trans (G b o k e))
theorem Tq{k:Array Cn}{l:Array (Option Cn)}{d:Ch}{f:Str->Option Cn}{m:List Str}{Q:Unit->FM->Prop}(X:K.In s.heap)(c:XC K nm C U)(n:s.heap.get? x=some ⟨.ref C,some d,.fields k,l⟩)(p:s.heap.Ns1 d f)(r:PySem.Within f m)(t:m.length<=sizeLine)(u:PySem.W.findIn K (.ref C) name=some none)
  (h:∀e z,e.Ns1 d (λy=>if y=name then some v else f y)->fq d s.heap e->Q () { s with heap:=e,toks:=z }) :
  wpAny (model prog w) A (setAttr (.ref x) name v) Q E s:=by
 obtain⟨L,B,M,D,_⟩:=c.cls;obtain⟨o,_,_,F,_⟩:=id p;have J:PySem.W.InstAt s.heap x ⟨.ref C,some d,.fields k,l⟩ C (some o):=⟨n,rfl,rfl,F⟩;refine PySem.W.set_plain X J c.sa (Qs (s:={ s with toks:=s.toks+1 }) X c J u λb=>?_);refine Db (Sc (Db (Db (wpAny_loadPart n (Db (PySem.W.Looks.here (s:={ s with toks:=s.toks+1 }) (PySem.W.looks_clsIn X B) ?_))))));rw [D];refine Sc (a:=some d) (Db (Sc (Db ?_)));refine wpAny_nsSet1 (s:={ s with toks:=s.toks+1 }) p λe q G=>?_;obtain⟨N,H,I,g,i,j⟩:=q.count (PySem.Within.cons name v r);refine Db (wpAny_lookBehind g (by rw [i]; exact pastItsLine_dict (cx j (by rw [ZB]; omega))) ?_);exact Sc (h _ _ q G)
end
section
variable {M:Model}{prog:Program}{w:World}{A:Around}{E:Value->Shared->Prop}{R:Result->Shared->Prop}{h:Heap}{g:Array GenState}{d:Drawn}{t:Nat}{os:OsState}
variable {K:Frag}{nm q:Str}{C U N f:Addr}{bs:List Value}{sn:List Str}{sub:List Value}{ab:Bool}{col:Option Bool}{dd:Option Addr}{k0 k1 k2 k3 k5:Option Value}{rest:List Value}
theorem RE{Q:Unit->FM->Prop}(hC:h.get? C=some (excClassObj nm q C N bs (.ref U::Ct) true sn sub ab col dd k0 k1 k2 k3 k5 "ValueError.__new__"))
  (hq:Q () ⟨h,g,d,t,os⟩):wpAny M A (checkBuiltinCall "ValueError.__new__" ⟨.ref C::rest,[]⟩) Q E ⟨h,g,d,t,os⟩:=by
 have F:=PySem.F.excBase_ValueError;have hcont:(cm C::.ref U::Ct).contains (.type "ValueError")=true:=by simp [Ct]
 have hstar:=F.noStar;simp only [checkBuiltinCall,F.newKind,F.newSplit,F.newRow]
 repeat (first | refine dh hC ?_ | (refine eA hC ?_; rw [hcont]) | refine wpAny_staticBase_exc hC ?_ | refine jN hC ?_ | simp only [bne_self_eq_false,fX,if_false] | wp_step)
 exact hq
theorem Q7(hC:h.get? C=some (excClassObj nm q C N bs (.ref U::Ct) true sn sub ab col dd k0 k1 k2 k3 k5 "ValueError.__new__"))
  (hq:R (.ok (.ret (.ref (h.objs.size+1)))) ⟨(h.push { cls:=.type "tuple",data:=.seq rest.toArray }).push (B4 C h.objs.size),g,d,t,os⟩) (hrest:rest.length<=sizeLine) :
  codeAny (model prog w) A (.builtin "ValueError.__new__" ⟨.ref C::rest,[]⟩) R ⟨h,g,d,t,os⟩:=by
 have F:=PySem.F.excBase_ValueError;have hends:=F.ends;have hcB:(cm C::.ref U::Ct).contains (.type "ValueError")=true:=by simp [Ct]
 have hcA:(cm C::.ref U::Ct).contains (.type "AttributeError")=false:=by simp [Ct]
 have hcN:(cm C::.ref U::Ct).contains (.type "NameError")=false:=by simp [Ct]
 refine codeAny_builtinAt F.entry ?_;unfold gf.«BaseException.__new__»;refine PySem.wpAt_bind ?_;show PySem.wpAt _ _ _ (stack >>= _) _ _ _;refine PySem.wpAt_bind (PySem.wpAt_stack λp below=>wpAt_of_wpAny ?_)
 wp_walk
 refine wpAt_of_wpAny ?_;rw [F.owner]
 repeat (first | with_reducible refine wpAny_madeHere_exc F.canon hC ?_ | with_reducible refine dh hC ?_ | (with_reducible refine eA hC ?_; first | rw [hcB] | rw [hcA] | rw [hcN]) | wp_step)
 show R _ _;rw [eq];exact hq
theorem VJ{e:Ch}{oe:Obj}{Q:Unit->FM->Prop}(hC:h.get? C=some (excClassObj nm q C N bs (.ref U::Ct) true sn sub ab col dd k0 k1 k2 k3 k5 "ValueError.__new__"))(he:h.get? e=some oe)(hcls:oe.cls=.ref C)(hq:Q () ⟨h,g,d,t,os⟩) :
  wpAny M A (checkBuiltinCall "ValueError.__init__" ⟨.ref e::rest,[]⟩) Q E ⟨h,g,d,t,os⟩:=by
 have F:=PySem.F.excBase_ValueError;have hcB:(cm C::.ref U::Ct).contains (.type "ValueError")=true:=by simp [Ct]
 have hshort:=F.noStar;simp only [checkBuiltinCall,F.initKind,F.initSplit,F.initRow]
 repeat (first | (with_reducible refine dh he ?_; rw [hcls]) | with_reducible refine dh hC ?_ | (with_reducible refine eA hC ?_; rw [hcB]) | wp_step)
 refine hV ?_
 rw [show ∀(a b:String) (n:Nat),Bind.check ⟨.positional,"*","ValueError",.self,[⟨"args",.varPos,false⟩]⟩ a b n (List.map (λx=>x.fst) ({ pos:=cm e::rest }:Args).kw)=pure () from
  λa b n=>check_star_args _ _ _ _ _ _]
 exact Sc hq
theorem Uz(X:K.In h)(c:XC K nm C U)(hi:PySem.W.findIn K (.ref C) "__init__"=some (some (.ref f)))(hf:PySem.W.typeIn K (.ref f)=some (.type "function"))(hrest:rest.length<=sizeLine)
  (hq:codeAny (model prog w) (A.under (.builtin "type.__call__" ⟨.ref C::rest,[]⟩)) (.call (.ref f) ⟨.ref (h.objs.size+1)::rest,[]⟩) (af (h.objs.size+1) R) ⟨(h.push { cls:=.type "tuple",data:=.seq rest.toArray }).push (B4 C h.objs.size),g,d,t,os⟩) :
  codeAny (model prog w) A (.call (.ref C) ⟨rest,[]⟩) R ⟨h,g,d,t,os⟩:=by
 have F:=PySem.F.excBase_ValueError;obtain⟨q,N,bs,sn,sub,ab,col,dd,k0,k1,k2,k3,k5,eC⟩:=c.obj;have hC:=X _ _ eC;have f1:=tc_lookup;have f2:=tc_bind (.ref C);have hT:(⟨h,g,d,t,os⟩:FM).TypeIs (.ref C) "type":=⟨_,hC,rfl⟩;refine codeAny_of_tree ?_;show wpAny _ _ (callAny (.ref C) _) _ _ _
 repeat (any_goals (first | assumption | with_reducible refine dh hC ?_ | wp_step))
 refine⟨rfl,?_⟩;refine codeAny_call_builtin_at (gE _ (by decide +kernel)) entry_typeCall (wpAny_check_type_call_sub hC ?_)
 repeat (first | with_reducible refine dh hC ?_ | with_reducible refine jN hC ?_ | wp_step)
 refine codeAny_call_builtin_code (gE _ F.quiet) (RE hC ?_);refine Q7 hC ?_ hrest;show wpAny _ _ _ _ _ _;have kk:∀b o,h.get? b=some o->((h.push { cls:=.type "tuple",data:=.seq rest.toArray }).push (B4 C h.objs.size)).get? b=some o:=λb o e=>Ev _ (Ev _ e);have hC₁:=kk _ _ hC;have hget:((h.push { cls:=.type "tuple",data:=.seq rest.toArray }).push (B4 C h.objs.size)).get? (h.objs.size+1)=some (B4 C h.objs.size):=by unfold B4; heap_get
 have hcC:(cm C::cm U::Ct).contains (.ref C)=true:=by simp
 unfold isInstance;unfold B4 at *
 repeat (first | with_reducible refine dh hget ?_ | (with_reducible refine eA hC₁ ?_; rw [hcC]) | wp_step)
 show wpAny _ _ (isSubtype (.ref C) (.ref C)) _ _ _;refine eA hC₁ ?_;rw [hcC,if_neg (by decide)];refine Db (dw ?_);unfold callSpecial? specialOf
 repeat (first | with_reducible refine dh hget ?_ | wp_step)
 show wpAny _ _ (typeLookup (.ref C) _) _ _ _;refine(PySem.W.looks_findIn (X.keeps kk) hi).here ?_;refine dw (Db ((PySem.W.bind_fn (X.keeps kk) _ hf).here ?_));refine Db (fj (ft hq λr s' z=>?_))
 rcases r with e | (v | _ | _ | _) <;> first | exact z | exact z.elim | skip
 obtain⟨rfl,z⟩:=z;exact Sc (Sc z)
theorem Si(X:K.In h)(c:XC K nm C U)(hi:PySem.W.findIn K (.ref C) "__init__"=some (some (.builtin "ValueError.__init__")))(hrest:rest.length<=sizeLine)
  (hq:∀h',(∀b o,h.get? b=some o->h'.get? b=some o)->h'.get? (h.objs.size+1)=some (B4 C (h.objs.size+2))->R (.ok (.ret (.ref (h.objs.size+1)))) ⟨h',g,d,t,os⟩) :
  codeAny (model prog w) A (.call (.ref C) ⟨rest,[]⟩) R ⟨h,g,d,t,os⟩:=by
 have F:=PySem.F.excBase_ValueError;obtain⟨q,N,bs,sn,sub,ab,col,dd,k0,k1,k2,k3,k5,eC⟩:=c.obj;have hC:=X _ _ eC;have f1:=tc_lookup;have f2:=tc_bind (.ref C);have hT:(⟨h,g,d,t,os⟩:FM).TypeIs (.ref C) "type":=⟨_,hC,rfl⟩;refine codeAny_of_tree ?_;show wpAny _ _ (callAny (.ref C) _) _ _ _
 repeat (any_goals (first | assumption | with_reducible refine dh hC ?_ | wp_step))
 refine⟨rfl,?_⟩;refine codeAny_call_builtin_at (gE _ (by decide +kernel)) entry_typeCall (wpAny_check_type_call_sub hC ?_)
 repeat (first | with_reducible refine dh hC ?_ | with_reducible refine jN hC ?_ | wp_step)
 refine codeAny_call_builtin_code (gE _ F.quiet) (RE hC ?_);refine Q7 hC ?_ hrest;show wpAny _ _ _ _ _ _;have kk:∀b o,h.get? b=some o->((h.push { cls:=.type "tuple",data:=.seq rest.toArray }).push (B4 C h.objs.size)).get? b=some o:=λb o e=>Ev _ (Ev _ e);have hC₁:=kk _ _ hC;have hget:((h.push { cls:=.type "tuple",data:=.seq rest.toArray }).push (B4 C h.objs.size)).get? (h.objs.size+1)=some (B4 C h.objs.size):=by unfold B4; heap_get
 have hcC:(cm C::cm U::Ct).contains (.ref C)=true:=by simp
 unfold isInstance;unfold B4 at *
 repeat (first | with_reducible refine dh hget ?_ | (with_reducible refine eA hC₁ ?_; rw [hcC]) | wp_step)
 show wpAny _ _ (isSubtype (.ref C) (.ref C)) _ _ _;refine eA hC₁ ?_;rw [hcC,if_neg (by decide)];refine Db (dw ?_);unfold callSpecial? specialOf
 repeat (first | with_reducible refine dh hget ?_ | wp_step)
 show wpAny _ _ (typeLookup (.ref C) _) _ _ _;refine(PySem.W.looks_findIn (X.keeps kk) hi).here ?_;refine dw (Db (wpAny_of_eq (F.init.bind _) ?_));refine Db (fj (iL F.init.plain F.initEntry (VJ hC₁ hget rfl ?_)))
 wp_walk
 refine hq _ (λb o e=>?_) ?_
 ·rw [dJ _ _ (fV (fI (UF e)))]
  exact Ev _ (kk b o e)
 ·refine(fC (fc (·.setIfInBounds 0 (cm _))) (Ev _ hget) rfl).trans ?_
  simp only [eq];rfl
end
structure CXD (P:cz) (w:dC) (outer:List Env) (H:Hp) (s:FM) (a C:Ch) (dx:Option Ch) (B:cw) (H':Hp) (s':FM):Prop where
 os:s'.os=s.os
 bare:gK s'.gens
 un:Un (Lj outer) [] H H' s.heap s'.heap
 hok:HOk P w H' B
 all:∀b o o',s.heap.get? b=some o->b∉Lj outer->s'.heap.get? b=some o'->B.get? b=some o'
 fly:Fly B outer a C dx s'.heap
 new:s.heap.objs.size<=a
 free:H' a=none
def RX(P:cz)(w:dC):S2:=λb H s E e f=>∃a C c B d,e=.ref a/\CXD P w b H s a C c B d f/\E (.ref C) c d
section
variable {P:Program}{w:World}{outer:List Env}{H H':Hp}{s s':Shared}{a C:Addr}{dx:Option Addr}{B h':Heap}
theorem CXD.step(x:CXD P w outer H s a C dx B H' s')(F:Fly B outer a C dx h')(u:s'.heap.UpToSlots h'):CXD P w outer H s a C dx B H' { s' with heap:=h' }:=by
 have fr:∀b∈Lj outer,∃o,s'.heap.get? b=some o/\∀k,o.data≠.fields k:=λb c=>(x.fly.frames.mem c).2;refine⟨x.os,x.bare,⟨λb o e n c d=>F.stays _ _ (x.all b o o e c (x.un.keep b o e n c d)),λb o e n c d=>?_,x.un.free,λb o e d=>?_,x.un.tups,x.un.frzs,x.un.tbls⟩,x.hok,λb o j e c q=>?_,F,x.new,x.free⟩
 ·obtain⟨p,q⟩:=x.un.slot b o e n c d
  obtain⟨j,f,h⟩:=fr b c;rw [q] at f;cases f;obtain⟨i,l⟩:=u b _ q h
  grind
 ·obtain⟨g,q⟩:=x.un.there b o e d
  by_cases c:b∈Lj outer
  ·obtain⟨j,f,h⟩:=fr b c
   obtain⟨i,l⟩:=u b _ f h
   grind
  ·exact⟨g,F.stays _ _ (x.all b o g e c q)⟩
 ·obtain⟨g,m⟩:=x.un.there b o e (by simp)
  have z:=x.all b o g e c m;rw [F.stays _ _ z] at q
  grind
end
section
variable {X:Cx}{zG:List (Addr×Obj)}{σ:St}{H H':Hp}{s s':Shared}{a C:Addr}{dx:Option Addr}{B:Heap}
theorem CXD.inv(x:CXD X.prog X.w X.stack H s a C dx B H' s')(I:Inv X zG σ H s):Inv X zG σ H' s' :=
 I.call' x.os x.un (x.hok.kept x.fly.stays) x.bare λb z=>absurd z (by simp)
theorem CXD.leave(x:CXD X.prog X.w X.stack H s a C dx B H' s')(I:Inv X zG σ H s)(c:X.stack=X.env::X.outer)(f:X.ex=[]):CXD X.prog X.w X.outer X.H₀ X.s₀ a C dx B H' s':=by
 have J:=x.inv I;have d:=x.fly;rw [c] at d;refine⟨J.os,J.bare,by have z:=J.base; grind,x.hok,λb o g e h q=>?_,d.tail,cx I.sz x.new,x.free⟩;obtain⟨i,j⟩:=I.base.there b o e (by grind);refine x.all b i g j (λz=>?_) q
 rcases T0.mp (I.stkSub b z) with z | z
 ·exact absurd (UF e) (by rw [z]; exact iK.mpr I.ok.above)
 ·exact h z
theorem N8{P:cz}{w:dC}{K:Frag}{j:Str->Option Cn}{d:cw}{N:List Str}{g:Str}{b:fF}{f:Ch}{k:Cn}{A:dL}{c:List Env}{h:FM}{i:Hp}{E:XK} :
  Hr (RX P w) (EX (RX P w) P w K j d N g b f k A c h i E) E:=by
 intro zG σ H s e s' I ⟨a,C,dx,B,H',l,x,q⟩;subst l;exact Se I.ok.frames rfl x.fly λn m u=>⟨a,C,dx,B,H',rfl,(x.step m u).leave I rfl rfl,q⟩
theorem Vv{P:cz}{w:dC}{K:Frag}{i:Str->Option Cn}{d:cw}{N:List Str}{e:Str}{b:fF}{f:Ch}{j:Cn}{A:dL}{c:List Env}{g:FM}{h:Hp}{E:XK} :
  iA (model P w) (EX (RX P w) P w K i d N e b f j A c g h E).A (EX (RX P w) P w K i d N e b f j A c g h E).env (EX (RX P w) P w K i d N e b f j A c g h E).xe:=by
 passes_own
end
def XO(a C:Ch)(c:Option Ch)(h:cw):Prop:=∃b d,h.get? a=some ⟨.ref C,c,.fields b,d⟩/\b[2]?=some .none/\b[1]?=some .none
def XF(d:Ch)(fs:List (Str×V))(h:cw):Prop:=∃a,h.Ns1 d a/\(∀f,RelO (fs.lookup f) (a f))/\PySem.Within a (fs.map (·.1))/\fs.length<=1000
theorem XO.ok{P:cz}{w:dC}{H:Hp}{a C:Ch}{b:Option Ch}{h:cw}(x:XO a C b h):ObjOk P w H h a (.ext (XO a C b)):=by
 refine⟨x,?_,λf g ⟨c,d,e,r⟩ k=>⟨c,d,k _ e,r⟩⟩;obtain⟨c,d,e,_⟩:=x
 simp_all
theorem XF.ok{P:cz}{w:dC}{H:Hp}{d:Ch}{a:List (Str×V)}{h:cw}(x:XF d a h):ObjOk P w H h d (.ext (XF d a)):=by
 refine⟨x,?_,λc f ⟨b,e,r⟩ k=>⟨b,e.at k,r⟩⟩;obtain⟨b,⟨o,_,_,e,_⟩,_⟩:=x
 grind
section
variable {X:Cx}{zG:List (Addr×Obj)}{σ:St}{H:Hp}{s:Shared}{a C U:Addr}{nm f:Str}{A:Around}{E:Value->Shared->Prop}
theorem Tp{y:V}{u:Cn}{Q:Unit->FM->Prop}(I:Inv X zG σ H s)(e:H a=some (.ext (XO a C none)))(c:XC X.K nm C U)(n:Gg X.K C f)(M:RelV y u)
  (h:∀d B,H d=none->d≠a->Inv X zG σ (A4 (A4 H d (.ext (XF d [(f,y)]))) a (.ext (XO a C (some d)))) B->Q () B):wpAny (model X.prog X.w) A (setAttr (.ref a) f u) Q E s:=by
 obtain⟨⟨N,O,D,P,R⟩,_⟩:=(show ObjOk X.prog X.w H s.heap a _ from I.hok a _ e);refine Tr I.kIn c D n λh' t' F S l=>?_;have G:H s.heap.objs.size=none:=I.hok.fresh (On _);have T:s.heap.objs.size≠a:=fV (UF D);have lt:∀{b:Ch} {o:Obj},s.heap.get? b=some o->b≠s.heap.objs.size:=λ{b o} q=>c7 (UF q);have p:∀{b:Ch},H b=none->b≠a:=λ{b} q z=>by rw [z,e] at q; cases q
 have of:∀{b:Ch} {u:HO},H b=some u->(∀j,u≠.ext j)->A4 (A4 H s.heap.objs.size (.ext (XF s.heap.objs.size [(f,y)]))) a (.ext (XO a C (some s.heap.objs.size))) b=some u:=λ{b u} q W=>by
  rw [AQ (λz=>by rw [z,e] at q; exact W _ (cv q).symm),AQ (λz=>by rw [z,G] at q; cases q)]; exact q
 refine h s.heap.objs.size _ G T (I.un (h':=h') (t':=t') ⟨λb o q n _ _=>l b o (p n) q,λb o q n _ _=>⟨o.slots,l b o (p n) q⟩,λb o q n _=>?_,λb o q _=>?_,λb J q=>of q (by intro j z; cases z),λb o J q=>of q (by intro j z; cases z),λb ps q=>⟨#[],by rw [of q (by intro j z; cases z)]; simp⟩⟩ ?_)
 ·rw [AQ (p n),AQ (lt q)]; exact n
 ·by_cases z:b=a
  ·rw [z]; exact⟨_,F⟩
  ·exact⟨o,l b o z q⟩
 ·intro b o q
  by_cases z:b=a
  ·subst z
   rw [AX] at q;cases q;exact XO.ok ⟨N,O,F,P,R⟩
  ·rw [AQ z] at q
   by_cases L:b=s.heap.objs.size
   ·subst L
    rw [AX] at q;cases q;refine XF.ok ⟨_,S,λg=>?_,λg Y=>?_,by simp⟩
    ·by_cases i:g=f
     ·rw [if_pos i]
      have t:(g==f)=true:=beq_iff_eq.mpr i;simp only [fR,t];exact M
     ·rw [if_neg i]
      have t:(g==f)=false:=beq_eq_false_iff_ne.mpr i;simp only [fR,t];trivial
    ·by_cases i:g=f
     ·simp [i]
     ·exact absurd (if_neg i) Y
   ·rw [AQ L] at q
    refine(I.hok b o q).stay (λx v m r=>l x v ?_ r) (λx r=>of r (by intro j z; cases z)) λx J r=>of r (by intro j z; cases z)
    rcases m with rfl | m
    ·exact z
    ·intro Z; rw [Z,e] at m; cases m
theorem To{d:Ch}{i:List (Str×V)}{y:V}{u:Cn}{Q:Unit->FM->Prop}(I:Inv X zG σ H s)(e:H a=some (.ext (XO a C (some d))))(k:H d=some (.ext (XF d i)))(c:XC X.K nm C U)(n:Gg X.K C f)(v:RelV y u)(O:i.length<1000)
  (h:∀l,Inv X zG σ (A4 H d (.ext (XF d (EM f y i)))) l->Q () l):wpAny (model X.prog X.w) A (setAttr (.ref a) f u) Q E s:=by
 obtain⟨⟨P,R,B,S,T⟩,_⟩:=(show ObjOk X.prog X.w H s.heap a _ from I.hok a _ e);obtain⟨⟨m,D,r,p,_⟩,_⟩:=(show ObjOk X.prog X.w H s.heap d _ from I.hok d _ k);refine Tq I.kIn c B D p (by rw [Go,di]; omega) n λF W t G=>h _ ?_;have J:∃o,F.get? d=some o:=let ⟨o,_,_,L,_⟩:=t; ⟨o,L⟩
 refine I.write (x:=d) (e:=d) (by rw [k]; exact eP) (.inl rfl) (λb q M z=>(G.2 b M).trans z) J (XF.ok ⟨_,t,λg=>?_,λg N=>?_,?_⟩)
 ·show RelO ((EM f y i).lookup g) (if g=f then some u else m g)
  rw [Hx]
  by_cases q:g=f
  ·rw [if_pos q,if_pos q]; exact v
  ·rw [if_neg q,if_neg q]; exact r g
 ·by_cases q:g=f
  ·rw [q]; exact(Hg f y i).1
  ·refine(Hg f y i).2 g (p g λz=>N ?_)
   show (if g=f then some u else m g)=none;rw [if_neg q]; exact z
 ·have:=Hy f y i; omega
end
def cT(C:Ch)(c e:TE)(f:Str):TS:=λD b H=>e b H λy g=>c b g λx H2=>∃a,x=.ref a/\H2 a=some (.ext (XO a C none))/\∀d,H2 d=none->d≠a->D.nx b (A4 (A4 H2 d (.ext (XF d [(f,y)]))) a (.ext (XO a C (some d))))
def cS(C:Ch)(e g:TE)(f:Str):TS:=λD b H=>g b H λy h=>e b h λx H2=>∃a d c,x=.ref a/\H2 a=some (.ext (XO a C (some d)))/\H2 d=some (.ext (XF d c))/\c.length<1000/\D.nx b (A4 H2 d (.ext (XF d (EM f y c))))
section
variable {X:Cx}{o value:Expr}{nm f:Str}{C U:Addr}{pos pos':Pos}{ta tv:TE}
theorem XA(c:XC X.K nm C U)(n:Gg X.K C f)(g:PE X o ta)(i:PE X value tv)(j:swapsWith value (some (.Attribute o f pos')) pos.line X.env=pure false):PS X (.Assign [.Attribute o f pos'] value pos) (cT C ta tv f):=by
 intro E s b H D I h;refine iC (thn (i _ s b H _ I h) λu k ⟨y,l,m,p,q⟩=>thn (g _ k b l _ m q) λr F ⟨x,H2,t,v,a,ex,w,z⟩=>?_) j;subst ex;obtain rfl:r=cm a:=v;exact Tp t w c n p λd G A e B=>⟨b,_,B,z d A e⟩
theorem W_(c:XC X.K nm C U)(n:Gg X.K C f)(e:PE X o ta)(g:PE X value tv)(i:swapsWith value (some (.Attribute o f pos')) pos.line X.env=pure false):PS X (.Assign [.Attribute o f pos'] value pos) (cS C ta tv f):=by
 intro E s b H D I h;refine iC (thn (g _ s b H _ I h) λu j ⟨y,k,m,p,q⟩=>thn (e _ j b k _ m q) λr F ⟨x,H2,t,v,a,d,G,ex,w,z,l,A⟩=>?_) i;subst ex;obtain rfl:r=cm a:=v;exact To t w z c n p l λJ B=>⟨b,_,B,A⟩
end
def del(H:Hp)(a:Ch):Hp:=λb=>if b=a then none else H b
theorem KO{H:Hp}{a b:Ch}(h:b≠a):del H a b=H b:=if_neg h
theorem Fa{H:Hp}{a:Ch}:del H a a=none:=if_pos rfl
section
variable {X:Cx}{zG:List (Addr×Obj)}{σ:St}{H H1:Hp}{s s1:Shared}{a C:Addr}{dx:Option Addr}
theorem aG(I:Inv X zG σ H s)(A:s1.os=s.os)(f:gK s1.gens)(u:Un (Lj X.stack) [] H H1 s.heap s1.heap)(h:HOk X.prog X.w H1 s1.heap)(k:H1 a=some (.ext (XO a C dx)))(i:s.heap.objs.size<=a) :
  CXD X.prog X.w X.stack H s a C dx (PySem.W.hideAll s1.heap (a::Lj X.stack)) (del H1 a) s1:=by
 have J:Inv X zG σ H1 s1:=I.call' A u h f λb z=>absurd z (by simp);have E:∀{b:Ch} {u:HO},H1 b=some u->(∀g,u≠.ext g)->b≠a:=λ{b u} q p z=>by rw [z,k] at q; exact p _ (cv q).symm
 have of:∀{b:Ch} {u:HO},H1 b=some u->(∀g,u≠.ext g)->del H1 a b=some u:=λq p=>(KO (E q p)).trans q;have B:∀{b:Ch} {u:HO},H1 b=some u->b∉Lj X.stack:=λ{b u} q z=>by rw [J.stkFree b z] at q; cases q
 obtain⟨⟨F,G,t,K,L⟩,_⟩:=(show ObjOk X.prog X.w H1 s1.heap a _ from h a _ k);refine⟨A,f,⟨u.keep,u.slot,λb o q n t=>?_,u.there,λb j q=>of (u.tups b j q) (by intro g z; cases z),λb o j q=>of (u.frzs b o j q) (by intro g z; cases z),λb M q=>?_⟩,λb o q=>?_,λb o P q x N=>?_,⟨λb o q=>PySem.W.of_hideAll _ q,PySem.W.hideAll_none _ (by simp),PySem.W.funFrames_hide J.stack λy O b x=>?_,F,G,.none,t,K,L,.inl rfl⟩,i,Fa⟩
 ·by_cases z:b=a
  ·rw [z]; exact Fa
  ·rw [KO z]; exact u.free b o q n t
 ·obtain⟨m,e⟩:=u.tbls b M q
  exact⟨m,of e (by intro g z; cases z)⟩
 ·have D:b≠a:=λz=>by rw [z,Fa] at q; cases q
  rw [KO D] at q;refine(h b o q).stay (λc v d r=>PySem.W.hideAll_get _ r λz=>?_) (λc r=>of r (by intro g z; cases z)) λc j r=>of r (by intro g z; cases z)
  rcases T0.mp z with z | z
  ·rcases d with d | d
   ·exact D (d.symm.trans z)
   ·rw [z,k] at d; cases d
  ·rcases d with d | d
   ·exact B q (d▸z)
   ·exact B d z
 ·refine PySem.W.hideAll_get _ N λz=>?_
  rcases T0.mp z with z | z
  ·exact absurd (UF q) (by rw [z]; exact iK.mpr i)
  ·exact x z
 ·exact Re _ (ig.mpr ⟨y,O,x⟩)
end
def XS(X:Cx)(a:List (Ch×Obj))(b:St)(R:XK)(e:Cn)(c:FM):Prop:=∃H s,Inv X a b H s/\RX X.prog X.w X.stack H s R e c
def Made(X:Cx)(e:List (Ch×Obj))(f:St)(C:Ch)(R:XK)(v:Cn)(b:FM):Prop:=∃a d H s c,v=.ref a/\Inv X e f H s/\b.os=s.os/\gK b.gens/\Un (Lj X.stack) [] H c s.heap b.heap/\HOk X.prog X.w c b.heap/\c a=some (.ext (XO a C d))/\s.heap.objs.size<=a/\R (.ref C) d (del c a)
section
variable {X:Cx}{zG:List (Addr×Obj)}{σ:St}{s:Shared}{C U:Addr}{nm:Str}{R:XK}
theorem LS{e:c_}{pos:Pos}{Q:Flow->FM->Prop}{i:Cn->FM->Prop}(c:XC X.K nm C U)(D:X.A.handled=none)(h:wpAny (model X.prog X.w) X.A (eval e X.env) (Made X zG σ C R) i s)(E:∀e t,XS X zG σ R e t->i e t) :
  wpAny (model X.prog X.w) X.A (exec (.Raise (some e) none pos) X.env) Q i s:=by
 obtain⟨q,N,F,G,m,H,n,L,M,O,P,S,T,V⟩:=c.obj
 have W:wpAny (model X.prog X.w) X.A (eval e X.env) (λv d=>∃e k l o,v=.ref e/\d.heap.get? C=some (excClassObj nm q C N F (.ref U::Ct) true G m H n L M O P S T "ValueError.__new__") /\
   d.heap.get? e=some ⟨.ref C,k,.fields l,o⟩/\l[1]?=some .none/\i (.ref e) d) i s:=by
  refine thn h λv s1 ⟨a,k,H0,Y,H1,Z,I,y,f,u,g,B,p,r⟩=>?_;obtain⟨⟨l,o,hx,h2,h1⟩,_⟩:=(g a _ B);have J:=I.call' y u g f λb z=>absurd z (by simp);exact⟨a,k,l,o,Z,J.kIn _ _ V,hx,h1,E _ _ ⟨H0,Y,I,a,C,k,_,_,rfl,aG I y f u g B p,r⟩⟩
 first
  | exact Db (hG (Pk rfl D (Db (dP W (λv d j=>Db (hG (Sc j))) λ_ _ x=>x))))
  | omega
end
def HN(C:Ch)(c f:Str):Sp:=λg H Q _=>∃a b e,g=[.ref a,b,e]/\H a=some (.ext (XO a C none)) /\
 ∀d,H d=none->d≠a->Q .non (A4 (A4 (A4 H d (.ext (XF d [(c,b)]))) a (.ext (XO a C (some d)))) d (.ext (XF d [(c,b),(f,e)])))
section
variable {X:Cx}{zG:List (Addr×Obj)}{σ:St}{H:Hp}{s:Shared}{C U f:Addr}{nm k1 k2 p0 p1 p2:Str}{R:XK}{E:Value->Shared->Prop}{k:Nat}{fd:FuncData}{us:List Value}{v1 v2:V}
theorem V4(c:XC X.K nm C U)(M:PySem.W.findIn X.K (.ref C) "__init__"=some (some (.ref f)))(N:PySem.W.typeIn X.K (.ref f)=some (.type "function"))(F:BD X.prog X.w X.K X.mg X.base CL k f fd [p0,p1,p2] (HN C k1 k2))(O:Binds X.K fd [p0,p1,p2] [])
  (P:Room (k+1) X.A) (I:Inv X zG σ H s) (r:Vals [v1,v2] us) (h:∀d,H d=none->R (.ref C) (some d) (A4 H d (.ext (XF d [(k1,v1),(k2,v2)])))):wpAny (model X.prog X.w) X.A (call (.ref C) us) (Made X zG σ C R) E s:=by
 obtain⟨a,g,Q,t,S⟩:=s;have y:us.length=2:=r.length.symm;have T:((a.push { cls:=.type "tuple",data:=.seq us.toArray }).push (B4 C a.objs.size)).get? (a.objs.size+1)=some (B4 C a.objs.size):=by unfold B4; heap_get
 have B:∀b o,a.get? b=some o->((a.push { cls:=.type "tuple",data:=.seq us.toArray }).push (B4 C a.objs.size)).get? b=some o:=λb o e=>Ev _ (Ev _ e);have D:H (a.objs.size+1)=none:=I.hok.fresh (dq _);have G:Inv X zG σ (A4 H (a.objs.size+1) (.ext (XO (a.objs.size+1) C none))) ⟨(a.push { cls:=.type "tuple",data:=.seq us.toArray }).push (B4 C a.objs.size),g,Q,t,S⟩:=I.laid (t':=t) B (dq _) (XO.ok ⟨_,_,T,rfl,rfl⟩)
 have p:HN C k1 k2 [.ref (a.objs.size+1),v1,v2] (A4 H (a.objs.size+1) (.ext (XO (a.objs.size+1) C none))) (λv J=>v=.non/\∃d,H d=none/\d≠a.objs.size+1 /\
   J=A4 (A4 (A4 (A4 H (a.objs.size+1) (.ext (XO (a.objs.size+1) C none))) d (.ext (XF d [(k1,v1)]))) (a.objs.size+1) (.ext (XO (a.objs.size+1) C (some d)))) d (.ext (XF d [(k1,v1),(k2,v2)]))) E0 :=
  ⟨_,v1,v2,rfl,AX,λd l i=>⟨rfl,d,by rw [AQ i] at l; exact l,i,rfl⟩⟩
 have Y:Vals [V.ref (a.objs.size+1),v1,v2] (cm (a.objs.size+1)::(us++[])):=by rw [dS]; exact .cons rfl r
 refine fj (Uz (K:=X.K) (U:=U) (nm:=nm) I.kIn c M N (by rw [y]; decide) (ft (F.run _ X.stack _ _ ⟨cm (a.objs.size+1)::us,[]⟩ _ _ _ E0 (P.make C us []) (G.env0.make C us []) (O _ (cm (a.objs.size+1)::us) G.kIn (by simp [y])) Y p) λZ s' L=>?_))
 rcases Z with e | (u | _ | _ | _) <;> first | exact dX L | skip
 obtain⟨v,J,q,j,un,x,rv,ev,d,l,i,eH⟩:=L;subst ev;subst eH;refine⟨rv,a.objs.size+1,some d,H,_,_,rfl,I,q,j,(Un.laid B (dq _) D).trans un,x,by rw [AQ i.symm,AX],dq _,?_⟩
 have e:del (A4 (A4 (A4 (A4 H (a.objs.size+1) (.ext (XO (a.objs.size+1) C none))) d (.ext (XF d [(k1,v1)]))) (a.objs.size+1) (.ext (XO (a.objs.size+1) C (some d)))) d (.ext (XF d [(k1,v1),(k2,v2)]))) (a.objs.size+1)=A4 H d (.ext (XF d [(k1,v1),(k2,v2)])):=by
  funext b
  by_cases z:b=a.objs.size+1
  ·rw [z,Fa,AQ i.symm,D]
  ·rw [KO z]
   by_cases m:b=d
   ·rw [m,AX,AX]
   ·rw [AQ m,AQ z,AQ m,AQ z,AQ m]
 rw [e];exact h d l
theorem V5(c:XC X.K nm C U)(j:PySem.W.findIn X.K (.ref C) "__init__"=some (some (.builtin "ValueError.__init__")))(I:Inv X zG σ H s)(k:us.length<=sizeLine)(h:R (.ref C) none H):wpAny (model X.prog X.w) X.A (call (.ref C) us) (Made X zG σ C R) E s:=by
 obtain⟨a,g,n,t,o⟩:=s;have d:=I.hok.fresh (dq _);refine fj (Si (K:=X.K) (U:=U) (nm:=nm) I.kIn c j k λp i l=>?_);have m:Inv X zG σ (A4 H (a.objs.size+1) _) _:=I.laid (t':=t) i (dq _) (XO.ok ⟨_,_,l,rfl,rfl⟩);refine⟨a.objs.size+1,none,H,_,_,rfl,I,rfl,I.bare,Un.laid i (dq _) d,m.hok,AX,dq _,?_⟩
 have e:del (A4 H (a.objs.size+1) (.ext (XO (a.objs.size+1) C none))) (a.objs.size+1)=H:=by
  funext b
  by_cases z:b=a.objs.size+1
  ·rw [z,Fa,d]
  ·rw [KO z,AQ z]
 grind
end
abbrev Xc:=Ends->XK->St->Hp->Prop
abbrev aT:=XK->St->Hp->VK->Prop
def XE(X:Cx)(b:List (Ch×Obj))(c:St)(R:XK)(e:Cn)(a:FM):Prop:=X.xe e a\/XS X b c R e a
def ZL(X:Cx)(c:dE)(t:Xc):Prop :=
 ∀(a:List (Ch×Obj)) (s:FM) (b:St) (H:Hp) (D:Ends) (R:XK),Inv X a b H s->t D R b H->wpAny (model X.prog X.w) X.A (exec c X.env) (SP X a D) (XE X a b R) s
def Y6(X:Cx)(c:List dE)(t:Xc):Prop :=
 ∀(a:List (Ch×Obj)) (s:FM) (b:St) (H:Hp) (D:Ends) (R:XK),Inv X a b H s->t D R b H->wpAny (model X.prog X.w) X.A (execs c X.env) (SP X a D) (XE X a b R) s
def bq(X:Cx)(e:c_)(t:aT):Prop :=
 ∀(b:List (Ch×Obj)) (s:FM) (a:St) (H:Hp) (Q:VK) (R:XK),Inv X b a H s->t R a H Q->wpAny (model X.prog X.w) X.A (eval e X.env) (EP X b a Q) (XE X b a R) s
section
variable {X:Cx}{st:Stmt}{t u:Xc}{te:aT}{e:Expr}{es:List Expr}{ta:TA}{x nm k1 k2 p0 p1 p2:Str}{p pos cpos:Pos}{C U f:Addr}{k:Nat}{fd:FuncData}{ps:List Str}{sp:Sp}
theorem bG{a:Type}{t:Sem a}{Q:a->FM->Prop}{b:List (Ch×Obj)}{c:St}{R:XK}{s:FM}(h:wpAny (model X.prog X.w) X.A t Q X.xe s):wpAny (model X.prog X.w) X.A t Q (XE X b c R) s:=dP h (λ_ _ z=>z) λ_ _ z=>.inl z
theorem Rx{R:XK}(b:Hr (RX X.prog X.w) X R)(h:ZL X st t):PS X st (λD=>t D R):=λg s a H D I q =>
 dP (h _ s a H D R I q) (λ_ _ z=>z) λe d z=>z.elim id fun⟨H,s,J,c⟩=>b _ a H s e d J c
theorem UD(a:ZL X st t):Y6 X [st] t:=by
 intro d s b H D R I h;refine jH (dP (a _ s b H D R I h) (λf e q=>?_) λ_ _ z=>z);cases f with
 | next =>
  obtain⟨g,c,J,q⟩:=q;exact gB ⟨_,c,J,q⟩
 | brk=>exact q
 | cont=>exact q
 | ret v=>exact q
def Vb(C:Ch)(k1 k2:Str)(ta:TA):Xc:=λ_ R e H=>ta e H λg a=>∃b c,g=[b,c]/\∀d,a d=none->R (.ref C) (some d) (A4 a d (.ext (XF d [(k1,b),(k2,c)])))
def Vc(C:Ch)(ta:TA):Xc:=λ_ R a H=>ta a H λb c=>b.length<=sizeLine/\R (.ref C) none c
theorem Pn(c:XC X.K nm C U)(i:PySem.W.findIn X.K (.ref C) "__init__"=some (some (.ref f)))(j:PySem.W.typeIn X.K (.ref f)=some (.type "function"))(F:BD X.prog X.w X.K X.mg X.base CL k f fd [p0,p1,p2] (HN C k1 k2))(l:Binds X.K fd [p0,p1,p2] [])
  (d:Room (k+1) X.A) (m:Gl X x) (n:X.mg x=some (.ref C)) (o:PA X (e::es) ta) (a:(x==("__debug__":Str))=false:=by decide) (u:starEach (e::es) X.env=(false,eval e X.env)::starEach es X.env:=by rfl) (b:(backTo cpos (starEach es X.env)).any (·.1)=false:=by rfl) :
  ZL X (.Raise (some (.Call (.Name x p) (e::es) [] cpos)) none pos) (Vb C k1 k2 ta):=by
 intro B s v H D R I h;refine LS c d.hd ?_ λ_ _ z=>.inr z;refine eN (Dq I m n ?_ a);refine PySem.W.callWith_K I.ok.mod.kin c.kp (thn (bG (o _ _ s v H _ I h)) λE G ⟨J,L,g,r,M,N,y,q⟩=>⟨g.kIn,?_⟩) u b;subst y;exact V4 c i j F l d g r q
theorem Po(c:XC X.K nm C U)(g:PySem.W.findIn X.K (.ref C) "__init__"=some (some (.builtin "ValueError.__init__")))(i:X.A.handled=none)(j:Gl X x)(k:X.mg x=some (.ref C))(l:PA X (e::es) ta)(a:(x==("__debug__":Str))=false:=by decide)(m:starEach (e::es) X.env=(false,eval e X.env)::starEach es X.env:=by rfl)(b:(backTo cpos (starEach es X.env)).any (·.1)=false:=by rfl) :
  ZL X (.Raise (some (.Call (.Name x p) (e::es) [] cpos)) none pos) (Vc C ta):=by
 intro u s n H D R I h;exact LS c i (eN (Dq I j k (PySem.W.callWith_K I.ok.mod.kin c.kp (thn (bG (l _ _ s n H _ I h)) λv w ⟨y,B,d,r,o,q⟩=>⟨d.kIn,V5 c g d (by rw [cy,← r.length]; exact o) q⟩) m b) a)) λ_ _ z=>.inr z
def Xy(sp:Sp)(ta:TA):aT:=λR a H Q=>ta a H λb c=>sp b c Q R
theorem UL(F:BD X.prog X.w X.K X.mg X.base (RX X.prog X.w) k f fd ps sp)(m:Room k X.A)(n:Gl X x)(o:X.mg x=some (.ref f))(v:keepIn X.K (.ref f)=true)(y:Binds X.K fd ps [])
  (z:PA X (e::es) ta) (d:(x==("__debug__":Str))=false:=by decide) (B:starEach (e::es) X.env=(false,eval e X.env)::starEach es X.env:=by rfl) (g:(backTo pos (starEach es X.env)).any (·.1)=false:=by rfl) :
  bq X (.Call (.Name x p) (e::es) [] pos) (Xy sp ta):=by
 intro D s E H Q R I h;refine eN (Dq I n o ?_ d);refine PySem.W.callWith_K (h₀:=X.base) I.ok.mod.kin v (thn (bG (z pos D s E H _ I h)) λa i ⟨j,l,b,r,q⟩=>⟨b.kIn,?_⟩) B g;have G:(a++[]).length=ps.length:=by rw [dS,← r.length]; exact F.len _ _ _ _ q
 have J:Vals j (a++[]):=by grind
 refine fj (ft (F.run X.A X.stack i l ⟨a,[]⟩ (a++[]) j Q R m b.env0 (y i a b.kIn G) J q) λr M c=>?_);cases r with
 | error e=>exact .inr ⟨l,i,b,c⟩
 | ok L =>
  cases L with
  | ret u=>exact b.after c
  | next=>exact dX c
  | brk=>exact dX c
  | cont=>exact dX c
def ZV(i:Nat)(te:aT):Xc:=λD R a H=>te R a H λv b=>D.nx (a.set i (some v)) b
theorem Vl{i:Nat}{y:Str}{a:Pos}(b:X.N.Nodup)(c:X.N[i]?=some y)(d:Loc X.env.scope y)(g:bq X e te)(j:swapsWith e (some (.Name y a)) pos.line X.env=pure false:=by rfl)(k:X.fn y=true\/X.env.scope.names.lookup y=some .local:=by first | exact .inl rfl | exact .inr rfl | assumption) :
  ZL X (.Assign [.Name y a] e pos) (ZV i te):=λu s l H D R I h=>wpAny_Assign_Name (thn (g _ s l H _ R I h) λv w ⟨y,m,n,o,q⟩=>FC n b c d o (λz r=>⟨_,m,r,q⟩) k) j
end
def Cx.hush(X:Cx)(A:dL):Cx:={ X with A:=A,calm:=false,xe:=λ_ _=>False }
section
variable {X:Cx}{A:Around}{zG:List (Addr×Obj)}{σ:St}{H:Hp}{s:Shared}
theorem Inv.hush(I:Inv X zG σ H s)(a:A.frames=some X.stack):Inv (X.hush A) zG σ H s :=
 ⟨⟨I.ok.mod,I.ok.kind,I.ok.glob,I.ok.blt,I.ok.above,I.ok.inj,I.ok.has,I.ok.cab,λz=>absurd (z) c8,a,I.ok.stk,I.ok.exf,I.ok.bs,I.ok.bsz,I.ok.noex,I.ok.exfs,I.ok.funs,I.ok.frf⟩,I.os,I.bare,I.base,I.loc,I.cell,I.free,I.freeC,I.pin,I.hok,I.len⟩
theorem Inv.unhush(I:Inv (X.hush A) zG σ H s)(ok:X.Ok):Inv X zG σ H s:=⟨ok,I.os,I.bare,I.base,I.loc,I.cell,I.free,I.freeC,I.pin,I.hok,I.len⟩
theorem Inv.track{a:Ch}{o:HO}(I:Inv X zG σ H s)(n:H a=none)(d:X.s₀.heap.objs.size<=a)(f:a≠X.env.locals)(g:∀x c,X.env.cells.lookup x=some c->c≠a)(h:∀p∈X.pn++zG,p.1≠a)(new:ObjOk X.prog X.w (A4 H a o) s.heap a o) :
  Inv X zG σ (A4 H a o) s:=by
 have of:∀{b:Ch} {u:HO},H b=some u->A4 H a o b=some u:=λ{b u} q=>by rw [AQ (λz=>by grind)]; exact q
 refine I.step (g':=s.gens) (d':=s.drawn) (t':=s.toks) (h':=s.heap) (ch:=[a]) (λb l=>?_) (λb o _ _ _ e _=>e) (λb o _ _ _ e _=>⟨o.slots,e⟩) (λb o i _ m=>?_) (λb o _ e=>⟨o,e⟩) (λb j e=>of e) (λb o j e=>of e) (λb r e=>⟨#[],by grind⟩) (λm k=>k) (λb u e=>?_) I.bare
 ·have e:b=a:=by grind
  subst e;exact⟨.inr d,f,g,h⟩
 ·rw [AQ (λz=>i (by simp [z]))]; exact m
 ·by_cases z:b=a
  ·subst z
   rw [AX] at e
   grind
  ·rw [AQ z] at e
   exact(I.hok b u e).stay (λ_ _ _ q=>q) (λ_ q=>of q) λ_ _ q=>of q
theorem Inv.gone{i:Nat}{x:Str}{v:Option Cn}{m:Str->Option Cn}{t:cw}{D:Nat}(I:Inv X zG σ H s)(E:X.N.Nodup)(F:X.N[i]?=some x)
  (G:∀(i:Nat) (x:Str) (v:V),X.N[i]?=some x->σ[i]?=some (some v)->Sw X.env.scope x->∃u,RelV v u/\Look X.env s.heap m x u)
  (J:t.Ns X.env.locals (λy=>if y=x then v else m y)) (a:fq X.env.locals s.heap t):Inv X zG (σ.set i none) H { s with heap:=t,toks:=D }:=by
 have f:∀{b:Ch} {o:Obj},X.s₀.heap.get? b=some o->b≠X.env.locals:=λ{b o} e=>c7 (dA (UF e) I.ok.above);refine⟨I.ok,I.os,I.bare,⟨λb o e n w l=>(a.2 b (f e)).trans (I.base.keep b o e n w l),λb o e n w l=>?_,I.base.free,λb o e l=>?_,I.base.tups,I.base.frzs,I.base.tbls⟩,⟨_,J,λj y K g h L=>?_⟩,λy c e=>?_,I.free,I.freeC,λp M=>?_,λb o e=>?_,by simpa using I.len⟩
 ·obtain⟨O,g⟩:=I.base.slot b o e n w l
  exact⟨O,(a.2 b (f e)).trans g⟩
 ·obtain⟨P,g⟩:=I.base.there b o e l
  exact⟨P,(a.2 b (f e)).trans g⟩
 ·by_cases B:j=i
  ·subst B
   rw [i9] at h
   split at h
   ·split at h <;> cases h
   ·rename_i z; exact absurd rfl z
  ·rw [iE (eF B)] at h
   obtain⟨Q,R,q⟩:=G j y K g h L;refine⟨Q,R,?_⟩
   rcases q with ⟨k,e⟩ | ⟨k,c,e,z⟩
   ·refine .inl ⟨k,?_⟩
    have:y≠x:=λe=>B (Jt E g (e▸F))
    simp [this,e]
   ·exact .inr ⟨k,c,e,z.sameBut a (I.cne y c e)⟩
 ·obtain⟨C,z⟩:=I.cell y c e
  exact⟨C,z.sameBut a (I.cne y c e)⟩
 ·obtain⟨e,n,f,S,d⟩:=I.pin p M
  exact⟨(a.2 p.1 f).trans e,n,f,S,d⟩
 ·refine(I.hok b o e).stay (λc C r q=>(a.2 c ?_).trans q) (λ_ q=>q) λ_ _ q=>q
  rintro rfl
  rcases r with rfl | r
  ·rw [I.free] at e; cases e
  ·rw [I.free] at r; cases r
end
def XT(C:Ch)(c:Option Ch)(a:Ch)(u:HO):Prop:=∃b d,u=.frz ⟨.ref C,c,.fields b,d⟩ (.own a)/\b[2]?=some .none
abbrev TH:=Ends->Ch->Option Ch->St->Hp->Prop
def PH(X:Cx)(f:List gc)(t:TH):Prop :=
 ∀(b:List (Ch×Obj)) (c:St) (D:Ends) (a C:Ch) (d:Option Ch) (B:cw) (H0:Hp) (e:FM) (H:Hp) (s:FM),Inv X b c H0 e->CXD X.prog X.w X.stack H0 e a C d B H s->t D C d c H ->
  wpAny (model X.prog X.w) X.A (handleBy (.ref a) X.env f) (SP X b D) X.xe s
section
variable {X:Cx}{i:Nat}{n x:Str}{np pos:Pos}{b₀:Stmt}{suite body:List Stmt}{rest:List ExceptHandler}{Dc U:Addr}{nm:Str}{th:TH}{ts:Addr->TS}{tb:Xc}
def ZZ(K:Frag)(Dc:Ch)(i:Nat)(ts:Ch->TS)(th:TH):TH:=λD C d e H=>∃nm U,XC K nm C U/\((C=Dc\/U=Dc)/\(∀a u,H a=none->XT C d a u->ts a { nx:=λb c=>D.nx (b.set i none) c,rt:=D.rt,bk:=λb c=>D.bk (b.set i none) c,ct:=λb c=>D.ct (b.set i none) c } (e.set i (some (.ref a))) (A4 H a u))\/C≠Dc/\U≠Dc/\th D C d e H)
def ZO(K:Frag)(D:Ch):Prop:=∃nm q N d c e f a g b h j k l m o,K.lookup D=some (excClassObj nm q D N d c e f a g b h j k l m o "ValueError.__new__")/\c.contains (.type "BaseException")=true
theorem XC.isX{K:Frag}{C:Ch}(c:XC K nm C U):ZO K C:=by
 obtain⟨q,N,a,b,d,f,g,h,j,k,l,m,o,e⟩:=c.obj;exact⟨nm,q,N,a,_,_,b,_,f,_,h,j,k,l,m,o,e,by simp [Ct]⟩
theorem XC.isU{K:Frag}{C:Ch}(c:XC K nm C U):ZO K U:=by
 obtain⟨q,N,a,b,d,f,g,h,j,k,l,m,o,p,e⟩:=c.up;exact⟨_,q,N,a,_,_,b,_,f,_,h,j,k,l,m,o,e,by simp [Ct]⟩
theorem IH{C U D:Ch}:(cm C::cm U::Ct).contains (.ref D)=(decide (C=D)||decide (U=D)):=by
 simp only [List.contains_cons,Ct,List.contains_nil]
 have d:∀(a b:Ch),(cm a==cm b)=decide (b=a):=λa b=>by
  grind
 have c:∀T,(cm D==fE T)=false:=λT=>rfl;rw [d,d,c,c,c,c];simp
theorem Vr(hN:X.N.Nodup)(hi:X.N[i]?=some n)(R:X.env.scope.names.lookup n=some .local)(hg:Gl X x)(hm:X.mg x=some (.ref Dc))(hD:ZO X.K Dc)(a3:X.stack=X.env::X.outer)(a4:X.env.frame=some X.env.locals)
  (hs:∀a,PSs (X.hush (X.A.mark (some (.ref a)))) (b₀::suite) (ts a)) (o:PH X rest th) (hd:(x==("__debug__":Str))=false:=by decide) :
  PH X (.ExceptHandler (some (.Name x np)) (some n) (b₀::suite) pos::rest) (ZZ X.K Dc i ts th):=by
 intro t σ D a C dx B H0 s0 H s I c h;obtain⟨nm,U,xc,h⟩:=h;have J:=c.inv I;have E:(X.A.mark (some (.ref a))).frames=some X.stack:=I.ok.frames;have J':=J.hush E;refine wpAny_handleBy_cons (codeAny_handlers_test ?_) (by intro q; cases q);refine Dq (X:=X.hush (X.A.mark (some (.ref a)))) J' hg hm ?_ hd;obtain⟨a5,q',N',a6,a7,a8,a9,a1,b0,a2,b1,l0,l1,l2,l3,l5,eD,hB⟩:=hD;obtain⟨q,N,bs,sn,b2,ab,b3,dd,k0,k1,k2,k3,k5,eC⟩:=xc.obj;obtain⟨vs,sl,tb,hx,h2,h1,hT⟩:=c.fly.obj;obtain⟨hh,g,dr,tk,os⟩:=s;refine Sh (J.kIn _ _ eC) (J.kIn _ _ eD) hB hx rfl ?_;rw [IH]
 rcases h with ⟨S,h⟩ | ⟨n1,n2,h⟩
 ·have e:(decide (C=Dc)||decide (U=Dc))=true:=by rcases S with z | z <;> simp [z]
  rw [e];refine codeAny_handlers_suite_as ?_;refine Gb (s:=⟨hh,g,dr,tk,os⟩) c.fly λh' f' u'=>?_;have c2:=c.step f' u';have J2:=c2.inv I;obtain⟨F,G,b4,L,T,_⟩:=f'.obj
  have J3:Inv X t σ (A4 H a (.frz ⟨.ref C,dx,.fields F,G⟩ (.own a))) ⟨h',g,dr,tk,os⟩:=by
   refine J2.track c.free (cx I.sz c.new) (fV (dA I.lt c.new)) (λy c' e z=>?_) (λp hp z=>?_) ⟨L,_,L⟩
   ·obtain⟨v,q⟩:=I.cell y c' e
    exact absurd (dA q.lt c.new) (by rw [z]; exact eK _)
   ·exact absurd (dA (UF (I.pin p hp).1) c.new) (by rw [z]; exact eK _)
  refine FC J3 hN hi (.inl R) (v:=.ref a) (u:=.ref a) rfl (λs4 J4=>?_) (.inr R);have V:=hs a t s4 _ _ _ (J4.hush E) (h a _ c.free ⟨F,G,rfl,T⟩);refine dP V (λf W O=>?_) λe W z=>z.elim
  have j:∀{k:St} {b:Hp} {P:St->Hp->Prop} {Q:FM->Prop},Inv (X.hush (X.A.mark (some (.ref a)))) t k b W->P (k.set i none) b->(∀l,Inv X t (k.set i none) b l->Q l) ->
    wpAny (model X.prog X.w) X.A (do bindName X.env n .none; unbindBehindTheSuite X.env n pos) (λ_ l=>Q l) X.xe W:=λ{k b P Q} d _ kq=>by
   obtain⟨m,hn,Y⟩:=d.loc;refine wpAny_nameGoes_keeps (M:=model X.prog X.w) R hn (by show (X.env.scope.kind==.class||(X.env.scope.kind==.module&&X.env.locals != X.env.globals))=false; rw [I.ok.kind]; rfl) λh6 v Z a0=>?_;exact kq _ ((d.unhush I.ok).gone hN hi Y Z a0)
  cases f with
  | next =>
   obtain⟨k,b,d,q⟩:=O;exact j (P:=D.nx) d q λl r=>⟨_,b,r,q⟩
  | brk =>
   obtain⟨k,b,d,q⟩:=O;exact j (P:=D.bk) d q λl r=>⟨_,b,r,q⟩
  | cont =>
   obtain⟨k,b,d,q⟩:=O;exact j (P:=D.ct) d q λl r=>⟨_,b,r,q⟩
  | ret u =>
   obtain⟨v,k,b,d,rv,q⟩:=O;exact j (P:=λ_ b=>D.rt v b) d q λl r=>⟨v,_,b,r,rv,q⟩
 ·have e:(decide (C=Dc)||decide (U=Dc))=false:=by simp [n1,n2]
  rw [e];exact o t σ D a C dx B H0 s0 H _ I c h
def Xu:TH:=λ_ _ _ _ _=>False
theorem YG:PH X [] Xu:=λ_ _ _ _ _ _ _ _ _ _ _ _ _ h=>h.elim
def bK(tb:Xc)(th:TH):TS:=λD a H=>tb D (λC c d=>∃b,C=.ref b/\th D b c a d) a H
theorem YD{b:gc}(d:X.stack=X.env::X.outer)(g:X.env.frame=some X.env.locals)(L:∀e s,X.xe e s->False)(p:Y6 X body tb)(r:PH X (b::rest) th):PS X (.Try body (b::rest) [] [] pos) (bK tb th):=by
 intro k s l H D I h;refine wpAny_Try_except (dP (p k s l H D _ I h) (λf m q=>?_) λe m q=>?_)
 ·cases f with
  | next=>exact gB q
  | _=>exact q
 ·rcases q with q | ⟨H0,t,u,a,C,v,B,w,rfl,c,M,y,j⟩
  ·grind
  ·cases y
   have o:=c.fly;rw [d] at o;have fr:=I.ok.frames;rw [d] at fr;refine Of fr g o λz A E=>?_;have F:=c.step (by grind) E;refine Gb (s:={ m with heap:=z }) A λN G J=>?_;have K:=F.step (by rw [d]; exact G) J;exact r k l D a C v B H0 t w _ u K j
end
end L2
namespace Dp
open L2
inductive D where
 | non | bl (b:Bool) | int (i:Int) | str (x:Str) | tup (xs:List D) | lst (xs:List D) | dic (ks:List Key) (xs:List D) | fdi (ks:List Key) (xs:List D) | dit (ks:List (List Key)) (xs:List D)
 deriving Inhabited
def NdT(M:Ch->Prop)(H:Hp)(a:Ch)(b:List V):Prop:=H a=some (.tup b)
def NdL(M:Ch->Prop)(H:Hp)(a:Ch)(b:List V):Prop:=¬M a/\H a=some (.lst b)
def NdD(M:Ch->Prop)(H:Hp)(a:Ch)(b:List Key)(c:List V):Prop:=¬M a/\H a=some (.dK (b.zip c))
def NdF(M:Ch->Prop)(H:Hp)(a:Ch)(b:List Key)(c:List V):Prop:=∃o,¬M a/\H a=some (.frz o (.dK (b.zip c)))
def NdU(M:Ch->Prop)(H:Hp)(a:Ch)(b:List (List Key))(c:List V):Prop:=¬M a/\H a=some (.dT (b.zip c))
mutual
def At(K:Frag)(M:Ch->Prop)(H:Hp):D->V->Prop
 | .non,v=>v=.non
 | .bl b,v=>v=.bl b
 | .int i,v=>v=.int i
 | .str x,v=>v=.str x/\x.length<=sizeLine
 | .tup ds,v=>∃a vs,v=.ref a/\NdT M H a vs/\Ats K M H ds vs
 | .lst ds,v=>∃a vs,v=.ref a/\NdL M H a vs/\Ats K M H ds vs
 | .dic ks ds,v=>∃a vs,v=.ref a/\NdD M H a ks vs/\ks.length=ds.length/\Ats K M H ds vs
 | .fdi ks ds,v=>∃a vs,v=.ref a/\NdF M H a ks vs/\ks.length=ds.length/\Ats K M H ds vs
 | .dit ks ds,v=>∃a vs,v=.ref a/\NdU M H a ks vs/\ks.length=ds.length/\Ats K M H ds vs
def Ats(K:Frag)(M:Ch->Prop)(H:Hp):List D->List V->Prop
 | [],vs=>vs=[]
 | d::ds,vs=>∃v r,vs=v::r/\At K M H d v/\Ats K M H ds r
end
section
variable {K:Frag}{M M':Addr->Prop}{H H':Hp}{a:Addr}{vs:List V}{ks:List Key}
theorem NdT.sq(h:NdT M H a vs):SqT K H a vs:=.inl (.inl h)
theorem NdL.sq(h:NdL M H a vs):SqL K H a vs:=.inl (.inl h.2)
def Pres(M:Ch->Prop)(H:Hp)(M':Ch->Prop)(H':Hp):Prop:=(∀b o,H b=some o->¬M b->H' b=some o)/\(∀b,M' b->M b\/H b=none)/\∀b vs,H b=some (.tup vs)->H' b=some (.tup vs)
theorem Pres.nd{u:HO}(p:Pres M H M' H')(n:¬M a)(h:H a=some u):¬M' a/\H' a=some u:=by
 refine⟨λz=>?_,p.1 _ _ h n⟩
 rcases p.2.1 a z with z | z
 ·exact n z
 grind
theorem NdT.pres(p:Pres M H M' H')(h:NdT M H a vs):NdT M' H' a vs:=p.2.2 _ _ h
theorem NdL.pres(p:Pres M H M' H')(h:NdL M H a vs):NdL M' H' a vs:=p.nd h.1 h.2
theorem NdD.pres(p:Pres M H M' H')(h:NdD M H a ks vs):NdD M' H' a ks vs:=p.nd h.1 h.2
theorem NdU.pres{ks:List (List Key)}(p:Pres M H M' H')(h:NdU M H a ks vs):NdU M' H' a ks vs:=p.nd h.1 h.2
theorem NdF.pres(p:Pres M H M' H')(h:NdF M H a ks vs):NdF M' H' a ks vs:=let ⟨o,b,c⟩:=h; ⟨o,p.nd b c⟩
mutual
theorem At.pres(p:Pres M H M' H'):∀{d:D} {v:V},At K M H d v->At K M' H' d v
 | .non,v,h=>h
 | .bl b,v,h=>h
 | .int i,v,h=>h
 | .str x,v,h=>h
 | .tup ds,v,h=>by
  obtain⟨a,vs,e,hn,hs⟩:=h;exact⟨a,vs,e,hn.pres p,Ats.pres p hs⟩
 | .lst ds,v,h=>by
  obtain⟨a,vs,e,hn,hs⟩:=h;exact⟨a,vs,e,hn.pres p,Ats.pres p hs⟩
 | .dic ks ds,v,h=>by
  obtain⟨a,vs,e,hn,hl,hs⟩:=h;exact⟨a,vs,e,hn.pres p,hl,Ats.pres p hs⟩
 | .fdi ks ds,v,h=>by
  obtain⟨a,vs,e,hn,hl,hs⟩:=h;exact⟨a,vs,e,hn.pres p,hl,Ats.pres p hs⟩
 | .dit ks ds,v,h=>by
  obtain⟨a,vs,e,hn,hl,hs⟩:=h;exact⟨a,vs,e,hn.pres p,hl,Ats.pres p hs⟩
theorem Ats.pres(p:Pres M H M' H'):∀{ds:List D} {vs:List V},Ats K M H ds vs->Ats K M' H' ds vs
 | [],vs,h=>h
 | d::ds,vs,h=>by
  obtain⟨v,r,e,h1,h2⟩:=h;exact⟨v,r,e,At.pres p h1,Ats.pres p h2⟩
end
theorem Pres.trans{M1 M2 d:Ch->Prop}{c H2 f:Hp}(p:Pres M1 c M2 H2)(q:Pres M2 H2 d f):Pres M1 c d f:=by
 refine⟨λb o e n=>?_,λb z=>?_,λb vs e=>q.2.2 b vs (p.2.2 b vs e)⟩
 ·refine q.1 b o (p.1 b o e n) λz=>?_
  rcases p.2.1 b z with z | z
  ·exact n z
  grind
 ·rcases q.2.1 b z with z | z
  ·exact p.2.1 b z
  ·cases e:c b with
   | none=>grind
   | some o =>
    by_cases n:M1 b
    ·exact .inl n
    ·rw [p.1 b o e n] at z; cases z
theorem Pres.refl(M:Ch->Prop)(H:Hp):Pres M H M H:=⟨λ_ _ e _=>e,λ_ z=>.inl z,λ_ _ e=>e⟩
theorem Pres.less(h:∀b,M' b->M b):Pres M H M' H:=⟨λ_ _ e _=>e,λb z=>.inl (h b z),λ_ _ e=>e⟩
theorem Ats.length:∀{b:List D} {vs:List V},Ats K M H b vs->vs.length=b.length
 | [],vs,h=>by cases h; rfl
 | d::b,vs,h=>by
  obtain⟨v,r,e,f,c⟩:=h;subst e;rw [ZB,ZB,Ats.length c]
theorem Ats.get:∀{b:List D} {vs:List V} {i:Nat} {d:D},Ats K M H b vs->b[i]?=some d->∃v,vs[i]?=some v/\At K M H d v
 | [],vs,i,d,h,e=>by simp at e
 | f::b,vs,0,d,h,e=>by
  obtain⟨v,r,g,j,c⟩:=h
  simp_all
 | f::b,vs,i+1,d,h,e=>by
  obtain⟨v,r,g,j,c⟩:=h;obtain⟨u,k,l⟩:=Ats.get c (by simpa using e)
  simp_all
theorem Ats.append:∀{f b:List D} {vs c:List V},Ats K M H f vs->Ats K M H b c->Ats K M H (f++b) (vs++c)
 | [],b,vs,c,h,g=>by cases h; exact g
 | d::f,b,vs,c,h,g=>by
  obtain⟨v,r,e,i,j⟩:=h;subst e;exact⟨v,_,rfl,i,Ats.append j g⟩
theorem Ats.drop:∀{b:List D} {vs:List V} (n:Nat),Ats K M H b vs->Ats K M H (b.drop n) (vs.drop n)
 | b,vs,0,h=>h
 | [],vs,n+1,h=>by cases h; exact rfl
 | d::b,vs,n+1,h=>by
  obtain⟨v,r,e,f,c⟩:=h;subst e;exact Ats.drop n c
theorem Ats.take:∀{b:List D} {vs:List V} (n:Nat),Ats K M H b vs->Ats K M H (b.take n) (vs.take n)
 | b,vs,0,h=>rfl
 | [],vs,n+1,h=>by cases h; exact rfl
 | d::b,vs,n+1,h=>by
  obtain⟨v,r,e,c,f⟩:=h;subst e;exact⟨v,_,rfl,c,Ats.take n f⟩
theorem Ats.one{d:D}{v:V}(h:At K M H d v):Ats K M H [d] [v]:=⟨v,[],rfl,h,rfl⟩
theorem Ats.eraseIdx:∀{b:List D} {vs:List V} (i:Nat),Ats K M H b vs->Ats K M H (b.eraseIdx i) (vs.eraseIdx i)
 | [],vs,i,h=>by cases h; exact rfl
 | f::b,vs,0,h=>by
  obtain⟨u,r,c,d,e⟩:=h
  grind
 | f::b,vs,i+1,h=>by
  obtain⟨u,r,c,d,e⟩:=h;subst c;exact⟨u,_,rfl,d,Ats.eraseIdx i e⟩
theorem Ats.reverse:∀{b:List D} {vs:List V},Ats K M H b vs->Ats K M H b.reverse vs.reverse
 | [],vs,h=>by cases h; exact rfl
 | d::b,vs,h=>by
  obtain⟨v,r,e,c,f⟩:=h;subst e;rw [gI,gI];exact Ats.append (Ats.reverse f) (Ats.one c)
end
inductive Kd where
 | sh | tp | fr
def Tops(K:Frag)(M:Ch->Prop)(H:Hp)(a:Ch):D->Prop
 | .lst c=>∃b,H a=some (.lst b)/\Ats K M H c b
 | .dic d c=>∃b,H a=some (.dK (d.zip b))/\d.length=c.length/\Ats K M H c b
 | .dit d c=>∃b,H a=some (.dT (d.zip b))/\d.length=c.length/\Ats K M H c b
 | _=>False
theorem Tops.notT{K:Frag}{M:Ch->Prop}{H:Hp}{a:Ch}{d:D}(h:Tops K M H a d){f:List V}:H a≠some (.tup f):=λq=>by
 cases d with
 | lst b=>obtain⟨c,e,_⟩:=h; grind
 | dic g b=>obtain⟨c,e,_⟩:=h; grind
 | dit g b=>obtain⟨c,e,_⟩:=h; grind
 | _=>exact h.elim
theorem Tops.pres{K:Frag}{M j:Ch->Prop}{H g:Hp}{a:Ch}{d:D}(h:Tops K M H a d)(p:Pres M H j g)(e:∀o,H a=some o->g a=some o):Tops K j g a d:=by
 cases d with
 | lst k=>obtain⟨b,c,f⟩:=h; exact⟨b,e _ c,f.pres p⟩
 | dic l k=>obtain⟨b,c,f,i⟩:=h; exact⟨b,e _ c,f,i.pres p⟩
 | dit l k=>obtain⟨b,c,f,i⟩:=h; exact⟨b,e _ c,f,i.pres p⟩
 | _=>assumption
theorem Tops.at{K:Frag}{M:Ch->Prop}{H:Hp}{a:Ch}{d:D}(h:Tops K M H a d)(n:¬M a):At K M H d (.ref a):=by
 cases d with
 | lst g=>obtain⟨b,c,e⟩:=h; exact⟨a,b,rfl,⟨n,c⟩,e⟩
 | dic i g=>obtain⟨b,c,e,f⟩:=h; exact⟨a,b,rfl,⟨n,c⟩,e,f⟩
 | dit i g=>obtain⟨b,c,e,f⟩:=h; exact⟨a,b,rfl,⟨n,c⟩,e,f⟩
 | _=>exact(h).elim
def AtT(K:Frag)(U:Ch->Prop)(M:Ch->Prop)(H:Hp):D->V->Prop
 | .lst c,v=>∃a b,v=.ref a/\¬U a/\Rd H a (.lst b)/\Ats K M H c b
 | .dic e c,v=>∃a b,v=.ref a/\¬U a/\H a=some (.dK (e.zip b))/\e.length=c.length/\Ats K M H c b
 | .dit e c,v=>∃a b,v=.ref a/\¬U a/\H a=some (.dT (e.zip b))/\e.length=c.length/\Ats K M H c b
 | d,v=>At K M H d v
theorem Tops.att{K:Frag}{U M:Ch->Prop}{H:Hp}{a:Ch}{d:D}(h:Tops K M H a d)(n:¬U a):AtT K U M H d (.ref a):=by
 cases d with
 | lst g=>obtain⟨b,c,e⟩:=h; exact⟨a,b,rfl,n,.inl c,e⟩
 | dic i g=>obtain⟨b,c,e,f⟩:=h; exact⟨a,b,rfl,n,c,e,f⟩
 | dit i g=>obtain⟨b,c,e,f⟩:=h; exact⟨a,b,rfl,n,c,e,f⟩
 | _=>exact(h).elim
def VR(K:Frag)(U:Ch->Prop)(M:Ch->Prop)(H c:Hp):Kd->V->D->Prop
 | .sh,v,d=>At K M c d v
 | .tp,v,d=>AtT K U M c d v
 | .fr,v,d=>∃a,v=.ref a/\H a=none/\Tops K (λb=>M b\/b=a) c a d
def FeedOk(K:Frag)(M:Ch->Prop)(H:Hp)(f:Ch×Ch)(n:Nat):Prop :=
 ∃(at_ b:Int) (a:List Int),H f.1=some (.lst [.ref f.2,.int at_,.int b])/\f.2≠f.1/\NdL M H f.2 (a.map V.int)/\a.length<=63/\0<=at_/\at_+n<=2 ^ 60
def FeedC(K:Frag)(F:Option (Ch×Ch))(M:Ch->Prop)(H:Hp)(n:Nat):Prop:=∀f,F=some f->FeedOk K M H f n
def Ext(U:Ch->Prop)(H c:Hp):Prop:=∀b o,H b=some o->∃a,c b=some a/\(¬U b->a=o)/\∀d,o=.tup d->a=o
theorem Ext.keep{U:Ch->Prop}{H a:Hp}(p:Ext U H a){b:Ch}{o:HO}(e:H b=some o)(n:¬U b):a b=some o:=by
 obtain⟨c,q,r,_⟩:=p b o e;rw [q,r n]
theorem Ext.tup{U:Ch->Prop}{H a:Hp}(p:Ext U H a){b:Ch}{c:List V}(e:H b=some (.tup c)):a b=some (.tup c):=by
 obtain⟨d,q,_,r⟩:=p b _ e
 grind
theorem Ext.free{U:Ch->Prop}{H a:Hp}(p:Ext U H a){b:Ch}(e:a b=none):H b=none:=by
 cases q:H b with
 | none=>rfl
 | some o =>
  obtain⟨c,z,_⟩:=p b o q
  grind
theorem Ext.refl(U:Ch->Prop)(H:Hp):Ext U H H:=λ_ o e=>⟨o,e,λ_=>rfl,λ_ _=>rfl⟩
theorem Ext.trans{U:Ch->Prop}{c H2 d:Hp}(p:Ext U c H2)(q:Ext U H2 d):Ext U c d:=λb o e=>by
 obtain⟨g,h,i,f⟩:=p b o e;obtain⟨j,k,l,m⟩:=q b g h;exact⟨j,k,λn=>(l n).trans (i n),λa z=>(m a ((f a z).trans z)).trans (f a z)⟩
def Grow(H a:Hp):Prop:=a=H\/∃p o,H p=none/\a=A4 H p o
theorem Grow.all{H a:Hp}(g:Grow H a):∀b o,H b=some o->a b=some o:=by
 intro b o e
 rcases g with rfl | ⟨p,u,n,rfl⟩
 ·exact e
 ·rw [AQ (A0 e n)]; exact e
theorem Grow.refl{H:Hp}:Grow H H:=.inl rfl
theorem Grow.ext{U:Ch->Prop}{H a:Hp}(g:Grow H a):Ext U H a:=λb o e=>⟨o,g.all b o e,λ_=>rfl,λ_ _=>rfl⟩
theorem Grow.pres{M:Ch->Prop}{H a:Hp}(g:Grow H a):Pres M H M a:=⟨λb o e _=>g.all b o e,λ_ z=>.inl z,λb c e=>g.all b _ e⟩
theorem FeedOk.pres{K:Frag}{M c:Ch->Prop}{H b:Hp}{f:Ch×Ch}{n:Nat}(h:FeedOk K M H f n)(p:Pres M H c b)(e:∀o,H f.1=some o->b f.1=some o):FeedOk K c b f n:=by
 obtain⟨a,r,d,g,i,j,k⟩:=h;exact⟨a,r,d,e _ g,i,j.pres p,k⟩
theorem FeedC.pres{K:Frag}{F:Option (Ch×Ch)}{M b:Ch->Prop}{H a:Hp}{n:Nat}(h:FeedC K F M H n)(p:Pres M H b a)(e:∀f o,F=some f->H f.1=some o->a f.1=some o):FeedC K F b a n:=λf c=>(h f c).pres p λo q=>e f o c q
theorem FeedC.grow{K:Frag}{F:Option (Ch×Ch)}{M:Ch->Prop}{H a:Hp}{n:Nat}(h:FeedC K F M H n)(g:Grow H a):FeedC K F M a n:=h.pres g.pres λf o _ e=>g.all _ o e
theorem FeedC.more{K:Frag}{F:Option (Ch×Ch)}{M:Ch->Prop}{H:Hp}{n:Nat}(h:FeedC K F M H n)(a:Ch)(e:∀f,F=some f->f.2≠a):FeedC K F (λb=>M b\/b=a) H n:=λf c=>by
 obtain⟨x,r,g,i,j,d,k⟩:=h f c;exact⟨x,r,g,i,j,⟨λz=>z.elim d.1 (e f c),d.2⟩,k⟩
def AtX(K:Frag)(M:Ch->Prop)(H:Hp)(a:Ch)(g:Str)(b:List Str)(f:List D):Prop:=∃C U c u e,XC K g C U/\(¬M a/\H a=some u)/\XT C c a u/\(c=none/\b=[]/\e=[]\/∃d,c=some d/\¬M d/\H d=some (.ext (XF d (b.zip e))))/\b.length=f.length/\Ats K M H f e
theorem AtX.pres{K:Frag}{M b:Ch->Prop}{H e:Hp}{a:Ch}{f:Str}{g:List Str}{i:List D}(h:AtX K M H a f g i)(p:Pres M H b e):AtX K b e a f g i:=by
 obtain⟨C,U,j,u,k,c,⟨n,l⟩,x,m,o,q⟩:=h;refine⟨C,U,j,u,k,c,p.nd n l,x,?_,o,q.pres p⟩
 rcases m with z | ⟨d,r,s,t⟩
 ·exact .inl z
 ·exact .inr ⟨d,r,p.nd s t⟩
inductive Slot where
 | no | sh (d:D) | br (d:D) | fd | ow (d:D) | lt (a:Ch) (d:D) | ex (a:Ch) (nm:Str) (ks:List Str) (ds:List D)
def Slot.owns:Slot->Bool
 | .ow _=>true
 | .lt _ _=>true
 | _=>false
def SlotOk(K:Frag)(F:Option (Ch×Ch))(U:Ch->Prop)(M:Ch->Prop)(H:Hp):Slot->Option V->Prop
 | .no,_=>True
 | .sh d,o=>∃v,o=some v/\At K M H d v
 | .br d,o=>∃v,o=some v/\AtT K U M H d v
 | .fd,o=>∃f,o=some (.ref f.1)/\F=some f
 | .ow d,o=>∃a,o=some (.ref a)/\M a/\¬U a/\Tops K M H a d
 | .lt a d,o=>o=some (.ref a)/\M a/\¬U a/\Tops K M H a d
 | .ex a b c e,o=>o=some (.ref a)/\AtX K M H a b c e
structure Fm where
 M0:Ch->Prop
 F:Option (Ch×Ch)
 U:Ch->Prop
 V:Ch->Prop
 H0:Hp
 zG:List ((Ch->Prop)×Hp)
 kp:List (Ch×HO)
def Apart(b:List Slot)(c:L2.St):Prop:=∀(i j:Nat) (s t:Slot) (a:Ch),b[i]?=some s->s.owns=true->b[j]?=some t->t.owns=true->(c[i]?).getD none=some (.ref a)->(c[j]?).getD none=some (.ref a)->i=j
structure Rel (K:Frag) (C:Fm) (M:Ch->Prop) (H:Hp) (n:Nat) (ρ:List Slot) (σ:L2.St):Prop where
 len:ρ.length=σ.length
 sub:∀a,C.M0 a->M a
 dom:∀a,M a->∃o,H a=some o
 ext:Ext C.U C.H0 H
 fU:∀f,C.F=some f->C.U f.1
 uV:∀a,C.U a->C.V a
 vM:∀a,C.V a->M a
 feed:FeedC K C.F M H n
 sl:∀(i:Nat) (s:Slot),ρ[i]?=some s->SlotOk K C.F C.V M H s ((σ[i]?).getD none)
 pin:∀p∈C.zG,Pres p.1 p.2 M H
 br0:∀(i:Nat) (d:D) (a:Ch),ρ[i]?=some (.br d)->(σ[i]?).getD none=some (.ref a)->∃o,C.H0 a=some o
 new:∀(i:Nat) (s:Slot) (a:Ch),ρ[i]?=some s->s.owns=true->(σ[i]?).getD none=some (.ref a)->¬C.M0 a/\C.H0 a=none
 two:Apart ρ σ
 kept:∀p∈C.kp,H p.1=some p.2/\M p.1/\¬C.V p.1/\∀(i:Nat) (d:D),ρ[i]?=some (.ow d)->(σ[i]?).getD none≠some (.ref p.1)
section
variable {K:Frag}{C:Fm}{M:Addr->Prop}{H H':Hp}{n n':Nat}{ρ:List Slot}{σ:L2.St}{d:D}{v:V}{κ:Kd}
theorem Rel.pres(R:Rel K C M H n ρ σ)(e:Ext C.U H H'):Pres M H M H':=⟨λb o q a=>e.keep q λz=>a (R.vM b (R.uV b z)),λ_ z=>.inl z,λb c q=>e.tup q⟩
theorem AtT.pres{U q:Ch->Prop}{s:Ch->Prop}(h:AtT K q M H d v)(p:Pres M H s H')(e:Ext U H H')(l:∀a,U a->q a):AtT K q s H' d v:=by
 cases d with
 | lst m =>
  obtain⟨a,g,j,c,f,k⟩:=h;refine⟨a,g,j,c,?_,k.pres p⟩
  rcases f with f | ⟨o,f⟩
  ·exact .inl (e.keep f λz=>c (l a z))
  ·exact .inr ⟨o,e.keep f λz=>c (l a z)⟩
 | dic t m =>
  obtain⟨a,g,j,c,f,r,k⟩:=h;exact⟨a,g,j,c,e.keep f λz=>c (l a z),r,k.pres p⟩
 | dit t m =>
  obtain⟨a,g,j,c,f,r,k⟩:=h;exact⟨a,g,j,c,e.keep f λz=>c (l a z),r,k.pres p⟩
 | non=>assumption
 | bl b=>assumption
 | int i=>assumption
 | str x=>assumption
 | tup m=>exact At.pres p h
 | fdi t m=>exact At.pres p h
theorem AtT.same{U r:Ch->Prop}{s:Ch->Prop}(h:AtT K U M H d v)(p:Pres M H s H')(e:∀a o,v=.ref a->H a=some o->H' a=some o)(m:∀a,v=.ref a->¬U a->¬r a):AtT K r s H' d v:=by
 cases d with
 | lst l =>
  obtain⟨a,g,c,j,f,k⟩:=h;refine⟨a,g,c,m a c j,?_,k.pres p⟩
  rcases f with f | ⟨o,f⟩
  ·exact .inl (e a _ c f)
  ·exact .inr ⟨o,e a _ c f⟩
 | dic t l =>
  obtain⟨a,g,c,j,f,q,k⟩:=h;exact⟨a,g,c,m a c j,e a _ c f,q,k.pres p⟩
 | dit t l =>
  obtain⟨a,g,c,j,f,q,k⟩:=h;exact⟨a,g,c,m a c j,e a _ c f,q,k.pres p⟩
 | non=>assumption
 | bl b=>assumption
 | int i=>assumption
 | str x=>assumption
 | tup l=>exact At.pres p h
 | fdi t l=>exact At.pres p h
theorem AtT.lies{U:Ch->Prop}{a:Ch}(h:AtT K U M H d (.ref a)):∃o,H a=some o:=by
 cases d with
 | lst f =>
  obtain⟨b,g,e,_,c,_⟩:=h;cases e
  rcases c with c | ⟨o,c⟩
  ·exact⟨_,c⟩
  grind
 | dic j f =>
  obtain⟨b,g,e,_,c,_⟩:=h
  grind
 | dit j f =>
  obtain⟨b,g,e,_,c,_⟩:=h
  grind
 | non=>cases (h)
 | bl b=>cases (h)
 | int i=>cases (h)
 | str x=>cases (h).1
 | tup f =>
  obtain⟨b,g,e,c,_⟩:=h;cases e;exact⟨_,c⟩
 | fdi j f =>
  obtain⟨b,g,e,⟨o,_,c⟩,_⟩:=h
  simp_all
theorem SlotOk.pres{F:Option (Ch×Ch)}{U g i:Ch->Prop}{s:Slot}{o:Option V}(h:SlotOk K F g M H s o)(p:Pres M H i H')(m:∀a,M a->i a)(e:Ext U H H')(j:∀a,U a->g a):SlotOk K F g i H' s o:=by
 cases s with
 | no=>trivial
 | sh d=>obtain⟨v,b,c⟩:=h; exact⟨v,b,c.pres p⟩
 | ex a l r t=>obtain⟨b,c⟩:=h; exact⟨b,c.pres p⟩
 | br d=>obtain⟨v,b,c⟩:=h; exact⟨v,b,c.pres p e j⟩
 | fd=>exact h
 | ow d=>obtain⟨a,b,c,f,k⟩:=h; exact⟨a,b,m a c,f,k.pres p λo q=>e.keep q λz=>f (j a z)⟩
 | lt a d=>obtain⟨b,c,f,k⟩:=h; exact⟨b,m a c,f,k.pres p λo q=>e.keep q λz=>f (j a z)⟩
theorem Rel.step(R:Rel K C M H n ρ σ)(e:Ext C.U H H')(f:FeedC K C.F M H' n'):Rel K C M H' n' ρ σ:=by
 have p:=R.pres e;refine⟨R.len,R.sub,λa z=>?_,R.ext.trans e,R.fU,R.uV,R.vM,f,λi s q=>(R.sl i s q).pres p (λ_ z=>z) e R.uV,λq b=>(R.pin q b).trans p,R.br0,R.new,R.two,λq b=>?_⟩
 ·obtain⟨o,c⟩:=R.dom a z
  obtain⟨k,g,_⟩:=e a o c
  grind
 ·obtain⟨c,g,h,j⟩:=R.kept q b
  exact⟨e.keep c λz=>h (R.uV _ z),g,h,j⟩
theorem Rel.udom(R:Rel K C M H n ρ σ):∀a,C.U a->∃o,H a=some o:=λa z=>R.dom a (R.vM a (R.uV a z))
theorem At.tp{U:Ch->Prop}(k:∀a,U a->M a)(h:At K M H d v):AtT K U M H d v:=by
 cases d with
 | lst j =>
  obtain⟨a,f,e,c,g⟩:=h;exact⟨a,f,e,λz=>c.1 (k a z),.inl c.2,g⟩
 | dic m j =>
  obtain⟨a,f,e,c,l,g⟩:=h;exact⟨a,f,e,λz=>c.1 (k a z),c.2,l,g⟩
 | dit m j =>
  obtain⟨a,f,e,c,l,g⟩:=h;exact⟨a,f,e,λz=>c.1 (k a z),c.2,l,g⟩
 | non=>exact h
 | bl b=>exact h
 | int i=>exact h
 | str x=>exact h
 | tup j=>exact h
 | fdi m j=>exact h
theorem VR.back{U b:Ch->Prop}{c:Hp}(e:Ext U H c)(h:VR K b M c H' κ v d):VR K b M H H' κ v d:=by
 cases κ with
 | sh=>exact h
 | tp=>exact h
 | fr =>
  obtain⟨a,f,g,i⟩:=h;exact⟨a,f,e.free g,i⟩
theorem VR.shOf{U:Ch->Prop}(b:∀a,M a->∃o,H a=some o)(h:VR K U M H H' κ v d)(e:κ≠.tp):At K M H' d v:=by
 cases κ with
 | sh=>exact h
 | tp=>grind
 | fr =>
  obtain⟨a,rfl,f,c⟩:=h;refine(c.pres (Pres.less λ_ z=>.inl z) λ_ z=>z).at λz=>?_
  grind
theorem VR.tpOf{U:Ch->Prop}(b:∀a,M a->∃o,H a=some o)(c:∀a,U a->M a)(h:VR K U M H H' κ v d):AtT K U M H' d v:=by
 cases κ with
 | sh=>exact At.tp c h
 | tp=>exact h
 | fr=>exact At.tp c (VR.shOf b h (by grind))
theorem FD{a:Type}{l:List a}{i j:Nat}{x y:a}(h:(l.set i x)[j]?=some y):(j=i/\i<l.length/\y=x)\/(j≠i/\l[j]?=some y):=by
 rw [i9] at h
 by_cases e:i=j
 ·simp_all
 ·rw [if_neg e] at h
  exact .inr ⟨λz=>e z.symm,h⟩
theorem GL{l:L2.St}{i j:Nat}{x:Option V}(h:j≠i):((l.set i x)[j]?).getD none=(l[j]?).getD none:=by
 rw [i9,if_neg (λz=>h z.symm)]
theorem PZ{l:L2.St}{i:Nat}{x:Option V}(h:i<l.length):((l.set i x)[i]?).getD none=x:=by
 simp_all
theorem Rel.set(R:Rel K C M H n ρ σ){i:Nat}(h:At K M H d v):Rel K C M H n (ρ.set i (.sh d)) (σ.set i (some v)):=by
 have b:∀(j:Nat) (s:Slot),(ρ.set i (.sh d))[j]?=some s->s.owns=true->ρ[j]?=some s/\((σ.set i (some v))[j]?).getD none=(σ[j]?).getD none:=λj s q o=>by
  rcases FD q with ⟨_,_,rfl⟩ | ⟨f,q⟩
  ·cases o
  ·exact⟨q,GL f⟩
 refine⟨by rw [fb,fb]; exact R.len,R.sub,R.dom,R.ext,R.fU,R.uV,R.vM,R.feed,λj s q=>?_,R.pin,λj e a q c=>?_,λj s a q o c=>?_,λj k s t a g m c r u w=>?_,λp x=>?_⟩
 ·rcases FD q with ⟨rfl,y,rfl⟩ | ⟨f,q⟩
  ·rw [PZ (by rw [← R.len]; exact y)]
   exact⟨v,rfl,h⟩
  ·rw [GL f]
   exact R.sl j s q
 ·rcases FD q with ⟨_,_,e⟩ | ⟨f,q⟩
  ·cases e
  ·rw [GL f] at c
   exact R.br0 j e a q c
 ·obtain⟨g,e⟩:=b j s q o
  rw [e] at c;exact R.new j s a g o c
 ·obtain⟨z,A⟩:=b j s g m
  obtain⟨B,l⟩:=b k t c r;rw [A] at u;rw [l] at w;exact R.two j k s t a z m B r u w
 ·obtain⟨D,E,F,G⟩:=R.kept p x
  refine⟨D,E,F,λj e q=>?_⟩;obtain⟨g,l⟩:=b j _ q rfl;rw [l];exact G j e g
theorem Rel.owner(R:Rel K C M H n ρ σ){i:Nat}{s:Slot}(h:ρ[i]?=some s)(o:s.owns=true):∃a e,(σ[i]?).getD none=some (.ref a)/\M a/\¬C.V a/\Tops K M H a e/\¬C.M0 a/\C.H0 a=none:=by
 have q:=R.sl i s h;cases s with
 | ow d=>obtain⟨a,b,c,f,g⟩:=q; exact⟨a,d,b,c,f,g,R.new i _ a h o b⟩
 | lt a d=>obtain⟨b,c,f,g⟩:=q; exact⟨a,d,b,c,f,g,R.new i _ a h o b⟩
 | _=>cases o
theorem Rel.setOw(R:Rel K C M H n ρ σ){i:Nat}{a:Ch}(e:Ext C.U H H')(f:FeedC K C.F M H' n')(G:H a=none)(h:Tops K (λb=>M b\/b=a) H' a d) :
  Rel K C (λb=>M b\/b=a) H' n' (ρ.set i (.ow d)) (σ.set i (some (.ref a))):=by
 have J:=R.step e f
 have I:∀b,M b->b≠a:=λb z q=>by
  obtain⟨o,w⟩:=R.dom b z;rw [q,G] at w; cases w
 have X:¬C.M0 a/\C.H0 a=none:=⟨λz=>I a (R.sub a z) rfl,R.ext.free G⟩;have P:Pres M H (λb=>M b\/b=a) H':=⟨λb o q Y=>e.keep q λz=>Y (R.vM b (R.uV b z)),λb z=>z.elim .inl λz=>.inr (by rw [z]; exact G),λb L q=>e.tup q⟩
 have r:∀(j:Nat) (s:Slot),(ρ.set i (.ow d))[j]?=some s->(j=i/\s=.ow d/\((σ.set i (some (.ref a)))[j]?).getD none=some (.ref a))\/(j≠i/\ρ[j]?=some s/\((σ.set i (some (.ref a)))[j]?).getD none=(σ[j]?).getD none):=λj s q=>by
  rcases FD q with ⟨rfl,Z,rfl⟩ | ⟨A,q⟩
  ·exact .inl ⟨rfl,rfl,PZ (by rw [← R.len]; exact Z)⟩
  ·exact .inr ⟨A,q,GL A⟩
 have D:∀(j:Nat) (s:Slot) (b:Ch),ρ[j]?=some s->s.owns=true->(σ[j]?).getD none=some (.ref b)->b≠a:=λj s b q o z=>by
  obtain⟨c,_,l,m,_⟩:=R.owner q o;rw [l] at z;cases z;exact I _ m
 have hd:∃o,H' a=some o:=by
  cases d with
  | lst Q=>obtain⟨L,q,_⟩:=h; exact⟨_,q⟩
  | dic ks Q=>obtain⟨L,q,_⟩:=h; exact⟨_,q⟩
  | dit ks Q=>obtain⟨L,q,_⟩:=h; exact⟨_,q⟩
  | _=>exact(show False from h).elim
 refine⟨by rw [fb,fb]; exact R.len,λb z=>.inl (R.sub b z),λb z=>?_,J.ext,R.fU,R.uV,λb z=>.inl (R.vM b z),f.more a λg hg q=>?_,λj s q=>?_,λq hq=>(R.pin q hq).trans P,λj x b q u=>?_,λj s b q o u=>?_,λj k s t b y S u T E B=>?_,λp hp=>?_⟩
 ·rcases z with z | z
  ·exact J.dom b z
  ·rw [z]; exact hd
 ·obtain⟨_,_,_,_,_,N,_⟩:=R.feed g hg
  have:=N.2
  rw [q,G] at this; cases this
 ·rcases r j s q with ⟨rfl,rfl,l⟩ | ⟨A,y,l⟩
  ·rw [l]
   exact⟨a,rfl,.inr rfl,λz=>I a (R.vM a z) rfl,h⟩
  ·rw [l]
   exact(R.sl j s y).pres P (λ_ z=>.inl z) e R.uV
 ·rcases r j _ q with ⟨_,l,_⟩ | ⟨A,y,l⟩
  ·cases l
  ·rw [l] at u
   exact R.br0 j x b y u
 ·rcases r j s q with ⟨_,_,l⟩ | ⟨A,y,l⟩
  ·rw [l] at u
   cases u;exact X
  ·rw [l] at u
   exact R.new j s b y o u
 ·rcases r j s y with ⟨rfl,_,l⟩ | ⟨A,V,l⟩
  ·rw [l] at E
   cases E
   rcases r k t u with ⟨rfl,_,_⟩ | ⟨hk,O,x⟩
   ·rfl
   ·rw [x] at B
    exact absurd rfl (D k t a O T B)
  ·rw [l] at E
   rcases r k t u with ⟨rfl,_,x⟩ | ⟨hk,O,x⟩
   ·rw [x] at B
    cases B;exact absurd rfl (D j s a V S E)
   ·rw [x] at B
    exact R.two j k s t b V S O T E B
 ·obtain⟨h1,W,N,h4⟩:=J.kept p hp
  refine⟨h1,.inl W,N,λj x q=>?_⟩
  rcases r j _ q with ⟨_,_,l⟩ | ⟨A,y,l⟩
  ·rw [l]
   intro z;cases z;exact I _ W rfl
  ·rw [l]
   exact h4 j x y
theorem Rel.mut(R:Rel K C M H n ρ σ){i:Nat}{a:Ch}{e:D}{o:HO}(E:ρ[i]?=some (.ow d))(N:(σ[i]?).getD none=some (.ref a))(h:Tops K M (A4 H a o) a e) :
  Rel K C M (A4 H a o) n (ρ.set i (.ow e)) σ:=by
 obtain⟨b,_,c,m,U,t,n0,V⟩:=R.owner E rfl;rw [N] at c;cases c;have F:Pres M H M (A4 H a o):=⟨λb A q Y=>by rw [AQ (λz=>Y (by rw [z]; exact m))]; exact q,λ_ z=>.inl z,λb vs q=>by rw [AQ (λz=>t.notT (by rw [← z]; exact q))]; exact q⟩
 have l:∀(j:Nat) (s:Slot),(ρ.set i (.ow e))[j]?=some s->(j=i/\s=.ow e)\/(j≠i/\ρ[j]?=some s):=λj s q=>by
  rcases FD q with ⟨rfl,hl,rfl⟩ | ⟨y,q⟩
  ·exact .inl ⟨rfl,rfl⟩
  ·exact .inr ⟨y,q⟩
 have I:∀(j:Nat) (s:Slot) (b:Ch),j≠i->ρ[j]?=some s->s.owns=true->(σ[j]?).getD none=some (.ref b)->b≠a:=λj s b y q o z w=>by
  subst w;exact y (R.two j i s _ b q o E rfl z N)
 refine⟨by rw [fb]; exact R.len,R.sub,λb z=>?_,λb A q=>?_,R.fU,R.uV,R.vM,R.feed.pres F λf A Z q=>?_,λj s q=>?_,λq hq=>(R.pin q hq).trans F,λj O b q g=>?_,λj s b q G g=>?_,λj k s t b u W g G P Q=>?_,λp hp=>?_⟩
 ·by_cases B:b=a
  ·exact⟨o,by rw [B,AX]⟩
  ·obtain⟨A,q⟩:=R.dom b z
   exact⟨A,by rw [AQ B]; exact q⟩
 ·obtain⟨G,g,r⟩:=R.ext b A q
  have B:b≠a:=λz=>by rw [z,V] at q; cases q
  exact⟨G,by rw [AQ B]; exact g,r⟩
 ·have B:f.1≠a:=λz=>U (by rw [← z]; exact R.uV _ (R.fU f Z))
  rw [AQ B]; exact q
 ·rcases l j s q with ⟨rfl,rfl⟩ | ⟨y,u⟩
  ·rw [N]
   exact⟨a,rfl,m,U,h⟩
  ·have g:=R.sl j s u
   cases s with
   | no=>trivial
   | sh d=>obtain⟨v,c,x⟩:=g; exact⟨v,c,x.pres F⟩
   | ex a nm ks ds=>obtain⟨c,x⟩:=g; exact⟨c,x.pres F⟩
   | br d =>
    obtain⟨v,c,x⟩:=g;refine⟨v,c,x.same F (λb A z q=>?_) λ_ _ z=>z⟩;subst z;obtain⟨o3,w⟩:=R.br0 j d b u c;rw [AQ (λz=>by rw [z,V] at w; cases w)];exact q
   | fd=>exact g
   | ow d =>
    obtain⟨b,c,x,J,L⟩:=g;exact⟨b,c,x,J,L.pres F λA w=>by rw [AQ (I j _ b y u rfl c)]; exact w⟩
   | lt b d =>
    obtain⟨c,x,J,L⟩:=g;exact⟨c,x,J,L.pres F λA w=>by rw [AQ (I j _ b y u rfl c)]; exact w⟩
 ·rcases l j _ q with ⟨_,c⟩ | ⟨y,u⟩
  ·cases c
  ·exact R.br0 j O b u g
 ·rcases l j s q with ⟨rfl,_⟩ | ⟨y,u⟩
  ·exact R.new j _ b E rfl g
  ·exact R.new j s b u G g
 ·rcases l j s u with ⟨rfl,rfl⟩ | ⟨y,X⟩
  ·rcases l k t g with ⟨rfl,_⟩ | ⟨hk,S⟩
   ·rfl
   ·exact R.two j k _ t b E rfl S G P Q
  ·rcases l k t g with ⟨rfl,rfl⟩ | ⟨hk,S⟩
   ·exact R.two j k s _ b X W E rfl P Q
   ·exact R.two j k s t b X W S G P Q
 ·obtain⟨x,J,L,T⟩:=R.kept p hp
  have B:p.1≠a:=λz=>T i d E (by rw [N,z]);refine⟨by rw [AQ B]; exact x,J,L,λj O q=>?_⟩
  rcases l j _ q with ⟨rfl,_⟩ | ⟨y,u⟩
  ·exact T j d E
  ·exact T j O u
end
abbrev DW:=Nat->List Slot->(D->Nat->Prop)->Prop
abbrev HI:=Nat->List Slot->(Bool->Nat->Prop)->Prop
abbrev Ef:=Nat->List Slot->(List D->Nat->Prop)->Prop
abbrev S1:=Nat->List Slot->(List Slot->Nat->Prop)->Prop
section
variable (X:Cx)
def DE(e:c_)(g:Kd)(w:DW):Prop:=∃t,PE X e t/\∀(C:Fm) (M:Ch->Prop) (H:Hp) (n:Nat) (b:List Slot) (c:L2.St) (P:D->Nat->Prop) (Q:VK),Rel X.K C M H n b c->w n b P ->
 (∀v a d f,Ext C.U H a->FeedC X.K C.F M a f->VR X.K C.V M H a g v d->P d f->Q v a)->t c H Q
def DT(e:c_)(w:HI):Prop:=∃t,PT X e t/\∀(C:Fm) (M:Ch->Prop) (H:Hp) (n:Nat) (c:List Slot) (d:L2.St) (P:Bool->Nat->Prop) (Q:Bool->Hp->Prop),Rel X.K C M H n c d->w n c P ->
 (∀b a f,Ext C.U H a->FeedC X.K C.F M a f->P b f->Q b a)->t d H Q
def DTW(e:c_)(w:HI):Prop:=∃t,PW X e t/\∀(C:Fm) (M:Ch->Prop) (H:Hp) (n:Nat) (c:List Slot) (d:L2.St) (P:Bool->Nat->Prop) (Q:Bool->Hp->Prop),Rel X.K C M H n c d->w n c P ->
 (∀b a f,Ext C.U H a->FeedC X.K C.F M a f->P b f->Q b a)->t d H Q
def Wm(h:List c_)(w:Ef):Prop:=∃t,PA X h t/\∀(C:Fm) (M:Ch->Prop) (H:Hp) (n:Nat) (b:List Slot) (c:L2.St) (P:List D->Nat->Prop) (Q:List V->Hp->Prop),Rel X.K C M H n b c->w n b P ->
 (∀e a f g,Ext C.U H a->FeedC X.K C.F M a g->Paired (λv d=>AtT X.K C.V M a d v) e f->P f g->Q e a)->t c H Q
def Xf(g:List c_)(w:Ef):Prop:=∃t,PA X g t/\∀(C:Fm) (M:Ch->Prop) (H:Hp) (n:Nat) (b:List Slot) (c:L2.St) (P:List D->Nat->Prop) (Q:List V->Hp->Prop),Rel X.K C M H n b c->w n b P ->
 (∀d a e f,Ext C.U H a->FeedC X.K C.F M a f->Ats X.K M a e d->P e f->Q d a)->t c H Q
def L8(K:Frag)(F:Option (Ch×Ch))(a M:Ch->Prop)(H:Hp)(v:V)(s:Slot):Prop:=SlotOk K F a M H s (some v)/\s.owns=false
def ah(e:c_)(w:Nat->List Slot->(Slot->Nat->Prop)->Prop):Prop:=∃t,PE X e t/\∀(C:Fm) (M:Ch->Prop) (H:Hp) (n:Nat) (b:List Slot) (c:L2.St) (P:Slot->Nat->Prop) (Q:VK),Rel X.K C M H n b c->w n b P ->
 (∀v a s d,Ext C.U H a->FeedC X.K C.F M a d->L8 X.K C.F C.V M a v s->P s d->Q v a)->t c H Q
def Xe(g:List c_)(w:S1):Prop:=∃t,PA X g t/\∀(C:Fm) (M:Ch->Prop) (H:Hp) (n:Nat) (b:List Slot) (c:L2.St) (P:List Slot->Nat->Prop) (Q:List V->Hp->Prop),Rel X.K C M H n b c->w n b P ->
 (∀d a e f,Ext C.U H a->FeedC X.K C.F M a f->Paired (L8 X.K C.F C.V M a) d e->P e f->Q d a)->t c H Q
end
def AB(i:Nat):DW:=λn a P=>match a[i]? with
 | some (.sh d)=>P d n
 | _=>False
def BE(i:Nat):DW:=λn a P=>match a[i]? with
 | some (.sh d)=>P d n
 | some (.br d)=>P d n
 | some (.ow d)=>P d n
 | some (.lt _ d)=>P d n
 | _=>False
def wC(d:D):DW:=λn _ P=>P d n
section
variable {X:Cx}{a b c e:Expr}{κ zR zM:Kd}{wa wb wc:DW}{pos:Pos}
theorem getD_some{c:L2.St}{i:Nat}{v:V}(h:(c[i]?).getD none=some v):c[i]?=some (some v):=by
 cases q:c[i]? with
 | none=>simp_all
 | some o=>simp_all
theorem WV{i:Nat}(h:PE X e (CH i)):DE X e .sh (AB i):=by
 refine⟨_,h,λC M H n j k P Q R w q=>?_⟩;unfold AB at w
 split at w
 ·rename_i d c
  obtain⟨v,f,g⟩:=R.sl i _ c;exact⟨v,getD_some f,q v H d n (Ext.refl _ _) R.feed g w⟩
 grind
theorem VB{i:Nat}(h:PE X e (CH i)):DE X e .tp (BE i):=by
 refine⟨_,h,λC M H n l m P Q R w q=>?_⟩;unfold BE at w
 split at w
 ·rename_i d c
  obtain⟨v,f,g⟩:=R.sl i _ c;exact⟨v,getD_some f,q v H d n (Ext.refl _ _) R.feed (At.tp R.vM g) w⟩
 ·rename_i d c
  obtain⟨v,f,g⟩:=R.sl i _ c;exact⟨v,getD_some f,q v H d n (Ext.refl _ _) R.feed g w⟩
 ·rename_i d c
  obtain⟨a,f,_,j,k⟩:=R.sl i _ c;exact⟨.ref a,getD_some f,q _ H d n (Ext.refl _ _) R.feed (k.att j) w⟩
 ·rename_i a d c
  obtain⟨f,_,j,k⟩:=R.sl i _ c;exact⟨.ref a,getD_some f,q _ H d n (Ext.refl _ _) R.feed (k.att j) w⟩
 ·exact w.elim
theorem dv(i:Nat){x:Str}{pos:Pos}(d:X.N[i]?=some x:=by rfl)(e:Sw X.env.scope x:=by first | exact TW rfl | exact da (TW rfl) | exact da (da rfl))(hd:(x==("__debug__":Str))=false:=by decide)
  (c:(x==("__classdict__":Str))=false:=by decide):DE X (.Name x pos) .sh (AB i):=WV (Em d e hd c)
theorem Kr(i:Nat){x:Str}{pos:Pos}(d:X.N[i]?=some x:=by rfl)(e:Sw X.env.scope x:=by first | exact TW rfl | exact da (TW rfl) | exact da (da rfl))(hd:(x==("__debug__":Str))=false:=by decide)
  (c:(x==("__classdict__":Str))=false:=by decide):DE X (.Name x pos) .tp (BE i):=VB (Em d e hd c)
theorem G8{d:D}{v:V}(h:PE X e (tC v))(hd:∀M H,At X.K M H d v):DE X e .sh (wC d) :=
 ⟨_,h,λC M H n c f P Q R w q=>q v H d n (Ext.refl _ _) R.feed (hd M H) w⟩
theorem AD{i:Int}{j pos}:DE X (.Constant (.int i) j pos) .sh (wC (.int i)):=G8 A_ λ_ _=>rfl
theorem Bt{b:Bool}{j pos}:DE X (.Constant (.bool b) j pos) .sh (wC (.bl b)):=G8 Z1 λ_ _=>rfl
theorem Bj{j pos}:DE X (.Constant .none j pos) .sh (wC .non):=G8 YK λ_ _=>rfl
theorem BJ{x:Str}{j pos}(c:decide (x.length<=1000)=true:=by rfl):DE X (.Constant (.str x) j pos) .sh (wC (.str x)) :=
 G8 YH λ_ _=>⟨rfl,cx (of_decide_eq_true c) (by decide)⟩
theorem DE.sh(h:DE X e κ wa)(c:κ≠.tp:=by intro z; cases z):DE X e .sh wa:=by
 obtain⟨t,g,i⟩:=h;exact⟨t,g,λC M H n j k P Q R w q=>i C M H n j k P Q R w λv l d m e f r p=>q v l d m e f (r.shOf R.dom c) p⟩
def E5(K:Frag)(κ:Kd)(r:R2)(f:D->D->(D->Prop)->Prop):Prop:=∀(U:Ch->Prop) (M:Ch->Prop) (H:Hp) (d e:D) (x y:V) (P:D->Prop) (Q:VK),(∀a,M a->∃o,H a=some o)->(∀a,U a->M a) ->
 AtT K U M H d x->AtT K U M H e y->f d e P->(∀v c z,Grow H c->VR K U M H c κ v z->P z->Q v c)->r x y H Q
def AU(f:D->D->(D->Prop)->Prop)(wa wb:DW):DW:=λn c P=>wa n c λx d=>wb d c λy e=>f x y λz=>P z e
theorem Fd{r:R2}{f:D->D->(D->Prop)->Prop}(A:E5 X.K κ r f){s t:TE}(B:∀(C:Fm) (M:Ch->Prop) (H:Hp) (n:Nat) (h:List Slot) (i:L2.St) (P:D->Nat->Prop) (Q:VK),Rel X.K C M H n h i->wa n h P ->
   (∀v c d j,Ext C.U H c->FeedC X.K C.F M c j->VR X.K C.V M H c zR v d->P d j->Q v c)->s i H Q)
  (E:∀(C:Fm) (M:Ch->Prop) (H:Hp) (n:Nat) (h:List Slot) (i:L2.St) (P:D->Nat->Prop) (Q:VK),Rel X.K C M H n h i->wb n h P ->
   (∀v c d j,Ext C.U H c->FeedC X.K C.F M c j->VR X.K C.V M H c zM v d->P d j->Q v c)->t i H Q)
  (C:Fm) (M:Ch->Prop) (H:Hp) (n:Nat) (h:List Slot) (i:L2.St) (P:D->Nat->Prop) (Q:VK) (R:Rel X.K C M H n h i) (w:AU f wa wb n h P)
  (q:∀v c d j,Ext C.U H c->FeedC X.K C.F M c j->VR X.K C.V M H c κ v d->P d j->Q v c):EK r s t i H Q:=by
 refine B C M H n h i _ _ R w λx G d I o J L N=>?_;have k:=R.step o J;refine E C M G I h i _ _ k N λy H2 e O l u S T=>?_;have m:=k.step l u;exact A _ M H2 d e x y _ _ m.dom m.vM ((L.tpOf R.dom R.vM).pres (k.pres l) l R.uV) (S.tpOf k.dom k.vM) T λv W z g Y p=>q v W z O ((o.trans l).trans g.ext) (u.grow g) (VR.back (o.trans l) Y) p
theorem Am{h:Operator}{r:R2}{f:D->D->(D->Prop)->Prop}(i:OpR X (binaryOp h) r)(j:E5 X.K κ r f)(k:DE X a zR wa)(l:DE X b zM wb):DE X (.BinOp a h b pos) κ (AU f wa wb):=by
 obtain⟨p,c,d⟩:=k;obtain⟨s,e,g⟩:=l;exact⟨_,CA i c e,λC M H n m o P Q R w q=>Fd j d g C M H n m o P Q R w q⟩
theorem AW{r:R2}{f:D->D->(D->Prop)->Prop}(h:IxR X r)(i:E5 X.K κ r f)(j:DE X a zR wa)(k:DE X b zM wb)(l:RW b:=by intro _ _; rfl):DE X (.Subscript a b pos) κ (AU f wa wb):=by
 obtain⟨p,c,d⟩:=j;obtain⟨s,e,g⟩:=k;exact⟨_,Eu h c e l,λC M H n m o P Q R w q=>Fd i d g C M H n m o P Q R w q⟩
theorem CF{c:CmpOp}{r:R2}{f:D->D->(D->Prop)->Prop}(i:OpR X (compareOp c) r)(j:E5 X.K .sh r f)(k:DE X a zR wa)(l:DE X b zM wb)(m:behindInMarks c b=false):DE X (.Compare a [c] [b] pos) .sh (AU f wa wb):=by
 obtain⟨s,d,e⟩:=k;obtain⟨t,g,h⟩:=l;exact⟨_,Vu i d g m,λC M H n o p P Q R w q=>Fd j e h C M H n o p P Q R w q⟩
def AR(w:DW):HI:=λn c P=>w n c λd e=>match d with
 | .bl b=>P b e
 | _=>False
theorem Im{U:Ch->Prop}{K:Frag}{M:Ch->Prop}{H c:Hp}{v:V}{b:Bool}(h:VR K U M H c κ v (.bl b)):v=.bl b:=by
 cases κ with
 | sh=>exact h
 | tp=>exact h
 | fr=>obtain⟨a,_,_,t⟩:=h; exact(t).elim
theorem Ad{c:CmpOp}{r:R2}{f:D->D->(D->Prop)->Prop}(k:OpR X (compareOp c) r)(l:E5 X.K .sh r f)(m:DE X a zR wa)(o:DE X b zM wb)(s:behindInMarks c b=false):DT X (.Compare a [c] [b] pos) (AR (AU f wa wb)):=by
 obtain⟨z,g,h⟩:=m;obtain⟨A,i,j⟩:=o;refine⟨_,Gv k g i s,λC M H n t u P Q R w q=>?_⟩;refine Fd l h j C M H n t u _ _ R w λv x d y e f r p=>?_;cases d with
 | bl b=>exact⟨b,Im r,q b x y e f p⟩
 | _=>exact p.elim
theorem A2(h:DE X e κ wa)(g:∀c,isTrue e X.env c=(do let v ← c; standAt e.pos; holding [v] (truthy v)):=by intro _; rfl):DT X e (AR wa):=by
 obtain⟨t,i,j⟩:=h;refine⟨_,YB i g,λC M H n k l P Q R w q=>?_⟩;refine j C M H n k l _ _ R w λv m d o e f r p=>?_;cases d with
 | bl b=>exact⟨b,Im r,q b m o e f p⟩
 | _=>exact p.elim
def JN(f g:D->D->(D->Prop)->Prop)(wa wb wc:DW):DW:=λn c P=>wa n c λx e=>wb e c λy d=>f x y λz=>match z with
 | .bl true=>wc d c λu h=>g y u λr=>P r h
 | .bl false=>P (.bl false) d
 | _=>False
theorem Oy{r L:R2}{f g:D->D->(D->Prop)->Prop}(Z:E5 X.K .sh r f)(hB:E5 X.K .sh L g){N O E:TE}{zJ:Kd}(ha:∀(C:Fm) (M:Ch->Prop) (H:Hp) (n:Nat) (i:List Slot) (h:L2.St) (P:D->Nat->Prop) (Q:VK),Rel X.K C M H n i h->wa n i P ->
   (∀v c d j,Ext C.U H c->FeedC X.K C.F M c j->VR X.K C.V M H c zR v d->P d j->Q v c)->N h H Q)
  (hb:∀(C:Fm) (M:Ch->Prop) (H:Hp) (n:Nat) (i:List Slot) (h:L2.St) (P:D->Nat->Prop) (Q:VK),Rel X.K C M H n i h->wb n i P ->
   (∀v c d j,Ext C.U H c->FeedC X.K C.F M c j->VR X.K C.V M H c zM v d->P d j->Q v c)->O h H Q)
  (hc:∀(C:Fm) (M:Ch->Prop) (H:Hp) (n:Nat) (i:List Slot) (h:L2.St) (P:D->Nat->Prop) (Q:VK),Rel X.K C M H n i h->wc n i P ->
   (∀v c d j,Ext C.U H c->FeedC X.K C.F M c j->VR X.K C.V M H c zJ v d->P d j->Q v c)->E h H Q)
  (C:Fm) (M:Ch->Prop) (H:Hp) (n:Nat) (i:List Slot) (h:L2.St) (P:D->Nat->Prop) (Q:VK) (R:Rel X.K C M H n i h) (w:JN f g wa wb wc n i P)
  (q:∀v c d j,Ext C.U H c->FeedC X.K C.F M c j->VR X.K C.V M H c .sh v d->P d j->Q v c):PR r L N O E h H Q:=by
 refine ha C M H n i h _ _ R w λx H1 d n1 G f1 r1 w1=>?_;have o:=R.step G f1;refine hb C M H1 n1 i h _ _ o w1 λy H2 e S s I r2 w2=>?_;have l:=o.step s I;have ty:AtT X.K C.V M H2 e y:=r2.tpOf o.dom o.vM;refine Z C.V M H2 d e x y _ _ l.dom l.vM ((r1.tpOf R.dom R.vM).pres (o.pres s) s R.uV) ty w2 λv A z m vr p=>?_;have t:=l.step m.ext (I.grow m);cases z with
 | bl k =>
  refine⟨k,vr,?_⟩;cases k with
  | false=>exact q _ A (.bl false) S ((G.trans s).trans m.ext) (I.grow m) (show VR X.K C.V M H A .sh (.bl false) (.bl false) from rfl) p
  | true =>
   show E h A _;refine hc C M A S i h _ _ t p λu H4 d4 n4 B T r4 w4=>?_;have W:=t.step B T;refine hB C.V M H4 e d4 y u _ _ W.dom W.vM ((ty.pres m.pres (m.ext (U:=C.U)) R.uV).pres (t.pres B) B R.uV) (r4.tpOf t.dom t.vM) w4 λv5 H5 z5 Y J p5=>?_;exact q v5 H5 z5 n4 ((((G.trans s).trans m.ext).trans B).trans Y.ext) (T.grow Y) J p5
 | _=>exact p.elim
theorem VD{e d:CmpOp}{r p:R2}{f g:D->D->(D->Prop)->Prop}{s:Kd}(t:OpR X (compareOp e) r)(u:E5 X.K .sh r f)(h:OpR X (compareOp d) p)(v:E5 X.K .sh p g)(x:DE X a zR wa)(y:DE X b zM wb)(z:DE X c s wc)
  (A:lastMarks [e,d] [b,c]=false:=by with_unfolding_all rfl):DE X (.Compare a [e,d] [b,c] B) .sh (JN f g wa wb wc):=by
 obtain⟨G,i,j⟩:=x;obtain⟨I,k,l⟩:=y;obtain⟨J,m,o⟩:=z;exact⟨_,UR t h i k m A,λC M H n E F P Q R w q=>Oy u v j l o C M H n E F P Q R w q⟩
theorem U3{i h:CmpOp}{r u:R2}{f g:D->D->(D->Prop)->Prop}{x:Kd}(y:OpR X (compareOp i) r)(z:E5 X.K .sh r f)(j:OpR X (compareOp h) u)(A:E5 X.K .sh u g)(B:DE X a zR wa)(E:DE X b zM wb)(F:DE X c x wc)
  (G:lastMarks [i,h] [b,c]=false:=by with_unfolding_all rfl):DT X (.Compare a [i,h] [b,c] I) (AR (JN f g wa wb wc)):=by
 obtain⟨S,k,l⟩:=B;obtain⟨T,m,o⟩:=E;obtain⟨U,s,t⟩:=F;refine⟨_,UC y j k m s G,λC M H n J L P Q R w q=>?_⟩;refine Oy z A l o t C M H n J L _ _ R w λv N d O e f r p=>?_;cases d with
 | bl b=>exact⟨b,r,q b N O e f p⟩
 | _=>exact p.elim
def Gk(u v:HI):HI:=λn d P=>u n d λc e=>if c=true then v e d P else P false e
def CG(u v:HI):HI:=λn d P=>u n d λc e=>if c=true then P true e else v e d P
def Be(u:HI):HI:=λn d P=>u n d λc e=>P (!c) e
variable {wA wB:HI}{rest:List Expr}
theorem Fx(h:DT X a wA):DTW X (.BoolOp .And [a] pos) wA:=by
 obtain⟨t,c,d⟩:=h;exact⟨t,Qh c,d⟩
theorem Bo(h:DT X a wA):DTW X (.BoolOp .Or [a] pos) wA:=by
 obtain⟨t,c,d⟩:=h;exact⟨t,YA c,d⟩
theorem Gc(j:DT X a wA)(k:DTW X (.BoolOp .And (b::rest) pos) wB):DTW X (.BoolOp .And (a::b::rest) pos) (Gk wA wB):=by
 obtain⟨t,l,m⟩:=j;obtain⟨u,o,r⟩:=k;refine⟨_,T_ l o,λC M H n e f P Q R w q=>?_⟩;refine m C M H n e f _ _ R w λc g h d i p=>?_;cases c with
 | false=>exact q _ g h d i p
 | true=>exact r C M g h e f P Q (R.step d i) p λb H2 s v x y=>q b H2 s (d.trans v) x y
theorem Ba(j:DT X a wA)(k:DTW X (.BoolOp .Or (b::rest) pos) wB):DTW X (.BoolOp .Or (a::b::rest) pos) (CG wA wB):=by
 obtain⟨t,l,m⟩:=j;obtain⟨u,o,r⟩:=k;refine⟨_,Zy l o,λC M H n e f P Q R w q=>?_⟩;refine m C M H n e f _ _ R w λc g h d i p=>?_;cases c with
 | true=>exact q _ g h d i p
 | false=>exact r C M g h e f P Q (R.step d i) p λb H2 s v x y=>q b H2 s (d.trans v) x y
theorem DTW.dt(h:DTW X e wA):DT X e wA:=by
 obtain⟨t,c,d⟩:=h;exact⟨t,c.pt,d⟩
theorem BH(d:DT X a wA):DT X (.UnaryOp .Not a pos) (Be wA):=by
 obtain⟨t,e,f⟩:=d;exact⟨_,YC e,λC M H n g h P Q R w q=>f C M H n g h _ _ R w λc i j k l p=>q _ i j k l p⟩
def HJ(u v:DW):DW:=λn d P=>u n d λc e=>match c with
 | .bl true=>v e d P
 | .bl false=>P (.bl false) e
 | _=>False
def Xn(u:DW):DW:=λn d P=>u n d λc e=>match c with
 | .bl b=>P (.bl (!b)) e
 | _=>False
theorem Gd{op}(h:DE X a κ wa):DE X (.BoolOp op [a] pos) κ wa:=by
 assumption
theorem EB(l:DE X a zR wa)(m:DE X (.BoolOp .And (b::rest) pos) .sh wb):DE X (.BoolOp .And (a::b::rest) pos) .sh (HJ wa wb):=by
 obtain⟨t,o,r⟩:=l;obtain⟨u,s,x⟩:=m;refine⟨_,YL o s,λC M H n g h P Q R w q=>?_⟩;refine r C M H n g h _ _ R w λc e d i f j y p=>?_;cases d with
 | bl k =>
  refine⟨k,Im y,?_⟩;cases k with
  | false=>exact q _ e _ i f j (show VR _ _ M H e _ _ (.bl _) from rfl) p
  | true =>
   exact x C M e i g h P Q (R.step f j) p λv H2 d z A B D E=>q v H2 d z (f.trans A) B D E
 | _=>exact p.elim
theorem VA(f:DE X a zR wa):DE X (.UnaryOp .Not a pos) .sh (Xn wa):=by
 obtain⟨t,g,h⟩:=f;refine⟨_,YJ g,λC M H n i j P Q R w q=>?_⟩;refine h C M H n i j _ _ R w λc e d l m o r p=>?_;cases d with
 | bl k=>exact⟨k,Im r,q _ e _ l m o (show VR _ _ M H e _ _ (.bl _) from rfl) p⟩
 | _=>exact p.elim
def VY(t:HI)(u v:DW):DW:=λn d P=>t n d λc e=>if c=true then u e d P else v e d P
theorem Lq(s:DT X c wA)(x:DE X a κ wa)(y:DE X b κ wb):DE X (.IfExp c a b pos) κ (VY wA wa wb):=by
 obtain⟨t,z,A⟩:=s;obtain⟨u,B,D⟩:=x;obtain⟨G,E,F⟩:=y;refine⟨_,N6 z B E,λC M H n f g P Q R w q=>?_⟩;refine A C M H n f g _ _ R w λc m o e r p=>?_;cases c with
 | true=>exact D C M m o f g P Q (R.step e r) p λv H2 d h i j k l=>q v H2 d h (e.trans i) j (VR.back e k) l
 | false=>exact F C M m o f g P Q (R.step e r) p λv H2 d h i j k l=>q v H2 d h (e.trans i) j (VR.back e k) l
def AT:Ef:=λn _ P=>P [] n
def AF(w:DW)(e:Ef):Ef:=λn c P=>w n c λd f=>e f c λg h=>P (d::g) h
variable {es:List Expr}{ws:Ef}
theorem AV:Wm X [] AT:=⟨_,B0,λC M H n c d P Q R w q=>q [] H [] n (Ext.refl _ _) R.feed .nil w⟩
theorem AS:Xf X [] AT:=⟨_,B0,λC M H n c d P Q R w q=>q [] H [] n (Ext.refl _ _) R.feed rfl w⟩
theorem AM(j:DE X e κ wa)(k:Wm X es ws)(l:starEach (e::es) X.env=(false,eval e X.env)::starEach es X.env:=by rfl):Wm X (e::es) (AF wa ws):=by
 obtain⟨t,m,o⟩:=j;obtain⟨u,r,s⟩:=k;refine⟨_,BB m r l,λC M H n f g P Q R w q=>?_⟩;refine o C M H n f g _ _ R w λv x d y h z A p=>?_;have i:=R.step h z;exact s C M x y f g _ _ i p λG H2 I B c D E F=>q _ H2 _ B (h.trans c) D (.cons ((A.tpOf R.dom R.vM).pres (i.pres c) c R.uV) E) F
theorem AC(j:DE X e κ wa)(k:Xf X es ws)(l:κ≠.tp:=by intro z; cases z)(m:starEach (e::es) X.env=(false,eval e X.env)::starEach es X.env:=by rfl):Xf X (e::es) (AF wa ws):=by
 obtain⟨t,o,r⟩:=j;obtain⟨u,s,x⟩:=k;refine⟨_,BB o s m,λC M H n c f P Q R w q=>?_⟩;refine r C M H n c f _ _ R w λv y d A g B D p=>?_;have h:=R.step g B;exact x C M y A c f _ _ h p λE H2 F G i I J K=>q _ H2 (d::F) G (g.trans i) I ⟨v,E,rfl,(D.shOf R.dom l).pres (h.pres i),J⟩ K
def BN(ws:Ef):DW:=λn d P=>ws n d λc e=>c.length<=sizeLine/\P (.tup c) e
def DA(ws:Ef):DW:=λn d P=>ws n d λc e=>c.length<=sizeLine/\P (.lst c) e
theorem Ga{M:Ch->Prop}{H:Hp}{p:Ch}{o:HO}(h:H p=none):Pres M H (λb=>M b\/b=p) (A4 H p o):=⟨λb u e _=>by rw [AQ (A0 e h)]; exact e,λb z=>z.elim .inl λz=>.inr (by grind),λb c e=>by rw [AQ (A0 e h)]; exact e⟩
theorem A1{H:Hp}{p:Ch}{o:HO}(h:H p=none):Grow H (A4 H p o):=.inr ⟨p,o,h,rfl⟩
theorem Ar{x1}(h:Xf X es ws):DE X (.Tuple es x1 pos) .sh (BN ws):=by
 obtain⟨t,f,i⟩:=h;refine⟨_,Pt f,λC M H n j k P Q R w q=>?_⟩;refine i C M H n j k _ _ R w λc d l m o r e p=>?_;refine⟨by rw [e.length]; exact p.1,λa s=>?_⟩;have g:Grow d (A4 d a (.tup c)):=A1 s;refine q _ _ (.tup l) m (o.trans g.ext) (r.grow g) ⟨a,c,rfl,AX,e.pres g.pres⟩ p.2
theorem Bp(h:Xf X es ws):DE X (.List es pos) .fr (DA ws):=by
 obtain⟨t,j,k⟩:=h;refine⟨_,Pu j,λC M H n l m P Q R w q=>?_⟩;refine k C M H n l m _ _ R w λd e o r f s i p=>?_;refine⟨by rw [i.length]; exact p.1,λa c=>?_⟩;have g:Grow e (A4 e a (.lst d)):=A1 c;exact q _ _ (.lst o) r (f.trans g.ext) (s.grow g) (VR.back f ⟨a,rfl,c,d,AX,i.pres (Ga c)⟩) p.2
def Ft(K:Frag)(κ:Kd)(r:List V->Hp->VK->Prop)(f:List D->(D->Prop)->Prop):Prop:=∀(U:Ch->Prop) (M:Ch->Prop) (H:Hp) (e:List D) (g:List V) (P:D->Prop) (Q:VK),(∀a,M a->∃o,H a=some o)->(∀a,U a->M a) ->
 Paired (λv d=>AtT K U M H d v) g e->f e P->(∀v c z,Grow H c->VR K U M H c κ v z->P z->Q v c)->r g H Q
def B8(f:List D->(D->Prop)->Prop)(ws:Ef):DW:=λn c P=>ws n c λd e=>f d λz=>P z e
theorem XZ{r:List V->Hp->VK->Prop}{f:List D->(D->Prop)->Prop}{t:TA}(s:Ft X.K κ r f)(u:∀(C:Fm) (M:Ch->Prop) (H:Hp) (n:Nat) (e:List Slot) (h:L2.St) (P:List D->Nat->Prop) (Q:List V->Hp->Prop),Rel X.K C M H n e h->ws n e P ->
   (∀j c k i,Ext C.U H c->FeedC X.K C.F M c i->Paired (λv d=>AtT X.K C.V M c d v) j k->P k i->Q j c)->t h H Q)
  (C:Fm) (M:Ch->Prop) (H:Hp) (n:Nat) (e:List Slot) (h:L2.St) (P:D->Nat->Prop) (Q:VK) (R:Rel X.K C M H n e h) (w:B8 f ws n e P)
  (q:∀v c d i,Ext C.U H c->FeedC X.K C.F M c i->VR X.K C.V M H c κ v d->P d i->Q v c):al r t h H Q:=by
 refine u C M H n e h _ _ R w λj x k y l m A p=>?_;have o:=R.step l m;exact s _ M x k j _ _ o.dom o.vM A p λv H2 z g B E=>q v H2 z y (l.trans g.ext) (m.grow g) (VR.back l B) E
theorem Ae{x:Str}{g:String}{p:Pos}{r:List V->Hp->VK->Prop}{f:List D->(D->Prop)->Prop}(h:C2 X (.builtin g) r)(i:Ft X.K κ r f)(j:Gl X x)(k:X.mg x=none)(l:bootBuiltins x=some (.builtin g))(m:Wm X (e::es) ws)
  (o:x ≠ "__name__":=by decide) (c:(x==("__debug__":Str))=false:=by decide)
  (s:starEach (e::es) X.env=(false,eval e X.env)::starEach es X.env:=by rfl) (d:(backTo pos (starEach es X.env)).any (·.1)=false:=by rfl):DE X (.Call (.Name x p) (e::es) [] pos) κ (B8 f ws):=by
 obtain⟨t,u,v⟩:=m;exact⟨_,Cv h j k l u o c s d,λC M H n y z P Q R w q=>XZ i v C M H n y z P Q R w q⟩
theorem Bs{x:Str}{T:String}{p:Pos}{r:List V->Hp->VK->Prop}{f:List D->(D->Prop)->Prop}(g:C2 X (.type T) r)(h:Ft X.K κ r f)(i:Gl X x)(j:X.mg x=none)(k:bootBuiltins x=some (.type T))(l:Wm X (e::es) ws)
  (m:x ≠ "__name__":=by decide) (c:(x==("__debug__":Str))=false:=by decide)
  (o:starEach (e::es) X.env=(false,eval e X.env)::starEach es X.env:=by rfl) (d:(backTo pos (starEach es X.env)).any (·.1)=false:=by rfl):DE X (.Call (.Name x p) (e::es) [] pos) κ (B8 f ws):=by
 obtain⟨t,s,u⟩:=l;exact⟨_,LU g i j k s m c o d,λC M H n v y P Q R w q=>XZ h u C M H n v y P Q R w q⟩
end
end Dp
namespace L2
def bv(z:Str):It:=⟨λi _=>i<z.cps.size,λi H x a=>a=H/\∃c,z.cps[i]?=some c/\x=.str ⟨#[c]⟩,λi _=>z.cps.size<=i⟩
theorem Nc{P:cz}{w:dC}{K:Frag}{U:c_}(a:Ch)(z:Str)(t:Tok)(ty:String)(j:ty = "str_ascii_iterator"\/ty = "str_iterator")
  (W:∀N:dL,N.handled=none->Walks P w N a [a] [a] z.cps.size (SignAt z) (λi h=>h.IsStrIter a ty z t i)):Turn P w K U (bv z) [a] a (λi h=>h.IsStrIter a ty z t i) where
 mem:=by simp
 obj:=λi h f b g=>by
  have e:b=a:=by simpa using g
  subst e;obtain⟨o,e,c,d⟩:=f;exact⟨o,e,λv z=>by rw [d] at z; cases z⟩
 keep:=λi h l f k=>let ⟨o,V,r⟩:=f; ⟨o,k a (by simp) o V,r⟩
 item:=by
  intro X D F G n i O s R H E I p f J;subst D F G;obtain⟨q,x,Y,y,B,C⟩:=p a (by simp);refine(W X.A (I.ok.hd n)).item i s _ _ J f λv l S Z m kk=>?_;obtain⟨c,u,L,rfl⟩:=Z;have I1:Inv X O R H { s with heap:=l,toks:=S }:=I.turned (λb o g e=>kk b o (by simpa using g) e) q x y B C;obtain⟨o,e,cc,d⟩:=id m;exact⟨_,rfl,Oe (s:={ s with heap:=l,toks:=S }) e cc d (by rcases j with rfl | rfl <;> decide) ⟨.str ⟨#[c]⟩,H,I1,⟨_,rfl⟩,⟨rfl,c,L,rfl⟩,m,λb g=>(p b g).1⟩⟩
 done:=by
  intro X D F G n i O s R H E I p f J;subst D F G;obtain⟨q,x,Y,y,B,C⟩:=p a (by simp)
  have T:z.cps[i]?=none:=by
   have:z.cps.size<=i:=J
   simp [this]
  rcases j with rfl | rfl
  ·exact wpAny_pyNext_ascii_end (I.ok.hd n) f T λl M=>⟨rfl,I.turned (t':=s.toks) (λb o g e=>M b o g e) q x y B C⟩
  ·exact wpAny_pyNext_wide_end (I.ok.hd n) f T λl M=>⟨rfl,I.turned (t':=s.toks) (λb o g e=>M b o g e) q x y B C⟩
 self:=λA i s Q E f h=>by
  rcases j with rfl | rfl
  ·exact wpAny_pyIter_striter_ascii f h
  ·exact wpAny_pyIter_striter_wide f h
section
variable {X:Cx}{tg:Expr}
def ba(K:Frag)(d:TE):TI:=λe H R=>d e H λx b =>
 (∃a,x=.ref a/\(∃c,SqL K b a c)/\R (bw K a) b)\/(∃a,x=.ref a/\(∃c,SqT K b a c)/\R (Y_ K a) b)\/∃z,x=.str z/\R (bv z) b
theorem Pq{l:c_}{n:TE}(w:PE X l n):PI X tg l (ba X.K n):=by
 intro r s y H R I h;refine thn (w r s y H _ I h) λv c ⟨x,g,f,j,A⟩=>?_
 have d:∀b,b∈[c.heap.objs.size]->Gh X r g b:=λb B=>by
  have e:b=c.heap.objs.size:=by simpa using B
  subst e;exact f.fpOk (On _) (f.hok.fresh (On _))
 rcases A with ⟨a,e,⟨C,k⟩,q⟩ | ⟨a,e,⟨C,k⟩,q⟩ | ⟨z,e,q⟩
 ·subst e
  cases j;obtain⟨i,D,p,E⟩:=f.list k;refine e8 p.isList ?_;exact⟨c.heap.objs.size,[c.heap.objs.size],_,_,g,rfl,f.kept (t':=c.toks) λb o e=>Ev _ e,Rf a _,⟨_,cj _ rfl,rfl,rfl⟩,d,q⟩
 ·subst e
  cases j;obtain⟨i,D,p,E⟩:=f.tuple k;refine ef (show c.heap.IsTuple a i.toArray from p) ?_;exact⟨c.heap.objs.size,[c.heap.objs.size],_,_,g,rfl,f.kept (t':=c.toks) λb o e=>Ev _ e,JP a _,⟨_,cj _ rfl,rfl,rfl⟩,d,q⟩
 ·subst e
  obtain⟨t,rfl⟩:=j;cases u:z.cps.all (·<128)
  ·refine wpAny_pyIter_wide u ?_
   exact⟨c.heap.objs.size,[c.heap.objs.size],_,_,g,rfl,f.kept (t':=c.toks) λb o e=>Ev _ e,Nc _ z t "str_iterator" (.inr rfl) (λF m=>Walks.strWide m _ z t),⟨_,cj _ rfl,rfl,rfl⟩,d,q⟩
  ·refine wpAny_pyIter_ascii u ?_
   exact⟨c.heap.objs.size,[c.heap.objs.size],_,_,g,rfl,f.kept (t':=c.toks) λb o e=>Ev _ e,Nc _ z t "str_ascii_iterator" (.inl rfl) (λF m=>Walks.strAscii m _ z t),⟨_,cj _ rfl,rfl,rfl⟩,d,q⟩
end
section
variable {X:Cx}
theorem Ky(bs:List Bool):((dD bs.length).all λi=>(bs[i]?).getD true)=bs.all id:=by
 induction bs with
 | nil=>rfl
 | cons b r a =>
  rw [ZB,g9,fB,jO]
  congr 1
theorem G_(t:X.calm=true):C2 X (.builtin "all") (λj H Q=>∃(p:Ch) (c:List Bool),j=[.ref p]/\SqL X.K H p (c.map V.bl)/\Q (.bl (c.all id)) H):=by
 intro J s L H j M Q I r h;obtain⟨p,c,rfl,w,q⟩:=h;obtain⟨u,rfl,y⟩:=vals1 r;cases y;obtain⟨a,k,z,N⟩:=I.list w;have d:=k.length;have f:s.heap.IsList p a.toArray:=z.isList;have g:p<s.heap.objs.size:=by obtain⟨_,e,_⟩:=id f; exact UF e
 refine call_all_walk (e8 f ?_)
 refine⟨s.heap.objs.size,[s.heap.objs.size,p],[s.heap.objs.size],a.toArray.size,_,_,λi=>(c[i]?).getD true,rfl,Walks.list (A:=X.A.in1) (I.ok.hd t) _ p (c7 g) a.toArray,
  ⟨⟨_,cj _ rfl,rfl,rfl⟩,f.push _⟩,λi v O P R B l=>?_,λS C D=>?_⟩
 ·have m:a[i]?=some v:=by simpa using B
  have E:∃b,c[i]?=some b:=by
   have T:i<a.length:=(cr.mp m).1;rw [Go] at d;exact⟨c[i]'(by omega),No (by omega)⟩
  obtain⟨b,n⟩:=E;obtain⟨u,o,F⟩:=k.get (i:=i) (x:=.bl b) (by rw [dR,n]; rfl);rw [m] at o;cases o;cases F;simp only [n,Option.getD_some] at l;exact e7 l
 ·have e:((dD a.toArray.size).all λi=>(c[i]?).getD true)=c.all id:=by
   rw [c9,← d,Go]; exact Ky c
  rw [e];exact⟨.bl _,H,I.kept (t':=C) λb x e=>D b x (λG=>by rw [Tk.mp G] at e; exact eK _ (UF e)) (Ev _ e),rfl,q⟩
theorem O1:C2 X (.builtin "isinstance") (λa H Q=>∃x T t b,a=[x,.ty T]/\F4 X.K H x t/\PySem.W.kitOne X.K t (.type T)=some b/\Q (.bl b) H):=by
 intro f s g H a i Q I r h;obtain⟨x,T,t,b,rfl,ty,e,q⟩:=h;obtain⟨u,j,rfl,c,d⟩:=vals2 r;cases d;exact SW I c ty e λk=>⟨.bl b,H,I.tok _,rfl,q⟩
theorem R_:OpR X (compareOp .LtE) (λx y H Q=>∃i j,x=.str i/\y=.str j/\Q (.bl (!(j.cps.toList<i.cps.toList))) H):=by
 intro c s d H x y v u Q I a b h;obtain⟨i,j,rfl,rfl,q⟩:=h;obtain⟨t,rfl⟩:=a;obtain⟨e,rfl⟩:=b;exact PySem.P.le_str ⟨.bl _,H,I,rfl,q⟩
theorem JT{b:List Str}:∀{a:List Cn},Vals (b.map V.str) a->StrsAre a b:=by
 induction b with
 | nil=>intro a r; cases r; exact .nil
 | cons n g c =>
  intro a r;cases r with
  | cons d f =>
   obtain⟨t,e⟩:=d;subst e;exact .cons n t (c f)
theorem V2:a9 X "str.join" (λx b H Q=>∃(z:Str) (p:Ch) (a:List Str),x=.str z/\b=[.ref p]/\SqL X.K H p (a.map V.str)/\(a.map (·.length)).sum+a.length*z.length<=16777216/\Q (.str (Txt.join z a)) H):=by
 intro m s n H x b v o Q I c d h;obtain⟨z,p,a,rfl,rfl,e,f,q⟩:=h;obtain⟨t,rfl⟩:=c;obtain⟨u,rfl,g⟩:=vals1 d;cases g;obtain⟨i,j,l,_⟩:=I.list e;exact join_list l.isList (JT j) f λr k=>⟨.str _,H,I.tok _,⟨_,rfl⟩,q⟩
theorem X1:SlR X (λx f g H Q=>∃z,x=.str z/\z.length<=sizeLine/\Q (.str (Txt.slice z f g)) H):=by
 intro o s p H x v y A f g B Q I r c w m h;obtain⟨z,rfl,d,q⟩:=h;obtain⟨t,rfl⟩:=r;refine⟨"str",_,F.slot_str_getitem.lookup,typeIs_str _ _ _,?_⟩;have b:∀a k,EP X o p Q (.str _ a) { s with toks:=k }:=λa k=>⟨.str _,H,I.tok _,⟨_,rfl⟩,q⟩;cases w with
 | none =>
  cases m with
  | none=>exact f9 (l:=none) (u:=none) (st:=none) c rfl (iN ⟨cx (Txt.slice_le z _ _) d,λa k=>b a k⟩)
  | int j e=>exact f9 (l:=none) (u:=some (j,e)) (st:=none) c rfl (iN ⟨cx (Txt.slice_le z _ _) d,λa k=>b a k⟩)
 | int i n =>
  cases m with
  | none=>exact f9 (l:=some (i,n)) (u:=none) (st:=none) c rfl (iN ⟨cx (Txt.slice_le z _ _) d,λa k=>b a k⟩)
  | int j e=>exact f9 (l:=some (i,n)) (u:=some (j,e)) (st:=none) c rfl (iN ⟨cx (Txt.slice_le z _ _) d,λa k=>b a k⟩)
theorem R8(d:X.A.units<cLine):OpR X (compareOp .NotEq) (λx y H Q=>∃a b c,x=.ref a/\y=.ref b/\SqL X.K H a c/\SqL X.K H b []/\Q (.bl (!c.isEmpty)) H):=by
 intro w s z H x y v u Q I m n h;obtain⟨a,b,c,rfl,rfl,o,p,q⟩:=h;cases m;cases n;obtain⟨r,f,g,_⟩:=I.list o;obtain⟨i,k,l,_⟩:=I.list p;cases k;cases f with
 | nil=>exact SeqAt.RcNeAt.lists (e:=λ_=>true) g.isList l.isList rfl d (λj t B=>absurd t (by simp)) _ _ _ _ ⟨.bl _,H,I,rfl,q⟩
 | cons f k=>exact SeqAt.RcNeAt.lists_lengths g.isList l.isList (by simp) d _ _ _ _ ⟨.bl _,H,I,rfl,q⟩
end
end L2
namespace Dp
open L2
def Y5(K:Frag)(F:Option (Ch×Ch))(U b M:Ch->Prop)(H:Hp)(n:Nat)(c:List Slot)(d:List V):Prop :=
 (∀a,M a->∃o,H a=some o)/\(∀f,F=some f->U f.1)/\(∀a,U a->b a)/\(∀a,b a->M a)/\FeedC K F M H n/\Paired (L8 K F b M H) d c
abbrev W2:=List Slot->Nat->(D->Nat->Prop)->Prop
def Di(K:Frag)(g:Kd)(W:W2)(h:Nat):Sp:=λb H Q _=>b.length=h/\∃(F:Option (Ch×Ch)) (U c M:Ch->Prop) (n:Nat) (e:List Slot) (P:D->Nat->Prop),Y5 K F U c M H n e b/\W e n P /\
 ∀v a d f,Ext U H a->FeedC K F M a f->VR K c M H a g v d->P d f->Q v a
def AI(w:DW):Nat->List Slot->(Slot->Nat->Prop)->Prop:=λn a P=>w n a λd b=>P (.sh d) b
def JM(w:DW):Nat->List Slot->(Slot->Nat->Prop)->Prop:=λn a P=>w n a λd b=>P (.br d) b
def Aw(i:Nat):Nat->List Slot->(Slot->Nat->Prop)->Prop:=λn a P=>match a[i]? with
 | some .fd=>P .fd n
 | _=>False
def AY:S1:=λn _ P=>P [] n
def AE(w:Nat->List Slot->(Slot->Nat->Prop)->Prop)(b:S1):S1:=λn a P=>w n a λs c=>b c a λd e=>P (s::d) e
def AZ(W:W2)(a:S1):DW:=λn b P=>a n b λc d=>W c d P
section
variable {X:Cx}{a e:Expr}{es:List Expr}{κ zR:Kd}{wa:DW}{pos:Pos}{w1:Nat->List Slot->(Slot->Nat->Prop)->Prop}{was:S1}{ws:Ef}
theorem AN(h:DE X e κ wa)(b:κ≠.tp:=by intro z; cases z):ah X e (AI wa):=by
 obtain⟨t,c,g⟩:=h;exact⟨t,c,λC M H n i j P Q R w q=>g C M H n i j _ _ R w λv k d l e f r p=>q v k (.sh d) l e f ⟨⟨v,rfl,r.shOf R.dom b⟩,rfl⟩ p⟩
theorem XW(h:DE X e κ wa):ah X e (JM wa):=by
 obtain⟨t,b,c⟩:=h;exact⟨t,b,λC M H n g i P Q R w q=>c C M H n g i _ _ R w λv j d k e f r p=>q v j (.br d) k e f ⟨⟨v,rfl,r.tpOf R.dom R.vM⟩,rfl⟩ p⟩
theorem A5(i:Nat){x:Str}{pos:Pos}(d:X.N[i]?=some x:=by rfl)(e:Sw X.env.scope x:=by first | exact TW rfl | exact da (TW rfl) | exact da (da rfl))(b:(x==("__debug__":Str))=false:=by decide)
  (c:(x==("__classdict__":Str))=false:=by decide):ah X (.Name x pos) (Aw i):=by
 refine⟨_,Em d e b c,λC M H n j k P Q R w q=>?_⟩;unfold Aw at w
 split at w
 ·rename_i b
  obtain⟨f,g,h⟩:=R.sl i _ b;exact⟨_,getD_some g,q _ H .fd n (Ext.refl _ _) R.feed ⟨⟨f,rfl,h⟩,rfl⟩ w⟩
 grind
theorem AK:Xe X [] AY:=⟨_,B0,λC M H n b c P Q R w q=>q [] H [] n (Ext.refl _ _) R.feed .nil w⟩
theorem AA(j:ah X e w1)(k:Xe X es was)(l:starEach (e::es) X.env=(false,eval e X.env)::starEach es X.env:=by rfl):Xe X (e::es) (AE w1 was):=by
 obtain⟨t,m,o⟩:=j;obtain⟨u,r,s⟩:=k;refine⟨_,BB m r l,λC M H n c f P Q R w q=>?_⟩;refine o C M H n c f _ _ R w λv x d y g A h p=>?_;have i:=R.step g A;exact s C M x y c f _ _ i p λG H2 I B b D E F=>q _ H2 _ B (g.trans b) D (.cons ⟨h.1.pres (i.pres b) (λ_ z=>z) b R.uV,h.2⟩ E) F
theorem Wd{k:Nat}{f:Ch}{fd:dU}{b:List Str}{W:W2}{x:Str}{p:Pos}(G:BD X.prog X.w X.K X.mg X.base CL k f fd b (Di X.K κ W b.length))(o:∀c n P,W c n P->c.length=b.length)
  (r:Room k X.A) (s:Gl X x) (u:X.mg x=some (.ref f)) (y:keepIn X.K (.ref f)=true) (z:Binds X.K fd b []) (B:Xe X (e::es) was)
  (h:(x==("__debug__":Str))=false:=by decide) (D:starEach (e::es) X.env=(false,eval e X.env)::starEach es X.env:=by rfl) (i:(backTo pos (starEach es X.env)).any (·.1)=false:=by rfl) :
  DE X (.Call (.Name x p) (e::es) [] pos) κ (AZ W was):=by
 obtain⟨t,E,F⟩:=B;refine⟨_,Qr G r s u y z .nil XB E h D i,λC M H n I J P Q R w q=>?_⟩;refine F C M H n I J _ _ R w λV Y c L j l m p=>?_;have g:=R.step j l;rw [dS];exact⟨(Paired.length m).trans (o _ _ _ p),_,_,_,M,L,c,P,⟨g.dom,g.fU,g.uV,g.vM,l,m⟩,p,λv H2 d N O S T U=>q v H2 d N (j.trans O) S (VR.back j T) U⟩
def cI(K:Frag)(κ:Kd)(T:String)(r:V->List V->Hp->VK->Prop)(f:D->List D->(D->Prop)->Prop):Prop:=∀(U:Ch->Prop) (M:Ch->Prop) (H:Hp) (d:D) (c:List D) (x:V) (e:List V) (P:D->Prop) (Q:VK),(∀a,M a->∃o,H a=some o)->(∀a,U a->M a) ->
 AtT K U M H d x->Paired (λv d=>AtT K U M H d v) e c->f d c P->(∀v b z,Grow H b->VR K U M H b κ v z->P z->Q v b)->r x e H Q
def au(T:String)(d:D):Prop:=match d with
 | .str _=>T = "str"
 | .int _=>T = "int"
 | .lst _=>T = "list"
 | _=>False
def bD(T:String)(f:D->List D->(D->Prop)->Prop)(c:DW)(ws:Ef):DW:=λn b P=>c n b λd e=>au T d/\ws e b λg h=>f d g λz=>P z h
theorem QA{T:String}{K:Frag}{U:Ch->Prop}{M:Ch->Prop}{H:Hp}{d:D}{x:V}(h:au T d)(b:AtT K U M H d x):bE K T x H:=by
 cases d with
 | str z=>obtain⟨e,_⟩:=b; subst e; exact h
 | int i=>cases (b); exact h
 | lst g=>obtain⟨a,c,e,_,f,_⟩:=b; subst e; exact .inl ⟨h,c,.inl f⟩
 | _=>exact(h).elim
theorem aN{name:Str}{h b:Pos}{T s:String}{r:V->List V->Hp->VK->Prop}{f:D->List D->(D->Prop)->Prop}(J:PlainAttrs T)(k:PySem.Slot T name s)(y:typeOf (.builtin s)=pure (.type "method_descriptor"))(L:a9 X s r)
  (N:cI X.K κ T r f) (O:DE X a zR wa) (S:Wm X (e::es) ws)
  (i:attributeBase a name X.env (eval a X.env)=eval a X.env:=by rfl)
  (l:((backTo b (starEach (e::es) X.env)).all (λx=>!x.1)&&(backToKw b (keywordEach [] X.env)).all (λx=>x.1.isSome)
   && decide ((e::es).length+([]:List gL).length+(if ([]:List gL).isEmpty then 0 else 1)<30))=true:=by rfl)
  (j:(h.endLine==b.line)=true:=by rfl) (U:starEach (e::es) X.env=(false,eval e X.env)::starEach es X.env:=by rfl) (c:(backTo b (starEach es X.env)).any (·.1)=false:=by rfl) :
  DE X (.Call (.Attribute a name h) (e::es) [] b) κ (bD T f wa ws):=by
 obtain⟨t,W,Y⟩:=O;obtain⟨u,Z,g2⟩:=S;refine⟨_,UT J k y L W Z i l j U c,λC M H n E F P Q R w q=>?_⟩;refine Y C M H n E F _ _ R w λx H1 d n1 A f1 r1 p=>?_;have B:=R.step A f1;have G:=r1.tpOf R.dom R.vM;refine⟨QA p.1 G,?_⟩;refine g2 C M H1 n1 E F _ _ B p.2 λvs H2 ds n2 m I r2 p2=>?_;have o:=B.step m I;refine N C.V M H2 d ds x vs _ _ o.dom o.vM (G.pres (B.pres m) m R.uV) r2 p2 λv H3 z g vr pz=>?_;exact q v H3 z n2 ((A.trans m).trans g.ext) (I.grow g) (VR.back (A.trans m) vr) pz
def DO(X:Cx)(e:Option c_)(w:Nat->List Slot->(Option Int->Nat->Prop)->Prop):Prop:=∃t,PO X e t/\∀(C:Fm) (M:Ch->Prop) (H:Hp) (n:Nat) (c:List Slot) (d:L2.St) (P:Option Int->Nat->Prop) (Q:Option Int->Hp->Prop),Rel X.K C M H n c d->w n c P ->
 (∀o b f,Ext C.U H b->FeedC X.K C.F M b f->P o f->Q o b)->t d H Q
def A6:Nat->List Slot->(Option Int->Nat->Prop)->Prop:=λn _ P=>P none n
def BK(w:DW):Nat->List Slot->(Option Int->Nat->Prop)->Prop:=λn b P=>w n b λd c=>match d with
 | .int i=>P (some i) c
 | _=>False
theorem BC:DO X none A6:=⟨_,Qo,λC M H n b c P Q R w q=>q _ H n (Ext.refl _ _) R.feed w⟩
theorem J8{U:Ch->Prop}{K:Frag}{M:Ch->Prop}{H b:Hp}{v:V}{i:Int}(h:VR K U M H b κ v (.int i)):v=.int i:=by
 cases κ with
 | sh=>exact h
 | tp=>exact h
 | fr=>obtain⟨a,_,_,t⟩:=h; exact(t).elim
theorem Ax(h:DE X e κ wa):DO X (some e) (BK wa):=by
 obtain⟨t,b,c⟩:=h;refine⟨_,Qn b,λC M H n f g P Q R w q=>?_⟩;refine c C M H n f g _ _ R w λv j d k l m o p=>?_;cases d with
 | int i=>exact⟨i,J8 o,q _ j k l m p⟩
 | _=>exact p.elim
def cE(K:Frag)(κ:Kd)(r:V->Option Int->Option Int->Hp->VK->Prop)(f:D->Option Int->Option Int->(D->Prop)->Prop):Prop:=∀(U:Ch->Prop) (M:Ch->Prop) (H:Hp) (d:D) (x:V) (c e:Option Int) (P:D->Prop) (Q:VK),(∀a,M a->∃o,H a=some o)->(∀a,U a->M a) ->
 AtT K U M H d x->f d c e P->(∀v b z,Grow H b->VR K U M H b κ v z->P z->Q v b)->r x c e H Q
def F5(f:D->Option Int->Option Int->(D->Prop)->Prop)(w:DW)(c e:Nat->List Slot->(Option Int->Nat->Prop)->Prop):DW:=λn b P=>w n b λd g=>c g b λh i=>e i b λj k=>f d h j λz=>P z k
theorem Bq{i j:Option c_}{k:Pos}{r:V->Option Int->Option Int->Hp->VK->Prop}{f:D->Option Int->Option Int->(D->Prop)->Prop}{x y:Nat->List Slot->(Option Int->Nat->Prop)->Prop}(E:SlR X r)(F:cE X.K κ r f)(G:DE X e zR wa)(I:DO X i x)(J:DO X j y) :
  DE X (.Subscript e (.Slice i j none k) pos) κ (F5 f wa x y):=by
 obtain⟨t,L,N⟩:=G;obtain⟨u,O,S⟩:=I;obtain⟨u',T,U⟩:=J;refine⟨_,N5 E L O T,λC M H n l m P Q R w q=>?_⟩;refine N C M H n l m _ _ R w λv W d Y o Z r1 p=>?_;have s:=R.step o Z;have tv:=r1.tpOf R.dom R.vM;refine S C M W Y l m _ _ s p λi H2 n2 c f2 k=>?_;have b:=s.step c f2;refine U C M H2 n2 l m _ _ b k λj H3 n3 h A p3=>?_;have B:=b.step h A;refine F C.V M H3 d v i j _ _ B.dom B.vM ((tv.pres (s.pres c) c R.uV).pres (b.pres h) h R.uV) p3 λv H4 z g vr pz=>?_;exact q v H4 z n3 (((o.trans c).trans h).trans g.ext) (A.grow g) (VR.back ((o.trans c).trans h) vr) pz
end
structure E2 where
 nx:Nat->List Slot->Prop
 rt:D->Nat->Prop
 bk:Nat->List Slot->Prop:=λ_ _=>False
 ct:Nat->List Slot->Prop:=λ_ _=>False
abbrev Aj:=E2->Nat->List Slot->Prop
structure HG (K:Frag) (C:Fm) (κ:Kd) (D2:E2) (E:Ends):Prop where
 nx:∀M H n ρ σ,Rel K C M H n ρ σ->D2.nx n ρ->E.nx σ H
 rt:∀v H d n,Ext C.U C.H0 H->FeedC K C.F C.M0 H n->VR K C.V C.M0 C.H0 H κ v d->D2.rt d n->E.rt v H
 bk:∀M H n ρ σ,Rel K C M H n ρ σ->D2.bk n ρ->E.bk σ H
 ct:∀M H n ρ σ,Rel K C M H n ρ σ->D2.ct n ρ->E.ct σ H
def DS(X:Cx)(d:Kd)(e:dE)(w:Aj):Prop:=∃t,PS X e t/\∀(C:Fm) (M:Ch->Prop) (H:Hp) (n:Nat) (a:List Slot) (b:L2.St) (c:E2) (E:Ends),Rel X.K C M H n a b->HG X.K C d c E->w c n a->t E b H
def QR(X:Cx)(d:Kd)(e:List dE)(w:Aj):Prop:=∃t,PSs X e t/\∀(C:Fm) (M:Ch->Prop) (H:Hp) (n:Nat) (a:List Slot) (b:L2.St) (c:E2) (E:Ends),Rel X.K C M H n a b->HG X.K C d c E->w c n a->t E b H
def Av:Aj:=λa n b=>a.nx n b
def Ac(u v:Aj):Aj:=λa n b=>u { a with nx:=v a } n b
def Au(w:DW):Aj:=λa n b=>w n b λd c=>a.rt d c
def BG(t:HI)(u v:Aj):Aj:=λb n a=>t n a λc d=>if c=true then u b d a else v b d a
def Az(i:Nat)(w:DW):Aj:=λb n a=>w n a λd c=>b.nx c (a.set i (.sh d))
section
variable {X:Cx}{κ zT:Kd}{st:Stmt}{rest:List Stmt}{u v:Aj}{wa:DW}{wA:HI}{e c:Expr}{pos:Pos}
theorem Al:QR X κ [] Av:=⟨_,MV,λC M H n a b c E R L w=>L.nx M H n a b R w⟩
theorem AG(d:DS X κ st u)(e:QR X κ rest v):QR X κ (st::rest) (Ac u v):=by
 obtain⟨t,f,g⟩:=d;obtain⟨j,h,i⟩:=e;exact⟨_,BL f h,λC M H n a b c E R L w=>g C M H n a b { c with nx:=v c } _ R ⟨λM H n a b R w=>i C M H n a b c E R L w,L.rt,L.bk,L.ct⟩ w⟩
theorem AJ(a:DS X κ st u):QR X κ [st] u:=by
 obtain⟨t,b,c⟩:=a;exact⟨t,Cb b,c⟩
theorem X4{K:Frag}{C:Fm}{M:Ch->Prop}{H g:Hp}{n h:Nat}{j:List Slot}{k:L2.St}{i:E2}{E:Ends}{d:D}{v:V}(R:Rel K C M H n j k)(L:HG K C κ i E)(e:Ext C.U H g)(f:FeedC K C.F M g h)(r:VR K C.V M H g κ v d)(q:κ≠.tp)(p:i.rt d h):E.rt v g:=by
 have c:Pres M g _ g:=Pres.less R.sub;refine L.rt v g d h (R.ext.trans e) (f.pres c λ_ _ _ z=>z) ?_ p;cases κ with
 | sh=>exact At.pres c r
 | tp=>grind
 | fr =>
  obtain⟨a,l,m,o⟩:=VR.back R.ext r;exact⟨a,l,m,o.pres (Pres.less λb z=>z.imp (R.sub b) id) λ_ z=>z⟩
theorem Ab(h:DE X e κ wa)(a:κ≠.tp:=by intro z; cases z):DS X κ (.Return (some e) pos) (Au wa):=by
 obtain⟨t,b,c⟩:=h;exact⟨_,GV b,λC M H n f g l E R L w=>c C M H n f g _ _ R w λv m d o i j k p=>X4 R L i j k a p⟩
theorem A9{a b:List dE}(k:DT X c wA)(l:QR X κ a u)(m:QR X κ b v):DS X κ (.If c a b pos) (BG wA u v):=by
 obtain⟨t,o,q⟩:=k;obtain⟨A,r,s⟩:=l;obtain⟨x,y,z⟩:=m;refine⟨_,Ql o r y,λC M H n d e f E R L w=>?_⟩;refine q C M H n d e _ _ R w λb g h i j p=>?_;cases b with
 | true=>exact s C M g h d e f E (R.step i j) L p
 | false=>exact z C M g h d e f E (R.step i j) L p
theorem An{i:Nat}{x:Str}{a:Pos}(b:X.N.Nodup)(c:X.N[i]?=some x)(f:Loc X.env.scope x)(g:DE X e zT wa)(h:zT≠.tp:=by intro z; cases z)(j:swapsWith e (some (.Name x a)) pos.line X.env=pure false:=by rfl)
  (k:X.fn x=true\/X.env.scope.names.lookup x=some .local:=by first | exact .inl rfl | exact .inr rfl | assumption):DS X κ (.Assign [.Name x a] e pos) (Az i wa):=by
 obtain⟨t,l,m⟩:=g;exact⟨_,FO b c f l j k,λC M H n o q B E R L w=>m C M H n o q _ _ R w λv r d s u y A p=>L.nx M r s _ _ ((R.step u y).set (A.shOf R.dom h)) p⟩
end
section
variable {X:Cx}{κ:Kd}{e:Expr}{wa:DW}{pos:Pos}
def EI(i:Nat)(w:DW):Aj:=λb n a=>w n a λd c=>b.nx c (a.set i (.ow d))
theorem Dr{i:Nat}{x:Str}{b:Pos}(c:X.N.Nodup)(f:X.N[i]?=some x)(g:Loc X.env.scope x)(h:DE X e .fr wa)(j:swapsWith e (some (.Name x b)) pos.line X.env=pure false:=by rfl)
  (k:X.fn x=true\/X.env.scope.names.lookup x=some .local:=by first | exact .inl rfl | exact .inr rfl | assumption):DS X κ (.Assign [.Name x b] e pos) (EI i wa):=by
 obtain⟨t,l,m⟩:=h;refine⟨_,FO c f g l j k,λC M H n o q D E R L w=>?_⟩;refine m C M H n o q _ _ R w λv r d s u y z p=>?_;obtain⟨a,rfl,A,B⟩:=z;exact L.nx _ r s _ _ (R.setOw u y A B) p
def TD(i:Nat):Aj:=λa n b=>∃d,b[i]?=some (.ow d)/\a.rt d n
theorem WN{x:Str}{p:Pos}(i:Nat)(h:PE X (.Name x p) (CH i)):DS X .fr (.Return (some (.Name x p)) pos) (TD i):=by
 refine⟨_,GV h,λC M H n g j k E R L ⟨d,c,f⟩=>?_⟩;obtain⟨a,e,m,l,t⟩:=R.sl i _ c;exact⟨_,getD_some e,L.rt _ H d n R.ext (R.feed.pres (Pres.less R.sub) λ_ _ _ z=>z) ⟨a,rfl,(R.new i _ a c rfl e).2,t.pres (Pres.less λb z=>z.elim (R.sub b) λz=>by grind) λ_ z=>z⟩ f⟩
def aY(K:Frag)(r:V->List V->Hp->VK->Prop)(f:D->List D->(D->D->Prop)->Prop):Prop:=∀(M:Ch->Prop) (H:Hp) (a:Ch) (d:D) (b:List D) (c:List V) (P:D->D->Prop) (Q:VK),M a->Tops K M H a d->Ats K M H b c->f d b P ->
 (∀o e z v,Tops K M (A4 H a o) a e->At K M (A4 H a o) z v->P e z->Q v (A4 H a o))->r (.ref a) c H Q
def TF(i:Nat)(T:String)(f:D->List D->(D->D->Prop)->Prop)(b:Ef):Aj:=λc n a=>∃d,a[i]?=some (.ow d)/\au T d/\b n a λg h=>f d g λe _=>c.nx h (a.set i (.ow e))
theorem Fw{M:Ch->Prop}{H:Hp}{a:Ch}{o u:HO}(m:M a)(e:H a=some u)(t:∀c,u≠.tup c:=by intro _ z; cases z):Pres M H M (A4 H a o):=⟨λb f q d=>by rw [AQ (λz=>d (by simp_all))]; exact q,λ_ z=>.inl z,λb c q=>by rw [AQ (λz=>by grind)]; exact q⟩
theorem Om{x name:Str}{p c b:Pos}{T w:String}{r:V->List V->Hp->VK->Prop}{f:D->List D->(D->D->Prop)->Prop}{j:List c_}{I:Ef}(i:Nat)(O:PlainAttrs T)(q:PySem.Slot T name w)(y:typeOf (.builtin w)=pure (.type "method_descriptor"))
  (P:a9 X w r) (Q:aY X.K r f) (h:PE X (.Name x p) (CH i)) (S:Xf X (e::j) I)
  (k:attributeBase (.Name x p) name X.env (eval (.Name x p) X.env)=eval (.Name x p) X.env:=by rfl)
  (s:((backTo b (starEach (e::j) X.env)).all (λx=>!x.1)&&(backToKw b (keywordEach [] X.env)).all (λx=>x.1.isSome)
   && decide ((e::j).length+([]:List gL).length+(if ([]:List gL).isEmpty then 0 else 1)<30))=true:=by rfl)
  (l:(c.endLine==b.line)=true:=by rfl) (U:starEach (e::j) X.env=(false,eval e X.env)::starEach j X.env:=by rfl) (g:(backTo b (starEach j X.env)).any (·.1)=false:=by rfl)
  (A:swapsWith (.Call (.Attribute (.Name x p) name c) (e::j) [] b) none pos.line X.env=pure false:=by rfl) :
  DS X κ (.Expr (.Call (.Attribute (.Name x p) name c) (e::j) [] b) pos) (TF i T f I):=by
 obtain⟨t,W,Y⟩:=S;refine⟨_,Qm (UT O q y P h W k s l U g) A,λC M H n Z J D2 E R L ⟨d,B,hT,hw⟩=>?_⟩;obtain⟨a,F,m,nv,tt⟩:=R.sl i _ B;refine⟨.ref a,getD_some F,QA hT (tt.att nv),?_⟩;refine Y C M H n Z J _ _ R hw λvs H1 ds n1 ee f1 r1 p=>?_;have N:=R.step ee f1;obtain⟨a',u,m',a0,G⟩:=N.sl i _ B;rw [F] at u;cases u;exact Q M H1 a d ds vs _ _ m' G r1 p λo d' z v t2 hz pp=>L.nx M _ n1 _ J (N.mut B F t2) pp
def KH(d:D)(b:List D)(P:D->D->Prop):Prop:=∃a y,d=.lst a/\b=[y]/\a.length<sizeLine/\P (.lst (a++[y])) .non
theorem PC{K:Frag}:aY K Qg KH:=by
 intro M H a d j k P Q m t e w q;obtain⟨l,y,rfl,rfl,f,w⟩:=w;obtain⟨g,b,c⟩:=t;obtain⟨u,r,rfl,h,i⟩:=e;cases (i);exact⟨a,g,u,rfl,rfl,b,by rw [c.length]; exact f,q _ (.lst _) .non _ ⟨_,AX,(c.append (Ats.one h)).pres (Fw m b)⟩ rfl w⟩
end
def Yields(K:Frag)(M:Ch->Prop)(H:Hp)(J:It)(e:List D):Prop:=∀(i:Nat) (c:Ch->Prop) (b:Hp),Pres M H c b->(∀a,c a->∃o,b a=some o) ->
 (∀d,e[i]?=some d->J.go i b/\∀x H2,J.yld i b x H2->Grow b H2/\At K c H2 d x)/\(e.length<=i->J.stop i b)
def RO(K:Frag)(U M:Ch->Prop)(H:Hp)(J:It)(e:List D):Prop:=∀(i:Nat) (c:Ch->Prop) (b:Hp),Pres M H c b->Ext U H b->(∀a,c a->∃o,b a=some o) ->
 (∀d,e[i]?=some d->J.go i b/\∀x H2,J.yld i b x H2->Grow b H2/\At K c H2 d x)/\(e.length<=i->J.stop i b)
theorem Yields.e{K:Frag}{U M:Ch->Prop}{H:Hp}{J:It}{a:List D}(h:Yields K M H J a):RO K U M H J a:=λi b c p _ d=>h i b c p d
def Xd(X:Cx)(h a:c_)(w:Ef):Prop:=∃c,PI X h a c/\∀(C:Fm) (M:Ch->Prop) (H:Hp) (n:Nat) (d:List Slot) (e:L2.St) (P:List D->Nat->Prop) (R:It->Hp->Prop),Rel X.K C M H n d e->w n d P ->
 (∀J b f g,Ext C.U H b->FeedC X.K C.F M b g->RO X.K C.U M b J f->P f g->R J b)->c e H R
def DI(X:Cx)(h a:c_)(w:Ef):Prop:=∃c,PI X h a c/\∀(C:Fm) (M:Ch->Prop) (H:Hp) (n:Nat) (d:List Slot) (e:L2.St) (P:List D->Nat->Prop) (R:It->Hp->Prop),Rel X.K C M H n d e->w n d P ->
 (∀J b f g,Ext C.U H b->FeedC X.K C.F M b g->Yields X.K M b J f->P f g->R J b)->c e H R
def signs(x:Str):List D:=x.cps.toList.map λc=>.str ⟨#[c]⟩
def BI(w:DW):Ef:=λn c P=>w n c λd a=>match d with
 | .lst b=>P b a
 | .tup b=>P b a
 | .str x=>P (signs x) a
 | _=>False
theorem NY{K:Frag}{M:Ch->Prop}{H:Hp}{a:Ch}{b:List V}{f:List D}(h:NdL M H a b)(g:Ats K M H f b):Yields K M H (bw K a) f:=by
 intro i o j p _;have c:SqL K j a b:=(h.pres p).sq;refine⟨λd k=>?_,λl=>⟨b,c,by rw [g.length]; exact l⟩⟩;obtain⟨v,e,m⟩:=(g.pres p).get k;refine⟨⟨b,v,c,e⟩,λx H2 y=>?_⟩;obtain⟨n,y⟩:=y;subst n
 have:=e.symm.trans (y b c)
 cases this;exact⟨.refl,m⟩
theorem JL{K:Frag}{M:Ch->Prop}{H:Hp}{a:Ch}{b:List V}{f:List D}(h:NdT M H a b)(g:Ats K M H f b):Yields K M H (Y_ K a) f:=by
 intro i o j p _;have c:SqT K j a b:=(h.pres p).sq;refine⟨λd k=>?_,λl=>⟨b,c,by rw [g.length]; exact l⟩⟩;obtain⟨v,e,m⟩:=(g.pres p).get k;refine⟨⟨b,v,c,e⟩,λx H2 y=>?_⟩;obtain⟨n,y⟩:=y;subst n
 have:=e.symm.trans (y b c)
 cases this;exact⟨.refl,m⟩
theorem yields_str{K:Frag}{M:Ch->Prop}{H:Hp}{z:Str}:Yields K M H (bv z) (signs z):=by
 intro i h j p _;refine⟨λd a=>?_,λe=>?_⟩
 ·unfold signs at a
  rw [dR] at a
  have f:i<z.cps.size:=by
   cases q:z.cps.toList[i]? with
   | none=>simp_all
   | some c=>simpa using (cr.mp q).1
  refine⟨f,λx H2 y=>?_⟩;obtain⟨g,c,k,rfl⟩:=y;subst g
  have:z.cps.toList[i]?=some c:=by grind
  rw [this] at a;have b:D.str ⟨#[c]⟩=d:=cv a;subst b;exact⟨.refl,rfl,by rw [di]; show 1<=16777216; decide⟩
 ·show z.cps.size<=i
  unfold signs at e
  simp_all
def Cu(a:Int)(n:Nat):List D:=(dD n).map fun(i:Nat)=>.int (a+(i:Int))
theorem Gj{K:Frag}{M:Ch->Prop}{H:Hp}{e:Int}{m:Nat}:Yields K M H (ac e m) (Cu e m):=by
 intro i k l p _;refine⟨λd a=>?_,λg=>?_⟩
 ·unfold Cu at a
  rw [dR] at a
  have f:=by
   cases q:(dD m)[i]? with
   | none=>simp_all
   | some c=>simpa using (cr.mp q).1
  rw [List.getElem?_range f] at a;have b:=cv a;subst b;refine⟨f,λx H2 y=>?_⟩;obtain⟨h,j⟩:=y;subst h;exact⟨.refl,j⟩
 ·show m<=i
  unfold Cu at g
  simp_all
section
variable {X:Cx}{tg e e2:Expr}{κ:Kd}{wa:DW}{ws:Ef}{p pos:Pos}
theorem QF(h:DE X e κ wa)(o:κ≠.tp:=by intro z; cases z):DI X tg e (BI wa):=by
 obtain⟨t,r,s⟩:=h;refine⟨_,Pq r,λC M H n u x P A R w q=>?_⟩;refine s C M H n u x _ _ R w λv c d f g i y p=>?_;have j:=y.shOf R.dom o;cases d with
 | lst k =>
  obtain⟨a,l,e,b,m⟩:=j;exact .inl ⟨a,e,⟨l,b.sq⟩,q _ c k f g i (NY b m) p⟩
 | tup k =>
  obtain⟨a,l,e,b,m⟩:=j;exact .inr (.inl ⟨a,e,⟨l,b.sq⟩,q _ c k f g i (JL b m) p⟩)
 | str z=>exact .inr (.inr ⟨z,j.1,q _ c _ f g i yields_str p⟩)
 | _=>exact p.elim
def EJ(ws:Ef):Ef:=λn a P=>ws n a λb c=>∃j:Int,b=[.int j]/\(-(2 ^ 62)<=j/\j<2 ^ 62)/\P (Cu 0 j.toNat) c
theorem CU(b:Gl X "range")(c:X.mg "range"=none)(d:Wm X [e] ws)(f:starEach [e] X.env=[(false,eval e X.env)]:=by rfl):DI X tg (.Call (.Name "range" p) [e] [] pos) (EJ ws):=by
 obtain⟨t,g,h⟩:=d;refine⟨_,R0 b c g f,λC M H n i k P x R w q=>?_⟩;refine h C M H n i k _ _ R w λy l z m o s u p=>?_;obtain⟨j,rfl,a,p⟩:=p;cases u with
 | cons r v =>
  cases v;exact⟨j,by rw [r],a.1,a.2,q _ l _ m o s Gj p⟩
theorem DI.c(h:DI X tg e ws):Xd X tg e ws:=by
 obtain⟨a,b,d⟩:=h;exact⟨a,b,λC M H n f g P i R w q=>d C M H n f g P i R w λJ j k l m o y p=>q J j k l m o y.e p⟩
theorem BS(h:DE X e κ wa):Xd X tg e (BI wa):=by
 obtain⟨t,B,D⟩:=h;refine⟨_,Pq B,λC M H n E F P O R w q=>?_⟩;refine D C M H n E F _ _ R w λv g d k l m G p=>?_;have f:AtT X.K C.V M g d v:=G.tpOf R.dom R.vM;cases d with
 | lst r =>
  obtain⟨a,b,e,u,c,j⟩:=f;refine .inl ⟨a,e,⟨b,.inl c⟩,q _ g r k l m (λi Q I J ex _=>?_) p⟩
  have s:SqL X.K I a b:=by
   rcases c with c | ⟨o,c⟩
   ·exact .inl (.inl (ex.keep c λz=>u (R.uV a z)))
   ·exact .inl (.inr ⟨o,ex.keep c λz=>u (R.uV a z)⟩)
  refine⟨λd L=>?_,λN=>⟨b,s,by rw [j.length]; exact N⟩⟩;obtain⟨v,e,f⟩:=(j.pres J).get L;refine⟨⟨b,v,s,e⟩,λx H2 y=>?_⟩;obtain⟨e2,y⟩:=y;subst e2
  have:some v=some x:=e.symm.trans (y b s)
  cases this;exact⟨.refl,f⟩
 | tup r =>
  obtain⟨a,b,e,A,j⟩:=f;exact .inr (.inl ⟨a,e,⟨b,A.sq⟩,q _ g r k l m (JL A j).e p⟩)
 | str z=>exact .inr (.inr ⟨z,f.1,q _ g _ k l m yields_str.e p⟩)
 | _=>exact p.elim
end
abbrev BW:=D->List Slot->(List Slot->Prop)->Prop
def DG(X:Cx)(h:c_)(b:BW):Prop:=∃g,PG X h g/\∀(C:Fm) (M:Ch->Prop) (H:Hp) (n:Nat) (a:List Slot) (c:L2.St) (d:D) (v:V) (P:List Slot->Prop) (Q:L2.St->Hp->Prop),Rel X.K C M H n a c->At X.K M H d v->b d a P ->
 (∀e f,Rel X.K C M H n e f->P e->Q f H)->g v c H Q
def Af(i:Nat):BW:=λd a P=>P (a.set i (.sh d))
theorem Ah{X:Cx}{i:Nat}{x:Str}{pos:Pos}(a:X.N.Nodup)(b:X.N[i]?=some x)(c:Loc X.env.scope x)(e:X.fn x=true\/X.env.scope.names.lookup x=some .local:=by first | exact .inl rfl | exact .inr rfl | assumption):DG X (.Name x pos) (Af i) :=
 ⟨_,Gx a b c e,λC M H n f g d v P Q R h w q=>q _ _ (R.set h) w⟩
def Bm(b:BW)(a:Aj)(c:E2):List D->Nat->List Slot->Prop
 | [],n,e=>c.nx n e
 | d::f,n,e=>b d e λg=>a { c with nx:=Bm b a c f,ct:=Bm b a c f,bk:=c.nx } n g
def E6(c:Ef)(b:BW)(a:Aj):Aj:=λe n d=>c n d λf g=>Bm b a e f g d
theorem Rel.unpin{K:Frag}{C:Fm}{p:(Ch->Prop)×Hp}{M:Ch->Prop}{H:Hp}{n:Nat}{a:List Slot}{b:L2.St}(R:Rel K { C with zG:=p::C.zG } M H n a b):Rel K C M H n a b :=
 ⟨R.len,R.sub,R.dom,R.ext,R.fU,R.uV,R.vM,R.feed,R.sl,λq c=>R.pin q (Re _ c),R.br0,R.new,R.two,R.kept⟩
theorem Rel.pinned{K:Frag}{C:Fm}{M:Ch->Prop}{H:Hp}{n:Nat}{a:List Slot}{b:L2.St}(R:Rel K C M H n a b):Rel K { C with zG:=(M,H)::C.zG } M H n a b :=
 ⟨R.len,R.sub,R.dom,R.ext,R.fU,R.uV,R.vM,R.feed,R.sl,λq c=>(T0.mp c).elim (λe=>e▸Pres.refl M H) (R.pin q),R.br0,R.new,R.two,R.kept⟩
section
variable {X:Cx}{κ:Kd}{tg iter:Expr}{body:List Stmt}{src:Ef}{b:BW}{wb:Aj}{pos:Pos}
theorem DX(S:iA (model X.prog X.w) X.A X.env X.xe)(T:X.calm=true)(I:DI X tg iter src)(U:DG X tg b)(V:QR X κ body wb)
  (W:∀x,foldedSetIterable iter X.env x=pure x:=by intro _; rfl):DS X κ (.For tg iter body [] pos) (E6 src b wb):=by
 obtain⟨wi,Y,Z⟩:=I;obtain⟨g,g1,g2⟩:=U;obtain⟨tb,b1,b2⟩:=V;refine⟨_,Jh S T Y g1 b1 W,λC M H n N σ h E R L w=>?_⟩;refine Z C M H n N σ _ _ R w λJ u a n1 e1 f1 y w1=>?_;have R1:=R.step e1 f1;refine⟨λi m v j=>m=a.length - i/\i<=a.length/\∃c k o,Rel X.K { C with zG:=(M,u)::C.zG } c j k o v/\Bm b wb h (a.drop i) k o,⟨a.length,by simp,TM _,M,n1,N,R1.pinned,w1⟩,?_⟩;rintro i m v j ⟨rfl,I,c,k,o,l,z⟩;have O:Pres M u c j:=l.pin (M,u) Op
 by_cases d:i<a.length
 ·have ed:a.drop i=a[i]::a.drop (i+1):=eI d
  rw [ed] at z;obtain⟨go,yl⟩:=(y i c j O l.dom).1 a[i] (No d);refine .inr ⟨go,λP H2=>∃M2 B D,Rel X.K { C with zG:=(M,u)::C.zG } M2 H2 B D P/\Bm b wb h (a.drop (i+1)) B D,λP H2 ⟨M2,B,D,f,w2⟩=>⟨a.length - (i+1),by omega,rfl,d,M2,B,D,f,w2⟩,λx H2 hy=>?_⟩;obtain⟨Q,hx⟩:=yl x H2 hy;have f:=l.step Q.ext (l.feed.grow Q);refine g2 _ c H2 k o v a[i] x _ _ f hx z λzP zV R3 w3=>?_;refine b2 _ c H2 k zP zV { h with nx:=Bm b wb h (a.drop (i+1)),ct:=Bm b wb h (a.drop (i+1)),bk:=h.nx } _ R3 ⟨λp F q r G s t=>⟨p,q,r,s,t⟩,L.rt,λp F q r G s t=>L.nx p F q r G s.unpin t,λp F q r G s t=>⟨p,q,r,s,t⟩⟩ w3
 ·have e:i=a.length:=by omega
  subst e;rw [fz] at z;exact .inl ⟨(y _ c j O l.dom).2 (On _),L.nx c j k o v l.unpin z⟩
end
def Ci(b:BW)(f:HI)(g:DW)(P:List D->Nat->Prop):List D->List D->Nat->List Slot->Prop
 | [],a,n,_=>P a n
 | d::h,a,n,j=>b d j λe=>f n e λc i=>if c=true then g i e λy k=>Ci b f g P h (a++[y]) k e else Ci b f g P h a i e
def Ui:Slot->Slot
 | .ow d=>.br d
 | .lt _ d=>.br d
 | s=>s
theorem SM(s:Slot):(Ui s).owns=false:=by cases s <;> rfl
theorem Er{a:List (Option Nat)}{b:List Slot}{i:Nat}{s:Slot}(h:(a.map λo=>match o with | some i=>Ui ((b[i]?).getD .no) | none=>Slot.no)[i]?=some s):s.owns=false:=by
 rw [dR] at h;cases q:a[i]? with
 | none=>grind
 | some o =>
  rw [q] at h;cases o with
  | none =>
   rw [← cv h]; rfl
  | some j =>
   rw [← cv h]; exact SM _
def G2(a:List (Option Nat))(b:List Slot):List Slot:=a.map λo=>match o with
 | some i=>Ui ((b[i]?).getD .no)
 | none=>.no
def BR(f:List (Option Nat))(a:Ef)(b:BW)(g:HI)(h:DW):DW:=λn d P=>a n d λe i=>e.length<=10000000/\Ci b g h (λc j=>P (.lst c) j) e [] i (G2 f d)
def ZG(X:Cx)(a:List c_)(w:HI):Prop:=∃t,aV X a t/\∀(C:Fm) (M:Ch->Prop) (H:Hp) (n:Nat) (d:List Slot) (e:L2.St) (P:Bool->Nat->Prop) (Q:Bool->Hp->Prop),Rel X.K C M H n d e->w n d P ->
 (∀b c f,Ext C.U H c->FeedC X.K C.F M c f->P b f->Q b c)->t e H Q
def CW:HI:=λn _ P=>P true n
theorem Bh{X:Cx}:ZG X [] CW:=⟨_,Vo,λC M H n a b P Q R w q=>q _ H n (Ext.refl _ _) R.feed w⟩
theorem Dt{X:Cx}{c:c_}{w:HI}(h:DT X c w):ZG X [c] w:=by
 obtain⟨t,a,b⟩:=h;exact⟨t,Vn a,b⟩
theorem Lb{c:List (Option Nat)}{d:List Slot}{g:L2.St}{i:Nat}{s:Slot}(a:(G2 c d)[i]?=some s):s=.no\/∃(j:Nat) (b:Slot),d[j]?=some b/\s=Ui b/\((Co c g)[i]?).getD none=(g[j]?).getD none:=by
 unfold G2 at a;unfold Co;rw [dR] at a ⊢;cases q:c[i]? with
 | none=>simp_all
 | some o =>
  rw [q] at a;cases o with
  | none=>simp_all
  | some j =>
   have e:Ui _=s:=cv a;cases f:d[j]? with
   | none=>rw [f] at e; exact .inl e.symm
   | some b =>
    rw [f] at e;exact .inr ⟨j,b,f,e.symm,rfl⟩
theorem OR{K:Frag}{F:Option (Ch×Ch)}{U m M g:Ch->Prop}{H h:Hp}{n:List (Option Nat)}{o:List Slot}{p:L2.St}(k:∀(i:Nat) (s:Slot),o[i]?=some s->SlotOk K F U M H s ((p[i]?).getD none))
  (r:Pres M H g h) (br:∀d v,AtT K U M H d v->AtT K m g h d v):∀(i:Nat) (s:Slot),(G2 n o)[i]?=some s->SlotOk K F m g h s (((Co n p)[i]?).getD none):=by
 intro i s w
 rcases Lb w with rfl | ⟨j,u,q,rfl,e⟩
 ·trivial
 ·rw [e]
  have c:=k j u q;cases u with
  | no=>trivial
  | sh d=>obtain⟨v,b,f⟩:=c; exact⟨v,b,f.pres r⟩
  | ex a x y z=>obtain⟨b,f⟩:=c; exact⟨b,f.pres r⟩
  | br d=>obtain⟨v,b,f⟩:=c; exact⟨v,b,br d v f⟩
  | fd=>exact c
  | ow d=>obtain⟨a,b,_,l,t⟩:=c; exact⟨_,b,br d _ (t.att l)⟩
  | lt a d=>obtain⟨b,_,l,t⟩:=c; exact⟨_,b,br d _ (t.att l)⟩
theorem Qw{K:Frag}{F:Option (Ch×Ch)}{U M:Ch->Prop}{H:Hp}{k:List (Option Nat)}{l:List Slot}{m:L2.St}(g:∀(i:Nat) (s:Slot),l[i]?=some s->SlotOk K F U M H s ((m[i]?).getD none)){i:Nat}{d:D}{a:Ch}
  (r:(G2 k l)[i]?=some (.br d)) (n:((Co k m)[i]?).getD none=some (.ref a)):∃o,H a=some o:=by
 rcases Lb r with z | ⟨j,p,q,z,e⟩
 ·cases z
 ·rw [e] at n
  have f:=g j p q;rw [n] at f;cases p with
  | br d=>obtain⟨v,c,u⟩:=f; cases c; exact u.lies
  | ow d=>obtain⟨b,c,_,h,t⟩:=f; cases c; exact(t.att h).lies
  | lt b d=>obtain⟨c,_,h,t⟩:=f; cases c; exact(t.att h).lies
  | no=>cases z
  | sh d=>cases z
  | ex a w x y=>cases z
  | fd=>cases z
section
variable {X:Cx}{zT:Kd}{tg elt iter:Expr}{ifs:List Expr}{sc:Scope}{pos:Pos}{src:Ef}{b:BW}{tt:HI}{te:DW}
theorem Wc(hc:X.calm=true)(N':List Str)(js:List (Option Nat))(hi:Xd X tg iter src)(hg:∀I C s H L,DG (A3 X sc N' I C s H L) tg b)(ht:∀I C s H L,ZG (A3 X sc N' I C s H L) ifs tt)(he:∀I C s H L,DE (A3 X sc N' I C s H L) elt zT te)
  (hB:G9 sc X.env.scope X.N N' js=true) (hk:zT≠.tp:=by intro z; cases z)
  (hs:∀x,foldedSetIterable iter X.env x=pure x:=by intro _; rfl):DE X (.ListComp elt [⟨tg,iter,ifs,0⟩] sc pos) .fr (BR js src b tt te):=by
 obtain⟨wi,a1,a2⟩:=hi;refine⟨_,Vt hc N' js a1 hB hs,λC M H n ρ σ P Q R w q=>?_⟩;refine a2 C M H n ρ σ _ _ R w λJ O r n1 u f1 y w1=>?_;obtain⟨b2,w1⟩:=w1;have R1:=R.step u f1;intro l hl b4 I Ca s0 H0 L;obtain⟨g,g1,g2⟩:=hg I Ca s0 H0 L;obtain⟨tc,c1,c2⟩:=ht I Ca s0 H0 L;obtain⟨tx,x1,x2⟩:=he I Ca s0 H0 L
 have a3:¬C.U l:=λz=>by
  obtain⟨o,z⟩:=R1.udom l z;rw [hl] at z; cases z
 generalize S:(λb=>M b\/b=l)=M';have a4:M' l:=by rw [← S]; exact .inr rfl
 have M'of:∀b,M b->M' b:=λb z=>by rw [← S]; exact .inl z
 have a0:∀b,M' b->M b\/b=l:=λb z=>by rw [← S] at z; exact z
 have a9:∀b,C.V b\/b=l->M' b:=λb z=>z.elim (λz=>M'of b (R1.vM b z)) λz=>by rw [z]; exact a4
 have b3:js.length=N'.length:=Fb (CompOk.of hB).cap
 refine⟨g,tc,tx,λi m zZ D=>m=r.length - i/\i<=r.length/\∃n' zY k E,Rel X.K ⟨M',C.F,C.U,λb=>C.V b\/b=l,O,[],[]⟩ M' D n' zY zZ/\D l=some (.lst E)/\Ats X.K M' D k E/\k.length<=i/\Pres M O M' D /\
   Ci b tt te (λk n2=>P (.lst k) n2) (r.drop i) k n' zY,g1,c1,x1,⟨r.length,by simp,TM _,n1,G2 js ρ,[],[],?_⟩,?_⟩
 ·have G:Grow O (A4 O l (.lst [])):=A1 hl
  have T:Pres M O M' (A4 O l (.lst [])):=⟨λb o e _=>G.all b o e,λb z=>(a0 b z).elim .inl λz=>.inr (by rw [z]; exact hl),λb E e=>G.all b _ e⟩;refine⟨⟨?_,λa z=>z,λa z=>?_,G.ext,R1.fU,λa z=>.inl (R1.uV a z),a9,f1.pres T λf o _ e=>G.all f.1 o e,?_,λp hp=>absurd hp (by simp),λi d a q z=>Qw R1.sl q z,λi s a q o _=>absurd o (by rw [Er q]; decide),λi j s t a q o _ _ _ _=>absurd o (by rw [Er q]; decide),λp hp=>absurd hp (by simp)⟩,AX,rfl,TM _,T,w1⟩
  ·unfold G2 Co
   rw [Go,Go]
  ·rcases a0 a z with z | z
   ·obtain⟨o,z⟩:=R1.dom a z
    exact⟨o,G.all a o z⟩
   ·subst z
    exact⟨_,AX⟩
  ·refine OR R1.sl T λd v h=>h.same T (λa o _ e=>G.all a o e) λa e n1 z=>z.elim n1 λz=>?_
   subst e;obtain⟨o,w⟩:=h.lies;rw [z,hl] at w;cases w
 ·rintro i m zZ D ⟨rfl,hi,n',zY,k,E,R',a6,W,a7,T,w'⟩
  by_cases Y:i<r.length
  ·have ed:r.drop i=r[i]::r.drop (i+1):=eI Y
   rw [ed] at w';obtain⟨go,yl⟩:=(y i M' D T R'.ext R'.dom).1 r[i] (No Y);refine .inr ⟨go,λx H2 hy=>?_⟩;obtain⟨G,hx⟩:=yl x H2 hy;have b0:=R'.step G.ext (R'.feed.grow G);refine g2 _ M' H2 n' zY zZ r[i] x _ _ b0 hx w' λzP zV R3 w3=>?_;refine c2 _ M' H2 n' zP zV _ _ R3 w3 λc H4 n4 e4 f4 w4=>?_;have R4:=R3.step e4 f4;have p4:Pres M' D M' H4:=G.pres.trans (R3.pres e4);have l4:H4 l=some (.lst E):=e4.keep (G.all _ _ a6) a3;cases c with
   | false=>exact⟨r.length - (i+1),by omega,rfl,Y,n4,zP,k,E,R4,l4,W.pres p4,by omega,T.trans p4,w4⟩
   | true =>
    refine x2 _ M' H4 n4 zP zV _ _ R4 w4 λyv H5 d5 n5 e5 f5 r5 w5=>?_;have A:=R4.step e5 f5;have p5:Pres M' H4 M' H5:=R4.pres e5;have l5:H5 l=some (.lst E):=e5.keep l4 a3;have b1:=r5.shOf R4.dom hk;have a5:=(W.pres p4).pres p5;have pu:Pres M' H5 M' (A4 H5 l (.lst (E++[yv]))):=Fw a4 l5;have b5:E.length=k.length:=W.length;refine⟨E,l5,by rw [di]; omega,r.length - (i+1),by omega,rfl,Y,n5,zP,k++[d5],E++[yv],?_,AX,(a5.append (Ats.one b1)).pres pu,by rw [XV,dB]; omega,(T.trans p4).trans (p5.trans pu),w5⟩;refine⟨A.len,A.sub,λa z=>?_,λb o e=>?_,A.fU,A.uV,A.vM,?_,λj s hs=>?_,λp hp=>absurd hp (by simp),A.br0,A.new,A.two,λp hp=>absurd hp (by simp)⟩
    ·by_cases ha:a=l
     ·subst ha; exact⟨_,AX⟩
     ·rw [AQ ha]; exact A.dom a z
    ·obtain⟨o',q1,q2⟩:=A.ext b o e
     by_cases hb:b=l
     ·subst hb
      have e':O b=some o:=e;rw [hl] at e'; cases e'
     ·exact⟨o',by rw [AQ hb]; exact q1,q2⟩
    ·refine f5.pres pu λf o hf e=>?_
     rw [AQ (λz=>a3 (by rw [← z]; exact R1.fU f hf))];exact e
    ·have B:=A.sl j s hs
     cases s with
     | no=>trivial
     | sh d=>obtain⟨v,u,Z⟩:=B; exact⟨v,u,Z.pres pu⟩
     | ex a nm ks r=>obtain⟨u,Z⟩:=B; exact⟨u,Z.pres pu⟩
     | br d =>
      obtain⟨v,u,Z⟩:=B;refine⟨v,u,Z.same pu (λa o z e=>?_) λ_ _ z=>z⟩;subst z;obtain⟨o3,w⟩:=A.br0 j d a hs u
      have a7:a≠l:=λz=>by
       have w':O a=some o3:=w;rw [z,hl] at w'; cases w'
      rw [AQ a7]; exact e
     | ow d =>
      obtain⟨a,u,Z,_⟩:=B;exact absurd Z (A.new j _ a hs rfl u).1
     | lt a d =>
      obtain⟨u,Z,_⟩:=B;exact absurd Z (A.new j _ a hs rfl u).1
     | fd=>exact B
  ·have e:i=r.length:=by omega
   subst e;rw [fz] at w';refine .inl ⟨(y _ M' D T R'.ext R'.dom).2 (On _),?_⟩;have eb:Ext C.U O D:=R'.ext;have a8:Pres M' D M D:=Pres.less M'of;refine q _ D (.lst k) n' (u.trans eb) (R'.feed.pres a8 λ_ _ _ z=>z) (VR.back u ?_) w';exact⟨l,rfl,hl,E,a6,by rw [S]; exact W⟩
end
theorem HU{K:Frag}{F:Option (Ch×Ch)}{U k M:Ch->Prop}{H:Hp}{n:Nat}{c:List Slot}{f:List V}{N:List Str}(h:Y5 K F U k M H n c f)(I:f.length<=N.length) :
  Rel K ⟨M,F,U,k,H,[],[]⟩ M H n (c++Uf (N.length - c.length) .no) (L2.start N f):=by
 obtain⟨u,A,B,C,fd,q⟩:=h;have D:f.length=c.length:=Paired.length q
 have E:∀{f:List V} {c:List Slot} {i:Nat} {s:Slot},Paired (L8 K F k M H) f c->c[i]?=some s->∃v,f[i]?=some v/\L8 K F k M H v s:=by
  intro f c i s q
  induction q generalizing i with
  | nil=>intro e; simp at e
  | cons r t G =>
   intro e;cases i with
   | zero=>simp at e; subst e; exact⟨_,rfl,r⟩
   | succ i =>
    obtain⟨v,l,m⟩:=G (i:=i) (by simpa using e);exact⟨v,by simpa using l,m⟩
 have g:∀(i:Nat) (s:Slot),(c++Uf (N.length - c.length) Slot.no)[i]?=some s->s=.no\/∃v,((L2.start N f)[i]?).getD none=some v/\L8 K F k M H v s:=by
  intro i s b
  by_cases x:i<c.length
  ·rw [fk x] at b
   obtain⟨v,l,m⟩:=E q b;refine .inr ⟨v,?_,m⟩;unfold L2.start;rw [fk (by rw [Go,D]; exact x),dR,l];rfl
  ·rw [eB (by omega),gs] at b
   split at b
   ·exact .inl (cv b).symm
   ·cases b
 refine⟨?_,λa z=>z,u,Ext.refl _ _,A,B,C,fd,λi s b=>?_,λp w=>absurd w (by simp),λi d a b y=>?_,λi s a b o _=>?_,λi j s t a b o _ _ _ _=>?_,λp w=>absurd w (by simp)⟩
 ·unfold L2.start
  simp only [XV,Go,jf];omega
 ·rcases g i s b with rfl | ⟨v,e,h⟩
  ·trivial
  ·rw [e]; exact h.1
 ·rcases g i _ b with z | ⟨v,e,h⟩
  ·cases z
  ·rw [e] at y
   cases y;obtain⟨v,l,m⟩:=h.1;cases l;exact m.lies
 ·rcases g i s b with rfl | ⟨v,e,h⟩
  ·cases o
  ·rw [h.2] at o; cases o
 ·rcases g i s b with rfl | ⟨v,e,h⟩
  ·cases o
  ·rw [h.2] at o; cases o
theorem be{P:cz}{w:dC}{K:Frag}{y:Str->Option Cn}{e:cw}{x b:Str}{j:dE}{f:Ch}{fd:dU}{N g:List Str}{k:Nat}{m:Kd}{W:W2}{B:Aj}(F:Fun K x b j f fd)(S:Ai N g (AH j))(G:g.length<=N.length)
  (I:∀(c:Cn) (A:dL) (a:List Env) (s:FM) (H:Hp) (E:XK),Room k (A.deeper (envOfC b (AH j) s.heap.objs.size f c))->QR (EX CL P w K y e N b (AH j) f c A a s H E).nox m (BX j) B)
  (hW:∀l n i,l.length=g.length->W l n i->B { nx:=λn _=>m=.sh/\i .non n,rt:=i } n (l++Uf (N.length - g.length) .no)) :
  BD P w K y e CL (k+1) f fd g (Di K m W g.length):=by
 refine F.ok S (λC H Q E h=>h.1) (λc A a s H C Q E J h=>?_);obtain⟨hl,L,U,O,M,n,l,i,D,hw,q⟩:=h;obtain⟨t,T,V⟩:=I c A a s H E J;refine⟨t,T,?_⟩;have el:C.length=l.length:=Paired.length D.2.2.2.2.2;have R:=HU (N:=N) D (by omega);refine V ⟨M,L,U,O,H,[],[]⟩ M H n _ _ { nx:=λn _=>m=.sh/\i .non n,rt:=i } _ R ⟨λM1 o r zU zK u p=>?_,λv o d r X Y Z p=>q v o d r X Y Z p,λ_ _ _ _ _ _ z=>z.elim,λ_ _ _ _ _ _ z=>z.elim⟩ ?_
 ·obtain⟨hk,p⟩:=p
  subst hk;exact q .non o .non r u.ext (u.feed.pres (Pres.less u.sub) λ_ _ _ z=>z) rfl p
 grind
end Dp
namespace L2
section
variable {X:Cx}
theorem Inv.rdl{c:List (Ch×Obj)}{d:L2.St}{H:Hp}{s:FM}{l:Ch}{b:List V}(I:Inv X c d H s)(h:Rd H l (.lst b)):b.length<=sizeLine/\∃(a:List Cn) (n:Nat),Vals b a/\b.length=a.length/\s.heap.get? l=some { cls:=.type "list",data:=.seq a.toArray n }:=by
 obtain⟨z,a,n,r,e⟩:=h.ok I.hok;exact⟨z,_,n,r,r.length,e⟩
theorem Mc:OpR X (binaryOp .Add) (λx y H Q=>∃l b d f,x=.ref l/\y=.ref b/\Rd H l (.lst d)/\Rd H b (.lst f)/\d.length+f.length<=sizeLine/\∀p,H p=none->Q (.ref p) (A4 H p (.lst (d++f)))):=by
 intro A s B H x y v u Q I g i h;obtain⟨l,b,d,f,rfl,rfl,j,k,C,q⟩:=h;cases g;cases i;obtain⟨z,c,n,r,D,e⟩:=I.rdl j;obtain⟨E,a,F,m,o,t⟩:=I.rdl k;refine PySem.P.add_list e t ?_ (by grind);have w:c.toArray++a.toArray=(c++a).toArray:=by simp
 rw [w];exact⟨.ref _,_,I.lnew (r.append m) (by grind),rfl,q _ I.fresh⟩
end
end L2
namespace Dp
open L2
section
variable {K:Frag}
theorem AtT.int{U M:Ch->Prop}{H:Hp}{i:Int}{v:V}(h:AtT K U M H (.int i) v):v=.int i:=h
theorem AtT.bl{U M:Ch->Prop}{H:Hp}{i:Bool}{v:V}(h:AtT K U M H (.bl i) v):v=.bl i:=h
theorem AtT.str{U M:Ch->Prop}{H:Hp}{x:Str}{v:V}(h:AtT K U M H (.str x) v):v=.str x/\x.length<=sizeLine:=h
theorem AtT.tup{U M:Ch->Prop}{H:Hp}{b:List D}{v:V}(h:AtT K U M H (.tup b) v):∃a c,v=.ref a/\NdT M H a c/\Ats K M H b c:=h
def aw(g:Int->Int->(D->Prop)->Prop)(d e:D)(P:D->Prop):Prop:=match d,e with
 | .int i,.int j=>g i j P
 | _,_=>False
theorem M7{g:Int->Int->(D->Prop)->Prop}{d e:D}{P:D->Prop}(w:aw g d e P):∃i j,d=.int i/\e=.int j/\g i j P:=by
 unfold aw at w
 split at w
 ·grind
 grind
def f2(g:Int->Int->D):D->D->(D->Prop)->Prop:=aw λi j P=>P (g i j)
def PK(C:Int->Int->Prop)(g:Int->Int->D):D->D->(D->Prop)->Prop:=aw λi j P=>C i j/\P (g i j)
theorem VS{g:Int->Int->Int}:E5 K .sh (IY λi j=>.int (g i j)) (f2 λi j=>.int (g i j)):=by
 intro U M H d e x y P Q a f b c w q;obtain⟨i,j,rfl,rfl,w⟩:=M7 w;exact⟨i,j,b,c,q _ H (.int _) .refl rfl w⟩
theorem QP{g:Int->Int->Bool}:E5 K .sh (IY λi j=>.bl (g i j)) (f2 λi j=>.bl (g i j)):=by
 intro U M H d e x y P Q a f b c w q;obtain⟨i,j,rfl,rfl,w⟩:=M7 w;exact⟨i,j,b,c,q _ H (.bl _) .refl rfl w⟩
theorem C6{C:Int->Int->Prop}{g:Int->Int->Int}:E5 K .sh (rI C λi j=>.int (g i j)) (PK C λi j=>.int (g i j)):=by
 intro U M H d e x y P Q a f b c w q;obtain⟨i,j,rfl,rfl,w⟩:=M7 w;exact⟨i,j,b,c,w.1,q _ H (.int _) .refl rfl w.2⟩
def ZI(g:Str->Str->(D->Prop)->Prop)(d e:D)(P:D->Prop):Prop:=match d,e with
 | .str i,.str j=>g i j P
 | _,_=>False
theorem Q4{g:Str->Str->(D->Prop)->Prop}{d e:D}{P:D->Prop}(w:ZI g d e P):∃i j,d=.str i/\e=.str j/\g i j P:=by
 unfold ZI at w
 split at w
 ·grind
 grind
theorem QO{g:Str->Str->Bool}:E5 K .sh (λx y H Q=>∃i j,x=.str i/\y=.str j/\Q (.bl (g i j)) H) (ZI λi j P=>P (.bl (g i j))):=by
 intro U M H d e x y P Q a f b c w q;obtain⟨i,j,rfl,rfl,w⟩:=Q4 w;exact⟨i,j,b.1,c.1,q _ H (.bl _) .refl rfl w⟩
theorem Sv:E5 K .sh (λx y H Q=>∃i j,x=.str i/\y=.str j/\i.length+j.length<=sizeLine/\Q (.str (i++j)) H) (ZI λi j P=>i.length+j.length<=sizeLine/\P (.str (i++j))):=by
 intro U M H d e x y P Q a f b c w q;obtain⟨i,j,rfl,rfl,w⟩:=Q4 w;exact⟨i,j,b.1,c.1,w.1,q _ H (.str _) .refl ⟨rfl,by rw [i_ i j]; exact w.1⟩ w.2⟩
def bg(g:List D->List D->(D->Prop)->Prop)(d e:D)(P:D->Prop):Prop:=match d,e with
 | .tup i,.tup j=>g i j P
 | _,_=>False
def av(g:List D->List D->(D->Prop)->Prop)(d e:D)(P:D->Prop):Prop:=match d,e with
 | .lst i,.lst j=>g i j P
 | _,_=>False
theorem WE{g:List D->List D->(D->Prop)->Prop}{d e:D}{P:D->Prop}(w:bg g d e P):∃i j,d=.tup i/\e=.tup j/\g i j P:=by
 unfold bg at w
 split at w
 ·grind
 grind
theorem WF{g:List D->List D->(D->Prop)->Prop}{d e:D}{P:D->Prop}(w:av g d e P):∃i j,d=.lst i/\e=.lst j/\g i j P:=by
 unfold av at w
 split at w
 ·grind
 grind
theorem ET{M:Ch->Prop}{H:Hp}{p:Ch}{b:List V}{c:List D}(d:∀a,M a->∃o,H a=some o)(e:H p=none)(h:Ats K M H c b):At K M (A4 H p (.tup b)) (.tup c) (.ref p):=⟨p,b,rfl,AX,h.pres (A1 e).pres⟩
theorem Cy{U M:Ch->Prop}{H:Hp}{p:Ch}{a:List V}{b:List D}(c:H p=none)(h:Ats K M H b a):VR K U M H (A4 H p (.lst a)) .fr (.ref p) (.lst b) :=
 ⟨p,rfl,c,a,AX,h.pres (Ga c)⟩
theorem Su:E5 K .sh (T8 K) (bg λi j P=>i≠[]/\i.length+j.length<=sizeLine/\P (.tup (i++j))):=by
 intro U M H d e x y P Q c u o r w q;obtain⟨i,j,rfl,rfl,w⟩:=WE w;obtain⟨a,g,rfl,h,f⟩:=o.tup;obtain⟨b,s,rfl,t,k⟩:=r.tup;have l:=f.length;have m:=k.length;refine⟨a,b,g,s,rfl,rfl,h.sq,t.sq,λz=>w.1 ?_,by simp_all,λz=>?_,λz p n=>?_⟩
 ·rw [z] at l; exact f_.mp l.symm
 ·rw [z] at m
  have:j=[]:=f_.mp m.symm
  subst this;exact q _ H (.tup i) .refl ⟨a,g,rfl,h,f⟩ (by grind)
 ·exact q _ _ (.tup (i++j)) (A1 n) (ET c n (f.append k)) w.2.2
theorem Ho:E5 K .fr (λx y H Q=>∃l b c f,x=.ref l/\y=.ref b/\Rd H l (.lst c)/\Rd H b (.lst f)/\c.length+f.length<=sizeLine/\∀p,H p=none->Q (.ref p) (A4 H p (.lst (c++f)))) (av λi j P=>i.length+j.length<=sizeLine/\P (.lst (i++j))):=by
 intro U M H d e x y P Q m v n o w q;obtain⟨i,j,rfl,rfl,w⟩:=WF w;obtain⟨a,r,rfl,_,s,g⟩:=n;obtain⟨b,t,rfl,_,u,h⟩:=o;exact⟨a,b,r,t,rfl,rfl,s,u,by rw [g.length,h.length]; exact w.1,λp k=>q _ _ _ (A1 k) (Cy k (g.append h)) w.2⟩
def D_(a:Bool)(d e:D)(P:D->Prop):Prop:=match d,e with
 | .bl i,.bl j=>P (.bl (if a then !(i==j) else i==j))
 | .int i,.int j=>P (.bl (if a then !(i==j) else i==j))
 | .str i,.str j=>P (.bl (if a then !(i==j) else i==j))
 | _,_=>False
theorem Q6{a:Bool}{d e:D}{P:D->Prop}(w:D_ a d e P):(∃i j,d=.bl i/\e=.bl j/\P (.bl (if a then !(i==j) else i==j)))\/(∃i j,d=.int i/\e=.int j/\P (.bl (if a then !(i==j) else i==j)))\/∃i j,d=.str i/\e=.str j/\P (.bl (if a then !(i==j) else i==j)):=by
 unfold D_ at w
 split at w
 ·simp_all
 ·simp_all
 ·simp_all
 grind
theorem De:E5 K .sh b_ (D_ false):=by
 intro U M H d e x y P Q c f a b w q
 rcases Q6 w with ⟨i,j,rfl,rfl,w⟩ | ⟨i,j,rfl,rfl,w⟩ | ⟨i,j,rfl,rfl,w⟩
 ·rw [a.bl,b.bl]; exact⟨rfl,q _ H _ .refl (by rw [NB]; rfl) w⟩
 ·rw [a.int,b.int]; exact⟨rfl,q _ H _ .refl (by rw [JC]; rfl) w⟩
 ·rw [a.str.1,b.str.1]; exact⟨rfl,q _ H _ .refl (by rw [JB]; rfl) w⟩
theorem LF:E5 K .sh b7 (D_ true):=by
 intro U M H d e x y P Q c f a b w q
 rcases Q6 w with ⟨i,j,rfl,rfl,w⟩ | ⟨i,j,rfl,rfl,w⟩ | ⟨i,j,rfl,rfl,w⟩
 ·rw [a.bl,b.bl]; exact⟨rfl,q _ H _ .refl (by rw [NB]; rfl) w⟩
 ·rw [a.int,b.int]; exact⟨rfl,q _ H _ .refl (by rw [JC]; rfl) w⟩
 ·rw [a.str.1,b.str.1]; exact⟨rfl,q _ H _ .refl (by rw [JB]; rfl) w⟩
def Oc:D->Bool
 | .non=>true
 | _=>false
theorem Ob{U M:Ch->Prop}{H:Hp}{d:D}{x:V}(h:AtT K U M H d x):decide (x=.non)=Oc d:=by
 cases d with
 | non=>rw [h]; rfl
 | bl b=>rw [h.bl]; rfl
 | int i=>rw [h.int]; rfl
 | str z=>rw [h.str.1]; rfl
 | tup c=>obtain⟨a,e,rfl,_⟩:=h.tup; rfl
 | lst c=>obtain⟨a,e,rfl,_⟩:=h; rfl
 | dic f c=>obtain⟨a,e,rfl,_⟩:=h; rfl
 | fdi f c=>obtain⟨a,e,rfl,_⟩:=h; rfl
 | dit f c=>obtain⟨a,e,rfl,_⟩:=h; rfl
def A8(d e:D)(P:D->Prop):Prop:=match d,e with
 | .lst a,.int i=>∃z,atI a i=some z/\P z
 | .tup a,.int i=>∃z,atI a i=some z/\P z
 | .str x,.int i=>∃c,atI x.cps.toList i=some c/\P (.str ⟨#[c]⟩)
 | _,_=>False
theorem WG{d e:D}{P:D->Prop}(w:A8 d e P):(∃a i z,d=.lst a/\e=.int i/\atI a i=some z/\P z)\/(∃a i z,d=.tup a/\e=.int i/\atI a i=some z/\P z)\/∃x i c,d=.str x/\e=.int i/\atI x.cps.toList i=some c/\P (.str ⟨#[c]⟩):=by
 unfold A8 at w
 split at w
 ·simp_all
 ·simp_all
 ·simp_all
 grind
theorem Ats.atI{M:Ch->Prop}{H:Hp}{a:List D}{b:List V}{i:Int}{z:D}(h:Ats K M H a b)(e:atI a i=some z):∃v,L2.atI b i=some v/\At K M H z v:=by
 unfold L2.atI at e ⊢;rw [h.length];cases q:S0 _ i with
 | none=>grind
 | some j =>
  rw [q] at e;exact h.get e
theorem Ao:E5 K .sh (b8 K) A8:=by
 intro U M H d e x y P Q n r f g w q
 rcases WG w with ⟨o,i,z,rfl,rfl,h,w⟩ | ⟨o,i,z,rfl,rfl,h,w⟩ | ⟨x,i,c,rfl,rfl,p,w⟩
 ·obtain⟨a,j,rfl,_,k,l⟩:=f
  obtain⟨v,m,b⟩:=l.atI h;exact .inl ⟨a,j,i,v,rfl,g,.inl k,m,q v H z .refl b w⟩
 ·obtain⟨a,j,rfl,k,l⟩:=f.tup
  obtain⟨v,m,b⟩:=l.atI h;exact .inr (.inl ⟨a,j,i,v,rfl,g,k.sq,m,q v H z .refl b w⟩)
 ·exact .inr (.inr ⟨x,i,c,f.str.1,g,f.str.2,p,q _ H (.str _) .refl ⟨rfl,by show 1<=16777216; decide⟩ w⟩)
def cutD{b:Type}(a:List b)(c d:Option Int):List b:=(a.drop (HT.sIx a.length 0 c)).take (HT.sIx a.length a.length d - HT.sIx a.length 0 c)
theorem Ew{R:V->D->Prop}{a:List V}{d:D}(h:Paired R a [d]):∃v,a=[v]/\R v d:=by
 cases h with
 | cons r t=>cases t; grind
def bV:D->Option Nat
 | .str x=>some x.length
 | .tup a=>some a.length
 | .lst a=>some a.length
 | _=>none
def Ce(a:List D)(P:D->Prop):Prop:=∃d n,a=[d]/\bV d=some n/\P (.int (n:Int))
theorem Bu:Ft K .sh (λe H Q=>∃x n,e=[x]/\Y9 K x H n/\Q (.int n) H) Ce:=by
 intro U M H k l P Q i m j w q;obtain⟨d,n,rfl,b,w⟩:=w;obtain⟨v,rfl,c⟩:=Ew j;refine⟨v,n,rfl,?_,q _ H (.int _) .refl rfl w⟩;cases d with
 | str z=>cases b; rw [c.str.1]; exact⟨c.str.2,rfl⟩
 | tup e =>
  cases b;obtain⟨a,f,rfl,g,h⟩:=c.tup;exact .inr ⟨f,g.sq,h.length.symm⟩
 | lst e =>
  cases b;obtain⟨a,f,rfl,_,g,h⟩:=c;exact .inl ⟨f,.inl g,h.length.symm⟩
 | _=>cases b
def allB:List D->Option (List Bool)
 | []=>some []
 | .bl b::r=>(allB r).map (b::·)
 | _::_=>none
theorem RG{M:Ch->Prop}{H:Hp}:∀{d:List D} {a:List V} {c:List Bool},allB d=some c->Ats K M H d a->a=c.map V.bl
 | [],a,c,e,h=>by cases e; exact h
 | .bl b::r,a,c,e,h=>by
  obtain⟨v,l,f,g,i⟩:=h;obtain⟨j,k,rfl⟩:=fS.mp e;rw [f,RG k i,g];rfl
 | .non::r,a,c,e,h=>by cases e
 | .int _::r,a,c,e,h=>by cases e
 | .str _::r,a,c,e,h=>by cases e
 | .tup _::r,a,c,e,h=>by cases e
 | .lst _::r,a,c,e,h=>by cases e
 | .dic _ _::r,a,c,e,h=>by cases e
 | .fdi _ _::r,a,c,e,h=>by cases e
 | .dit _ _::r,a,c,e,h=>by cases e
def Oh(c:List D)(P:D->Prop):Prop:=∃a b,c=[.lst a]/\allB a=some b/\P (.bl (b.all id))
theorem RN:Ft K .sh (λc H Q=>∃(p:Ch) (b:List Bool),c=[.ref p]/\SqL K H p (b.map V.bl)/\Q (.bl (b.all id)) H) Oh:=by
 intro U M H j k P Q d l f w q;obtain⟨c,b,rfl,e,w⟩:=w;obtain⟨v,rfl,g⟩:=Ew f;obtain⟨a,m,rfl,_,h,i⟩:=g
 have:=RG e i
 subst this;exact⟨a,b,rfl,.inl h,q _ H (.bl _) .refl rfl w⟩
def O8:List D->Option (List Str)
 | []=>some []
 | .str b::r=>(O8 r).map (b::·)
 | _::_=>none
theorem NQ{M:Ch->Prop}{H:Hp}:∀{d:List D} {a:List V} {c:List Str},O8 d=some c->Ats K M H d a->a=c.map V.str
 | [],a,c,e,h=>by cases e; exact h
 | .str b::r,a,c,e,h=>by
  obtain⟨v,l,f,g,i⟩:=h;obtain⟨j,k,rfl⟩:=fS.mp e;rw [f,NQ k i,g.1];rfl
 | .non::r,a,c,e,h=>by cases e
 | .int _::r,a,c,e,h=>by cases e
 | .bl _::r,a,c,e,h=>by cases e
 | .tup _::r,a,c,e,h=>by cases e
 | .lst _::r,a,c,e,h=>by cases e
 | .dic _ _::r,a,c,e,h=>by cases e
 | .fdi _ _::r,a,c,e,h=>by cases e
 | .dit _ _::r,a,c,e,h=>by cases e
def Ux(d:D)(c:List D)(P:D->Prop):Prop:=∃(z:Str) (b:List D) (a:List Str),d=.str z/\c=[.lst b]/\O8 b=some a/\(a.map (·.length)).sum+a.length*z.length<=16777216/\(Txt.join z a).length<=16777216/\P (.str (Txt.join z a))
theorem Y1:cI K .sh "str" (λx c H Q=>∃(z:Str) (p:Ch) (b:List Str),x=.str z/\c=[.ref p]/\SqL K H p (b.map V.str)/\(b.map (·.length)).sum+b.length*z.length<=16777216/\Q (.str (Txt.join z b)) H) Ux:=by
 intro U M H d m x n P Q f o g h w q;obtain⟨z,c,b,rfl,rfl,e,i,r,w⟩:=w;obtain⟨v,rfl,j⟩:=Ew h;obtain⟨a,s,rfl,_,k,l⟩:=j
 have:=NQ e l
 subst this;exact⟨z,a,b,g.str.1,rfl,.inl k,i,q _ H (.str _) .refl ⟨rfl,by assumption⟩ w⟩
def M6(b:List D)(P:D->Prop):Prop:=match b with
 | [.lst a]=>P (.lst a)
 | [.tup a]=>P (.lst a)
 | _=>False
theorem RK:Ft K .fr (λi H Q=>∃p c,i=[.ref p]/\(SqL K H p c\/SqT K H p c)/\∀l,H l=none->Q (.ref l) (A4 H l (.lst c))) M6:=by
 intro U M H k m P Q j n h w q;unfold M6 at w
 split at w
 ·obtain⟨v,rfl,d⟩:=Ew h
  obtain⟨a,e,rfl,_,f,g⟩:=d;exact⟨a,e,rfl,.inl (.inl f),λl b=>q _ _ _ (A1 b) (Cy b g) w⟩
 ·obtain⟨v,rfl,d⟩:=Ew h
  obtain⟨a,e,rfl,f,g⟩:=d.tup;exact⟨a,e,rfl,.inr f.sq,λl b=>q _ _ _ (A1 b) (Cy b g) w⟩
 grind
end
def VZ:D->String
 | .non => "NoneType"
 | .bl _ => "bool"
 | .int _ => "int"
 | .str _ => "str"
 | .tup _ => "tuple"
 | .lst _ => "list"
 | .dic _ _ => "dict"
 | .fdi _ _ => "dict"
 | .dit _ _ => "dict"
def Oa(t T:String):Bool:=t==T||(t == "bool"&&T == "int")
def Eh(T:String)(a:DW):DW:=λn b P=>a n b λd c=>P (.bl (Oa (VZ d) T)) c
structure LH (K:Frag) (T:String):Prop where
 ans:∀t∈["NoneType","bool","int","str","tuple","list","dict"],PySem.W.kitOne K (.type t) (.type T)=some (Oa t T)
theorem QW{K:Frag}{M U:Ch->Prop}{H:Hp}{d:D}{x:V}(h:AtT K U M H d x):F4 K H x (.type (VZ d)):=by
 cases d with
 | non=>cases (h); exact .non
 | bl b=>cases h.bl; exact .bl b
 | int i=>cases h.int; exact .int i
 | str z=>cases h.str.1; exact .str z
 | tup e =>
  obtain⟨a,f,rfl,c,j⟩:=h.tup;exact .tup c
 | lst e =>
  obtain⟨a,f,rfl,_,c,j⟩:=h
  rcases c with c | ⟨o,c⟩
  ·exact .lst c
  ·exact .frz c
 | dic g e =>
  obtain⟨a,f,rfl,_,c,_⟩:=h;exact .dK c
 | fdi g e =>
  obtain⟨a,f,rfl,⟨o,_,c⟩,_⟩:=h;exact .dF c
 | dit g e =>
  obtain⟨a,f,rfl,_,c,_⟩:=h;exact .dT c
theorem QX(d:D):VZ d∈["NoneType","bool","int","str","tuple","list","dict"]:=by cases d <;> simp [VZ]
theorem Bx{X:Cx}{a:c_}{o:Kd}{l:DW}{T:String}{b:Str}{p c pos:Pos}(r:LH X.K T)(s:DE X a o l)(u:Gl X "isinstance")(x:X.mg "isinstance"=none)(e:Gl X b)(f:X.mg b=none)(g:bootBuiltins b=some (.type T))
  (h:b ≠ "__name__":=by decide) (i:(b==("__debug__":Str))=false:=by decide)
  (m:starEach [a,.Name b c] X.env=(false,eval a X.env)::starEach [.Name b c] X.env:=by rfl) (j:starEach [.Name b c] X.env=[(false,eval (.Name b c) X.env)]:=by rfl)
  (k:(backTo pos (starEach [.Name b c] X.env)).any (·.1)=false:=by rfl):DE X (.Call (.Name "isinstance" p) [a,.Name b c] [] pos) .sh (Eh T l):=by
 obtain⟨t,y,z⟩:=s;have A:PE X (.Name b c) (tC (.ty T)):=Iv e f g rfl h i;exact⟨_,Cv O1 u x (by decide +kernel) (BB y (BB A B0 j) m) (by decide) (by decide) m k,λC M H n B D P Q R w q=>z C M H n B D _ _ R w λv E d F G I J p=>⟨v,T,_,_,rfl,QW (J.tpOf R.dom R.vM),r.ans _ (QX d),q _ E (.bl _) F G I rfl p⟩⟩
section
variable {K:Frag}{X:Cx}
def XN(d e:D)(P:D->Prop):Prop:=match d,e with
 | .int i,.int j=>P (.int (i+j))
 | .str i,.str j=>i.length+j.length<=sizeLine/\P (.str (i++j))
 | .tup i,.tup j=>i≠[]/\i.length+j.length<=sizeLine/\P (.tup (i++j))
 | .lst i,.lst j=>i.length+j.length<=sizeLine/\P (.lst (i++j))
 | _,_=>False
def Zx:R2:=λx y H Q=>∃l b a c,x=.ref l/\y=.ref b/\Rd H l (.lst a)/\Rd H b (.lst c)/\a.length+c.length<=sizeLine/\∀p,H p=none->Q (.ref p) (A4 H p (.lst (a++c)))
def Zw:R2:=λx y H Q=>∃i j,x=.str i/\y=.str j/\i.length+j.length<=sizeLine/\Q (.str (i++j)) H
def T4(g:Str->Str->Bool):R2:=λx y H Q=>∃i j,x=.str i/\y=.str j/\Q (.bl (g i j)) H
def T9(K:Frag):R2:=λx y H Q=>(IY λi j=>.int (i+j)) x y H Q\/Zw x y H Q\/T8 K x y H Q\/Zx x y H Q
theorem op_addU:OpR X (binaryOp .Add) (T9 X.K):=op_add.or ((Pw).or (op_catT.or (Mc)))
theorem NR:E5 X.K .sh (T9 X.K) XN:=λU M H d e x y P Q a b c f w q=>by
 unfold XN at w
 split at w
 ·exact .inl (VS U M H _ _ x y P Q a b c f w q)
 ·exact .inr (.inl (Sv U M H _ _ x y P Q a b c f w q))
 ·exact .inr (.inr (.inl (Su U M H _ _ x y P Q a b c f w q)))
 ·exact .inr (.inr (.inr (Ho U M H _ _ x y P Q a b c f w λv h z g r p=>q v h z g (r.shOf a (by grind)) p)))
 grind
def aI(d e:D)(P:D->Prop):Prop:=match d,e with
 | .int i,.int j=>P (.bl (decide (i<j)))
 | .str i,.str j=>P (.bl (decide (i.cps.toList<j.cps.toList)))
 | _,_=>False
def X8:R2:=λx y H Q=>(IY λi j=>.bl (decide (i<j))) x y H Q\/T4 (λi j=>decide (i.cps.toList<j.cps.toList)) x y H Q
theorem op_ltU:OpR X (compareOp .Lt) X8:=op_lt.or R9
theorem Xa:E5 X.K .sh X8 aI:=λU M H d e x y P Q a b c f w q=>by
 unfold aI at w
 split at w
 ·exact .inl (QP U M H _ _ x y P Q a b c f w q)
 ·exact .inr (QO U M H _ _ x y P Q a b c f w q)
 grind
def Sg(d e:D)(P:D->Prop):Prop:=match d,e with
 | .int i,.int j=>P (.bl (decide (i<=j)))
 | .str i,.str j=>P (.bl (!(decide (j.cps.toList<i.cps.toList))))
 | _,_=>False
def Zo:R2:=λx y H Q=>(IY λi j=>.bl (decide (i<=j))) x y H Q\/T4 (λi j=>!(decide (j.cps.toList<i.cps.toList))) x y H Q
theorem MZ:OpR X (compareOp .LtE) Zo:=op_le.or R_
theorem RL:E5 X.K .sh Zo Sg:=λU M H d e x y P Q a b c f w q=>by
 unfold Sg at w
 split at w
 ·exact .inl (QP U M H _ _ x y P Q a b c f w q)
 ·exact .inr (QO U M H _ _ x y P Q a b c f w q)
 grind
def Zs:R2:=IY λi j=>.bl (decide (j<i))
theorem Jl:OpR X (compareOp .Gt) Zs:=XD
theorem O_:E5 X.K .sh Zs (f2 λi j=>.bl (decide (j<i))):=QP
def Zr:R2:=T4 λi j=>!(d6 j i 0 j.length 1).isEmpty
theorem YO:OpR X (compareOp .In) Zr:=SA
theorem aR:E5 X.K .sh Zr (ZI λi j P=>P (.bl (!(d6 j i 0 j.length 1).isEmpty))):=QO
def Zh:V->Option Int->Option Int->Hp->VK->Prop:=λx a b H Q=>∃z,x=.str z/\z.length<=sizeLine/\Q (.str (Txt.slice z a b)) H
theorem sl_U:SlR X Zh:=X1
def Eg(w:DW):DW:=λn a P=>w n a λd b=>∃i,d=.int i/\P (.int (-i)) b
theorem CK{a:c_}{c:Kd}{b:DW}{pos:Pos}(h:DE X a c b):DE X (.UnaryOp .USub a pos) .sh (Eg b):=by
 obtain⟨t,e,f⟩:=h;refine⟨_,Z0 Xo e,λC M H n g j P Q R w q=>?_⟩;refine f C M H n g j _ _ R w λv k d l m o r p=>?_;obtain⟨i,rfl,p⟩:=p;exact⟨i,J8 r,q _ k (.int _) l m o rfl p⟩
def Got(P:cz)(w:dC)(K:Frag)(c:Str->Option Cn)(a:cw)(x:Str)(k:Nat)(b:List Str)(e:Kd)(W:W2):Prop :=
 ∃f fd,BD P w K c a CL k f fd b (Di K e W b.length)/\c x=some (.ref f)/\keepIn K (.ref f)=true/\Binds K fd b []/\∀d n P,W d n P->d.length=b.length
theorem Bn{e:c_}{a:List c_}{k:Nat}{h:List Str}{g:Kd}{W:W2}{x:Str}{p pos:Pos}{b:S1}(G:Got X.prog X.w X.K X.mg X.base x k h g W)
  (i:Room k X.A) (j:Gl X x) (l:Xe X (e::a) b)
  (c:(x==("__debug__":Str))=false:=by decide) (m:starEach (e::a) X.env=(false,eval e X.env)::starEach a X.env:=by rfl) (d:(backTo pos (starEach a X.env)).any (·.1)=false:=by rfl) :
  DE X (.Call (.Name x p) (e::a) [] pos) g (AZ W b):=by
 obtain⟨f,fd,G,n,o,q,r⟩:=G;exact Wd G r i j n o q l c m d
def W9(b:Nat)(g:List D->D):W2:=λc n P=>∃a:List D,a.length=b/\c=a.map .sh/\P (g a) n
theorem HY{a:Nat}{g:List D->D}{b:List Slot}{n:Nat}{P:D->Nat->Prop}(h:W9 a g b n P):b.length=a:=by
 obtain⟨c,e,rfl,_⟩:=h
 grind
theorem Mu:LH K "int":=⟨λt a=>by
 simp at a
 rcases a with rfl | rfl | rfl | rfl | rfl | rfl | rfl <;> kernel_rfl⟩
theorem OY:LH K "bool":=⟨λt a=>by
 simp at a
 rcases a with rfl | rfl | rfl | rfl | rfl | rfl | rfl <;> kernel_rfl⟩
theorem Mt:LH K "str":=⟨λt a=>by
 simp at a
 rcases a with rfl | rfl | rfl | rfl | rfl | rfl | rfl <;> kernel_rfl⟩
theorem kit_tuple:LH K "tuple":=⟨λt a=>by
 simp at a
 rcases a with rfl | rfl | rfl | rfl | rfl | rfl | rfl <;> kernel_rfl⟩
theorem FU:LH K "list":=⟨λt a=>by
 simp at a
 rcases a with rfl | rfl | rfl | rfl | rfl | rfl | rfl <;> kernel_rfl⟩
end
theorem GX{i:Nat}{f:DW}{P:List D->Nat->Prop}{g:D->D}(I:List Slot->Prop)(j:∀d a,I a->I (a.set i (.sh d))) :
  ∀(c b:List D) (n:Nat) (a:List Slot),(∀d∈c,∀a n k,I a->k (g d) n->f n (a.set i (.sh d)) k)->I a->P (b++c.map g) n->Ci (Af i) CW f P c b n a
 | [],b,n,a,_,_,h=>by
  rw [jP,dS] at h;exact h
 | d::c,b,n,a,l,e,h=>by
  refine l d Op a n _ e ?_;refine GX I j c _ n _ (λd m=>l d (Re _ m)) (j d a e) ?_
  simp_all
theorem HB{b:Type}(p:b->Bool):∀l:List b,allB (l.map λc=>.bl (p c))=some (l.map p)
 | []=>rfl
 | a::l=>by
  rw [dG];unfold allB;rw [HB p l];rfl
theorem VM{a b:Bool}{P:D->Nat->Prop}{n:Nat}{k:(D->Nat->Prop)->Prop}(c:a=true->P (.bl b) n->k P)(h:P (.bl (a&&b)) n):(match (.bl a:D) with | .bl true=>k P | .bl false=>P (.bl false) n | _=>False):=by
 cases a with
 | false=>exact h
 | true=>grind
theorem QC{P:cz}{w:dC}{K:Frag}{d:Str->Option Cn}{a:cw}{x:Str}{h:dE}{f:Ch}{fd:dU}{k:Nat}{c:List Str}{e:Kd}{W:W2}(F:Fun K x x h f fd)(m:d x=some (.ref f))(b:Binds K fd c [])
  (i:∀g n P,W g n P->g.length=c.length) (ok:BD P w K d a CL k f fd c (Di K e W c.length)):Got P w K d a x k c e W:=⟨f,fd,ok,m,F.kp,b,i⟩
def Nn(K:Frag):Sp:=λc H Q _=>∃a b,c=[V.ref a]/\(fo (α:=Int) b<=63/\SqL K H a (b.map V.int))/\∀d,Q (.bl true) d
def ME(K:Frag):Sp:=λe H Q _=>∃a b,e=[V.ref a]/\(fo (α:=Int) b<=63/\SqL K H a (b.map V.int)) /\
 ∀(c f:Ch) (d:Hp),c≠f->d c=some (.lst (b.map V.int))->d f=some (.lst [.ref c,.int 0,.int 0])->Q (.ref f) d
theorem aP{a:List Int}(h:a.length<=63):Ot (a.map V.int) none (some 63)=a.map V.int:=by
 have e:HT.sIx (a.map V.int).length (a.map V.int).length (some 63)=a.length:=by
  rw [show (63:Int)=(63:Nat) from rfl,HT.sIx_nat,Go,Nat.min_eq_right h]
 unfold Ot;rw [HT.sIx_none]
 grind
theorem Hf{b:BW}{e:Aj}{g:E2}(I:Nat->Nat->List Slot->Prop)(f:∀n a,I 0 n a->g.nx n a)
  (c:∀(k:Nat) (d:D) (n:Nat) (a:List Slot) (nx:Nat->List Slot->Prop),I (k+1) n a->(∀i l,I k i l->nx i l)->b d a λm=>e { g with nx:=nx,ct:=nx,bk:=g.nx } n m) :
  ∀(j:List D) (n:Nat) (a:List Slot),I j.length n a->Bm b e g j n a
 | [],n,a,h=>f n a h
 | d::j,n,a,h=>c _ d n a _ h λi l o=>Hf I f c j i _ o
theorem LX{b:BW}{c:Aj}{g:E2}(I:Nat->Nat->List Slot->Prop)(e:∀n a,I 0 n a->g.nx n a) :
  ∀(f:List D) (n:Nat) (a:List Slot) (_:∀(k:Nat) (d:D) (n:Nat) (a:List Slot) (nx:Nat->List Slot->Prop),d∈f->I (k+1) n a->(∀i j,I k i j->nx i j)->b d a λm=>c { g with nx:=nx,ct:=nx,bk:=g.nx } n m),
   I f.length n a->Bm b c g f n a
 | [],n,a,_,h=>e n a h
 | d::f,n,a,l,h=>l _ d n a _ Op h λi j o=>LX I e f i _ (λk d n a nx p=>l k d n a nx (Re _ p)) o
theorem aF{P:cz}{w:dC}{K:Frag}{J:Str->Option Cn}{u:cw}{C O:dE}{B:List dE}{f:Ch}{fd:dU}{D:List Str}{k n0:Nat}{T:Aj}(F:Fun K "law" "law" C f fd)
  (S:Ai ("_law_script" :: "_law_feed_here"::D) ["_law_script"] (AH C)) (L:BX C=O::B) (Y:n0<=2 ^ 60)
  (Z:∀(n:Cn) (A:dL) (l:List Env) (s:FM) (H:Hp) (E:XK),Room k (A.deeper (envOfC "law" (AH C) s.heap.objs.size f n)) ->
   PS (EX CL P w K J u ("_law_script" :: "_law_feed_here"::D) "law" (AH C) f n A l s H E).nox O (Nj (Th (ME K) [] E0 (Qc (CH 0) Ve)) (IB 1)))
  (h2:∀(n:Cn) (A:dL) (l:List Env) (s:FM) (H:Hp) (E:XK),Room k (A.deeper (envOfC "law" (AH C) s.heap.objs.size f n)) ->
   QR (EX CL P w K J u ("_law_script" :: "_law_feed_here"::D) "law" (AH C) f n A l s H E).nox .sh B T)
  (hW:T { nx:=λ_ _=>False,rt:=λd _=>d=.bl true } n0 (.no::.fd::Uf D.length .no)):BD P w K J u CL (k+1) f fd ["_law_script"] (Nn K):=by
 refine F.ok S (λvs H Q E h=>?_) (λn A l s H vs Q E U h=>?_)
 ·obtain⟨a,M,rfl,_⟩:=h
  rfl
 ·obtain⟨a,M,rfl,⟨W,hS⟩,q⟩:=h
  obtain⟨t,t1,t2⟩:=h2 n A l s H E U;refine⟨Rl (Nj (Th (ME K) [] E0 (Qc (CH 0) Ve)) (IB 1)) t,by rw [L]; exact BL (Z n A l s H E U) t1,?_⟩;refine⟨_,rfl,a,M,rfl,⟨W,hS⟩,λc g I G hc X=>?_⟩
  have y:∀(i:Nat) (x:Slot),(Slot.no::Slot.fd::Uf D.length Slot.no)[i]?=some x->Slot.no=x\/(Slot.fd=x/\i=1):=by
   intro i x m
   match i,m with
   | 0,m=>exact .inl (cv m)
   | 1,m=>exact .inr ⟨cv m,rfl⟩
   | i+2,m =>
    rw [jU,jU,gs] at m
    split at m
    ·exact .inl (cv m)
    ·cases m
  have R:Rel K ⟨λb=>b=g,some (g,c),λb=>b=g,λb=>b=g,I,[],[]⟩ (λb=>b=g) I n0 (.no::.fd::Uf D.length .no) ((start ("_law_script" :: "_law_feed_here"::D) [V.ref a]).set 1 (some (.ref g))):=by
   refine⟨by simp [L2.start],λ_ z=>z,λb z=>⟨_,(congrArg I z).trans X⟩,Ext.refl _ _,λb z=>by rw [← cv z],λ_ z=>z,λ_ z=>z,λb z=>?_,λi x m=>?_,λp N=>absurd N (by simp),λi d b m _=>?_,λi x b m o _=>?_,λi j x t b m o _ _ _ _=>?_,λp N=>absurd N (by simp)⟩
   ·have e:(g,c)=b:=cv z
    subst e;exact⟨0,0,M,X,G,⟨G,hc⟩,W,by decide,by omega⟩
   ·rcases y i x m with e | ⟨e,rfl⟩
    ·rw [← e]; trivial
    ·rw [← e]
     exact⟨(g,c),by simp [L2.start],rfl⟩
   ·rcases y i _ m with e | ⟨e,_⟩ <;> cases e
   ·rcases y i x m with e | ⟨e,_⟩ <;> (rw [← e] at o; cases o)
   ·rcases y i x m with e | ⟨e,_⟩ <;> (rw [← e] at o; cases o)
  refine t2 _ _ I n0 _ _ { nx:=λ_ _=>False,rt:=λd _=>d=.bl true } _ R ⟨λ_ _ _ _ _ _ z=>z.elim,λv H2 d n' _ _ r p=>?_,λ_ _ _ _ _ _ z=>z.elim,λ_ _ _ _ _ _ z=>z.elim⟩ hW;have e:d=.bl true:=p;subst e;have e2:v=.bl true:=r;subst e2;exact q H2
end Dp
namespace L2
section
variable {X:Cx}
theorem Gm:∀{a:List Cn} {b:List Str},StrsAre a b->Vals (b.map V.str) a
 | _,_,.nil=>.nil
 | _,_,.cons x t r=>.cons ⟨t,rfl⟩ (Gm r)
def T6(K:Frag):List V->Hp->VK->Prop:=λc H Q=>∃(p:Ch) (b:List Str),c=[.ref p]/\SqL K H p (b.map V.str)/\b.length<64/\∀(a:List Str) (l:Ch),a.Perm b->sortedS a=true->H l=none->Q (.ref l) (A4 H l (.lst (a.map V.str)))
theorem KY:C2 X (.builtin "sorted") (T6 X.K):=by
 intro y s A H B C Q I r h;obtain⟨p,D,rfl,f,g,q⟩:=h;obtain⟨u,rfl,i⟩:=vals1 r;cases i;obtain⟨j,c,k,E⟩:=I.list f;have a:=c.length;rw [Go] at a;refine sorted_strs k.isList (JT c) (by omega) λl m n d t=>?_;obtain⟨e,v⟩:=sortedAll_at _ _ _;have w:=d.length_eq;have x:=I.hok.fresh (dq _);refine⟨.ref _,_,I.laid (λb o z=>sortedAll_old z) (dq _) (show ObjOk _ _ _ _ _ (.lst _) from⟨?_,_,e,Gm n,?_⟩),rfl,q _ _ d t x⟩
 ·grind
 ·exact v
def W5:R2:=λx y H Q=>∃z k,x=.str z/\y=.int k/\MulOk z k/\Q (.str (Txt.mul z k)) H
theorem Vx:OpR X (binaryOp .Mult) W5:=by
 intro e s f H x y v u Q I a b h;obtain⟨z,k,rfl,rfl,c,q⟩:=h;obtain⟨t,rfl⟩:=a;obtain⟨d,rfl⟩:=b;exact SB.mul c λd k=>⟨.str _,H,I.tok _,⟨_,rfl⟩,q⟩
end
end L2
namespace Dp
open L2
section
variable {K:Frag}
def B6(b:List D)(P:D->Prop):Prop:=match b with
 | [.lst a]=>P (.tup a)
 | [.tup a]=>P (.tup a)
 | _=>False
theorem Cz:Ft K .sh (λj H Q=>∃p d,j=[.ref p]/\((SqL K H p d/\∀l,H l=none->Q (.ref l) (A4 H l (.tup d)))\/(SqT K H p d/\Q (.ref p) H))) B6:=by
 intro U M H k m P Q e n h w q;unfold B6 at w
 split at w
 ·obtain⟨v,rfl,f⟩:=Ew h
  obtain⟨a,b,rfl,_,c,g⟩:=f;exact⟨a,b,rfl,.inl ⟨.inl c,λl i=>q _ _ (.tup _) (A1 i) (ET e i g) w⟩⟩
 ·obtain⟨v,rfl,f⟩:=Ew h
  obtain⟨a,b,rfl,c,g⟩:=f.tup;exact⟨a,b,rfl,.inr ⟨c.sq,q _ H (.tup _) .refl ⟨a,b,rfl,c,g⟩ w⟩⟩
 grind
theorem Ats.strs{M:Ch->Prop}{H:Hp}:∀{a:List Str},(∀x∈a,x.length<=sizeLine)->Ats K M H (a.map D.str) (a.map V.str)
 | [],_=>rfl
 | x::r,h=>⟨_,_,rfl,⟨rfl,h x Op⟩,Ats.strs λy b=>h y (Re _ b)⟩
theorem Ats.strs_le{M:Ch->Prop}{H:Hp}:∀{b:List Str} {c:List V},Ats K M H (b.map D.str) c->∀x∈b,x.length<=sizeLine
 | [],_,_=>λx a=>by cases a
 | y::r,c,h=>λx a=>by
  obtain⟨v,t,e,d,f⟩:=h
  rcases T0.mp a with rfl | a
  ·exact d.2
  ·exact Ats.strs_le f x a
def KG(d:List D)(P:D->Prop):Prop:=∃(c:List D) (b:List Str),d=[.lst c]/\O8 c=some b/\b.length<64/\∀a:List Str,a.Perm b->sortedS a=true->P (.lst (a.map .str))
theorem RF:∀{c:List D} {a:List Str},O8 c=some a->c=a.map .str
 | [],a,h=>by cases h; rfl
 | .str b::r,a,h=>by
  obtain⟨t,e,rfl⟩:=fS.mp h;rw [dG,← RF e]
 | .non::r,a,h=>by cases h
 | .int _::r,a,h=>by cases h
 | .bl _::r,a,h=>by cases h
 | .tup _::r,a,h=>by cases h
 | .lst _::r,a,h=>by cases h
 | .dic _ _::r,a,h=>by cases h
 | .fdi _ _::r,a,h=>by cases h
 | .dit _ _::r,a,h=>by cases h
theorem RJ:Ft K .fr (T6 K) KG:=by
 intro U M H p r P Q h s i w q;obtain⟨t,j,rfl,e,b,w⟩:=w;obtain⟨v,rfl,c⟩:=Ew i;obtain⟨a,u,rfl,_,k,d⟩:=c
 have:=NQ e d
 subst this;have m:=RF e;subst m;exact⟨a,j,rfl,.inl k,b,λn l f o g=>q _ _ _ (A1 g) (Cy g (Ats.strs λx c=>d.strs_le x (f.mem_iff.mp c))) (w _ f o)⟩
def C8(d e:D)(P:D->Prop):Prop:=match d,e with
 | .int i,.int j=>CMul i j/\P (.int (i*j))
 | .str z,.int k=>MulOk z k/\(Txt.mul z k).length<=sizeLine/\P (.str (Txt.mul z k))
 | _,_=>False
def W6:R2:=λx y H Q=>(rI CMul λi j=>.int (i*j)) x y H Q\/W5 x y H Q
theorem Do{X:Cx}:OpR X (binaryOp .Mult) W6:=op_mul.or Vx
theorem Fj:E5 K .sh W6 C8:=λU M H d e x y P Q a f b c w q=>by
 unfold C8 at w
 split at w
 ·exact .inl (C6 U M H _ _ x y P Q a f b c w q)
 ·rename_i z k
  exact .inr ⟨z,k,b.1,c,w.1,q _ H (.str _) .refl ⟨rfl,w.2.1⟩ w.2.2⟩
 grind
end
section
variable {X:Cx}{tg e e2:Expr}{es:List Expr}{ws:Ef}{p pos:Pos}
def TC(ws:Ef):Ef:=λn a P=>ws n a λb c=>∃i j:Int,b=[.int i,.int j]/\(-(2 ^ 62)<=i/\i<2 ^ 62/\-(2 ^ 62)<=j/\j<2 ^ 62)/\P (Cu i (j - i).toNat) c
theorem Lp(d:Gl X "range")(f:X.mg "range"=none)(g:Wm X [e,e2] ws)(h:starEach [e,e2] X.env=[(false,eval e X.env),(false,eval e2 X.env)]:=by rfl)(a:starEach [e2] X.env=[(false,eval e2 X.env)]:=by rfl):DI X tg (.Call (.Name "range" p) [e,e2] [] pos) (TC ws):=by
 obtain⟨t,k,l⟩:=g;refine⟨_,Rz d f k h a,λC M H n m o P D R w q=>?_⟩;refine l C M H n m o _ _ R w λE s F u v x y p=>?_;obtain⟨i,j,rfl,z,p⟩:=p;cases y with
 | cons r b =>
  cases b with
  | cons A b =>
   cases b;have B:=r;have c:=A;exact⟨i,j,by rw [B,c],z,q _ s _ u v x Gj p⟩
def bC(X:Cx)(i:List c_)(b:List D->List Slot->(List Slot->Prop)->Prop):Prop:=∃g,aW X i g/\∀(C:Fm) (M:Ch->Prop) (H:Hp) (n:Nat) (a:List Slot) (c:L2.St) (d:List D) (e:List V) (P:List Slot->Prop) (Q:L2.St->Hp->Prop),Rel X.K C M H n a c->Ats X.K M H d e->b d a P ->
 (∀f h,Rel X.K C M H n f h->P f->Q h H)->g e c H Q
def Cj:List D->List Slot->(List Slot->Prop)->Prop:=λa b P=>a=[]/\P b
def Ay(b:BW)(bs:List D->List Slot->(List Slot->Prop)->Prop):List D->List Slot->(List Slot->Prop)->Prop:=λa c P=>match a with
 | d::r=>b d c λe=>bs r e P
 | []=>False
theorem Du:bC X [] Cj:=⟨_,Qp,λC M H n a b c d P Q R h w q=>by
 obtain⟨rfl,w⟩:=w;exact⟨h,q a b R w⟩⟩
theorem BM{b:BW}{bs:List D->List Slot->(List Slot->Prop)->Prop}(c:DG X e b)(f:bC X es bs)(i:(assignEach (e::es) X.env).map (·.2)=assign e X.env::(assignEach es X.env).map (·.2):=by rfl):bC X (e::es) (Ay b bs):=by
 obtain⟨g,j,k⟩:=c;obtain⟨A,l,m⟩:=f;refine⟨_,Gw j l i,λC M H n o s t B P Q R h w q=>?_⟩;cases t with
 | nil=>exact w.elim
 | cons d r =>
  obtain⟨v,a,e,u,x⟩:=h;exact⟨v,a,e,k C M H n o s d v _ _ R u w λE F y z=>m C M H n _ _ r a _ _ y x z q⟩
def E9(k:Nat)(bs:List D->List Slot->(List Slot->Prop)->Prop):BW:=λd b P=>match d with
 | .tup a=>a.length=k/\bs a b P
 | _=>False
theorem FZ{bs:List D->List Slot->(List Slot->Prop)->Prop}{k:Nat}{j:Nat}(f:X.calm=true)(h:bC X es bs)(i:(assignEach es X.env).length=k:=by rfl)(b:(assignEach es X.env).findIdx? (·.1)=none:=by rfl):DG X (.Tuple es j pos) (E9 k bs):=by
 obtain⟨g,l,m⟩:=h;refine⟨_,UK f l i b,λC M H n o r d v P Q R h w q=>?_⟩;cases d with
 | tup s =>
  obtain⟨a,c,rfl,t,e⟩:=h;exact⟨a,c,rfl,t.sq,by rw [e.length]; exact w.1,m C M H n o r s c P Q R e w.2 q⟩
 | _=>exact w.elim
def ZR(c:DW)(b:BW):Aj:=λe n a=>c n a λd f=>b d a λg=>e.nx f g
theorem Yj{k a:Kd}{c:DW}{b:BW}(l:DE X e a c)(m:DG X tg b)(o:a≠.tp:=by intro z; cases z)(q:swapsWithSole [tg] e pos.line X.env=pure false:=by rfl)(r:swappedStores [tg] e X.env=pure none:=by rfl)
  (s:(assignEach [tg] X.env).map (·.2)=[assign tg X.env]:=by rfl):DS X k (.Assign [tg] e pos) (ZR c b):=by
 obtain⟨t,u,x⟩:=l;obtain⟨g,y,A⟩:=m;exact⟨_,MW u y q r s,λC M H n f h J E R L w=>x C M H n f h _ _ R w λv i d j B D F p=>A C M i j f h d v _ _ (R.step B D) (F.shOf R.dom o) p λK N G I=>L.nx M i j _ _ G I⟩
end
end Dp
namespace L2
mutual
def RV(H:Hp):im->V->Prop
 | .none,v=>v=.non
 | .bool b,v=>v=.bl b
 | .int i,v=>v=.int i
 | .str x,v=>v=.str x
 | .tuple xs,v=>∃a vs,v=.ref a/\H a=some (.tup vs)/\RVs H xs vs
 | .list xs,v=>∃a vs,v=.ref a/\Rd H a (.lst vs)/\RVs H xs vs
 | .dict _,_=>False
def RVs(H:Hp):List im->List V->Prop
 | [],vs=>vs=[]
 | x::xs,vs=>∃v r,vs=v::r/\RV H x v/\RVs H xs r
end
section
variable {X:Cx}{zG:List (Addr×Obj)}{σ:L2.St}{H:Hp}{s:Shared}
mutual
theorem RV.reads(I:Inv X zG σ H s):∀{d:im} {v:V} {u:Cn},RV H d v->RelV v u->∃as,Reads s.heap u d as
 | .none,v,u,h,r=>by
  cases (show v=.non from h);cases (show u=dO from r);exact⟨_,.none⟩
 | .bool b,v,u,h,r=>by
  cases (show v=.bl b from h);cases (show u=iD b from r);exact⟨_,.bool b⟩
 | .int i,v,u,h,r=>by
  cases (show v=.int i from h);obtain⟨t,rfl⟩:=r;exact⟨_,.int i t⟩
 | .str x,v,u,h,r=>by
  cases (show v=.str x from h);obtain⟨t,rfl⟩:=r;exact⟨_,.str x t⟩
 | .tuple xs,v,u,h,r=>by
  obtain⟨a,vs,rfl,hq,hs⟩:=h;cases r;obtain⟨its,rv,⟨o,e,c,n,d⟩,_⟩:=I.tuple (X:=X) (xs:=vs) (.inl (.inl hq));obtain⟨as,ra⟩:=RVs.reads I hs rv;exact⟨_,.tuple e c d ra⟩
 | .list xs,v,u,h,r=>by
  obtain⟨a,vs,rfl,hq,hs⟩:=h;cases r;obtain⟨its,rv,pl,_⟩:=I.list (X:=X) (xs:=vs) (.inl hq);obtain⟨o,e,c,n,d⟩:=pl.isList;obtain⟨as,ra⟩:=RVs.reads I hs rv;exact⟨_,.list e c d ra⟩
 | .dict _,v,u,h,r=>h.elim
theorem RVs.reads(I:Inv X zG σ H s):∀{ds:List im} {vs:List V} {us:List Cn},RVs H ds vs->Vals vs us->∃as,ReadsAll s.heap us ds as
 | [],vs,us,h,r=>by
  cases (show vs=[] from h);cases r;exact⟨_,.nil⟩
 | d::ds,vs,us,h,r=>by
  obtain⟨v,w,rfl,h1,h2⟩:=h;cases r with
  | cons r1 r2 =>
   obtain⟨as,a1⟩:=RV.reads I h1 r1;obtain⟨bs,a2⟩:=RVs.reads I h2 r2;exact⟨_,.cons a1 a2⟩
end
end
theorem RV.noDict{H:Hp}:∀(d:im) (v:V),RV H d v->d.hasDict=false
 | d,v,h=>by
  have k:∀(n:Nat),(∀(d:im) (v:V),sizeOf d<=n->RV H d v->d.hasDict=false)/\∀(c:List im) (e:List V),sizeOf c<=n->RVs H c e->jA c=false:=by
   intro n
   induction n with
   | zero =>
    refine⟨λd v h _=>?_,λc e h _=>?_⟩
    ·cases d <;> simp at h
    ·cases c <;> simp at h
   | succ n j =>
    refine⟨λd v h f=>?_,λc e h f=>?_⟩
    ·cases d with
     | tuple g =>
      obtain⟨a,e,_,_,l⟩:=f;simp only [gM]
      grind
     | list g =>
      obtain⟨a,e,_,_,l⟩:=f;simp only [gM]
      grind
     | dict m=>exact(show False from f).elim
     | none=>simp only [gM]
     | bool b=>simp only [gM]
     | int i=>simp only [gM]
     | str x=>simp only [gM]
    ·cases c with
     | nil=>simp only [jA]
     | cons x g =>
      obtain⟨v,w,_,o,p⟩:=f;simp only [jA,j.1 x v (by simp at h; omega) o,j.2 g w (by simp at h; omega) p,Bool.or_false]
  exact(k (sizeOf d)).1 d v (On _) h
section
variable {X:Cx}
def W4:List V->Hp->VK->Prop:=λa H Q=>∃x d,a=[x]/\RV H d x/\d.showable=true/\d.depth<=100/\d.shown.length<=sizeLine/\Q (.str d.shown) H
theorem CV{k:Nat}(g:Room k X.A):C2 X (.builtin "repr") W4:=by
 intro B s C H D E Q I r h;obtain⟨x,d,rfl,c,j,F,l,q⟩:=h;obtain⟨u,rfl,f⟩:=vals1 r;have G:=g.un;cases d with
 | none =>
  cases (show x=.non from c);cases (show u=dO from f);exact PySem.P.repr_of_none ⟨.str _,H,I.tok _,⟨_,rfl⟩,q⟩
 | bool b =>
  cases (show x=.bl b from c);cases (show u=iD b from f);refine PySem.P.repr_of_bool ⟨.str _,H,I.tok _,⟨_,rfl⟩,?_⟩
  assumption
 | int i =>
  cases (show x=.int i from c);obtain⟨t,rfl⟩:=f;refine PySem.P.repr_of_int (by simpa [PyData.showable] using j) ⟨.str _,H,I.tok _,⟨_,rfl⟩,q⟩
 | str z =>
  cases (show x=.str z from c);obtain⟨t,rfl⟩:=f;exact PySem.P.repr_of_str ⟨.str _,H,I.tok _,⟨_,rfl⟩,q⟩ l
 | tuple p =>
  obtain⟨v,m⟩:=RV.reads I c f;obtain⟨a,w,rfl,_⟩:=id c;cases f;refine repr_of_reads' m j (PyData.noDict_hsm (RV.noDict _ _ c)) g.gd (by omega) (λ_ _ e=>e) (λy u n o=>⟨.str _,H,I.kept (t':=n) o,⟨_,rfl⟩,q⟩) l
 | list p =>
  obtain⟨v,m⟩:=RV.reads I c f;obtain⟨a,w,rfl,_⟩:=id c;cases f;refine repr_of_reads' m j (PyData.noDict_hsm (RV.noDict _ _ c)) g.gd (by omega) (λ_ _ e=>e) (λy u n o=>⟨.str _,H,I.kept (t':=n) o,⟨_,rfl⟩,q⟩) l
 | dict _=>exact(show False from c).elim
def Zt:R2:=λx y H Q=>∃d e,RV H d x/\RV H e y/\d.canLay0=true/\e.canLay0=true/\d.depth<=100/\Q (.bl (eW d e)) H
theorem Mb{k:Nat}(a:Room k X.A):OpR X (compareOp .Eq) Zt:=by
 intro n s o H x y v u Q I b c h;obtain⟨d,e,f,g,i,j,p,q⟩:=h;obtain⟨r,l⟩:=RV.reads I f b;obtain⟨t,m⟩:=RV.reads I g c;have w:=a.un;have z:min _ e.depth<=d.depth:=Nat.min_le_left _ _;exact PySem.SeqAt.compareEq_reads l m i j (by omega) ⟨.bl _,H,I,rfl,q⟩
def X_(b:Bool):R2:=λx y H Q=>∃d a,RV H d x/\(RV H (.list a) y\/RV H (.tuple a) y)/\d.canLay0=true/\fi a=true/\d.depth<=100/\Q (.bl (if b then !(a.any λy=>eW y d) else a.any λy=>eW y d)) H
theorem C5{k:Nat}(i:Room k X.A):OpR X (compareOp .In) (X_ false):=by
 intro o s p H x y v u Q I j c h;obtain⟨d,l,m,a,e,f,r,q⟩:=h;obtain⟨t,g⟩:=RV.reads I m j;have w:=i.un;have z:min (eY l) _<=d.depth:=Nat.min_le_right _ _
 rcases a with a | a
 ·obtain⟨n,b⟩:=RV.reads I a c
  exact PySem.SeqAt.in_list_reads b g f e (by omega) ⟨.bl _,H,I,rfl,q⟩
 ·obtain⟨n,b⟩:=RV.reads I a c
  exact PySem.SeqAt.in_tuple_reads b g f e (by omega) ⟨.bl _,H,I,rfl,q⟩
theorem EN{k:Nat}(i:Room k X.A):OpR X (compareOp .NotIn) (X_ true):=by
 intro o s p H x y v u Q I j c h;obtain⟨d,l,m,a,e,f,r,q⟩:=h;obtain⟨t,g⟩:=RV.reads I m j;have w:=i.un;have z:min (eY l) _<=d.depth:=Nat.min_le_right _ _
 rcases a with a | a
 ·obtain⟨n,b⟩:=RV.reads I a c
  exact PySem.SeqAt.notIn_list_reads b g f e (by omega) ⟨.bl _,H,I,rfl,q⟩
 ·obtain⟨n,b⟩:=RV.reads I a c
  exact PySem.SeqAt.notIn_tuple_reads b g f e (by omega) ⟨.bl _,H,I,rfl,q⟩
end
end L2
namespace Dp
open L2
mutual
def toPy:D->im
 | .non=>.none
 | .bl b=>.bool b
 | .int i=>.int i
 | .str x=>.str x
 | .tup ds=>.tuple (Bk ds)
 | .lst ds=>.list (Bk ds)
 | .dic _ _=>.dict []
 | .fdi _ _=>.dict []
 | .dit _ _=>.dict []
def Bk:List D->List im
 | []=>[]
 | d::ds=>toPy d::Bk ds
end
mutual
def FP:D->Bool
 | .tup ds=>CT ds
 | .lst ds=>CT ds
 | .dic _ _=>false
 | .fdi _ _=>false
 | .dit _ _=>false
 | _=>true
def CT:List D->Bool
 | []=>true
 | d::ds=>FP d&&CT ds
end
theorem LO(a:List D):Bk a=a.map toPy:=by
 induction a with
 | nil=>rfl
 | cons d r b=>rw [Bk,b,dG]
theorem P0(a:List D):CT a=a.all FP:=by
 induction a with
 | nil=>rfl
 | cons d r b=>rw [CT,b,fB]
section
variable {K:Frag}{M:Addr->Prop}{H:Hp}
mutual
theorem At.rv:∀{d:D} {v:V},At K M H d v->FP d=true->RV H (toPy d) v
 | .non,v,h,_=>h
 | .bl b,v,h,_=>h
 | .int i,v,h,_=>h
 | .str x,v,h,_=>h.1
 | .tup ds,v,h,n=>by
  obtain⟨a,vs,e,hn,hs⟩:=h;exact⟨a,vs,e,hn,Ats.rv hs n⟩
 | .lst ds,v,h,n=>by
  obtain⟨a,vs,e,hn,hs⟩:=h;exact⟨a,vs,e,.inl hn.2,Ats.rv hs n⟩
 | .dic ks ds,v,h,n=>by cases n
 | .fdi ks ds,v,h,n=>by cases n
 | .dit ks ds,v,h,n=>by cases n
theorem Ats.rv:∀{ds:List D} {vs:List V},Ats K M H ds vs->CT ds=true->RVs H (Bk ds) vs
 | [],vs,h,_=>h
 | d::ds,vs,h,n=>by
  obtain⟨v,r,e,h1,h2⟩:=h;have n':(FP d&&CT ds)=true:=n;rw [cq] at n';exact⟨v,r,e,At.rv h1 n'.1,Ats.rv h2 n'.2⟩
end
theorem AtT.rv{U:Ch->Prop}{d:D}{v:V}(h:AtT K U M H d v)(n:FP d=true):RV H (toPy d) v:=by
 cases d with
 | lst c =>
  obtain⟨a,g,e,_,j,k⟩:=h;exact⟨a,g,e,j,Ats.rv k n⟩
 | dic f c=>cases n
 | fdi f c=>cases n
 | dit f c=>cases n
 | non=>exact h
 | bl b=>exact h
 | int i=>exact h
 | str x=>exact h.1
 | tup c=>exact At.rv h n
def Gr(d:D):Prop:=FP d=true/\(toPy d).showable=true/\(toPy d).depth<=100/\(toPy d).shown.length<=sizeLine
def BF(d:D):Str:=(toPy d).shown
def DU(a:List D)(P:D->Prop):Prop:=∃d,a=[d]/\Gr d/\P (.str (BF d))
theorem Fi:Ft K .sh W4 DU:=by
 intro U M H f g P Q b h c w q;obtain⟨d,rfl,a,w⟩:=w;obtain⟨v,rfl,e⟩:=Ew c;exact⟨v,_,rfl,e.rv a.1,a.2.1,a.2.2.1,a.2.2.2,q _ H (.str _) .refl ⟨rfl,a.2.2.2⟩ w⟩
def D7(d:D):Prop:=FP d=true/\(toPy d).canLay0=true/\(toPy d).depth<=100
def GA(d e:D):Bool:=eW (toPy d) (toPy e)
def Uy(d e:D)(P:D->Prop):Prop:=D7 d/\D7 e/\P (.bl (GA d e))
theorem RM:E5 K .sh Zt Uy:=λU M H d e x y P Q a f b c w q =>
 ⟨_,_,b.rv w.1.1,c.rv w.2.1.1,w.1.2.1,w.2.1.2.1,w.1.2.2,q _ H (.bl _) .refl rfl w.2.2⟩
def IU:D->Option (List D)
 | .lst a=>some a
 | .tup a=>some a
 | _=>none
def DV(a:Bool)(d e:D)(P:D->Prop):Prop:=D7 d/\D7 e/\∃b,IU e=some b/\P (.bl (if a then !(b.any λy=>GA y d) else b.any λy=>GA y d))
theorem C1{c:Bool}:E5 K .sh (X_ c) (DV c):=λU M H d e x y P Q k m i j w q=>by
 obtain⟨b,f,g,h,w⟩:=w;have a:∀g:List D,(g.map _).any (λy=>eW y _)=g.any λy=>GA y d:=λg=>by rw [jQ]; rfl
 cases e with
 | lst l =>
  cases h;refine⟨_,_,i.rv b.1,.inl (j.rv f.1),b.2.1,by simpa [toPy,PyData.canLay0] using f.2.1,b.2.2,?_⟩;rw [LO,a];exact q _ H (.bl _) .refl rfl w
 | tup l =>
  cases h;refine⟨_,_,i.rv b.1,.inr (j.rv f.1),b.2.1,by simpa [toPy,PyData.canLay0] using f.2.1,b.2.2,?_⟩;rw [LO,a];exact q _ H (.bl _) .refl rfl w
 | _=>cases h
def aH(d e:D)(P:D->Prop):Prop:=D7 d/\D7 e/\P (.bl (!GA d e))
end
end Dp
namespace L2
def Zl:R2:=λx y H Q=>∃d e,RV H d x/\RV H e y/\d.canLay0=true/\e.canLay0=true/\d.depth<=100/\Q (.bl (!PyData.eqv d e)) H
theorem YM{X:Cx}{k:Nat}(a:Room k X.A):OpR X (compareOp .NotEq) Zl:=by
 intro n s o H x y v u Q I b c h;obtain⟨d,e,f,g,i,j,p,q⟩:=h;obtain⟨r,l⟩:=RV.reads I f b;obtain⟨t,m⟩:=RV.reads I g c;have w:=a.un;have z:min _ e.depth<=d.depth:=Nat.min_le_left _ _;exact PySem.SeqAt.compareNe_reads l m i j (by omega) ⟨.bl _,H,I,rfl,q⟩
end L2
namespace Dp
open L2
theorem aQ{K:Frag}:E5 K .sh Zl aH:=λU M H d e x y P Q a f b c w q =>
 ⟨_,_,b.rv w.1.1,c.rv w.2.1.1,w.1.2.1,w.2.1.2.1,w.1.2.2,q _ H (.bl _) .refl rfl w.2.2⟩
end Dp
namespace L2
def kOf:Key->V
 | .inl i=>.int i
 | .inr x=>.str x
def ar:Key->Key->Bool
 | .inl i,.inl j=>decide (i<j)
 | .inr x,.inr y=>decide (x.cps.toList<y.cps.toList)
 | _,_=>false
def LR:Key->Key->Bool
 | .inl _,.inl _=>true
 | .inr _,.inr _=>true
 | _,_=>false
def GY:List Key->List Key->Bool
 | [],[]=>false
 | [],_::_=>true
 | _::_,[]=>false
 | x::a,y::b=>if x=y then GY a b else ar x y
def CS:List Key->List Key->Bool
 | x::a,y::b=>LR x y&&CS a b
 | _,_=>true
theorem U1{A:dL}{s:FM}{x y:Key}{u v:Cn}(a:RelV (kOf x) u)(b:RelV (kOf y) v):∃e,SeqAt.EqAt A s u v e/\(e=true↔x=y):=by
 cases x with
 | inl i =>
  cases y with
  | inl j=>exact⟨_,M9 a b rfl rfl,by simp [kOf,aJ]⟩
  | inr z=>exact⟨_,M9 a b rfl rfl,by simp [kOf,aJ]⟩
 | inr z =>
  cases y with
  | inl j=>exact⟨_,M9 a b rfl rfl,by simp [kOf,aJ]⟩
  | inr c=>exact⟨_,M9 a b rfl rfl,by simp [kOf,aJ]⟩
theorem T3(A:dL)(s:FM){x y:Key}{u v:Cn}(b:RelV (kOf x) u)(c:RelV (kOf y) v)(d:LR x y=true)(a:cz)(w:dC)(E:Cn->FM->Prop)(Q:Cn->FM->Prop)(h:Q (.bool (ar x y)) s) :
  wpAny (model a w) A (richCompare .Lt u v) Q E s:=by
 cases x with
 | inl i =>
  cases y with
  | inl j =>
   obtain⟨t,rfl⟩:=b;obtain⟨e,rfl⟩:=c;exact jZ h
  | inr z=>cases d
 | inr z =>
  cases y with
  | inl j=>cases d
  | inr f =>
   obtain⟨t,rfl⟩:=b;obtain⟨e,rfl⟩:=c;exact PySem.P.lt_str h
section
open PySem.SeqAt
open PySem.AutoSeq1 (wpAny_loadPart')
open PySem.MeetsSeq PySem.MeetsSeq2 PySem.MeetsSeq3
theorem Kt(l b:Ch)(items items2:Array Cn)(n n2:Nat)(dd dd2:Option Ch)(sl sl2:Array (Option Cn))(ns ms:List Key)(hi:Vals (ns.map kOf) items.toList)(hj:Vals (ms.map kOf) items2.toList)(hsame:CS ns ms=true) :
  Meets (gf.«tuple.__lt__» ⟨[.ref l,.ref b],[]⟩)
   (λ_ R s=>s.heap.get? l=some { cls:=.type "tuple",dict:=dd,data:=.seq items n,slots:=sl }/\s.heap.get? b=some { cls:=.type "tuple",dict:=dd2,data:=.seq items2 n2,slots:=sl2 } /\
    R (.ok (.ret (.bool (GY ns ms)))) s) :=
 .of_wp λprog w A R s h=>by
  obtain⟨hp,g,d,tk,os⟩:=s; obtain⟨hl,hb,h⟩:=h
  have f2:=AutoSeq1.sub_tuple_tuple;have z1:items.size=ns.length:=by have:=hi.length; rw [Go] at this; rw [this]; simp
  have z2:items2.size=ms.length:=by have:=hj.length; rw [Go] at this; rw [this]; simp
  wp_walk using fG hl,fG hb,wpAny_forIn_list _ (λrest b s'=>b.1=none/\s'=⟨hp,g,d,tk,os⟩/\∃(vs ws:List Cn) (ns' ms':List Key),rest=vs.zip ws /\
   Vals (ns'.map kOf) vs/\Vals (ms'.map kOf) ws/\CS ns' ms'=true/\ns'.length+items2.size=ms'.length+items.size/\R (.ok (.ret (.bool (GY ns' ms')))) ⟨hp,g,d,tk,os⟩) _
  case turn =>
   rintro ⟨y,x⟩ rest b s' ⟨hb',rfl,vs,ws,ns',ms',hz,hvi,hwi,hsm,hlen,hR⟩;cases ns' with
   | nil=>cases hvi; rw [List.zip_nil_left] at hz; cases hz
   | cons a ns' =>
    cases ms' with
    | nil=>cases hwi; rw [List.zip_nil_right] at hz; cases hz
    | cons c ms' =>
     rw [dG] at hvi hwi;cases hvi with
     | cons ra hvi' =>
      cases hwi with
      | cons rc hwi' =>
       rw [gl] at hz;injection hz with hyx hrest
       injection hyx with hy hx
       subst hy hx;have hR':R (.ok (.ret (.bool (if a=c then GY ns' ms' else ar a c)))) ⟨hp,g,d,tk,os⟩:=hR;have hsm':(LR a c&&CS ns' ms')=true:=hsm;rw [cq] at hsm';simp only [ZB] at hlen;obtain⟨e,he,hiff⟩:=U1 (A:=A.in1) (s:=⟨hp,g,d,tk,os⟩) ra rc;refine Db (he prog w _ _ ?_);cases e with
       | true =>
        rw [if_pos (hiff.mp rfl)] at hR'
        wp_walk
        exact⟨rfl,rfl,_,_,_,_,hrest,hvi',hwi',hsm'.2,by omega,hR'⟩
       | false =>
        rw [if_neg (λq=>absurd (hiff.mpr q) c8)] at hR';have hri:=T3 A.in1 ⟨hp,g,d,tk,os⟩ ra rc hsm'.1 prog w
        wp_walk using hri
        exact⟨_,rfl,by simpa using hR'⟩
  case fin =>
   rintro ⟨b1,b2⟩ s' ⟨hb',rfl,vs,ws,ns',ms',hz,hvi,hwi,hsm,hlen,hR⟩;simp only at hb';subst hb'
   have hv:GY ns' ms'=decide (items.size<items2.size):=by
    cases ns' with
    | nil =>
     cases ms' with
     | nil =>
      simp only [eE] at hlen;exact(decide_eq_false (by omega)).symm
     | cons c u =>
      simp only [eE,ZB] at hlen;exact(decide_eq_true (by omega)).symm
    | cons a t =>
     cases ms' with
     | nil =>
      simp only [eE,ZB] at hlen;exact(decide_eq_false (by omega)).symm
     | cons c u =>
      rw [dG] at hvi hwi;cases hvi;cases hwi;rw [gl] at hz;cases hz
   rw [hv] at hR
   wp_walk
   exact⟨_,rfl,by simpa [Builtin.Tuple.tupleCompareSizes] using hR⟩
  case h =>
   exact⟨rfl,rfl,items.toList,items2.toList,ns,ms,rfl,hi,hj,hsame,by omega,h⟩
end
section
variable {X:Cx}
def Zm(K:Frag):R2:=λx y H Q=>∃a b c d,x=.ref a/\y=.ref b/\SqT K H a (c.map kOf)/\SqT K H b (d.map kOf)/\CS c d=true/\Q (.bl (GY c d)) H
theorem YN(m:X.A.units<cLine):OpR X (compareOp .Lt) (Zm X.K):=by
 intro T s U H x y v u Q I o p h;obtain⟨a,b,r,t,rfl,rfl,w,z,d,q⟩:=h;cases o;cases p;obtain⟨B,C,D,_⟩:=I.tuple w;obtain⟨i,E,G,_⟩:=I.tuple z;obtain⟨⟨J,L,j,M⟩,k,N,n,O⟩:=id D;obtain⟨⟨l,P,e,R⟩,c,f,S,g⟩:=id G;subst N O f g
 exact richCompare_meets_room (op:=.Lt) ⟨_,k,rfl⟩ ⟨_,c,rfl⟩ PySem.F.slot_tuple_lt PySem.F.entry_tuple_lt (PySem.F.args_tuple_lt_2 _ _) (Kt a b _ _ n S L _ M _ r t C E d)
  ⟨k,c,⟨(λx=>nomatch x),⟨.bl _,H,I,rfl,q⟩⟩⟩ m
end
def ItAt(b:Bool)(h:cw)(a l:Ch)(k:Nat):Prop:=match b with
 | true=>h.IsListIter a l k
 | false=>h.IsTupleIter a l k
def SqAt(b:Bool)(h:cw)(l:Ch)(a:Array Cn):Prop:=match b with
 | true=>h.IsList l a
 | false=>h.IsTuple l a
section
variable {κ:Bool}{h h':Heap}{it l b:Addr}{k:Nat}{items:Array Value}
theorem ItAt.mv(x:ItAt κ h it l k)(e:∀o,h.get? it=some o->h'.get? it=some o):ItAt κ h' it l k:=by
 cases κ with
 | true=>obtain⟨o,a,r⟩:=x; exact⟨o,e o a,r⟩
 | false=>obtain⟨o,a,r⟩:=x; exact⟨o,e o a,r⟩
theorem SqAt.mv(x:SqAt κ h l items)(e:∀o,h.get? l=some o->h'.get? l=some o):SqAt κ h' l items:=by
 cases κ with
 | true=>obtain⟨o,a,r⟩:=x; exact⟨o,e o a,r⟩
 | false=>obtain⟨o,a,r⟩:=x; exact⟨o,e o a,r⟩
theorem ItAt.eb(x:ItAt κ h it l k)(a:Heap.ExtBut b h h')(n:it≠b):ItAt κ h' it l k:=x.mv λo e=>a it o n e
theorem SqAt.eb(x:SqAt κ h l items)(a:Heap.ExtBut b h h')(n:l≠b):SqAt κ h' l items:=x.mv λo e=>a l o n e
theorem ItAt.lies(x:ItAt κ h it l k):∃o,h.get? it=some o/\∀v,o.data≠.cell v:=by
 cases κ with
 | true=>obtain⟨o,a,_,d⟩:=x; simp_all
 | false=>obtain⟨o,a,_,d⟩:=x; simp_all
theorem SqAt.lies(x:SqAt κ h l items):∃o,h.get? l=some o:=by
 cases κ with
 | true=>obtain⟨o,a,_⟩:=x; grind
 | false=>obtain⟨o,a,_⟩:=x; grind
end
section
variable {prog:Program}{w:World}{A:Around}{E:Value->Shared->Prop}{s:Shared}
theorem Fy{f:Bool}{c l:Ch}{i:Nat}{a:Array Cn}{x:Cn}{Q:Cn->FM->Prop}(d:ItAt f s.heap c l i)(n:SqAt f s.heap l a)(p:a[i]?=some x)
  (q:∀h,ItAt f h c l (i+1)->fq c s.heap h->Q x { s with heap:=h }):wpAny (model prog w) A (eJ (.ref c)) Q E s:=by
 cases f with
 | true=>exact wpAny_nextOf_list_item d n p q
 | false =>
  have b:s.heap.IsTupleIter c l i:=d;have j:s.heap.IsTuple l a:=n;obtain⟨o,g,t,e⟩:=id b; obtain⟨u,k,_,v,m⟩:=j
  unfold eJ;refine Db (eO (name:=dk "__next__") b.typeIs fe (fO fe b.typeIs io ?_ (iY _)));show wpAny (model prog w) _ (field (.ref c) 0 >>= _) _ _ s; refine Db (de g e (x:=.ref l) rfl ?_)
  show wpAny (model prog w) _ (if (cm l==dO)=true then _ else _) _ _ s; rw [if_neg (show ¬((cm l==dO)=true) from c8)]
  show wpAny (model prog w) _ (field (.ref c) 1 >>= _) _ _ s; refine Db (de g e (x:=.int i 0) rfl ?_)
  show wpAny (model prog w) _ (seqItems? (.ref l) >>= _) _ _ s; refine Db (fQ k m ?_); simp only [gH,p]
  refine Db (gq g e (by simp) (Sc ⟨x,rfl,Sc (q _ (show Heap.IsTupleIter _ c l (i+1) from ?_) (jp ..))⟩));exact⟨_,fC _ g (Obj.isFreed_of_fields (gk e _)),(Obj.cls_mapFields ..).trans t,by(rw [gk e]; simp [rawInt])⟩
theorem G6{g:Bool}{f l:Ch}{i:Nat}{b:Array Cn}{Q:Cn->FM->Prop}(r:A.handled=none)(d:ItAt g s.heap f l i)(t:SqAt g s.heap l b)(u:b[i]?=none)
  (v:∀h e,Heap.ExtBut f s.heap h->(∃o,h.get? e=some o/\o.cls=.type "StopIteration")->E (.ref e) { s with heap:=h }):wpAny (model prog w) A (eJ (.ref f)) Q E s:=by
 cases g with
 | true=>exact wpAny_nextOf_list_end r d t u v
 | false =>
  have c:=d;have j:s.heap.IsTuple l b:=t;obtain⟨o,k,z,n⟩:=id c; obtain⟨B,p,_,C,q⟩:=j
  refine Db (eO c.typeIs fe (fO fe c.typeIs io ?_ (iY _)));show wpAny (model prog w) _ (field (.ref f) 0 >>= _) _ _ s; refine Db (de k n (x:=.ref l) rfl ?_)
  refine Db (de k n (x:=.int i 0) rfl ?_);refine Db (fQ p q ?_); simp only [gH,u]
  refine Db (jB (Db (gq k n (by simp) ?_))); refine Db ?_; refine Db (m:=firstArgMember _ _) (wpAny_of_eq (a:=dO) (by first | rfl | omega) ?_); refine fh ?_ (by size_fits)
  simp only [raiseNew]; refine Db (wpAny_handled ?_); first | grind | rw [r]
  refine Db (Sc (wpAny_throw ?_)); exact v _ _ (((jp ..).extBut.push _).push _) ⟨_,cj _ rfl,rfl⟩
structure ZK (z TI TO i1 i2 l1 l2:Ch):Prop where
 TIz:TI≠z
 TOz:TO≠z
 i1z:i1≠z
 i2z:i2≠z
 TOi1:TO≠i1
 TOi2:TO≠i2
 i12:i1≠i2
 l1z:l1≠z
 l1TO:l1≠TO
 l1i1:l1≠i1
 l1i2:l1≠i2
 l2z:l2≠z
 l2TO:l2≠TO
 l2i1:l2≠i1
 l2i2:l2≠i2
theorem S3{S T:Bool}{z TI TO p q J K:Ch}{k:Nat}{xs ys:Array Cn}{x y a b:Cn}{Q:Cn->FM->Prop}(D:ZK z TI TO p q J K)
  (L:gJ s.heap z TI TO .none) (W:eh s.heap TI (.ref p) (.ref q)) (X:eh s.heap TO a b) (h1:ItAt S s.heap p J k) (h2:ItAt T s.heap q K k) (Y:SqAt S s.heap J xs) (Z:SqAt T s.heap K ys) (hx:xs[k]?=some x) (hy:ys[k]?=some y)
  (hQ:∀r,gJ r z TI TO (rawInt s.heap.objs.size)->eh r TO x y->ItAt S r p J (k+1)->ItAt T r q K (k+1)->eh r s.heap.objs.size x y->r.objs.size=s.heap.objs.size+1->(∀c o,c≠z->c≠TO->c≠p->c≠q->s.heap.get? c=some o->r.get? c=some o)->Q (.ref s.heap.objs.size) { s with heap:=r }) :
  wpAny (model prog w) A (gf.«zip.__next__» ⟨[.ref z],[]⟩) (λa0 s'=>∃v,a0=.done (.ret v)/\Q v s') E s:=by
 show wpAny (model prog w) A (field (.ref z) 2 >>= _) _ _ _; refine Db (de L rfl (x:=.bool false) rfl ?_)
 show wpAny (model prog w) A (field (.ref z) 3 >>= _) _ _ _; refine Db (de L rfl (x:=.ref TI) rfl ?_); refine Db (fQ W rfl ?_)
 show wpAny (model prog w) A (ez (.ref z) >>= _) _ _ _; refine Db ?_; unfold ez
 refine Db (de L rfl (x:=.none) rfl (Sc ?_)); simp only [if_true]; refine Db (jB ?_); refine Db (de L rfl (x:=.ref TO) rfl ?_)
 refine Db (fY L (by simp) λha C d=>?_);replace C:gJ ha z TI TO .ellipsis:=C;refine Db ?_; simp only [List.zipIdx_cons,List.zipIdx_nil,iJ,List.forIn_nil]
 refine Db (Db (hV ?_)); show wpAny (model prog w) _ (eJ (.ref p) >>= _) _ _ _
 refine Db (Fy (h1.eb d.extBut D.i1z) (Y.eb d.extBut D.l1z) hx λhb a1 h=>Sc ?_);have t:eh hb TO a b:=h.extBut _ _ D.TOi1 (d.extBut _ _ D.TOz X);refine Db (fQ t rfl ?_); refine Db (iO t λhc j i=>?_)
 replace j:eh hc TO x b:=j;refine Db (ja (Sc ?_)); refine Db (Db (hV ?_)); show wpAny (model prog w) _ (eJ (.ref q) >>= _) _ _ _
 refine Db (Fy (((h2.eb d.extBut D.i2z).eb h.extBut D.i12.symm).eb i.extBut D.TOi2.symm) (((Z.eb d.extBut D.l2z).eb h.extBut D.l2i1).eb i.extBut D.l2TO) hy λhd a2 l=>Sc ?_);have u:eh hd TO x b:=l.extBut _ _ D.TOi2 j;refine Db (fQ u rfl ?_); refine Db (iO u λf g m=>?_)
 replace g:eh f TO x y:=g;refine Db (ja (Sc (Sc ?_))); refine Db (fQ g rfl ?_); refine Db (wpAny_newTuple ?_)
 have M:f.objs.size=s.heap.objs.size:=by rw [m.1,l.1,i.1,h.1,d.1]
 have N:gJ f z TI TO .ellipsis:=m.extBut _ _ D.TOz.symm (l.extBut _ _ D.i2z.symm (i.extBut _ _ D.TOz.symm (h.extBut _ _ D.i1z.symm C)));have a3:∀c o,c≠z->c≠TO->c≠p->c≠q->s.heap.get? c=some o->f.get? c=some o:=λc o F U c3 c4 e=>m.extBut _ _ U (l.extBut _ _ c4 (i.extBut _ _ U (h.extBut _ _ c3 (d.extBut _ _ F e))));have a4:ItAt S f p J (k+1):=((a1.eb i.extBut D.TOi1.symm).eb l.extBut D.i12).eb m.extBut D.TOi1.symm;have a5:ItAt T f q K (k+1):=a2.eb m.extBut D.TOi2.symm;have B:z<f.objs.size:=UF N;show wpAny (model prog w) _ (gm (.ref z) (.ref f.objs.size) >>= _) _ _ _; refine Db ?_; unfold gm
 have a6:gJ (f.push { cls:=.type "tuple",data:=.seq #[x,y] }) z TI TO .ellipsis:=Ev _ N;refine Db (fY a6 (by simp) λhg G H=>?_);replace G:gJ hg z TI TO (rawInt f.objs.size):=G;refine fY G (by simp) λO n I=>?_;replace n:gJ O z TI TO (rawInt f.objs.size):=n;have V:∀c o,c≠z->f.get? c=some o->O.get? c=some o:=λc o F e=>I.extBut _ _ F (H.extBut _ _ F (Ev _ e));have P:eh O f.objs.size x y:=I.extBut _ _ (fV B) (H.extBut _ _ (fV B) (cj _ rfl));have R:O.objs.size=f.objs.size+1:=by rw [I.1,H.1,eq]
 rw [M] at n P R;refine Sc ⟨_,rfl,?_⟩;show Q (.ref f.objs.size) _; rw [M]
 exact hQ O n (V _ _ D.TOz g) (a4.mv λo e=>V _ o D.i1z e) (a5.mv λo e=>V _ o D.i2z e) P R λc o F U c3 c4 e=>V c o F (a3 c o F U c3 c4 e)
theorem VW{U V:Bool}{z TI TO p q G H:Ch}{k:Nat}{I J:Array Cn}{a b:Cn}{Q:Fin->FM->Prop}(W:A.handled=none)(D:ZK z TI TO p q G H)
  (r:gJ s.heap z TI TO .none) (K:eh s.heap TI (.ref p) (.ref q)) (L:eh s.heap TO a b) (X:ItAt U s.heap p G k) (h2:ItAt V s.heap q H k) (t:SqAt U s.heap G I) (M:SqAt V s.heap H J) (u:I[k]?=none\/J[k]?=none)
  (Y:∀N e,(∀c o,c≠z->c≠TO->c≠p->c≠q->s.heap.get? c=some o->N.get? c=some o)->(∃o,N.get? e=some o/\o.cls=.type "StopIteration")->E (.ref e) { s with heap:=N }) :
  wpAny (model prog w) A (gf.«zip.__next__» ⟨[.ref z],[]⟩) Q E s:=by
 show wpAny (model prog w) A (field (.ref z) 2 >>= _) _ _ _; refine Db (de r rfl (x:=.bool false) rfl ?_)
 show wpAny (model prog w) A (field (.ref z) 3 >>= _) _ _ _; refine Db (de r rfl (x:=.ref TI) rfl ?_); refine Db (fQ K rfl ?_)
 show wpAny (model prog w) A (ez (.ref z) >>= _) _ _ _; refine Db ?_; unfold ez
 refine Db (de r rfl (x:=.none) rfl (Sc ?_)); simp only [if_true]; refine Db (jB ?_); refine Db (de r rfl (x:=.ref TO) rfl ?_)
 refine Db (fY r (by simp) λha l d=>?_);replace l:gJ ha z TI TO .ellipsis:=l;refine Db ?_; simp only [List.zipIdx_cons,List.zipIdx_nil,iJ,List.forIn_nil]
 refine Db (Db (hV ?_)); show wpAny (model prog w) _ (eJ (.ref p) >>= _) _ _ _
 cases O:I[k]? with
 | none =>
  refine Db (G6 W (X.eb d.extBut D.i1z) (t.eb d.extBut D.l1z) O λP e f R=>?_);obtain⟨S,g,j⟩:=R;have v:gJ P z TI TO .ellipsis:=f _ _ D.i1z.symm l;have n:e≠z:=λx=>by subst x; rw [v] at g; cases g; simp at j
  exact fY v (by simp) λZ _ i=>Y Z e (λc o y _ T _ x=>i.extBut _ _ y (f _ _ T (d.extBut _ _ y x))) ⟨S,i.extBut _ _ n g,j⟩
 | some x =>
  have hy:J[k]?=none:=by
   rcases u with h | h
   ·rw [O] at h; cases h
   ·exact h
  refine Db (Fy (X.eb d.extBut D.i1z) (t.eb d.extBut D.l1z) O λP a1 f=>Sc ?_);have m:eh P TO a b:=f.extBut _ _ D.TOi1 (d.extBut _ _ D.TOz L);refine Db (fQ m rfl ?_); refine Db (iO m λZ a0 i=>?_)
  refine Db (ja (Sc ?_)); refine Db (Db (hV ?_)); show wpAny (model prog w) _ (eJ (.ref q) >>= _) _ _ _
  refine Db (G6 W (((h2.eb d.extBut D.i2z).eb f.extBut D.i12.symm).eb i.extBut D.TOi2.symm) (((M.eb d.extBut D.l2z).eb f.extBut D.l2i1).eb i.extBut D.l2TO) hy λhd e B R=>?_);obtain⟨S,g,j⟩:=R;have C:gJ hd z TI TO .ellipsis:=B _ _ D.i2z.symm (i.extBut _ _ D.TOz.symm (f.extBut _ _ D.i1z.symm l));have n:e≠z:=λx=>by subst x; rw [C] at g; cases g; simp at j
  exact fY C (by simp) λhf _ F=>Y hf e (λc o y c2 T c4 x=>F.extBut _ _ y (B _ _ c4 (i.extBut _ _ c2 (f.extBut _ _ T (d.extBut _ _ y x))))) ⟨S,F.extBut _ _ n g,j⟩
end
def Yd(a:Bool):String:=match a with
 | true => "list_iterator"
 | false => "tuple_iterator"
def IA(a:Bool)(l:Ch):Obj:={ cls:=.type (Yd a),data:=.fields #[.ref l,.int 0 0] }
abbrev zA(a:Bool)(h:cw)(b:Ch):cw:=h.push (IA a b)
abbrev zB(a b:Bool)(h:cw)(c d:Ch):cw:=(zA a h c).push (IA b d)
abbrev zC(a c:Bool)(h:cw)(b d:Ch):cw:=(zB a c h b d).push { cls:=.type "tuple",data:=.seq #[.ref h.objs.size,.ref (zA a h b).objs.size] }
abbrev zD(a b:Bool)(h:cw)(c d:Ch):cw:=(zC a b h c d).push { cls:=.type "tuple",data:=.seq #[.none,.none] }
abbrev zE(a b:Bool)(h:cw)(c d:Ch):cw:=(zD a b h c d).push { cls:=.type "zip",data:=.fields #[.none,.bool false,.bool false,.ref (zB a b h c d).objs.size,.ref (zC a b h c d).objs.size] }
theorem V1(zX zW:Bool)(l1 l2:Ch)(xs ys:Array Cn):Meets (gf.«zip.__new__» ⟨[.type "zip",.ref l1,.ref l2],[]⟩)
  (λ_ R s=>SqAt zX s.heap l1 xs/\SqAt zW s.heap l2 ys/\R (.ok (.ret (.ref (zD zX zW s.heap l1 l2).objs.size))) { s with heap:=zE zX zW s.heap l1 l2 }) :=
 .of_wp λprog w A R s h=>by
  obtain⟨hp,g,d,tk,os⟩:=s; obtain⟨hl1,hl2,h⟩:=h
  have hsub:=sub_zip;have hL2:SqAt zW (zA zX hp l1) l2 ys:=hl2.mv λo e=>Ev _ e;cases zX with
  | true =>
   have g1:jb (gG ⟨hp,g,d,tk,os⟩) l1 xs:=hl1;cases zW with
   | true =>
    have g2:jb (gG ⟨hp.push { cls:=.type "list_iterator",data:=.fields #[.ref l1,.int 0 0] },g,d,tk,os⟩) l2 ys:=hL2
    wp_walk using e8 g1,e8 g2
    exact⟨_,rfl,h⟩
   | false =>
    have g2:jR (gG ⟨hp.push { cls:=.type "list_iterator",data:=.fields #[.ref l1,.int 0 0] },g,d,tk,os⟩) l2 ys:=hL2
    wp_walk using e8 g1,ef g2
    exact⟨_,rfl,h⟩
  | false =>
   have g1:jR (gG ⟨hp,g,d,tk,os⟩) l1 xs:=hl1;cases zW with
   | true =>
    have g2:jb (gG ⟨hp.push { cls:=.type "tuple_iterator",data:=.fields #[.ref l1,.int 0 0] },g,d,tk,os⟩) l2 ys:=hL2
    wp_walk using ef g1,e8 g2
    exact⟨_,rfl,h⟩
   | false =>
    have g2:jR (gG ⟨hp.push { cls:=.type "tuple_iterator",data:=.fields #[.ref l1,.int 0 0] },g,d,tk,os⟩) l2 ys:=hL2
    wp_walk using ef g1,ef g2
    exact⟨_,rfl,h⟩
theorem J5(a:Bool)(h:cw)(l:Ch):ItAt a (h.push (IA a l)) h.objs.size l 0:=by
 cases a with
 | true=>exact⟨_,cj _ rfl,rfl,rfl⟩
 | false=>exact⟨_,cj _ rfl,rfl,rfl⟩
section
variable {prog:Program}{w:World}{A:Around}{E:Value->Shared->Prop}{s:Shared}
theorem NI{b f:Bool}{a d:Ch}{t u:Array Cn}{Q:Cn->FM->Prop}(i:SqAt b s.heap a t)(j:SqAt f s.heap d u)
  (h:∀g,gJ g (s.heap.objs.size+4) (s.heap.objs.size+2) (s.heap.objs.size+3) .none->eh g (s.heap.objs.size+2) (.ref s.heap.objs.size) (.ref (s.heap.objs.size+1))->eh g (s.heap.objs.size+3) .none .none ->
   ItAt b g s.heap.objs.size a 0->ItAt f g (s.heap.objs.size+1) d 0->(∀c o,s.heap.get? c=some o->g.get? c=some o)->Q (.ref (s.heap.objs.size+4)) { s with heap:=g }) :
  wpAny (model prog w) A (call (.type "zip") [.ref a,.ref d]) Q E s:=by
 refine callType_new F.called_zip (by decide) (F.typeCall_zip_2 _ _) (F.newCall_zip_2 _ _) (λk=>F.args_object_init_3 k _ _) F.entry_zip_new (V1 b f a d t u) ⟨i,j,?_⟩;have l:(zA b s.heap a).objs.size=s.heap.objs.size+1:=eq ..;have m:(zB b f s.heap a d).objs.size=s.heap.objs.size+2:=by rw [eq,l]
 have n:(zC b f s.heap a d).objs.size=s.heap.objs.size+3:=by rw [eq,m]
 have p:(zD b f s.heap a d).objs.size=s.heap.objs.size+4:=by rw [eq,n]
 have q:(zE b f s.heap a d).get? (zD b f s.heap a d).objs.size=some _:=cj _ rfl;have v:(zE b f s.heap a d).get? (zC b f s.heap a d).objs.size=some _:=Ev _ (cj _ rfl);have x:(zE b f s.heap a d).get? (zB b f s.heap a d).objs.size=some _:=Ev _ (Ev _ (cj _ rfl));have y:ItAt f (zE b f s.heap a d) (zA b s.heap a).objs.size d 0:=(J5 f (zA b s.heap a) d).mv λo e=>Ev _ (Ev _ (Ev _ e));have z:ItAt b (zE b f s.heap a d) s.heap.objs.size a 0:=(J5 b s.heap a).mv λo e=>Ev _ (Ev _ (Ev _ (Ev _ e)));rw [p] at q;rw [n] at v;rw [m] at x;rw [l] at y;have r:=h (zE b f s.heap a d) (by rw [gJ,q,m,n]) (by rw [eh,x,l]) v z y (λc o e=>Ev _ (Ev _ (Ev _ (Ev _ (Ev _ e)))));refine⟨⟨_,by rw [p]; exact q,rfl⟩,?_⟩;rw [p];exact r
theorem K6{i j:Bool}{z TI TO e f g h:Ch}{k:Nat}{q r:Array Cn}{x y a b:Cn}{Q:Option Cn->FM->Prop}(D:ZK z TI TO e f g h)
  (t:gJ s.heap z TI TO .none) (l:eh s.heap TI (.ref e) (.ref f)) (m:eh s.heap TO a b) (v:ItAt i s.heap e g k) (B:ItAt j s.heap f h k) (n:SqAt i s.heap g q) (p:SqAt j s.heap h r) (C:q[k]?=some x) (G:r[k]?=some y)
  (H:∀d,gJ d z TI TO (rawInt s.heap.objs.size)->eh d TO x y->ItAt i d e g (k+1)->ItAt j d f h (k+1)->eh d s.heap.objs.size x y->d.objs.size=s.heap.objs.size+1->(∀c o,c≠z->c≠TO->c≠e->c≠f->s.heap.get? c=some o->d.get? c=some o)->Q (some (.ref s.heap.objs.size)) { s with heap:=d }) :
  wpAny (model prog w) A (pyNext (.ref z)) Q E s:=by
 have u:s.TypeIs (.ref z) "zip":=⟨_,t,rfl⟩;unfold pyNext
 exact Db (hX (eO (name:=dk "__next__") u iP (fO iP u F.entry_zip_next
  (S3 D t l m v B n p C G λd I J K L M N O=>Sc (H d I J K L M N O)) (F.args_zip_next_1 _))))
theorem Mm{r t:Bool}{z TI TO g h i j:Ch}{k:Nat}{u v:Array Cn}{a b:Cn}{Q:Option Cn->FM->Prop}(B:A.handled=none)(D:ZK z TI TO g h i j)
  (x:gJ s.heap z TI TO .none) (l:eh s.heap TI (.ref g) (.ref h)) (m:eh s.heap TO a b) (C:ItAt r s.heap g i k) (G:ItAt t s.heap h j k) (n:SqAt r s.heap i u) (p:SqAt t s.heap j v) (f:u[k]?=none\/v[k]?=none)
  (H:∀q,(∀c o,c≠z->c≠TO->c≠g->c≠h->s.heap.get? c=some o->q.get? c=some o)->Q none { s with heap:=q }):wpAny (model prog w) A (pyNext (.ref z)) Q E s:=by
 have y:s.TypeIs (.ref z) "zip":=⟨_,x,rfl⟩;unfold pyNext;refine Db (hX (eO (name:=dk "__next__") y iP (fO iP y F.entry_zip_next (VW B D x l m C G n p f λq e I J=>?_) (F.args_zip_next_1 _))));obtain⟨o,K,L⟩:=J;exact Db (wpAny_isInstance (T := "StopIteration") (b:=true) ⟨o,K,L⟩ isSubtype_stop (Sc (H _ I)))
end
section
variable {X:Cx}{zG:List (Addr×Obj)}{σ:L2.St}{H:Hp}{s:Shared}{h':Heap}
theorem Inv.turnedL{t':Nat}{ch:List Ch}(I:Inv X zG σ H s)(d:∀b∈ch,Gh X zG H b)(k:∀b o,b∉ch->s.heap.get? b=some o->h'.get? b=some o):Inv X zG σ H { s with heap:=h',toks:=t' }:=by
 have f:∀b u,H b=some u->b∉ch:=λb u e z=>by rw [(d b z).1] at e; cases e
 refine I.step (λb g=>?_) (λb o _ _ a e _=>k b o a e) (λb o _ _ a e _=>⟨_,k b o a e⟩) (λ_ _ _ _ n=>n) (λb o a e=>⟨o,k b o a e⟩) (λ_ _ e=>e) (λ_ _ _ e=>e) (λb y e=>⟨#[],by rw [e]; simp⟩) (λm h=>?_) (λb u e=>(I.hok b u e).stay (λc v a q=>k c v (a.elim (λz=>by grind) λz=>f c _ z) q) (λ_ q=>q) λ_ _ q=>q) I.bare
 ·obtain⟨A,i,B,j,l,p⟩:=d b g
  exact⟨j,i,l,p⟩
 ·obtain⟨o,t,w,x,r⟩:=h
  exact⟨o,t,w,k _ o (λz=>(d _ z).2.1 rfl) x,r⟩
theorem Inv.turnLaid{t':Nat}{ch:List Ch}{a:Ch}{o:HO}(I:Inv X zG σ H s)(h:∀b∈ch,Gh X zG H b)(k:∀b o,b∉ch->s.heap.get? b=some o->h'.get? b=some o)(j:s.heap.objs.size<=a)(new:ObjOk X.prog X.w (A4 H a o) h' a o) :
  Inv X zG σ (A4 H a o) { s with heap:=h',toks:=t' }:=by
 have i:∀b u,H b=some u->b∉ch:=λb u e z=>by rw [(h b z).1] at e; cases e
 have l:H a=none:=I.hok.fresh j;have f:∀b u,H b=some u->A4 H a o b=some u:=λb u e=>by rw [AQ (A0 e l)]; exact e
 refine I.step (g':=s.gens) (d':=s.drawn) (ch:=ch) (λb g=>?_) (λb o _ _ d e _=>k b o d e) (λb o _ _ d e _=>⟨o.slots,k b o d e⟩) (λb u _ e n=>?_) (λb o d e=>⟨o,k b o d e⟩) (λb p e=>f _ _ e) (λb o u e=>f _ _ e) (λb F e=>⟨#[],by rw [f _ _ e]; simp⟩) (λm t=>?_) (λb u e=>?_) I.bare
 ·obtain⟨G,x,J,y,A,B⟩:=h b g
  exact⟨y,x,A,B⟩
 ·rw [AQ (c7 (dA (UF e) j))]; exact n
 ·obtain⟨o,C,D,E,r⟩:=t
  exact⟨o,C,D,k _ o (λz=>(h _ z).2.1 rfl) E,r⟩
 ·by_cases g:b=a
  ·subst g; rw [AX] at e; cases e; exact new
  ·rw [AQ g] at e
   exact(I.hok b u e).stay (λc v d q=>k c v (d.elim (λz=>by grind) λz=>i c _ z) q) (λc q=>f _ _ q) λc p q=>f _ _ q
end
def SqK(c:Bool)(K:Frag)(H:Hp)(a:Ch)(b:List V):Prop:=match c with
 | true=>SqL K H a b
 | false=>SqT K H a b
theorem SqK.at{c:Bool}{X:Cx}{e:List (Ch×Obj)}{f:L2.St}{H:Hp}{s:FM}{a:Ch}{d:List V}(I:Inv X e f H s)(h:SqK c X.K H a d):∃b:List Cn,Vals d b/\SqAt c s.heap a b.toArray:=by
 cases c with
 | true=>obtain⟨b,r,g,_⟩:=I.list h; exact⟨_,r,g.isList⟩
 | false=>obtain⟨b,r,p,_⟩:=I.tuple h; exact⟨_,r,p⟩
def ZM (K : Frag) (e f : Bool) (a b : Ch) (c d : List V) : It :=
  ⟨λi H => SqK e K H a c ∧ SqK f K H b d ∧ i < c.length ∧ i < d.length, λi H x g => ∃ T p q, x = .ref T ∧ H T = none ∧ g = A4 H T (.tup [p, q]) ∧ c[i]? = some p ∧ d[i]? = some q,
   λi H => SqK e K H a c ∧ SqK f K H b d ∧ (c.length ≤ i ∨ d.length ≤ i)⟩
structure aS (zX zW:Bool) (z TI TO i1 i2 a b:Ch) (k:Nat) (h:cw):Prop where
 z:gJ h z TI TO .none
 ti:eh h TI (.ref i1) (.ref i2)
 to:∃a b,eh h TO a b
 i1:ItAt zX h i1 a k
 i2:ItAt zW h i2 b k
theorem Tb{P:cz}{w:dC}{K:Frag}{es:List c_}{j:Nat}{pos:Pos}(Z zW:Bool)(z TI TO g l a b:Ch)(xs ys:List V)(D:ZK z TI TO g l a b)(B:TI∉[z,TO,g,l]) :
  Turn P w K (.Tuple es j pos) (ZM K Z zW a b xs ys) [z,TI,TO,g,l] z (aS Z zW z TI TO g l a b) where
 mem:=by simp
 obj:=λi h d c f=>by
  simp only [T0,c6,or_false] at f
  rcases f with rfl | rfl | rfl | rfl | rfl
  ·exact⟨_,d.z,λv q=>by cases q⟩
  ·exact⟨_,d.ti,λv q=>by cases q⟩
  ·obtain⟨a,b,e⟩:=d.to
   exact⟨_,e,λv q=>by cases q⟩
  ·exact d.i1.lies
  ·exact d.i2.lies
 keep:=λi h h' d k=>by
  obtain⟨p,q,e⟩:=d.to;exact⟨k z (by simp) _ d.z,k TI (by simp) _ d.ti,⟨p,q,k TO (by simp) _ e⟩,d.i1.mv λo e=>k g (by simp) o e,d.i2.mv λo e=>k l (by simp) o e⟩
 item:=by
  intro X C F G f i zG s σ H E I r d J;subst C F G;obtain⟨L,M,m,hj⟩:=J;obtain⟨us,N,O⟩:=L.at I;obtain⟨ws,R,S⟩:=M.at I;obtain⟨u,hu,ru⟩:=N.get (No m);obtain⟨v,hv,rv⟩:=R.get (No hj);obtain⟨p,q,e⟩:=d.to;refine K6 D d.z d.ti e d.i1 d.i2 O S (x:=u) (y:=v) (by simpa using hu) (by simpa using hv) λh' a1 a2 a3 a4 a5 a6 a7=>⟨_,rfl,?_⟩;refine wpAny_letOwnedTupleGo_zip a1 λT b1 n=>?_;have hT:H s.heap.objs.size=none:=I.hok.fresh (On _)
  have t:∀c o,c∉[z,TO,g,l]->s.heap.get? c=some o->T.get? c=some o:=λc o f e=>by
   simp only [T0,c6,or_false,not_or] at f;exact n.extBut _ _ f.1 (a7 c o f.1 f.2.1 f.2.2.1 f.2.2.2 e)
  have I2:Inv X zG σ (A4 H s.heap.objs.size (.tup [xs[i],ys[i]])) { s with heap:=T }:=by
   refine I.turnLaid (t':=s.toks) (ch:=[z,TO,g,l]) (λc f=>r c ?_) t (On _) ?_
   ·simp only [T0,c6,or_false] at f ⊢
    rcases f with rfl | rfl | rfl | rfl <;> simp
   ·have nT:s.heap.objs.size≠z:=fV (UF d.z)
    exact⟨by show 2<=sizeLine; decide,[u,v],.cons ru (.cons rv .nil),⟨_,n.extBut _ _ nT a5,rfl,_,rfl,rfl,rfl⟩⟩
  have U:eh T TI (.ref g) (.ref l):=t _ _ B d.ti;refine⟨.ref s.heap.objs.size,_,I2,rfl,⟨_,_,_,rfl,hT,rfl,No m,No hj⟩,⟨b1,U,⟨_,_,n.extBut _ _ D.TOz a2⟩,a3.eb n.extBut D.i1z,a4.eb n.extBut D.i2z⟩,λc f=>?_⟩;have W:H c=none:=(r c f).1
  have Y:c≠s.heap.objs.size:=λz=>by
   obtain⟨o,ho,_⟩:∃o,s.heap.get? c=some o/\True:=by
    simp only [T0,c6,or_false] at f
    rcases f with rfl | rfl | rfl | rfl | rfl
    ·exact⟨_,d.z,trivial⟩
    ·exact⟨_,d.ti,trivial⟩
    ·exact⟨_,e,trivial⟩
    ·obtain⟨o,q,_⟩:=d.i1.lies; exact⟨o,q,trivial⟩
    ·obtain⟨o,q,_⟩:=d.i2.lies; exact⟨o,q,trivial⟩
   rw [z] at ho;exact eK _ (UF ho)
  rw [AQ Y]; exact W
 done:=by
  intro X C F G f i zG s σ H E I r d J;subst C F G;obtain⟨L,M,m⟩:=J;obtain⟨us,N,O⟩:=L.at I;obtain⟨ws,R,S⟩:=M.at I;obtain⟨p,q,e⟩:=d.to;have l1:=N.length;have l2:=R.length;refine Mm (I.ok.hd f) D d.z d.ti e d.i1 d.i2 O S (m.imp (λm=>by simp; omega) λm=>by simp; omega) λh' t=>⟨rfl,?_⟩;refine I.turnedL (t':=s.toks) (ch:=[z,TO,g,l]) (λc f=>r c ?_) λc o f e=>?_
  ·simp only [T0,c6,or_false] at f ⊢
   rcases f with rfl | rfl | rfl | rfl <;> simp
  ·simp only [T0,c6,or_false,not_or] at f
   exact t c o f.1 f.2.1 f.2.2.1 f.2.2.2 e
 self:=λA i s Q E d h=>wpAny_pyIter_zip d.z h
section
variable {X:Cx}
theorem Xi(n a b:Nat)(c:a<n)(d:b<n):ZK (n+4) (n+2) (n+3) n (n+1) a b:=by
 constructor <;> (grind)
theorem Xh(n:Nat):(n+2)∉[n+4,n+3,n,n+1]:=by
 grind
theorem Xj(n c:Nat)(h:c∈[n+4,n+2,n+3,n,n+1]):n<=c:=by
 grind
def bY(K:Frag)(h:TA):TI:=λi H R=>h i H λj c=>∃d e a b f g,j=[.ref a,.ref b]/\SqK d K c a f/\SqK e K c b g/\R (ZM K d e a b f g) c
theorem UI{m f:c_}{G:List c_}{j:Nat}{g:Pos}{y:TA}{p pos:Pos}(J:Gl X "zip")(L:X.mg "zip"=none)(M:PA X [m,f] y)(N:starEach [m,f] X.env=[(false,eval m X.env),(false,eval f X.env)]:=by rfl)(i:starEach [f] X.env=[(false,eval f X.env)]:=by rfl) :
  PI X (.Tuple G j g) (.Call (.Name "zip" p) [m,f] [] pos) (bY X.K y):=by
 intro O s P H R I h;refine Call_ (FT I J L boot_zip (e9 (thn (M pos O s P H _ I h) λQ d ⟨vs,S,k,T,n⟩=>?_) (by rw [N,i]) (by rw [i]; rfl)));obtain⟨z,A,a,b,B,C,e,U,V,q⟩:=n;subst e;obtain⟨u,v,rfl,W,Y⟩:=vals2 T;cases W;cases Y;obtain⟨Q,Z,n⟩:=U.at k;obtain⟨ws,a0,E⟩:=V.at k;have la:a<d.heap.objs.size:=by obtain⟨o,e⟩:=n.lies; exact UF e
 have lb:b<d.heap.objs.size:=by obtain⟨o,e⟩:=E.lies; exact UF e
 refine NI n E λh' F r t w x hk=>?_;refine wpAny_pyIter_zip F ?_;have D:=Xi d.heap.objs.size a b la lb;refine⟨d.heap.objs.size+4,[d.heap.objs.size+4,d.heap.objs.size+2,d.heap.objs.size+3,d.heap.objs.size,d.heap.objs.size+1],_,ZM X.K z A a b B C,S,rfl,k.kept (t':=d.toks) hk,Tb z A _ _ _ _ _ a b B C D (Xh d.heap.objs.size),⟨F,r,⟨_,_,t⟩,w,x⟩,λc hc=>?_,q⟩;have l:d.heap.objs.size<=c:=Xj d.heap.objs.size c hc;exact k.fpOk l (k.hok.fresh l)
end
end L2
namespace Dp
open L2
def Gi(a b:List D):List D:=gn (λd e=>.tup [d,e]) a b
section
variable {K:Frag}
theorem MG{U g M:Ch->Prop}{H:Hp}{d:D}{v:V}{l:List D}(h:AtT K g M H d v)(e:IU d=some l)(m:∀a,U a->g a)(s:∀a,g a->M a):∃p a c,v=.ref a/\Ats K M H l c/\∀i f,Pres M H i f->Ext U H f->SqK p K f a c:=by
 cases d with
 | lst q =>
  cases e;obtain⟨a,c,j,n,b,k⟩:=h;refine⟨true,a,c,j,k,λi f _ ex=>?_⟩
  rcases b with b | ⟨o,b⟩
  ·exact .inl (.inl (ex.keep b λz=>n (m a z)))
  ·exact .inl (.inr ⟨o,ex.keep b λz=>n (m a z)⟩)
 | tup q =>
  cases e;obtain⟨a,c,j,b,k⟩:=h;exact⟨false,a,c,j,k,λi f r _=>(b.pres r).sq⟩
 | _=>cases e
theorem Pa{M:Ch->Prop}{H:Hp}{d:D}{v:V}{l:List D}(h:At K M H d v)(e:IU d=some l):∃m a b,v=.ref a/\Ats K M H l b/\∀f c,Pres M H f c->SqK m K c a b:=by
 cases d with
 | lst n =>
  cases e;obtain⟨a,b,g,i,j⟩:=h;exact⟨true,a,b,g,j,λf c k=>(i.pres k).sq⟩
 | tup n =>
  cases e;obtain⟨a,b,g,i,j⟩:=h;exact⟨false,a,b,g,j,λf c k=>(i.pres k).sq⟩
 | _=>cases e
theorem JJ{M:Ch->Prop}{H:Hp}{l m:Bool}{a b:Ch}{f g:List V}{h j:List D}(u:Ats K M H h f)(v:Ats K M H j g){i:Nat}{r:Ch->Prop}{c:Hp}(w:Pres M H r c)(z:SqK l K c a f)(A:SqK m K c b g)(s:∀a,r a->∃o,c a=some o) :
  (∀d,(Gi h j)[i]?=some d->(ZM K l m a b f g).go i c/\∀x H2,(ZM K l m a b f g).yld i c x H2->Grow c H2/\At K r H2 d x)/\((Gi h j).length<=i->(ZM K l m a b f g).stop i c):=by
 have P:=u.length;have Q:=v.length;refine⟨λd e=>?_,λF=>⟨z,A,?_⟩⟩
 ·unfold Gi at e
  rw [jg] at e;cases k:h[i]? with
  | none=>rw [k] at e; simp at e
  | some G =>
   cases n:j[i]? with
   | none=>rw [k,n] at e; simp at e
   | some I =>
    rw [k,n] at e;have t:D.tup [G,I]=d:=cv e;have R:i<h.length:=(cr.mp k).1;have S:i<j.length:=(cr.mp n).1;refine⟨⟨z,A,by omega,by omega⟩,λx H2 y=>?_⟩;obtain⟨T,p,q,rfl,B,rfl,J,L⟩:=y;obtain⟨U,C,N⟩:=(u.pres w).get k;obtain⟨W,E,O⟩:=(v.pres w).get n;rw [J] at C;rw [L] at E;cases C;cases E;subst t;exact⟨A1 B,ET s B ⟨p,[q],rfl,N,q,[],rfl,O,rfl⟩⟩
 ·unfold Gi at F
  grind
end
section
variable {X:Cx}{e1 e2:Expr}{es:List Expr}{j:Nat}{tpos p pos:Pos}{ws:Ef}
def VX(ws:Ef):Ef:=λn c P=>ws n c λf g=>∃d e a b,f=[d,e]/\IU d=some a/\IU e=some b/\P (Gi a b) g
theorem WS(z:Gl X "zip")(A:X.mg "zip"=none)(B:Wm X [e1,e2] ws)(D:starEach [e1,e2] X.env=[(false,eval e1 X.env),(false,eval e2 X.env)]:=by rfl)(c:starEach [e2] X.env=[(false,eval e2 X.env)]:=by rfl) :
  Xd X (.Tuple es j tpos) (.Call (.Name "zip" p) [e1,e2] [] pos) (VX ws):=by
 obtain⟨t,E,F⟩:=B;refine⟨_,UI z A E D c,λC M H n G I P Y R w q=>?_⟩;refine F C M H n G I _ _ R w λZ f ds J m o K p=>?_;obtain⟨d,e,xs,ys,rfl,L,N,p⟩:=p;cases K with
 | cons r g =>
  cases g with
  | cons O g =>
   cases g;have s:=R.step m o;obtain⟨Q,a,S,rfl,T,u⟩:=MG (U:=C.U) r L R.uV s.vM;obtain⟨V,b,h,rfl,W,v⟩:=MG (U:=C.U) O N R.uV s.vM;refine⟨Q,V,a,b,S,h,rfl,u M f (Pres.refl _ _) (Ext.refl _ _),v M f (Pres.refl _ _) (Ext.refl _ _),q _ f _ J m o (λi x y k ex l=>JJ T W k (u x y k ex) (v x y k ex) l) p⟩
theorem Yk(x:Gl X "zip")(y:X.mg "zip"=none)(z:Xf X [e1,e2] ws)(A:starEach [e1,e2] X.env=[(false,eval e1 X.env),(false,eval e2 X.env)]:=by rfl)(c:starEach [e2] X.env=[(false,eval e2 X.env)]:=by rfl) :
  DI X (.Tuple es j tpos) (.Call (.Name "zip" p) [e1,e2] [] pos) (VX ws):=by
 obtain⟨t,B,D⟩:=z;refine⟨_,UI x y B A c,λC M H n E F P Y R w q=>?_⟩;refine D C M H n E F _ _ R w λZ f ds G I J g p=>?_;obtain⟨d,e,xs,ys,rfl,K,L,p⟩:=p;obtain⟨v,r,rfl,g,v',N,rfl,O,Q⟩:=g;cases (show N=[] from Q);obtain⟨S,a,T,rfl,U,m⟩:=Pa g K;obtain⟨V,b,h,rfl,W,o⟩:=Pa O L;exact⟨S,V,a,b,T,h,rfl,m M f (Pres.refl _ _),o M f (Pres.refl _ _),q _ f _ G I J (λi s u k l=>JJ U W k (m s u k) (o s u k) l) p⟩
def bX:D->Option Key
 | .int i=>some (.inl i)
 | .str x=>some (.inr x)
 | _=>none
def Hz:List D->Option (List Key)
 | []=>some []
 | d::a=>match bX d,Hz a with
  | some k,some b=>some (k::b)
  | _,_=>none
theorem G3{K:Frag}{M:Ch->Prop}{H:Hp}:∀{c:List D} {a:List V} {b:List Key},Hz c=some b->Ats K M H c a->a=b.map kOf
 | [],a,b,e,h=>by cases e; exact h
 | d::c,a,b,e,h=>by
  obtain⟨v,r,e1,l,m⟩:=h;unfold Hz at e
  split at e
  ·rename_i k n f g
   cases e;rw [e1,G3 g m]
   congr 1
   cases d with
   | int i=>cases f; exact l
   | str x=>cases f; exact l.1
   | _=>cases f
  ·cases e
def EV(d e:D)(P:D->Prop):Prop:=match d,e with
 | .int i,.int j=>P (.bl (decide (i<j)))
 | .str i,.str j=>P (.bl (decide (i.cps.toList<j.cps.toList)))
 | .tup c,.tup f=>∃a b,Hz c=some a/\Hz f=some b/\CS a b=true/\P (.bl (GY a b))
 | _,_=>False
def Zn(K:Frag):R2:=λx y H Q=>X8 x y H Q\/Zm K x y H Q
theorem D6{k:Nat}(a:Room k X.A):OpR X (compareOp .Lt) (Zn X.K):=op_ltU.or (YN a.units0)
theorem GF:E5 X.K .sh (Zn X.K) EV:=λU M H d e x y P Q c h f g w q=>by
 unfold EV at w
 split at w
 ·exact .inl (Xa U M H _ _ x y P Q c h f g w q)
 ·exact .inl (Xa U M H _ _ x y P Q c h f g w q)
 ·obtain⟨i,k,l,m,n,w⟩:=w
  obtain⟨a,u,rfl,o,r⟩:=f.tup;obtain⟨b,v,rfl,s,t⟩:=g.tup;have e1:=G3 l r;have e2:=G3 m t;subst e1 e2;exact .inr ⟨a,b,i,k,rfl,rfl,o.sq,s.sq,n,q _ H (.bl _) .refl rfl w⟩
 grind
end
end Dp
namespace L2
section
variable {prog:Program}{w:World}{A:Around}{E:Value->Shared->Prop}{s:Shared}
theorem Nd{t f:Ch}{a:Array Cn}{k l:Cn}{b e:Option Int}{Q:Cn->FM->Prop}(c:IsTup s.heap t a)(n:s.heap.IsSliceOf f k l .none)(p:iF k b)(q:iF l e)
  (o:HT.sIx a.size 0 b=0/\HT.sIx a.size a.size e=a.size) (h:Q (.ref t) s):wpAny (model prog w) A (getItem (.ref t) (.ref f)) Q E s:=by
 obtain⟨r,g,i,u⟩:=id n;have j:s.TypeIs (.ref f) "slice":=⟨r,g,i⟩;unfold getItem
 (try with_reducible refine dw ?_); (first | refine Db (Sc ?_) | skip)
 refine Db (i5 c.typeIs (by decide) (Db (eO (name:=dk "__getitem__") c.typeIs dN (fO dN c.typeIs iV ?_ (ij _ _)))));show wpAny (model prog w) _ (gZ (.ref t) >>= _) _ _ s;refine Db (tupleItemsOf_ c (Db (iG j ?_))); rw [if_pos (by decide)]
 refine Db (HT.sliceApplied_gen n p q ?_);have d:(((HT.sIx a.size 0 b:Nat):Int)==0&&(1:Int)==1&&(HT.sIx a.size a.size e - HT.sIx a.size 0 b)==a.size)=true:=by rw [o.1,o.2]; simp
 show wpAny (model prog w) _ (if (((HT.sIx a.size 0 b:Nat):Int)==0&&(1:Int)==1&&(HT.sIx a.size a.size e - HT.sIx a.size 0 b)==a.size)=true then _ else _) _ _ s;rw [if_pos d];refine Db (m:=iw _) ?_;unfold iw;refine Db (iG c.typeIs (Sc ?_));show wpAny (model prog w) _ (if ((fE "tuple"==fE "tuple")=true) then _ else _) _ _ s;rw [if_pos (by decide)]
 first
  | grind
  | exact Db (jB (Sc ⟨_,rfl,Sc h⟩))
  | grind
theorem KC{b c:Type}{f g:b->Option c}:∀{l:List b},(∀a∈l,f a=g a)->l.filterMap f=l.filterMap g
 | [],_=>rfl
 | a::l,h=>by
  rw [f8,f8,h a Op,KC λx d=>h x (Re _ d)]
theorem Tu(l:List Cn):∀(n:Nat),n<=l.length->((dD n).filterMap fun(k:Nat)=>l[n - 1 - k]?)=(l.take n).reverse:=by
 intro n
 induction n with
 | zero=>intro _; simp
 | succ n b =>
  intro h;have a:n<l.length:=h;rw [g9,f8];have c:l[n+1 - 1 - 0]?=some l[n]:=by rw [show n+1 - 1 - 0=n by omega,No a]
  simp only [c];rw [ii]
  have d:((fun(k:Nat)=>l[n+1 - 1 - k]?)∘Nat.succ)=fun(k:Nat)=>l[n - 1 - k]?:=by
   grind
  rw [d,b (by omega),List.take_add_one,No a,List.reverse_append];rfl
theorem Gu(a:Array Cn):((dD a.size).filterMap fun(k:Nat)=>a[(((a.size:Int) - 1)+(k:Int)*(-1)).toNat]?).toArray=a.toList.reverse.toArray:=by
 have h:=Tu a.toList _ (On _);rw [hZ] at h
 have e:(dD a.size).filterMap (fun(k:Nat)=>a[((a.size - 1)+(k:Int)*(-1)).toNat]?)=(dD a.toList.length).filterMap λk=>a.toList[a.toList.length - 1 - k]?:=by
  refine KC λk b=>?_;rw [show ((a.size - 1)+(k:Int)*(-1)).toNat=a.size - 1 - k by omega];simp
 rw [e,h]
theorem O7{c:Ch}{t:Tok}{n:Nat}{Q:Int×Int×Nat->FM->Prop}(e:s.heap.IsSliceOf c .none .none (.int (-1) t))(h:Q ((n:Int) - 1,-1,n) s):wpAny (model prog w) A (iu (.ref c) (pure (n:Int))) Q E s:=by
 obtain⟨k,a,f,b⟩:=id e;refine Db (Db (de a b (x:=.none) rfl (Db (de a b (x:=.none) rfl (Db (de a b (x:=.int (-1) t) rfl (Sc ?_)))))));refine Db (HT.slicePart_ (IsPart.int (-1) t) ?_);rw [if_neg (by decide)];show wpAny (model prog w) _ (match fm none none (-1) (n:Int) with | (d,g)=>pure (d,(-1:Int),eV d g (-1))) _ _ s;have i:fm none none (-1) (n:Int)=((n:Int) - 1,-1):=rfl;rw [i]
 have j:eV ((n:Int) - 1) (-1) (-1)=n:=by
  unfold eV
  grind
 show wpAny (model prog w) _ (pure _) _ _ s;rw [j];exact Sc h
theorem Ri{t e:Ch}{a:Array Cn}{n:Tok}{Q:Cn->FM->Prop}(d:IsTup s.heap t a)(l:s.heap.IsSliceOf e .none .none (.int (-1) n))(f:a.size<=sizeLine)
  (h:Q (.ref s.heap.objs.size) { s with heap:=s.heap.push { cls:=.type "tuple",data:=.seq a.toList.reverse.toArray } }):wpAny (model prog w) A (getItem (.ref t) (.ref e)) Q E s:=by
 obtain⟨o,g,i,p⟩:=id l;have j:s.TypeIs (.ref e) "slice":=⟨o,g,i⟩
 have c:sizeOk (.seq a.toList.reverse.toArray):=by
  show a.toList.reverse.toArray.size<=sizeLine
  simpa using f
 unfold getItem
 (try with_reducible refine dw ?_); (first | refine Db (Sc ?_) | skip)
 refine Db (i5 d.typeIs (by decide) (Db (eO (name:=dk "__getitem__") d.typeIs dN (fO dN d.typeIs iV ?_ (ij _ _)))));show wpAny (model prog w) _ (gZ (.ref t) >>= _) _ _ s;refine Db (tupleItemsOf_ d (Db (iG j ?_))); rw [if_pos (by decide)]
 refine Db (O7 l ?_);have k:¬(((a.size:Int) - 1==0&&(-1:Int)==1&&a.size==a.size)=true):=by simp
 show wpAny (model prog w) _ (if ((a.size:Int) - 1==0&&(-1:Int)==1&&a.size==a.size)=true then _ else _) _ _ s;rw [if_neg k,Gu]
 first
  | exact Db (m:=jJ _) (fh (Sc ⟨_,rfl,Sc h⟩) c)
  | omega
  | grind
  | grind
theorem K7(a:Array Cn):slicePick a none none (some (-1))=a.toList.reverse.toArray:=by
 unfold slicePick;have b:sliceBounds none none (some (-1)) _=((a.size:Int) - 1,-1,-1):=rfl;rw [b];simp only [sliceRange];rw [← Gu,ii]
 congr 1
 have c:(if -1 > 0 then if (a.size:Int) - 1 < -1 then (-1 - ((a.size:Int) - 1)+-1 - 1) / -1 else 0 else if (a.size:Int) - 1 > -1 then ((a.size:Int) - 1 - -1 - -1 - 1) / - -1 else 0).toNat=a.size:=by
  grind
 rw [c];refine KC λk _=>?_
 grind
end
section
variable {X:Cx}{e st:Expr}{te tst:TE}{pos p2:Pos}
def bR(K:Frag):V->Hp->VK->Prop:=λx H Q=>(∃a b,x=.ref a/\SqL K H a b/\∀p,H p=none->Q (.ref p) (A4 H p (.lst b.reverse)))\/∃a b,x=.ref a/\SqT K H a b/\∀p,H p=none->Q (.ref p) (A4 H p (.tup b.reverse))
def bL(K:Frag)(te tst:TE):TE:=λa H Q=>te a H λx b=>tst a b λi H2=>i=.int (-1)/\bR K x H2 Q
theorem YI(D:PE X e te)(l:PE X st tst):PE X (.Subscript e (.Slice none none (some st) p2) pos) (bL X.K te tst):=by
 intro j s k H Q I h;refine Subscript_ (thn (D j s k H _ I h) λv E ⟨x,F,G,z,J⟩=>?_);refine wpAny_Slice ?_;rw [evalPart_none,evalPart_some];refine Sc (Sc (thn (l j E k F _ G J) λO c ⟨i,L,M,N,m⟩=>?_));obtain⟨rfl,m⟩:=m;obtain⟨t,rfl⟩:=N;have d:Inv X j k L { c with heap:=c.heap.push { cls:=.type "slice",data:=.fields #[.none,.none,.int (-1) t] } }:=M.kept (t':=c.toks) λb B q=>Ev _ q;have C:({ c with heap:=c.heap.push { cls:=.type "slice",data:=.fields #[.none,.none,.int (-1) t] } }:FM).heap.IsSliceOf c.heap.objs.size .none .none (.int (-1) t):=jw ..;show wpAny (model X.prog X.w) X.A (subscriptTail e (.Slice none none (some st) p2) v (.ref c.heap.objs.size)) (EP X j k Q) X.xe { c with heap:=c.heap.push { cls:=.type "slice",data:=.fields #[.none,.none,.int (-1) t] } }
 rcases m with ⟨a,n,rfl,p,q⟩ | ⟨a,n,rfl,p,q⟩
 ·cases z
  obtain⟨u,r,f,y⟩:=d.list p;have g:=r.length;refine tail_any (ops:=[.ref a,.ref c.heap.objs.size]) f.isList.typeIs i6.lookup ?_ (by with_unfolding_all rfl);refine wpAny_getItem_list_slice f.isList C .none .none (.int (-1) t) (by decide) ?_ (by rw [c9]; omega);rw [K7];refine⟨.ref _,_,d.laid (t':=c.toks) (o:=.lst n.reverse) (λb B q=>Ev _ q) (On _) ?_,rfl,q _ (d.hok.fresh (On _))⟩;exact⟨by rw [gg]; exact y,_,0,r.reverse,cj _ rfl⟩
 ·cases z
  obtain⟨u,r,f,y⟩:=d.tuple p;have g:=r.length;refine tail_any (ops:=[.ref a,.ref c.heap.objs.size]) f.typeIs dN.lookup ?_ (by with_unfolding_all rfl);refine Ri f C (by rw [c9]; omega) ?_;refine⟨.ref _,_,d.laid (t':=c.toks) (o:=.tup n.reverse) (λb B q=>Ev _ q) (On _) ?_,rfl,q _ (d.hok.fresh (On _))⟩;exact⟨by rw [gg]; exact y,_,r.reverse,IsTupN.new _ _⟩
def W1(K:Frag):V->Option Int->Option Int->Hp->VK->Prop:=λx c d H Q=>∃a b,x=.ref a/\SqT K H a b/\(HT.sIx b.length 0 c=0/\HT.sIx b.length b.length d=b.length)/\Q (.ref a) H
theorem Vh:SlR X (W1 X.K):=by
 intro k s l H x v m n o p t Q I d e f g h;obtain⟨a,u,rfl,i,w,q⟩:=h;cases d;obtain⟨j,r,b,y⟩:=I.tuple i;have c:=r.length.symm;exact⟨_,_,dN.lookup,b.typeIs,Nd b e f g (by grind) ⟨.ref a,H,I,rfl,q⟩⟩
end
section
variable {X:Cx}
def T7(K:Frag):R2:=λx y H Q=>∃a b c,x=.ref a/\y=.ref b/\SqT K H a []/\SqT K H b c/\Q (.ref b) H
theorem UX:OpR X (binaryOp .Add) (T7 X.K):=by
 intro M s N H x y v u Q I l m h;obtain⟨a,b,O,rfl,rfl,o,p,q⟩:=h;cases l;cases m;obtain⟨r,t,w,_⟩:=I.tuple o;obtain⟨g,P,z,_⟩:=I.tuple p;cases t;obtain⟨⟨A,B,i,C⟩,j,D,n,E⟩:=id w;obtain⟨⟨k,G,d,J⟩,c,e,L,f⟩:=id z;subst D E e f;exact concat_meets ⟨_,j,rfl⟩ ⟨_,c,rfl⟩ jI seq_tuple_add PySem.F.slot_tuple_add PySem.F.entry_tuple_add (PySem.F.args_tuple_add_2 _ _) (tuple_addW0 a b _ _ n L B _ C _ (by simp)) ⟨j,c,⟨.ref b,H,I,rfl,q⟩⟩
def bI(b:Bool):Int:=if b=true then 1 else 0
def ao(g:Int->Int->Int):R2:=λx y H Q=>∃k j,x=.bl k/\y=.int j/\Q (.int (g (bI k) j)) H
def b9(g:Int->Int->Int):R2:=λx y H Q=>∃i k,x=.int i/\y=.bl k/\Q (.int (g i (bI k))) H
theorem op_add_bi:OpR X (binaryOp .Add) (ao λi j=>i+j):=by
 intro c s d H x y v u Q I a b h;obtain⟨k,j,rfl,rfl,q⟩:=h;cases a;obtain⟨t,rfl⟩:=b;exact PySem.IntBool.add_bool_int ⟨.int _,H,I.tok _,⟨_,rfl⟩,q⟩
theorem op_sub_bi:OpR X (binaryOp .Sub) (ao λi j=>i - j):=by
 intro c s d H x y v u Q I a b h;obtain⟨k,j,rfl,rfl,q⟩:=h;cases a;obtain⟨t,rfl⟩:=b;exact PySem.IntBool.sub_bool_int ⟨.int _,H,I.tok _,⟨_,rfl⟩,q⟩
theorem R7:OpR X (binaryOp .Sub) (b9 λi j=>i - j):=by
 intro c s d H x y v u Q I a b h;obtain⟨i,k,rfl,rfl,q⟩:=h;obtain⟨t,rfl⟩:=a;cases b;exact PySem.IntBool.sub_int_bool ⟨.int _,H,I.tok _,⟨_,rfl⟩,q⟩
def W0:List V->Hp->VK->Prop:=λa H Q=>(∃i,a=[.int i]/\i.natAbs.log2<1920/\Q (.str (toString i)) H)\/∃b,a=[.bl b]/\Q (.str (if b then "True" else "False")) H
theorem Sq:C2 X (.type "str") W0:=by
 intro f s a H c d Q I r h
 rcases h with h | ⟨b,rfl,q⟩
 ·exact NJ _ s a H c d Q I r h
 ·obtain⟨u,rfl,e⟩:=vals1 r
  cases e;exact PySem.P.str_of_bool ⟨.str _,H,I.tok _,⟨_,rfl⟩,q⟩
theorem Ta:∀{c:List String} {a:List Cn},Vals (c.map V.ty) a->a=c.map fE
 | [],a,b=>by cases b; rfl
 | T::r,a,b=>by
  cases b with
  | cons e d =>
   rw [dG,← Ta d]
   congr 1
theorem NK:C2 X (.builtin "isinstance") (λd H Q=>∃(x:V) (t:String) (p:Ch) (k:List String) (b:Bool),d=[x,.ref p]/\F4 X.K H x (.type t)/\t∈["NoneType","bool","int","str","tuple","list"]/\H p=some (.tup (k.map V.ty))/\PySem.W.kitAny X.K (.type t) (k.map fE)=some b/\Q (.bl b) H):=by
 intro E s F H d R Q I r h;obtain⟨x,t,p,k,b,rfl,ty,m,G,e,q⟩:=h;obtain⟨u,S,rfl,g,J⟩:=vals2 r;cases J;obtain⟨_,v,L,⟨⟨M,T,A,U⟩,j,B,n,C,_⟩⟩:=(show ObjOk X.prog X.w H s.heap p (.tup (k.map V.ty)) from I.hok p _ G);simp only at B C;subst B C;have N:v=k.map fE:=Ta L;subst N;have c:∀D,EP X E F Q (.bool b) { s with toks:=D }:=λD=>⟨.bl b,H,I.tok _,rfl,q⟩;cases ty with
 | non=>cases (show u=dO from g); exact PySem.W.kia_tup PySem.W.kitx_none I.kIn eP j e (λz=>nomatch z) c
 | bl y=>cases (show u=iD y from g); exact PySem.W.kia_tup PySem.W.kitx_bool I.kIn eP j e (λz=>nomatch z) c
 | int i=>obtain⟨t,q⟩:=(show ∃t,u=jr i t from g); cases q; exact PySem.W.kia_tup PySem.W.kitx_int I.kIn eP j e (λz=>nomatch z) c
 | str y=>obtain⟨t,q⟩:=(show ∃t,u=jt y t from g); cases q; exact PySem.W.kia_tup PySem.W.kitx_str I.kIn eP j e (λz=>nomatch z) c
 | flt y=>simp at m
 | @lst a d f =>
  cases (show u=cm a from g);obtain⟨_,_,n,_,l⟩:=(show ObjOk X.prog X.w H s.heap a (.lst d) from I.hok a _ f);exact PySem.W.kia_tup PySem.W.kitx_list I.kIn ⟨_,l,rfl⟩ j e (λz=>nomatch z) c
 | @frz a O d f =>
  cases (show u=cm a from g);obtain⟨_,_,_,n,_,l⟩:=(show ObjOk X.prog X.w H s.heap a (.frz O (.lst d)) from I.hok a _ f);exact PySem.W.kia_tup PySem.W.kitx_list I.kIn ⟨_,l,rfl⟩ j e (λz=>nomatch z) c
 | @tup a d f =>
  cases (show u=cm a from g);obtain⟨_,_,_,p⟩:=(show ObjOk X.prog X.w H s.heap a (.tup d) from I.hok a _ f);obtain⟨o,l,P,_⟩:=p;exact PySem.W.kia_tup PySem.W.kitx_tuple I.kIn ⟨o,l,P⟩ j e (λz=>nomatch z) c
 | dK f=>simp at m
 | dF f=>simp at m
 | dT f=>simp at m
end
end L2
namespace Dp
open L2
section
variable {K:Frag}{X:Cx}
def Aq(d e:D)(P:D->Prop):Prop:=match d,e with
 | .int i,.int j=>P (.int (i+j))
 | .bl k,.int j=>P (.int (bI k+j))
 | .str i,.str j=>i.length+j.length<=sizeLine/\P (.str (i++j))
 | .tup i,.tup j=>i.length+j.length<=sizeLine/\P (.tup (i++j))
 | .lst i,.lst j=>i.length+j.length<=sizeLine/\P (.lst (i++j))
 | _,_=>False
def W8(K:Frag):R2:=λx y H Q=>T9 K x y H Q\/(ao λi j=>i+j) x y H Q\/T7 K x y H Q
theorem Ak:OpR X (binaryOp .Add) (W8 X.K):=op_addU.or (op_add_bi.or UX)
theorem Ap:E5 X.K .sh (W8 X.K) Aq:=λU M H d e x y P Q c h f g w q=>by
 unfold Aq at w
 split at w
 ·exact .inl (NR U M H (.int _) (.int _) x y P Q c h f g w q)
 ·rename_i k j
  exact .inr (.inl ⟨k,j,f,g,q _ H (.int _) .refl rfl w⟩)
 ·exact .inl (NR U M H _ (.str _) x y P Q c h f g w q)
 ·rename_i i j
  cases i with
  | nil =>
   obtain⟨a,r,rfl,n,o⟩:=f.tup;obtain⟨b,l,rfl,m,p⟩:=g.tup;cases (o);exact .inr (.inr ⟨a,b,l,rfl,rfl,n.sq,m.sq,q _ H (.tup j) .refl ⟨b,l,rfl,m,p⟩ (by grind)⟩)
  | cons s i=>exact .inl (NR U M H _ (.tup j) x y P Q c h f g ⟨(by grind),w⟩ q)
 ·exact .inl (NR U M H (.lst _) (.lst _) x y P Q c h f g w q)
 grind
def IC(d e:D)(P:D->Prop):Prop:=match d,e with
 | .int i,.int j=>P (.int (i - j))
 | .bl k,.int j=>P (.int (bI k - j))
 | .int i,.bl k=>P (.int (i - bI k))
 | _,_=>False
def Wz:R2:=λx y H Q=>(IY λi j=>.int (i - j)) x y H Q\/(ao λi j=>i - j) x y H Q\/(b9 λi j=>i - j) x y H Q
theorem En:OpR X (binaryOp .Sub) Wz:=op_sub.or (op_sub_bi.or R7)
theorem Ge:E5 K .sh Wz IC:=λU M H d e x y P Q a f b c w q=>by
 unfold IC at w
 split at w
 ·exact .inl (VS U M H _ _ x y P Q a f b c w q)
 ·rename_i k j
  exact .inr (.inl ⟨k,j,b,c,q _ H (.int _) .refl rfl w⟩)
 ·rename_i i k
  exact .inr (.inr ⟨i,k,b,c,q _ H (.int _) .refl rfl w⟩)
 grind
def Uw(a:List D)(P:D->Prop):Prop:=match a with
 | [.int i]=>i.natAbs.log2<1920/\(dk (toString i)).length<=sizeLine/\P (.str (toString i))
 | [.bl b]=>P (.str (if b then "True" else "False"))
 | _=>False
theorem Y0:Ft K .sh W0 Uw:=by
 intro U M H e f P Q d g c w q;unfold Uw at w
 split at w
 ·rename_i i
  obtain⟨v,rfl,a⟩:=Ew c;rw [a.int];exact .inl ⟨i,rfl,w.1,q _ H (.str _) .refl ⟨rfl,w.2.1⟩ w.2.2⟩
 ·rename_i b
  obtain⟨v,rfl,a⟩:=Ew c;rw [a.bl];refine .inr ⟨b,rfl,q _ H (.str _) .refl ⟨rfl,?_⟩ w⟩;cases b <;> (decide)
 grind
def CJ(d:D)(a b:Option Int)(P:D->Prop):Prop:=match d with
 | .str z=>P (.str (Txt.slice z a b))
 | .lst c=>P (.lst (cutD c a b))
 | .tup c=>P (.tup (cutD c a b))
 | _=>False
def Zk(K:Frag):V->Option Int->Option Int->Hp->VK->Prop:=λx a b H Q=>Zh x a b H Q\/Zj K x a b H Q\/Zi K x a b H Q\/W1 K x a b H Q
theorem Cf:SlR X (Zk X.K):=sl_U.or (sl_list.or (sl_tup.or Vh))
theorem RC{M:Ch->Prop}{H:Hp}{a:List D}{b:List V}(c d:Option Int)(h:Ats K M H a b):Ats K M H (cutD a c d) (Ot b c d):=by
 unfold cutD Ot;rw [h.length];exact(h.drop _).take _
theorem Br:cE K .sh (Zk K) CJ:=by
 intro U M H d x c f P Q h n i w q;unfold CJ at w
 split at w
 ·rename_i z
  exact .inl ⟨z,i.str.1,i.str.2,q _ H (.str (Txt.slice z c f)) .refl ⟨rfl,cx (Txt.slice_le z c f) i.str.2⟩ w⟩
 ·rename_i l
  obtain⟨a,b,rfl,_,j,g⟩:=i;exact .inr (.inl ⟨a,b,rfl,.inl j,λp k=>q _ _ (.lst _) (A1 k) ((Cy (U:=U) k (RC c f g)).shOf h (by grind)) w⟩)
 ·rename_i l
  obtain⟨a,b,rfl,j,g⟩:=i.tup
  by_cases m:HT.sIx b.length 0 c=0/\HT.sIx b.length b.length f=b.length
  ·refine .inr (.inr (.inr ⟨a,b,rfl,j.sq,m,?_⟩))
   have e:cutD l c f=l:=by
    unfold cutD;rw [← g.length,m.1,m.2,jh,Nat.sub_zero,g.length,hZ]
   rw [e] at w;exact q _ H (.tup l) .refl ⟨a,b,rfl,j,g⟩ w
  ·exact .inr (.inr (.inl ⟨a,b,rfl,j.sq,m,λp k=>q _ _ (.tup _) (A1 k) (ET h k (RC c f g)) w⟩))
 grind
def Rc(f a:DW):DW:=λn c P=>f n c λd g=>a g c λi e=>i=.int (-1)/\match d with
 | .lst b=>P (.lst b.reverse) e
 | .tup b=>P (.tup b.reverse) e
 | _=>False
theorem NC{a B:c_}{I m:Kd}{D c:DW}{pos b:Pos}(e:DE X a I D)(o:DE X B m c):DE X (.Subscript a (.Slice none none (some B) b) pos) .sh (Rc D c):=by
 obtain⟨t,J,L⟩:=e;obtain⟨u,N,O⟩:=o;refine⟨_,YI J N,λC M H n E F P Q R w q=>?_⟩;refine L C M H n E F _ _ R w λv S d T r W Y p=>?_;have s:=R.step r W;have Z:=Y.tpOf R.dom R.vM;refine O C M S T E F _ _ s p λi H2 z G f x r2 b=>?_;have h:=s.step f x;have j:=Z.pres (s.pres f) f R.uV;obtain⟨rfl,b⟩:=b;refine⟨J8 r2,?_⟩;cases d with
 | lst y =>
  obtain⟨a,k,rfl,_,e,A⟩:=j;refine .inl ⟨a,k,rfl,.inl e,λp l=>?_⟩;have g:Grow H2 (A4 H2 p (.lst k.reverse)):=A1 l;exact q _ _ (.lst y.reverse) G ((r.trans f).trans g.ext) (x.grow g) ((Cy (U:=C.V) l A.reverse).shOf h.dom (by intro z; cases z)) b
 | tup y =>
  obtain⟨a,k,rfl,e,A⟩:=j.tup;refine .inr ⟨a,k,rfl,e.sq,λp l=>?_⟩;have g:Grow H2 (A4 H2 p (.tup k.reverse)):=A1 l;exact q _ _ (.tup y.reverse) G ((r.trans f).trans g.ext) (x.grow g) (ET h.dom l A.reverse) b
 | _=>exact b.elim
def YF(d:D):Prop:=match d with
 | .dic _ _=>False
 | .fdi _ _=>False
 | .dit _ _=>False
 | _=>True
def TJ(a b:String)(c:DW):DW:=λn e P=>c n e λd f=>YF d/\P (.bl (Oa (VZ d) a||Oa (VZ d) b)) f
theorem SS{a b t:String}(d:LH K a)(e:LH K b)(c:t∈["NoneType","bool","int","str","tuple","list","dict"]):PySem.W.kitAny K (.type t) [.type a,.type b]=some (Oa t a||Oa t b):=by
 unfold PySem.W.kitAny;rw [d.ans t c];cases Oa t a with
 | true=>rfl
 | false =>
  unfold PySem.W.kitAny;rw [e.ans t c];cases Oa t b <;> rfl
theorem ND{a:c_}{T:Kd}{N:DW}{h i:String}{c b:Str}{j:Nat}{p f e k pos:Pos}(U:LH X.K h)(V:LH X.K i)(W:DE X a T N)(Y:Gl X "isinstance")(Z:X.mg "isinstance"=none)(m:Gl X c)(o:X.mg c=none)(r:bootBuiltins c=some (.type h))
  (s:Gl X b) (u:X.mg b=none) (x:bootBuiltins b=some (.type i))
  (y:c ≠ "__name__":=by decide) (z:(c==("__debug__":Str))=false:=by decide) (A:b ≠ "__name__":=by decide) (B:(b==("__debug__":Str))=false:=by decide)
  (O:starEach [a,.Tuple [.Name c f,.Name b e] j k] X.env=(false,eval a X.env)::starEach [.Tuple [.Name c f,.Name b e] j k] X.env:=by rfl)
  (D:starEach [.Tuple [.Name c f,.Name b e] j k] X.env=[(false,eval (.Tuple [.Name c f,.Name b e] j k) X.env)]:=by rfl)
  (E:starEach [.Name c f,.Name b e] X.env=(false,eval (.Name c f) X.env)::starEach [.Name b e] X.env:=by rfl) (F:starEach [.Name b e] X.env=[(false,eval (.Name b e) X.env)]:=by rfl)
  (G:(backTo pos (starEach [.Tuple [.Name c f,.Name b e] j k] X.env)).any (·.1)=false:=by rfl):DE X (.Call (.Name "isinstance" p) [a,.Tuple [.Name c f,.Name b e] j k] [] pos) .sh (TJ h i N):=by
 obtain⟨t,h1,h2⟩:=W;have I:PE X (.Name c f) (tC (.ty h)):=Iv m o r rfl y z;have J:PE X (.Name b e) (tC (.ty i)):=Iv s u x rfl A B;refine⟨_,Cv NK Y Z (by decide +kernel) (BB h1 (BB (Pt (BB I (BB J B0 F) E)) B0 D) O) (by decide) (by decide) O G,λC M H n ρ σ P Q R w q=>?_⟩;refine h2 C M H n ρ σ _ _ R w λv S d n1 e1 f1 r1 p=>?_;refine⟨(by decide:2<=sizeLine),λtp L=>?_⟩;have g:Grow S (A4 S tp (.tup [.ty h,.ty i])):=A1 L;have tv:=(r1.tpOf R.dom R.vM).pres g.pres (g.ext) R.uV;obtain⟨hk,p⟩:=p;have l:VZ d∈["NoneType","bool","int","str","tuple","list"]:=by cases d <;> first | exact hk.elim | simp [VZ]
 refine⟨v,VZ d,tp,[h,i],_,rfl,QW tv,l,AX,SS U V (QX d),?_⟩;exact q _ _ (.bl _) n1 (e1.trans g.ext) (f1.grow g) rfl p
def XM:D->D->(D->Prop)->Prop:=av λi j P=>i.length+j.length<=sizeLine/\P (.lst (i++j))
end
end Dp
namespace Nt
open L2 Dp
def BA:W2:=λa n P=>∃m:Int,a=[.fd,.sh (.int m)]/\1<=m/\m<1073741824/\1<=n/\∀r:Int,0<=r->r<m->P (.int r) (n - 1)
def Wl:W2:=λa n P=>∃s:Int,a=[.fd,.sh (.int s)]/\1<=n/\∀r:Int,1<=r->r<=1000000->P (.int r) (n - 1)
def GD:Aj:=(Ac (BG (AR (AU (D_ false) (AB 1) (wC (D.int 0)))) (Au (AU Aq (wC (D.int 1)) (AZ BA (AE (Aw 0) (AE (AI (wC (D.int 3))) AY))))) Av)
 (Ac (BG (AR (AU (D_ false) (AB 1) (wC (D.int 1)))) (Au (AU Aq (wC (D.int 1)) (AZ BA (AE (Aw 0) (AE (AI (wC (D.int 12))) AY))))) Av)
 (Au (VY (AR (AU (D_ false) (AB 1) (wC (D.int 2)))) (AU IC (AU (PK Ik λi j=>D.int (i ^ j.toNat)) (wC (D.int 10)) (wC (D.int 6))) (AZ BA (AE (Aw 0) (AE (AI (wC (D.int 5))) AY)))) (AU Aq (wC (D.int 1)) (AZ BA (AE (Aw 0) (AE (AI (AU (PK Ik λi j=>D.int (i ^ j.toNat)) (wC (D.int 10)) (wC (D.int 6)))) AY))))))))
def GC:Aj:=(Ac (Az 2 (AZ BA (AE (Aw 0) (AE (AI (wC (D.int 3))) AY))))
 (Ac (Az 3 (DA (AF (wC (D.str "a")) (AF (wC (D.str "aa")) (AF (wC (D.str "ab")) (AF (wC (D.str "b")) (AF (wC (D.str "far")) (AF (wC (D.str "in")) (AF (wC (D.str "near")) (AF (wC (D.str "out")) (AF (wC (D.str "place")) (AF (wC (D.str "tie")) (AF (wC (D.str "ties")) (AF (wC (D.str "way")) AT))))))))))))))
 (Ac (BG (Gk (AR (AU (D_ false) (AB 2) (wC (D.int 0)))) (AR (AU EV (AB 1) (wC (D.int 13))))) (Ac (Az 4 (AZ BA (AE (Aw 0) (AE (AI (wC (D.int 12))) AY))))
 (Au (B8 KG (AF (BR [some 3,some 4,none] (EJ (AF (AB 1) AT)) (Af 2) CW (AU A8 (AB 0) (AU (PK (λ_ j=>0<j) λi j=>D.int (i % j)) (AU Aq (AB 1) (AB 2)) (wC (D.int 12))))) AT)))) Av)
 (Ac (Az 5 (wC (D.str "abcdefghijklmnopqrstuvwxyz")))
 (Ac (Az 6 (bD "str" Ux (wC (D.str "")) (AF (BR [some 5,some 0,none] (EJ (AF (wC (D.int 8)) AT)) (Af 2) CW (AU A8 (AB 0) (AZ BA (AE (Aw 1) (AE (AI (wC (D.int 26))) AY))))) AT)))
 (Ac (BG (Gk (AR (AU (D_ false) (AB 2) (wC (D.int 1)))) (AR (AU EV (AB 1) (wC (D.int 9))))) (Au (BR [some 6,none] (EJ (AF (AB 1) AT)) (Af 1) CW (F5 CJ (AB 0) A6 (BK (AU Aq (wC (D.int 1)) (AB 1)))))) Av)
 (Ac (Az 7 (AZ BA (AE (Aw 0) (AE (AI (wC (D.int 7))) AY))))
 (Ac (Az 4 (AZ BA (AE (Aw 0) (AE (AI (wC (D.int 26))) AY))))
 (Ac (EI 8 (DA AT))
 (Ac (E6 (EJ (AF (AB 1) AT)) (Af 9) (Ac (Az 10 (AU A8 (AB 5) (AU (PK (λ_ j=>0<j) λi j=>D.int (i % j)) (AU Aq (AB 4) (AB 9)) (wC (D.int 26)))))
 (TF 8 "list" KH (AF (AU Aq (AU Aq (AU Aq (F5 CJ (AB 6) A6 (BK (AB 7))) (AB 10)) (F5 CJ (AB 6) (BK (AU Aq (AB 7) (wC (D.int 1)))) (BK (wC (D.int 7))))) (AU C8 (wC (D.str "z")) (AU (PK (λ_ j=>0<j) λi j=>D.int (i % j)) (AB 9) (wC (D.int 2))))) AT))))
 (Au (B8 KG (AF (BE 8) AT)))))))))))))
def cs(x:Str):List Nat:=x.cps.toList
theorem DY(x:Str):(cs x).length=x.length:=eT
theorem KQ{x y:Str}(h:cs x=cs y):x=y:=by
 obtain⟨a⟩:=x;unfold cs at h
 simp_all
theorem Cs(x y:Str):cs (x++y)=cs x++cs y:=PySem.W.KT.app_list x y
theorem XY{x:Str}{j:Int}(a:0<=j)(b:j<=(x.length:Int)):cs (Txt.slice x none (some j))=(cs x).take j.toNat:=by
 have e:x.cps.toList.length=x.length:=by rw [show x.cps.toList.length=x.length from DY x]
 rw [eq_of_beq (slice_closes_to ⟨a,by omega⟩)];show ((x.cps.toList.drop _).take _)=(x.cps.toList).take _
 grind
theorem Yt{x:Str}{i j:Int}(a:0<=i)(b:i<=j)(c:j<=(x.length:Int)):cs (Txt.slice x (some i) (some j))=((cs x).drop i.toNat).take (j - i).toNat:=by
 have e:x.cps.toList.length=x.length:=by rw [show x.cps.toList.length=x.length from DY x]
 rw [eq_of_beq (slice_closes ⟨a,b,by omega⟩)];rfl
def D9(x:Str):Prop:=1<=x.length/\x.length<=8/\∀c∈cs x,97<=c/\c<=122
def rising(a:List Str):Prop:=a.Pairwise λx y=>cs x<cs y
theorem Uh(a b:List Nat):ltCps a b=decide (a<b):=ltCps_eq a b
theorem Hw:∀(l:List Str) (p:Str),risingS p l=true->(p::l).Pairwise λa b=>¬cs b<cs a
 | [],p,_=>gu _ _
 | x::r,p,h=>by
  have c:(!ltCps _ _&&risingS x r)=true:=h;rw [cq,Bool.not_eq_true',Uh,decide_eq_false_iff_not] at c;have e:=Hw r x c.2;refine dm.mpr ⟨λy d=>?_,e⟩
  rcases T0.mp d with rfl | d
  ·exact c.1
  ·exact List.le_trans c.1 ((dm.mp e).1 y d)
theorem F6{l:List Str}(h:sortedS l=true)(nd:l.Nodup):rising l:=by
 have c:l.Pairwise λa b=>¬cs b<cs a:=by
  cases l with
  | nil=>simp_all
  | cons x r=>exact Hw r x h
 exact(c.and nd).imp λ{a b} ⟨d,e⟩=>gi λf=>e (KQ (List.le_antisymm d f))
theorem Qa:∀(l:List Nat) (i j:Nat),i<j->i<l.length->l.take i<l.take j
 | [],_,_,_,h=>absurd h (Nat.not_lt_zero _)
 | c::r,0,j+1,_,_=>List.nil_lt_cons _ _
 | c::r,i+1,j+1,a,b=>List.cons_lt_cons_iff.mpr (.inr ⟨rfl,Qa r i j (by omega) (by simp_all)⟩)
theorem LY{b:BW}{m:DW}{P:List D->Nat->Prop}(I:Nat->Nat->List D->List Slot->Prop)(g:∀n a c,I 0 n a c->P a n)
  (e:∀(k:Nat) (d:D) (n:Nat) (a:List D) (c:List Slot) (o:List D->Nat->List Slot->Prop),I (k+1) n a c->(∀f i l,I k i f l->o f i l)->b d c λp=>m n p λy q=>o (a++[y]) q p) :
  ∀(j a:List D) (n:Nat) (c:List Slot),I j.length n a c->Ci b CW m P j a n c
 | [],a,n,c,h=>g n _ c h
 | d::j,a,n,c,h=>e _ d n _ c _ h λf i l r=>LY I g e j _ i _ r
theorem By(a:Int)(n:Nat):(Cu a n).length=n:=by unfold Cu; grind
theorem Jc{a:Int}{n:Nat}{d:D}(h:d∈Cu a n):∃k:Nat,k<n/\d=.int (a+k):=by
 obtain⟨k,b,rfl⟩:=Rs.mp h;exact⟨k,d8.mp b,rfl⟩
theorem Rw{d:List Slot}{n:Nat}{b:D->Nat->Prop}(h:Wl d n b):GD { nx:=λn _=>Kd.sh=.sh/\b .non n,rt:=b } n (d++Uf 0 .no):=by
 obtain⟨s,rfl,f,p⟩:=h;unfold GD;refine B3 (λ_=>⟨3,rfl,by decide,by decide,by omega,λr c a=>p _ (by omega) (by omega)⟩) λ_=>?_;refine B3 (λ_=>⟨12,rfl,by decide,by decide,by omega,λr c a=>p _ (by omega) (by omega)⟩) λ_=>?_;refine B3 (λ_=>⟨⟨by decide,by decide,by decide⟩,5,rfl,by decide,by decide,by omega,λr c a=>?_⟩) λ_=>⟨⟨by decide,by decide,by decide⟩,_,rfl,by decide,by decide,by omega,λr c a=>?_⟩
 ·have e:((10:Int) ^ (6:Int).toNat)=1000000:=by decide
  exact p _ (by rw [e]; omega) (by rw [e]; omega)
 ·have e:((10:Int) ^ (6:Int).toNat)=1000000:=by decide
  rw [e] at a;exact p _ (by omega) (by omega)
end Nt
namespace L2
theorem YR{K:Frag}:PySem.W.specialIn K (.builtin "object.__class__") "__get__"=some (some (.builtin "getset_descriptor.__get__")):=by kernel_rfl
theorem UZ{K:Frag}:PySem.W.takesIn K (.builtin "object.__class__")=some true:=by kernel_rfl
section
variable {K:Frag}{nm n1 n2:Str}{C U D U':Addr}
theorem XC.hd(c:XC K nm C U):PySem.W.hasDictIn K C=true:=by
 obtain⟨a,b,_,d,_⟩:=c.cls;unfold PySem.W.hasDictIn
 grind
theorem XC.mro(c:XC K nm C U)(v:Cn):PySem.W.mroIn K C v=some ((cm C::cm U::Ct).contains v):=by
 obtain⟨d,a,b,_⟩:=c.cls;unfold PySem.W.mroIn;rw [a,Option.bind_some,b]; rfl
theorem XC.name(c:XC K n1 C U)(d:XC K n2 C U'):n1=n2:=by
 obtain⟨f,g,_,_,h⟩:=c.cls;obtain⟨a,b,_,_,e⟩:=d.cls
 grind
theorem XC.nameU(c:XC K n1 C U)(d:XC K n2 U U'):n2 = "ThinError":=by
 obtain⟨q,N,i,j,b,k,f,l,m,n,o,p,r,s,e⟩:=c.up;obtain⟨g,a,_,_,h⟩:=d.cls;unfold PySem.W.clsIn at a;rw [e] at a
 grind
theorem XC.ty(c:XC K nm C U):(PySem.W.clsIn K C).isSome=true/\PySem.W.typeIn K (.ref C)=some (.type "type"):=by
 obtain⟨q,N,d,f,a,g,b,h,i,j,k,l,m,e⟩:=c.obj;refine⟨by unfold PySem.W.clsIn; rw [e]; rfl,?_⟩;unfold PySem.W.typeIn
 simp_all
theorem XC.kit(c:XC K n1 C U)(d:XC K n2 D U')(h:n2 ≠ "ThinError"):PySem.W.kitOne K (.ref C) (.ref D)=some (decide (n1=n2)):=by
 unfold PySem.W.kitOne
 by_cases e:C=D
 ·subst e
  rw [c.name d];simp
 ·have a:n1≠n2:=λz=>by
   subst z;have q:=c.at_.symm.trans d.at_
   grind
  have b:U≠D:=λz=>by subst z; exact h (c.nameU d)
  rw [if_neg (by simp [e])];show (if ((PySem.W.clsIn K D).isSome&&PySem.W.typeIn K _==some _)=true then PySem.W.subIn K _ _ else none)=_;rw [if_pos (by rw [d.ty.1,d.ty.2]; rfl)];show PySem.W.mroIn K C (.ref D)=_;rw [c.mro,IH]
  grind
theorem XC.kitV(c:XC K n1 C U):PySem.W.kitOne K (.ref C) (.type "ValueError")=some true:=by
 show PySem.W.mroIn K C _=_;rw [c.mro];simp [Ct]
end
section
variable {prog:Program}{w:World}{A:Around}{E:Value->Shared->Prop}{s:Shared}{K:Frag}{nm name:Str}{x C U:Addr}{ox:Obj}{od:Option Obj}{tk:Tok}{fill expr:Bool}
theorem Wo{Q:Cn->FM->Prop}(X:K.In s.heap)(c:XC K nm C U)(I:PySem.W.InstAt s.heap x ox C od)
  (h:wpAny (model prog w) A.in1 (gf.«object.__getattribute__» ⟨[.ref x,.str name tk],[]⟩) (λa d=>match a with | .done (.ret v)=>wpAny (model prog w) A (handedOut v) Q E d | _=>False) (λ_ _=>False) s) :
  wpAny (model prog w) A (getAttrBy (.ref x) (.str name tk) fill expr) Q E s:=by
 have e:=PySem.F.excAttr_ValueError;have f:(gA "BaseException.__getattribute__"==gA "object.__getattribute__")=false:=by decide +kernel
 have i:(onTheHeap (cm C)&&gA "BaseException.__getattribute__"==gA "object.__getattribute__")=false:=by rw [f]; rfl
 have g:(expr&&onTheHeap (gA "BaseException.__getattribute__"))=false:=by cases expr <;> rfl
 have b:PySem.W.Looks (model prog w) s.heap (isInstance (.ref x) (.type "BaseException")) true:=by
  refine I.type.andThen (PySem.W.looks_mroIn X ?_);rw [c.mro]; simp [Ct]
 refine dw (Db (I.type.here (Db ((PySem.W.looks_findIn X c.ga).here ?_))));show wpAny _ _ (if (onTheHeap (cm C)&&gA _==gA _)=true then _ else getAttrByItsOwn _ _ _ _ _ _) _ _ _;refine Db ((PySem.W.looks_findIn X c.gt).here (Db (hX (dw ?_))));unfold callGetattribute boundAndCalled;rw [g,e.ga.bind (.ref x)];refine Db (Sc (fj (iL e.ga.plain PySem.F.entry_bexc_ga (@PySem.W.check_slot (model prog w) _ _ s _ "BaseException" "__getattribute__" (.ref x) [.str name tk] [] _ (by decide +kernel) (by decide +kernel) b (PySem.F.args_bexc_ga _ _) (dP h (λa d z=>?_) λ_ _ z=>z.elim)))))
 rcases a with (_ | _ | _ | _) | _ <;> first | exact z | exact z.elim
theorem Xk{v:Cn}{Q:Cn->FM->Prop}(X:K.In s.heap)(c:XC K nm C U)(I:PySem.W.InstAt s.heap x ox C od)(a:PySem.W.findObj K C od name=some (.value v))(b:PySem.W.handedIn v=true)(h:Q v { s with toks:=s.toks+1 }) :
  wpAny (model prog w) A (getAttr (.ref x) name expr) Q E s:=by
 refine Db (wpAny_mkText (Wo X c I ?_));refine Db (Sc (Db (Sc (Db (PySem.W.Looks.here I.type (Db (PySem.W.Looks.here (PySem.W.looks_find X I a) (Sc ?_))))))));show wpAny _ _ _ _ _ _;rw [PySem.W.handedOut_of b]; exact Sc h
theorem S4{g a v:Cn}{Q:Option Cn->FM->Prop}(X:K.In s.heap)(c:XC K nm C U)(I:PySem.W.InstAt s.heap x ox C od)(b:PySem.W.findObj K C od name=some (.bind g a))(d:PySem.W.handedIn v=true)
  (h:∀{A:dL} {R:Cn->FM->Prop},R v { s with toks:=s.toks+1 }->wpAny (model prog w) A (call g [a,.ref x,.ref C]) R (λ_ _=>False) { s with toks:=s.toks+1 }) (q:Q (some v) { s with toks:=s.toks+1 }) :
  wpAny (model prog w) A (getAttr? (.ref x) name) Q E s:=by
 refine Db (wpAny_mkText (Db (hX (Wo X c I ?_))));unfold gf.«object.__getattribute__»;refine Db (Sc (Db (Sc (Db (PySem.W.Looks.here I.type (Db (PySem.W.Looks.here (PySem.W.looks_find X I b) ?_)))))));refine Db (dw (h (Sc ?_)));show wpAny _ _ _ _ _ _;rw [PySem.W.handedOut_of d]; exact Sc (Sc q)
end
section
variable {K:Frag}{nm:Str}{C U:Addr}
theorem XC.kitX{a:Ch}(c:XC K nm C U):PySem.W.KitX K (.ref a) (.ref C) (λh=>∃i b,PySem.W.InstAt h a i C b) where
 ty:=λ_ _ _ ⟨_,_,I⟩=>I.type
 it:=λ_ _ X _=>by
  obtain⟨q,N,l,m,d,o,f,p,t,u,v,x,y,e⟩:=c.obj;intro L M O P k q;exact Db (wpAny_loadPart (k _ _ (X _ _ e)) (Sc q))
 ne:=λh tp B D n R X g=>by
  obtain⟨q,N,l,m,d,o,f,p,t,u,v,x,y,e⟩:=c.obj;refine d7.mpr λz=>?_;have F:C=tp:=Value.ref.inj (beq_iff_eq.mp z);subst F;have S:=congrArg Obj.data (cv ((X _ _ e).symm.trans g))
  grind
 ca:=λ{j w A E Q s} X J k=>by
  obtain⟨i,b,I⟩:=J
  have G:PySem.W.findObj K C b "__class__"=some (.bind (.builtin "getset_descriptor.__get__") (.builtin "object.__class__")):=by
   obtain⟨T,H,_⟩:=c.cls;unfold PySem.W.findObj;rw [H,c.ca];simp [YR,UZ]
  exact S4 X c I G rfl (λr=>fj (PySem.W.class_get X I (c.mro _) r)) k
end
section
variable {X:Cx}{zG:List (Addr×Obj)}{σ:St}{H:Hp}{s:Shared}{a C U d:Addr}{dx:Option Addr}{u:HO}{nm f:Str}{fs:List (Str×V)}{v:V}{A:Around}{E:Value->Shared->Prop}
theorem XT.inst(e:XT C dx a u)(I:Inv X zG σ H s)(g:H a=some u)(hd:∀d,dx=some d->∃o,s.heap.get? d=some o):∃h b,PySem.W.InstAt s.heap a h C b:=by
 obtain⟨j,k,rfl,l⟩:=e;obtain⟨c,_⟩:=(I.hok a _ g);cases dx with
 | none=>exact⟨_,none,c,rfl,rfl,trivial⟩
 | some d =>
  obtain⟨o,i⟩:=hd d rfl;exact⟨_,some o,c,rfl,rfl,i⟩
theorem WB{b:Bool}{Q:Cn->FM->Prop}(I:Inv X zG σ H s)(i:H a=some u)(j:XT C (some d) a u)(k:H d=some (.ext (XF d m)))(c:XC X.K nm C U)(n:Gg X.K C f)(l:m.lookup f=some v)
  (h:∀u e,Inv X zG σ H e->RelV v u->Q u e):wpAny (model X.prog X.w) A (getAttr (.ref a) f b) Q E s:=by
 obtain⟨z,B,rfl,D⟩:=j;obtain⟨o,_⟩:=(I.hok a _ i);obtain⟨⟨F,p,r,G,_⟩,_⟩:=(I.hok d _ k);obtain⟨J,q,t⟩:=LZ p;obtain⟨x,y,g⟩:=RelO.some_of (by rw [← l]; exact r f);exact Xk I.kIn c ⟨o,rfl,rfl,q⟩ (PySem.W.findObj_own c.hd n rfl (by rw [t,y])) (Sb g) (h x _ (I.tok _) g)
end
def cM(K:Frag)(e:TE)(f:Str):TE:=λg H Q=>e g H λx b=>∃a C U d u h c v,x=.ref a/\b a=some u/\XT C (some d) a u/\b d=some (.ext (XF d c))/\XC K h C U/\Gg K C f/\c.lookup f=some v/\Q v b
section
variable {X:Cx}{e:Expr}{f:Str}{pos:Pos}{ta:TE}
theorem Zz(b:PE X e ta)(g:attributeBase e f X.env (eval e X.env)=eval e X.env):PE X (.Attribute e f pos) (cM X.K ta f):=by
 intro y s i H Q I h;refine Wg g (thn (b _ s i H _ I h) λu z ⟨x,j,k,m,a,C,U,d,A,B,D,v,ex,o,p,r,c,n,l,q⟩=>?_);subst ex;obtain rfl:u=cm a:=m;exact WB k o p r c n l λE F t w=>⟨v,j,t,w,q⟩
theorem O0:C2 X (.builtin "isinstance") (λi H Q=>∃a C U g u j y c b,i=[.ref a,y]/\H a=some u/\XT C g a u/\(∀d,g=some d->∃k,H d=some (.ext (XF d k)))/\XC X.K j C U/\(y=.ty c/\PySem.W.kitOne X.K (.ref C) (.type c)=some b\/∃D,y=.ref D/\PySem.W.kitOne X.K (.ref C) (.ref D)=some b)/\Q (.bl b) H):=by
 intro F s G H i L Q I r h;obtain⟨a,C,U,g,u,j,y,c,b,rfl,p,t,v,l,x,q⟩:=h;obtain⟨z,m,rfl,A,n⟩:=vals2 r;cases (show z=cm a from A)
 have J:=t.inst I p λd e=>by
  obtain⟨k,B⟩:=v d e;obtain⟨⟨M,⟨o,_,_,N,_⟩,_⟩,_⟩:=(show ObjOk X.prog X.w H s.heap d _ from I.hok d _ B)
  grind
 rcases x with ⟨rfl,e⟩ | ⟨D,rfl,e⟩
 ·cases (show m=fE c from n)
  exact PySem.W.kia_one l.kitX I.kIn J e (by grind) λE=>⟨.bl b,H,I.tok _,rfl,q⟩
 ·cases (show m=cm D from n)
  exact PySem.W.kia_one l.kitX I.kIn J e (by grind) λE=>⟨.bl b,H,I.tok _,rfl,q⟩
end
end L2
namespace Dp
open L2
def cC(M:Ch->Prop)(H:Hp)(a:Option Ch)(b:List Str)(c:List V):Prop:=a=none/\b=[]/\c=[]\/∃d,a=some d/\¬M d/\H d=some (.ext (XF d (b.zip c)))
abbrev PX:=Str->List Str->List D->Nat->Prop
abbrev WX:=List Slot->Nat->(D->Nat->Prop)->PX->Prop
def LiftX(K:Frag)(F:Option (Ch×Ch))(U M:Ch->Prop)(H:Hp)(h:PX)(E:XK):Prop:=∀d C i b c e f a g,Ext U H a->FeedC K F M a g->XC K d C i->cC M a f b e->b.length=c.length->Ats K M a c e->h d b c g->E (.ref C) f a
def am(K:Frag)(h:Kd)(W:WX)(i:Nat):Sp:=λb H Q E=>b.length=i/\∃(F:Option (Ch×Ch)) (U c M:Ch->Prop) (n:Nat) (e:List Slot) (P:D->Nat->Prop) (f:PX),Y5 K F U c M H n e b/\W e n P f /\
 (∀v a d g,Ext U H a->FeedC K F M a g->VR K c M H a h v d->P d g->Q v a)/\LiftX K F U M H f E
section
variable {K:Frag}{C:Fm}{M:Addr->Prop}{H:Hp}{n:Nat}{ρ:List Slot}{σ:L2.St}
theorem Rel.setS(R:Rel K C M H n ρ σ){i:Nat}{s:Slot}{o:Option V}(x:s.owns=false)(y:∀d,s≠.br d)(h:SlotOk K C.F C.V M H s o):Rel K C M H n (ρ.set i s) (σ.set i o):=by
 have b:∀(j:Nat) (t:Slot),(ρ.set i s)[j]?=some t->t.owns=true->ρ[j]?=some t/\((σ.set i o)[j]?).getD none=(σ[j]?).getD none:=λj t q w=>by
  rcases FD q with ⟨_,_,rfl⟩ | ⟨f,q⟩
  ·rw [x] at w; cases w
  ·exact⟨q,GL f⟩
 refine⟨by rw [fb,fb]; exact R.len,R.sub,R.dom,R.ext,R.fU,R.uV,R.vM,R.feed,λj s q=>?_,R.pin,λj e a q c=>?_,λj s a q o c=>?_,λj k s t a g m c r u v=>?_,λp z=>?_⟩
 ·rcases FD q with ⟨rfl,A,rfl⟩ | ⟨f,q⟩
  ·rw [PZ (by rw [← R.len]; exact A)]
   exact h
  ·rw [GL f]
   exact R.sl j s q
 ·rcases FD q with ⟨_,_,e⟩ | ⟨f,q⟩
  ·exact absurd e.symm (y _)
  ·rw [GL f] at c
   exact R.br0 j e a q c
 ·obtain⟨g,e⟩:=b j s q o
  rw [e] at c;exact R.new j s a g o c
 ·obtain⟨B,D⟩:=b j s g m
  obtain⟨E,l⟩:=b k t c r;rw [D] at u;rw [l] at v;exact R.two j k s t a B m E r u v
 ·obtain⟨G,I,J,L⟩:=R.kept p z
  refine⟨G,I,J,λj e q=>?_⟩;obtain⟨g,l⟩:=b j _ q rfl;rw [l];exact L j e g
end
def ZP(d:Fm->Prop)(X:Cx)(e:Kd)(f:dE)(w:Aj):Prop:=∃t,PS X f t/\∀(C:Fm) (M:Ch->Prop) (H:Hp) (n:Nat) (a:List Slot) (b:L2.St) (c:E2) (E:Ends),d C->Rel X.K C M H n a b->HG X.K C e c E->w c n a->t E b H
def PJ(d:Fm->Prop)(X:Cx)(e:Kd)(f:List dE)(w:Aj):Prop:=∃t,PSs X f t/\∀(C:Fm) (M:Ch->Prop) (H:Hp) (n:Nat) (a:List Slot) (b:L2.St) (c:E2) (E:Ends),d C->Rel X.K C M H n a b->HG X.K C e c E->w c n a->t E b H
section
variable {Φ:Fm->Prop}{X:Cx}{κ:Kd}{st:Stmt}{rest:List Stmt}{u v:Aj}{wA:HI}{c:Expr}{pos p:Pos}
theorem U5(h:DS X κ st u):ZP Φ X κ st u:=let ⟨t,a,b⟩:=h; ⟨t,a,λC M H n c d e E _=>b C M H n c d e E⟩
theorem Q_(h:QR X κ rest u):PJ Φ X κ rest u:=let ⟨t,a,b⟩:=h; ⟨t,a,λC M H n c d e E _=>b C M H n c d e E⟩
theorem Hm(e:ZP Φ X κ st u)(f:PJ Φ X κ rest v):PJ Φ X κ (st::rest) (Ac u v):=by
 obtain⟨t,g,h⟩:=e;obtain⟨k,i,j⟩:=f;exact⟨_,BL g i,λC M H n a b c E d R L w=>h C M H n a b { c with nx:=v c } _ d R ⟨λM H n a b R w=>j C M H n a b c E d R L w,L.rt,L.bk,L.ct⟩ w⟩
theorem G5(a:ZP Φ X κ st u):PJ Φ X κ [st] u:=by
 obtain⟨t,b,c⟩:=a;exact⟨t,Cb b,c⟩
theorem U6{a b:List dE}(l:DT X c wA)(m:PJ Φ X κ a u)(o:PJ Φ X κ b v):ZP Φ X κ (.If c a b pos) (BG wA u v):=by
 obtain⟨t,q,r⟩:=l;obtain⟨B,s,x⟩:=m;obtain⟨y,z,A⟩:=o;refine⟨_,Ql q s z,λC M H n d e f E g R L w=>?_⟩;refine r C M H n d e _ _ R w λb h i j k p=>?_;cases b with
 | true=>exact x C M h i d e f E g (R.step j k) L p
 | false=>exact A C M h i d e f E g (R.step j k) L p
end
def Ij(P:cz)(w:dC)(K:Frag)(b:Str->Option Cn)(a:cw)(c:Str)(d:List Str)(k:Nat):Prop:=∃C U,XC K c C U/\b c=some (.ref C) /\
 ((d=[]/\PySem.W.findIn K (.ref C) "__init__"=some (some (.builtin "ValueError.__init__")))\/∃e g f fd h i j,d=[e,g]/\PySem.W.findIn K (.ref C) "__init__"=some (some (.ref f))/\PySem.W.typeIn K (.ref f)=some (.type "function")/\BD P w K b a CL k f fd [h,i,j] (HN C e g)/\Binds K fd [h,i,j] [])
def L_(d:Str)(a:List Str)(b:Ef):E2->PX->Nat->List Slot->Prop:=λ_ e n g=>b n g λc f=>(a=[]/\c.length<=100/\e d [] [] f)\/(a.length=2/\c.length=2/\e d a c f)
abbrev ZE:=E2->PX->Nat->List Slot->Prop
def bB(X:Cx)(e:Kd)(f:dE)(w:ZE):Prop:=∃t,ZL X f t/\∀(C:Fm) (M:Ch->Prop) (H:Hp) (n:Nat) (a:List Slot) (b:L2.St) (c:E2) (E:Ends) (R:XK) (d:PX),Rel X.K C M H n a b->HG X.K C e c E->LiftX X.K C.F C.U M H d R->w c d n a->t E R b H
def ag(X:Cx)(e:Kd)(f:List dE)(w:ZE):Prop:=∃t,Y6 X f t/\∀(C:Fm) (M:Ch->Prop) (H:Hp) (n:Nat) (a:List Slot) (b:L2.St) (c:E2) (E:Ends) (R:XK) (d:PX),Rel X.K C M H n a b->HG X.K C e c E->LiftX X.K C.F C.U M H d R->w c d n a->t E R b H
theorem LiftX.step{K:Frag}{F:Option (Ch×Ch)}{U M:Ch->Prop}{H a:Hp}{b:PX}{E:XK}(h:LiftX K F U M H b E)(e:Ext U H a):LiftX K F U M a b E:=λc C d f g i j k l m=>h c C d f g i j k l (e.trans m)
section
variable {X:Cx}{κ:Kd}{st:Stmt}{u v:ZE}{c e:Expr}{es:List Expr}{pos cpos p:Pos}{nm:Str}{ks:List Str}{k:Nat}{was:Ef}
theorem U4(a:bB X κ st u):ag X κ [st] u:=by
 obtain⟨t,b,c⟩:=a;exact⟨t,UD b,c⟩
theorem Lo(G:Ij X.prog X.w X.K X.mg X.base nm ks k)(J:Room (k+1) X.A)(N:Gl X nm)(ha:Xf X (e::es) was)(a:(nm==("__debug__":Str))=false:=by decide)(O:starEach (e::es) X.env=(false,eval e X.env)::starEach es X.env:=by rfl)(b:(backTo cpos (starEach es X.env)).any (·.1)=false:=by rfl)
  (c:(e::es).length<=sizeLine:=by decide):bB X κ (.Raise (some (.Call (.Name nm p) (e::es) [] cpos)) none pos) (L_ nm ks was):=by
 obtain⟨C,U,h,P,G⟩:=G;obtain⟨t,Q,S⟩:=ha
 rcases G with ⟨rfl,s⟩ | ⟨T,V,f,fd,p0,p1,p2,rfl,s,hf,F,hb⟩
 ·refine⟨_,Po h s J.hd N P Q a O b,λu M H n x y D2 E R Pr r L l w=>?_⟩
  refine S u M H n x y _ _ r w λW Y Z B i j m p=>?_
  rcases p with ⟨_,c,p⟩ | ⟨z,_⟩
  ·exact⟨by rw [m.length,PySem.sizeLine_eq]; omega,l nm C U [] [] [] none Y B i j h (.inl ⟨rfl,rfl,rfl⟩) rfl rfl p⟩
  ·cases z
 ·refine⟨_,Pn h s hf F hb J N P Q a O b,λu M H n x y D2 E R Pr r L l w=>?_⟩
  refine S u M H n x y _ _ r w λW Y Z B i j m p=>?_
  rcases p with ⟨z,_⟩ | ⟨_,c,p⟩
  ·cases z
  ·have hv:=m.length
   rw [c] at hv
   match W,hv with
   | [D,I],_ =>
    refine⟨D,I,rfl,λd hd=>?_⟩;have g:=A1 (o:=.ext (XF d [(T,D),(V,I)])) hd
    have nd:¬M d:=λz=>by
     obtain⟨o,q⟩:=(r.step i j).dom d z;rw [hd] at q; cases q
    exact l nm C U [T,V] Z [D,I] (some d) _ B (i.trans g.ext) (j.grow g) h (.inr ⟨d,rfl,nd,AX⟩) c.symm (m.pres g.pres) p
theorem KI{R:XK}{j:Fm->Prop}{b:PX}{k:Option (Ch×Ch)}{l m:Ch->Prop}{H0:Hp}{w:ZE}(o:Hr (RX X.prog X.w) X R)(q:LiftX X.K k l m H0 b R)(c:∀C,j C->C.F=k/\C.U=l/\C.M0=m/\C.H0=H0)(h:bB X κ st w):ZP j X κ st (λg=>w g b):=by
 obtain⟨t,s,u⟩:=h;refine⟨_,Rx o s,λC M H n x y g E A r L w=>?_⟩;obtain⟨rfl,rfl,rfl,rfl⟩:=c C A;refine u C M H n x y g E R b r L (λnm B D ks G I J i N e f O xd P Q p=>?_) w;have a:Pres M i _ i:=Pres.less r.sub;refine q nm B D ks G I J i N (r.ext.trans e) (f.pres a λ_ _ _ z=>z) O ?_ P (Q.pres a) p
 rcases xd with z | ⟨d,S,T,V⟩
 ·exact .inl z
 ·exact .inr ⟨d,S,λz=>T (r.sub d z),V⟩
def cJ(X:Cx)(e:c_)(κ:Kd)(w:Nat->List Slot->(D->Nat->Prop)->PX->Prop):Prop:=∃t,bq X e t/\∀(C:Fm) (M:Ch->Prop) (H:Hp) (n:Nat) (b:List Slot) (c:L2.St) (P:D->Nat->Prop) (Q:VK) (R:XK) (f:PX),Rel X.K C M H n b c->LiftX X.K C.F C.U M H f R->w n b P f ->
 (∀v a d g,Ext C.U H a->FeedC X.K C.F M a g->VR X.K C.V M H a κ v d->P d g->Q v a)->t R c H Q
def ZA(P:cz)(w:dC)(K:Frag)(c:Str->Option Cn)(a:cw)(x:Str)(k:Nat)(b:List Str)(κ:Kd)(W:WX):Prop :=
 ∃f fd,BD P w K c a (RX P w) k f fd b (am K κ W b.length)/\c x=some (.ref f)/\keepIn K (.ref f)=true/\Binds K fd b []/\∀d n P e,W d n P e->d.length=b.length
def TQ(W:WX)(was:S1):Nat->List Slot->(D->Nat->Prop)->PX->Prop:=λn a P b=>was n a λc d=>W c d P b
theorem U9{m:List Str}{h:Kd}{W:WX}{x:Str}{was:S1}(G:ZA X.prog X.w X.K X.mg X.base x k m h W)(o:Room k X.A)(s:Gl X x)(u:Xe X (e::es) was)
  (c:(x==("__debug__":Str))=false:=by decide) (y:starEach (e::es) X.env=(false,eval e X.env)::starEach es X.env:=by rfl) (g:(backTo pos (starEach es X.env)).any (·.1)=false:=by rfl) :
  cJ X (.Call (.Name x p) (e::es) [] pos) h (TQ W was):=by
 obtain⟨f,fd,G,z,B,D,E⟩:=G;obtain⟨t,F,I⟩:=u;refine⟨_,UL G o s z B D F c y g,λC M H n J L P Q R N r l w q=>?_⟩;refine I C M H n J L _ _ r w λvs H1 O S a i j p=>?_;have b:=r.step a i;exact⟨(Paired.length j).trans (E _ _ _ _ p),_,_,_,M,S,O,P,N,⟨b.dom,b.fU,b.uV,b.vM,i,j⟩,p,λv H2 d T U V Y Z=>q v H2 d T (a.trans U) V (VR.back a Y) Z,l.step a⟩
abbrev ZF:=E2->Str->List Str->List D->Nat->List Slot->Prop
def DH(X:Cx)(κ:Kd)(h:List gc)(w:ZF):Prop:=∃t,PH X h t/\∀(C:Fm) (M:Ch->Prop) (H:Hp) (n:Nat) (b:List Slot) (c:L2.St) (d:E2) (E:Ends) (nm:Str) (e i:Ch) (ks:List Str) (a:List D) (f:List V) (g:Option Ch),
 Rel X.K C M H n b c->HG X.K C κ d E->XC X.K nm e i->cC M H g ks f->ks.length=a.length->Ats X.K M H a f->w d nm ks a n b->t E e g c H
def ZQ(c:ZE)(d:ZF):Aj:=λa n b=>c a (λnm ks e f=>d a nm ks e f b) n b
theorem Yi{a:List dE}{b:gc}{c:List gc}{h:ZE}{i:ZF}(d:X.stack=X.env::X.outer)(g:X.env.frame=some X.env.locals)(o:∀e s,X.xe e s->False)(q:ag X κ a h)(u:DH X κ (b::c) i) :
  DS X κ (.Try a (b::c) [] [] pos) (ZQ h i):=by
 obtain⟨t,x,y⟩:=q;obtain⟨O,z,A⟩:=u;exact⟨_,YD d g o x z,λC M H n j k l E r L w=>y C M H n j k l E _ _ r L (λnm m B ks D F G I J e f K xd N c p=>⟨m,rfl,A C M I J j k l E nm m B ks D F G (r.step e f) L K xd N c p⟩) w⟩
def TK:ZF:=λ_ _ _ _ _ _=>False
theorem Yl:DH X κ [] TK:=⟨_,YG,λ_ _ _ _ _ _ _ _ _ _ _ _ _ _ _ _ _ _ _ _ _ w=>w.elim⟩
def TL(e:Str)(i:Nat)(h:Ch->Aj)(j:ZF):ZF:=λb nm ks f n g=>if nm=e\/e = "ThinError" then ∀a,h a { nx:=λc d=>b.nx c (d.set i .no),rt:=b.rt,bk:=λc d=>b.bk c (d.set i .no),ct:=λc d=>b.ct c (d.set i .no) } n (g.set i (.ex a nm ks f)) else j b nm ks f n g
theorem WU{i:Nat}{f y:Str}{h:dE}{b:List dE}{x:List gc}{J:Ch}{P:Ch->Aj}{Z:ZF}{np:Pos}(hN:X.N.Nodup)(hi:X.N[i]?=some y)(hl:X.env.scope.names.lookup y=some .local)(hg:Gl X f)(hm:X.mg f=some (.ref J))(hK:nsIn X.K mainGlobals f=some (some (.ref J)))
  (Q:f = "ThinError"/\ZO X.K J\/f ≠ "ThinError"/\∃U,XC X.K f J U) (R:X.stack=X.env::X.outer) (S:X.env.frame=some X.env.locals)
  (T:∀a,QR (X.hush (X.A.mark (some (.ref a)))) κ (h::b) (P a)) (hr:DH X κ x Z) (hd:(f==("__debug__":Str))=false:=by decide) :
  DH X κ (.ExceptHandler (some (.Name f np)) (some y) (h::b) pos::x) (TL f i P Z):=by
 obtain⟨th,b1,b2⟩:=hr;have V:∀a,∃t,PSs (X.hush (X.A.mark (some (.ref a)))) (h::b) t/\∀(C:Fm) (M:Ch->Prop) (H:Hp) (n:Nat) (B:List Slot) (O:L2.St) (k:E2) (E:Ends),Rel X.K C M H n B O->HG X.K C κ k E->P a k n B->t E O H:=T;refine⟨_,Vr (ts:=λa=>(V a).choose) hN hi hl hg hm (Q.elim (λz=>z.2) fun⟨_,U,c⟩=>c.isX) R S (λa=>(V a).choose_spec.1) b1 hd,λC M H n B O k E nm Cc W ks ds vs dx r L m xd D x w=>⟨nm,W,m,?_⟩⟩;unfold TL at w
 by_cases e:nm=f\/f = "ThinError"
 ·rw [if_pos e] at w
  refine .inl ⟨?_,λa u fa xt=>?_⟩
  ·rcases Q with ⟨z,_⟩ | ⟨z,U,c⟩
   ·subst z
    have q:=m.atU.symm.trans hK;cases q;exact .inr rfl
   ·rcases e with e | e
    ·subst e
     have q:=m.at_.symm.trans hK;cases q;exact .inl rfl
    ·exact absurd e z
  ·have g:Grow H (A4 H a u):=A1 fa
   have r1:=r.step (g.ext) (r.feed.grow g);have na:¬M a:=λz=>by obtain⟨o,q⟩:=r.dom a z; rw [fa] at q; cases q
   have nd:∀{d:Ch} {o:HO},H d=some o->A4 H a u d=some o:=λ{d o} q=>g.all d o q;refine(V a).choose_spec.2 C M (A4 H a u) n (B.set i (.ex a nm ks ds)) _ { nx:=λj l=>k.nx j (l.set i .no),rt:=k.rt,bk:=λj l=>k.bk j (l.set i .no),ct:=λj l=>k.ct j (l.set i .no) } _ (r1.setS rfl (λ_ z=>by cases z) ⟨rfl,Cc,W,dx,u,vs,m,⟨na,AX⟩,xt,?_,D,x.pres g.pres⟩) ⟨λF G j l zZ I q=>?_,L.rt,λF G j l zZ I q=>?_,λF G j l zZ I q=>?_⟩ (w a)
   ·rcases xd with z | ⟨d,Y,n1,h1⟩
    ·exact .inl z
    ·exact .inr ⟨d,Y,n1,nd h1⟩
   ·exact L.nx F G j _ _ (I.setS (s:=.no) rfl (λ_ z=>by cases z) trivial) q
   ·exact L.bk F G j _ _ (I.setS (s:=.no) rfl (λ_ z=>by cases z) trivial) q
   ·exact L.ct F G j _ _ (I.setS (s:=.no) rfl (λ_ z=>by cases z) trivial) q
 ·rw [if_neg e] at w
  have Y:nm≠f:=λz=>e (.inl z);have e2:f ≠ "ThinError":=λz=>e (.inr z)
  rcases Q with ⟨z,_⟩ | ⟨_,U,c⟩
  ·exact absurd z e2
  ·refine .inr ⟨λz=>?_,λz=>?_,b2 C M H n B O k E nm Cc W ks ds vs dx r L m xd D x w⟩
   ·subst z
    exact Y (m.name c)
   ·subst z
    exact e2 (m.nameU c)
end
end Dp
namespace L2
def HX(A:dL)(H:Hp):Prop:=∃a C b u,A.handled=some (.ref a)/\H a=some u/\XT C b a u
structure cD (P:cz) (w:dC) (K:Frag) (tg:c_) (J:It) (fp:List Ch) (it:Ch) (tn:Nat->cw->Prop):Prop where
 mem:it∈fp
 obj:∀i h,tn i h->∀b∈fp,∃o,h.get? b=some o/\∀v,o.data≠.cell v
 keep:∀i h h',tn i h->(∀b∈fp,∀o,h.get? b=some o->h'.get? b=some o)->tn i h'
 item:∀(X:Cx),X.prog=P->X.w=w->X.K=K->HX X.A X.H₀->∀(i:Nat) (zG:List (Ch×Obj)) (s:FM) (σ:St) (H:Hp) (E:Cn->FM->Prop),Inv X zG σ H s->(∀b∈fp,Gh X zG H b)->tn i s.heap->J.go i H ->
  wpAny (model P w) X.A (pyNext (.ref it)) (λr s1=>∃u,r=some u /\
   wpAny (model P w) X.A (letOwnedTupleGo tg (.ref it) u) (λ_ s2=>∃x H',Inv X zG σ H' s2/\RelV x u/\J.yld i H x H'/\tn (i+1) s2.heap/\∀b∈fp,H' b=none) E s1) E s
 done:∀(X:Cx),X.prog=P->X.w=w->X.K=K->HX X.A X.H₀->∀(i:Nat) (zG:List (Ch×Obj)) (s:FM) (σ:St) (H:Hp) (E:Cn->FM->Prop),Inv X zG σ H s->(∀b∈fp,Gh X zG H b)->tn i s.heap->J.stop i H ->
  wpAny (model P w) X.A (pyNext (.ref it)) (λr s1=>r=none/\Inv X zG σ H s1) E s
 self:∀(A:dL) (i:Nat) (s:FM) (Q:Cn->FM->Prop) (E:Cn->FM->Prop),tn i s.heap->Q (.ref it) s->wpAny (model P w) A (pyIter (.ref it)) Q E s
end L2
namespace Dp
open L2
end Dp
namespace L2
structure RoomH (k:Nat) (A:dL):Prop where
 dp:A.depth+3*k+5<recursionLimit
 un:A.units+16*k+200<cLine
 gd:A.guards=some []
theorem RoomH.mono{j k:Nat}{A:dL}(r:RoomH k A)(h:j<=k):RoomH j A:=⟨by have:=r.dp; omega,by have:=r.un; omega,r.gd⟩
theorem RoomH.room{k:Nat}{A:dL}(r:RoomH k A):Room k { A with handled:=none }:=⟨rfl,r.dp,r.un,r.gd⟩
theorem Room.held{k:Nat}{A:dL}(r:Room k A)(e:Option Cn):RoomH k (A.mark e):=⟨r.dp,r.un,r.gd⟩
theorem RoomH.deeper{k:Nat}{A:dL}(r:RoomH (k+1) A)(a:Env):RoomH k (A.deeper a):=let q:=r.room.deeper a; ⟨q.dp,q.un,q.gd⟩
structure L7 (P:cz) (w:dC) (K:Frag) (mg:Str->Option Cn) (base:cw) (k:Nat) (f:Ch) (fd:dU) (ps:List Str) (sp:Sp):Prop where
 len:∀vs H Q E,sp vs H Q E->vs.length=ps.length
 run:∀(A:dL) (outer:List Env) (s:FM) (H:Hp) (args:Args) (us:List Cn) (vs:List V) (Q:VK) (E:XK),RoomH k A->HX A H->Env0 P w K mg base A outer s H->iX s fd args (ps.zip us)->Vals vs us->sp vs H Q E ->
  codeAny (model P w) A (.call (.ref f) args) (CR CL outer P w H s Q E) s
theorem Fun.okH{P:cz}{w:dC}{K:Frag}{C:Str->Option Cn}{g:cw}{x a:Str}{h:dE}{f:Ch}{fd:dU}{N L:List Str}{k:Nat}{O:Sp}(F:Fun K x a h f fd)(S:Ai N L (AH h))(len:∀l H Q E,O l H Q E->l.length=L.length)
  (p:∀(d:Cn) (A:dL) (c:List Env) (s:FM) (H:Hp) (l:List V) (Q:VK) (E:XK),RoomH k (A.deeper (envOfC a (AH h) s.heap.objs.size f d))->HX A H->O l H Q E ->
   ∃t,PSs ((EX CL P w K C g N a (AH h) f d A c s H E).hush (A.deeper (envOfC a (AH h) s.heap.objs.size f d))) (BX h) t/\t { nx:=λ_ m=>Q .non m,rt:=Q } (start N l) H):L7 P w K C g (k+1) f fd L O:=by
 obtain⟨oc,od,kV,a0,pm,an,d,ct,a1,rfl,lk,R⟩:=F.ex;refine⟨len,λA c s H Z us l Q E hr hx j hb r D=>?_⟩;have hl:=len _ _ _ _ D;have KX:K.In s.heap:=j.mod.kin.keeps λb o e=>(j.bs b o e).1;have T:s.heap.NoLimit:=j.mod.nolimit.keeps λb o e=>(j.bs b o e).1
 have z:∀y∈L.zip us,(AH h).names.lookup y.1=some .local\/((AH h).names.lookup y.1=some .cell/\((cellsFrom (s.heap.objs.size+1) (AH h).names []).lookup y.1).isSome=true):=fun⟨n,v⟩ hy=>by
  rcases S.par n (gh hy).1 with q | q
  ·exact .inl q
  ·exact .inr ⟨q,PySem.W.cellsFrom_some _ _ _ (.inl q)⟩
 refine codeAny_call_function hr.room.depth (KX _ _ lk) rfl S.co S.gen rfl (PySem.W.codeRec_of KX R) (hb _ _ _ _ ?_);refine ir S.kind z λa2 he U x1=>?_;subst he;refine⟨T.keeps x1.toInCall.keep,codeAny_func ?_⟩;obtain⟨t,ht,hq⟩:=p d A c s H l Q E (hr.deeper _) hx D;have I0:Inv (EX CL P w K C g N a (AH h) f d { A with handled:=none } c s H E) [] (start N l) H U:=Lh S rfl ⟨j.frames,j.mod,j.bs,j.bsz,j.funs,j.frf,j.hok,j.bare⟩ hl r x1;have I:Inv ((EX CL P w K C g N a (AH h) f d A c s H E).hush (A.deeper (envOfC a (AH h) s.heap.objs.size f d))) [] (start N l) H U:=I0.hush (A:=A.deeper (envOfC a (AH h) s.heap.objs.size f d)) (jl j.frames);refine dP (ht [] U (start N l) H _ I hq) (λfl X B=>?_) λe X B=>dX B
 have G:∀{M:St} {m:Hp} {v:V} {u:Cn},Inv ((EX CL P w K C g N a (AH h) f d A c s H E).hush (A.deeper (envOfC a (AH h) s.heap.objs.size f d))) [] M m X->RelV v u->Q v m->CE c P w H s Q u X :=
  λ{M m v u} J Y q=>⟨v,m,J.os,J.bare,J.base,J.hok,Y,q⟩
 cases fl with
 | ret u =>
  obtain⟨v,M,m,J,Y,q⟩:=B;exact G J Y q
 | next =>
  obtain⟨M,m,J,q⟩:=B;exact G (v:=V.non) (u:=dO) J rfl q
 | brk =>
  obtain⟨_,_,_,q⟩:=B;exact dX q
 | cont =>
  obtain⟨_,_,_,q⟩:=B;exact dX q
section
variable {X:Cx}{k:Nat}{f:Addr}{fd:FuncData}{ps:List Str}{sp:Sp}{x:Str}{p pos:Pos}{e:Expr}{es:List Expr}{t:TA}
def Xz(A:dL)(sp:Sp)(t:TA):TE:=λb H Q=>t b H λc a=>HX A a/\sp c a Q E0
theorem US(F:L7 X.prog X.w X.K X.mg X.base k f fd ps sp)(l:RoomH k X.A)(m:Gl X x)(n:X.mg x=some (.ref f))(o:keepIn X.K (.ref f)=true)(v:Binds X.K fd ps [])
  (y:PA X (e::es) t) (d:(x==("__debug__":Str))=false:=by decide) (z:starEach (e::es) X.env=(false,eval e X.env)::starEach es X.env:=by rfl) (g:(backTo pos (starEach es X.env)).any (·.1)=false:=by rfl) :
  PE X (.Call (.Name x p) (e::es) [] pos) (Xz X.A sp t):=by
 intro B s C H Q I h;refine eN (Dq I m n ?_ d);refine PySem.W.callWith_K (h₀:=X.base) I.ok.mod.kin o (thn (y pos B s C H _ I h) λa i ⟨j,D,c,r,E,q⟩=>⟨c.kIn,?_⟩) z g;have G:(a++[]).length=ps.length:=by rw [dS,← r.length]; exact F.len _ _ _ _ q
 have J:Vals j (a++[]):=by grind
 refine fj (ft (F.run X.A X.stack i D ⟨a,[]⟩ (a++[]) j Q E0 l E c.env0 (v i a c.kIn G) J q) λr M b=>?_);cases r with
 | error e=>exact dX b
 | ok L =>
  cases L with
  | ret u=>exact c.after b
  | next=>exact dX b
  | brk=>exact dX b
  | cont=>exact dX b
end
end L2
namespace Dp
open L2
section
variable {X:Cx}{e:Expr}{es:List Expr}{p p1 p2 pos:Pos}{i:Nat}{x f nm:Str}{κ:Kd}
def TV(i:Nat):Nat->List Slot->(Slot->Nat->Prop)->Prop:=λn b P=>match b[i]? with
 | some (.ex a nm c d)=>P (.ex a nm c d) n
 | _=>False
theorem aO(i:Nat){x:Str}{pos:Pos}(d:X.N[i]?=some x:=by rfl)(e:Sw X.env.scope x:=by first | exact TW rfl | exact da (TW rfl) | exact da (da rfl))(b:(x==("__debug__":Str))=false:=by decide)
  (c:(x==("__classdict__":Str))=false:=by decide):ah X (.Name x pos) (TV i):=by
 refine⟨_,Em d e b c,λC M H n l m P Q R w q=>?_⟩;unfold TV at w
 split at w
 ·rename_i a nm g h b
  obtain⟨j,k⟩:=R.sl i _ b;exact⟨_,getD_some j,q _ H (.ex a nm g h) n (Ext.refl _ _) R.feed ⟨⟨rfl,k⟩,rfl⟩ w⟩
 grind
def aj(i:Nat)(f:Str):DW:=λn a P=>match a[i]? with
 | some (.ex _ _ b c)=>∃d,(b.zip c).lookup f=some d/\P d n
 | _=>False
theorem JK{K:Frag}{M:Ch->Prop}{H:Hp}{f:Str}{d:D}:∀{b:List Str} {c:List D} {a:List V},Ats K M H c a->(b.zip c).lookup f=some d->∃v,(b.zip a).lookup f=some v/\At K M H d v
 | [],c,a,h,e=>by simp at e
 | k::b,[],a,h,e=>by simp at e
 | k::b,j::c,a,h,e=>by
  obtain⟨v,r,rfl,l,g⟩:=h;rw [gl,fP] at e ⊢
  split at e
  ·grind
  ·exact JK g e
theorem XU(j:f∈(["word","number","row"]:List Str))(o:X.N[i]?=some x:=by rfl)(c:Sw X.env.scope x:=by first | exact TW rfl | exact da (TW rfl) | exact da (da rfl))(e:(x==("__debug__":Str))=false:=by decide)
  (g:(x==("__classdict__":Str))=false:=by decide) (r:attributeBase (.Name x p) f X.env (eval (.Name x p) X.env)=eval (.Name x p) X.env:=by rfl):DE X (.Attribute (.Name x p) f pos) .sh (aj i f):=by
 refine⟨_,Zz (Em o c e g) r,λC M H n E F P Q R w q=>?_⟩;unfold aj at w
 split at w
 ·rename_i a nm G I e
  obtain⟨d,l,w⟩:=w;obtain⟨s,k,U,J,u,L,b,⟨m,t⟩,y,z,O,A⟩:=R.sl i _ e
  rcases z with ⟨_,rfl,_⟩ | ⟨B,rfl,S,h⟩
  ·simp at l
  ·obtain⟨v,D,c⟩:=JK A l
   have m:Gg X.K k f:=by
    simp only [T0,c6,or_false] at j
    rcases j with rfl | rfl | rfl
    ·exact b.nw
    ·exact b.nn
    ·exact b.nr
   exact⟨.ref a,getD_some s,a,k,U,B,u,nm,_,v,rfl,t,y,h,b,m,D,q v H d n (Ext.refl _ _) R.feed c w⟩
 ·exact w.elim
def Xm(i:Nat)(a:Str):DW:=λn b P=>match b[i]? with
 | some (.ex _ nm _ _)=>P (.bl (decide (nm=a))) n
 | _=>False
def S_(i:Nat):DW:=λn a P=>match a[i]? with
 | some (.ex _ _ _ _)=>P (.bl true) n
 | _=>False
theorem Ym{b:Str}{D U:Ch}(t:b ≠ "ThinError")(xd:XC X.K b D U)(c:Gl X b)(e:X.mg b=some (.ref D))(y:Gl X "isinstance")(A:X.mg "isinstance"=none)(B:X.N[i]?=some x:=by rfl)(E:Sw X.env.scope x:=by first | exact TW rfl | exact da (TW rfl) | exact da (da rfl))(g:(x==("__debug__":Str))=false:=by decide)
  (h:(x==("__classdict__":Str))=false:=by decide) (j:(b==("__debug__":Str))=false:=by decide) (o:starEach [.Name x p1,.Name b p2] X.env=(false,eval (.Name x p1) X.env)::starEach [.Name b p2] X.env:=by rfl) (k:starEach [.Name b p2] X.env=[(false,eval (.Name b p2) X.env)]:=by rfl) (l:(backTo pos (starEach [.Name b p2] X.env)).any (·.1)=false:=by rfl) :
  DE X (.Call (.Name "isinstance" p) [.Name x p1,.Name b p2] [] pos) .sh (Xm i b):=by
 refine⟨_,Cv O0 y A (by decide +kernel) (BB (Em B E g h) (BB (Qq (v:=.ref D) c e rfl j) B0 k) o) (by decide) (by decide) o l,λC M H n T V P Q R w q=>?_⟩;unfold Xm at w
 split at w
 ·rename_i a nm W Y g
  obtain⟨F,G,I,J,u,Z,r,⟨na,L⟩,O,S,hl,hs⟩:=R.sl i _ g;refine⟨.ref a,getD_some F,a,G,I,J,u,nm,.ref D,"",_,rfl,L,O,λd s=>?_,r,.inr ⟨D,rfl,r.kit xd t⟩,q _ H (.bl _) n (Ext.refl _ _) R.feed rfl w⟩
  rcases S with ⟨z,_⟩ | ⟨dd,z,_,m⟩
  ·grind
  ·rw [z] at s; cases s; exact⟨_,m⟩
 grind
theorem WY(c:Gl X "ValueError")(e:X.mg "ValueError"=none)(r:Gl X "isinstance")(s:X.mg "isinstance"=none)(t:X.N[i]?=some x:=by rfl)(y:Sw X.env.scope x:=by first | exact TW rfl | exact da (TW rfl) | exact da (da rfl))(g:(x==("__debug__":Str))=false:=by decide)
  (h:(x==("__classdict__":Str))=false:=by decide) (m:starEach [.Name x p1,.Name "ValueError" p2] X.env=(false,eval (.Name x p1) X.env)::starEach [.Name "ValueError" p2] X.env:=by rfl) (j:starEach [.Name "ValueError" p2] X.env=[(false,eval (.Name "ValueError" p2) X.env)]:=by rfl) (k:(backTo pos (starEach [.Name "ValueError" p2] X.env)).any (·.1)=false:=by rfl) :
  DE X (.Call (.Name "isinstance" p) [.Name x p1,.Name "ValueError" p2] [] pos) .sh (S_ i):=by
 refine⟨_,Cv O0 r s (by decide +kernel) (BB (Em t y g h) (BB (Iv (v:=.ty "ValueError") c e PyProof.Rows.Boot.«ValueError» rfl) B0 j) m) (by decide) (by decide) m k,λC M H n J K P Q R w q=>?_⟩;unfold S_ at w
 split at w
 ·rename_i a nm L O g
  obtain⟨A,B,D,E,u,S,o,⟨T,F⟩,G,I,U,V⟩:=R.sl i _ g;refine⟨.ref a,getD_some A,a,B,D,E,u,nm,.ty "ValueError","ValueError",true,rfl,F,G,λd b=>?_,o,.inl ⟨rfl,o.kitV⟩,q _ H (.bl _) n (Ext.refl _ _) R.feed rfl w⟩
  rcases I with ⟨z,_⟩ | ⟨W,z,_,l⟩
  ·rw [z] at b; cases b
  ·rw [z] at b; cases b; exact⟨_,l⟩
 ·exact w.elim
def ZC(P:cz)(w:dC)(K:Frag)(c:Str->Option Cn)(a:cw)(x:Str)(k:Nat)(b:List Str)(κ:Kd)(W:W2):Prop :=
 ∃f fd,L7 P w K c a k f fd b (Di K κ W b.length)/\c x=some (.ref f)/\keepIn K (.ref f)=true/\Binds K fd b []/\∀d n P,W d n P->d.length=b.length
def TR(a:Ch)(i:Nat)(W:W2)(b:S1):DW:=λn c P=>(∃nm d e,c[i]?=some (.ex a nm d e))/\b n c λg h=>W g h P
theorem VE{a:Ch}(i:Nat){k:Nat}{r:List Str}{W:W2}{b:S1}(s:X.A.handled=some (.ref a))(G:ZC X.prog X.w X.K X.mg X.base x k r κ W)(y:RoomH k X.A)(z:Gl X x)(g:Xe X (e::es) b)
  (h:(x==("__debug__":Str))=false:=by decide) (B:starEach (e::es) X.env=(false,eval e X.env)::starEach es X.env:=by rfl) (j:(backTo pos (starEach es X.env)).any (·.1)=false:=by rfl) :
  DE X (.Call (.Name x p) (e::es) [] pos) κ (TR a i W b):=by
 obtain⟨f,fd,G,D,E,I,J⟩:=G;obtain⟨t,L,N⟩:=g;refine⟨_,US G y z D E I L h B j,λC M H n O S P Q R w q=>?_⟩;obtain⟨⟨nm,ks,ds,T⟩,w⟩:=w;refine N C M H n O S _ _ R w λvs H1 Y Z l m o p=>?_;have c:=R.step l m;obtain⟨ea,Cc,U',dx,u,a0,xc,⟨na,g⟩,xt,_⟩:=c.sl i _ T;refine⟨⟨a,Cc,dx,u,s,g,xt⟩,(Paired.length o).trans (J _ _ _ p),C.F,C.U,C.V,M,Z,Y,P,⟨c.dom,c.fU,c.uV,c.vM,m,o⟩,p,λv H2 d n2 e2 f2 r2 p2=>?_⟩;exact q v H2 d n2 (l.trans e2) f2 (VR.back l r2) p2
end
theorem bd{P:cz}{w:dC}{K:Frag}{y:Str->Option Cn}{e:cw}{x b:Str}{g:dE}{f:Ch}{fd:dU}{N i:List Str}{k:Nat}{m:Kd}{W:W2}{B:Aj}(F:Fun K x b g f fd)(S:Ai N i (AH g))(G:i.length<=N.length)
  (I:∀(c:Cn) (A:dL) (a:List Env) (s:FM) (H:Hp) (E:XK),RoomH k (A.deeper (envOfC b (AH g) s.heap.objs.size f c))->HX A H->QR ((EX CL P w K y e N b (AH g) f c A a s H E).hush (A.deeper (envOfC b (AH g) s.heap.objs.size f c))) m (BX g) B)
  (hW:∀l n j,l.length=i.length->W l n j->B { nx:=λn _=>m=.sh/\j .non n,rt:=j } n (l++Uf (N.length - i.length) .no)) :
  L7 P w K y e (k+1) f fd i (Di K m W i.length):=by
 refine F.okH S (λC H Q E h=>h.1) (λc A a s H C Q E J L h=>?_);obtain⟨hl,O,U,T,M,n,l,j,D,hw,q⟩:=h;obtain⟨t,V,X⟩:=I c A a s H E J L;refine⟨t,V,?_⟩;have el:C.length=l.length:=Paired.length D.2.2.2.2.2;have R:=HU (N:=N) D (by omega);refine X ⟨M,O,U,T,H,[],[]⟩ M H n _ _ { nx:=λn _=>m=.sh/\j .non n,rt:=j } _ R ⟨λM1 o r zU zK u p=>?_,λv o d r Y Z r1 p=>q v o d r Y Z r1 p,λ_ _ _ _ _ _ z=>z.elim,λ_ _ _ _ _ _ z=>z.elim⟩ ?_
 ·obtain⟨hk,p⟩:=p
  subst hk;exact q .non o .non r u.ext (u.feed.pres (Pres.less u.sub) λ_ _ _ z=>z) rfl p
 grind
theorem fnX{P:cz}{w:dC}{K:Frag}{I:Str->Option Cn}{e:cw}{x a:Str}{m:dE}{f:Ch}{fd:dU}{N i:List Str}{k:Nat}{o:Kd}{W:WX}{wb:PX->Aj}(F:Fun K x a m f fd)(S:Ai N i (AH m))(L:i.length<=N.length)
  (O:∀(c:Cn) (A:dL) (b:List Env) (s:FM) (H:Hp) (E:XK) (g:PX) (r:Option (Ch×Ch)) (U M:Ch->Prop),LiftX K r U M H g E->Room k (A.deeper (envOfC a (AH m) s.heap.objs.size f c)) ->
   PJ (λC=>C.F=r/\C.U=U/\C.M0=M/\C.H0=H) (EX (RX P w) P w K I e N a (AH m) f c A b s H E) o (BX m) (wb g))
  (hW:∀u n j g,u.length=i.length->W u n j g->wb g { nx:=λn _=>o=.sh/\j .non n,rt:=j } n (u++Uf (N.length - i.length) .no)) :
  BD P w K I e (RX P w) (k+1) f fd i (am K o W i.length):=by
 obtain⟨oc,od,kV,T,pm,an,c,ct,V,rfl,X,y⟩:=F.ex;refine XI X y S (λY H Q E h=>h.1) λA b s H Y Q E Z h=>?_;obtain⟨hl,r,U,V',M,n,u,j,g,J,hw,q,l⟩:=h;obtain⟨t,t1,t2⟩:=O c A _ s H E g r U M l Z;refine⟨t,t1,?_⟩;have el:=Paired.length J.2.2.2.2.2;have R:=HU (N:=N) J (by omega);refine t2 _ M H n _ _ { nx:=λn _=>o=.sh/\j .non n,rt:=j } _ ⟨rfl,rfl,rfl,rfl⟩ R ⟨λM1 B D zU zK G p=>?_,λv B d D e1 f1 r1 p=>q v B d D e1 f1 r1 p,λ_ _ _ _ _ _ z=>z.elim,λ_ _ _ _ _ _ z=>z.elim⟩ ?_
 ·obtain⟨hk,p⟩:=p
  subst hk;exact q .non B .non D G.ext (G.feed.pres (Pres.less G.sub) λ_ _ _ z=>z) rfl p
 grind
end Dp
namespace So
open PySem.W
section
variable {O:KeyOrd}{key:Nat->O.α}{N:Nat}{cmp:Nat->Nat->(Bool->Shared->Prop)->Shared->Prop}{s:Shared}{p p0:Array Nat}
def KN(O:KeyOrd)(key:Nat->O.α)(p:Array Nat)(i:Nat):O.α:=key (p.getD i 0)
def Srt(O:KeyOrd)(key:Nat->O.α)(p:Array Nat)(k:Nat):Prop:=∀i j,i<=j->j<k->O.kle (KN O key p i) (KN O key p j)
def aX(O:KeyOrd)(key:Nat->O.α)(p:Array Nat)(k:Nat):Prop:=∀i j,i<=j->j<k->O.kle (KN O key p j) (KN O key p i)
def Xg(O:KeyOrd)(key:Nat->O.α)(N:Nat)(cmp:Nat->Nat->(Bool->FM->Prop)->FM->Prop)(s:FM):Prop:=∀(i j:Nat) (C:Bool->FM->Prop),i<N->j<N->C (O.blt (key i) (key j)) s->cmp i j C s
def Bd(N:Nat)(p:Array Nat):Prop:=0<N/\∀x∈p,x<N
theorem WD(p:Array Nat)(i:Nat):p.getD i 0=(p[i]?).getD 0:=by
 simp
theorem Bd.get(h:Bd N p)(i:Nat):p.getD i 0<N:=by
 rw [WD];cases e:p[i]? with
 | none=>exact h.1
 | some x=>exact h.2 x (Array.mem_of_getElem? e)
theorem Bd.perm{a:Array Nat}(h:Bd N p)(b:a.Perm p):Bd N a:=⟨h.1,λx c=>h.2 x (b.mem_iff.mp c)⟩
theorem Fs{p q:Array Nat}{i j:Nat}(h:p[i]?=q[j]?):KN O key p i=KN O key q j:=by
 unfold KN
 simp_all
theorem L6{a d:Nat}(f:a<p.size)(hd:d<=a)(k:Nat) :
  KN O key (bubble p a d) k=if k=a - d then KN O key p a else if a - d<k/\k<=a then KN O key p (k - 1) else KN O key p k:=by
 have e:=getElem?_bubble f d hd k
 by_cases b:k=a - d
 ·rw [if_pos b] at e ⊢; exact Fs e
 ·rw [if_neg b] at e ⊢
  by_cases c:a - d<k/\k<=a
  ·rw [if_pos c] at e ⊢; exact Fs e
  ·rw [if_neg c] at e ⊢; exact Fs e
theorem Hs{i j:Nat}(b:j<=p.size)(k:Nat):KN O key (kas_rev p i j) k=if i<=k/\k<j then KN O key p (i+j - 1 - k) else KN O key p k:=by
 have e:=getElem?_mirror_all (i:=i) b k
 by_cases a:i<=k/\k<j
 ·rw [if_pos a] at e ⊢; exact Fs e
 ·rw [if_neg a] at e ⊢; exact Fs e
theorem Bz{i j:Nat}(a:j<=p.size)(b:∀k,i<=k->k<j->KN O key p k=KN O key p (j - 1))(k:Nat):KN O key (kas_rev p i j) k=KN O key p k:=by
 rw [Hs a]
 grind
theorem CZ(p:Array Nat)(i j:Nat):(kas_rev p i j).Perm p:=mirror_perm _ _ _ _
theorem yes{c:Type}{a b:KasT c}{Q:c->FM->Prop}(h:a.kasWp cmp Q s):(if true=true then a else b).kasWp cmp Q s:=by grind
theorem no{c:Type}{b a:KasT c}{Q:c->FM->Prop}(h:a.kasWp cmp Q s):(if false=true then b else a).kasWp cmp Q s:=by grind
theorem QM(q:Xg O key N cmp s)(d:Bd N p){nrem:Nat}{G:Nat->FM->Prop}:∀(f n:Nat),1<=n->n+f=nrem->Srt O key p n ->
  (∀m,n<=m->m<=nrem->Srt O key p m->(m=nrem\/O.klt (KN O key p m) (KN O key p (m - 1)))->G m s)->(kas_asc p f n).kasWp cmp G s
 | 0,n,_,e,b,h=>h n (On _) (by omega) b (.inl (by omega))
 | f+1,n,w,e,b,h=>by
  show cmp (p.getD n 0) (p.getD (n - 1) 0) (λc r=>(if c=true then KasT.ret n else kas_asc p f (n+1)).kasWp cmp G r) s;refine q _ _ _ (d.get n) (d.get _) ?_;cases a:O.blt (key (p.getD n 0)) (key (p.getD (n - 1) 0)) with
  | true=>exact yes (h n (On _) (by omega) b (.inr a))
  | false =>
   refine no (QM q d f (n+1) (by omega) (by omega) (λi j g x=>?_) λm y t u v=>h m (by omega) t u v)
   by_cases k:j<n
   ·exact b i j g k
   ·have l:j=n:=by omega
    subst l
    by_cases o:i=j
    ·subst o; exact eZ _
    ·exact h_ (b i (j - 1) (by omega) (by omega)) a
theorem JA(D:Xg O key N cmp s){l:Nat}{G:Array Nat×Nat×Nat->FM->Prop}:∀(f:Nat) (p:Array Nat) (n q:Nat),p.Perm p0->Bd N p->l<=p.size->1<=n->n+f=l->aX O key p n->q+1<=n ->
  (∀i,n - (q+1)<=i->i<n->KN O key p i=KN O key p (n - 1)) ->
  (∀g m v,g.Perm p0->Bd N g->g.size=p.size->n<=m->m<=l->aX O key g m->v+1<=m->(∀i,m - (v+1)<=i->i<m->KN O key g i=KN O key g (m - 1))->G (g,m,v) s)->(kas_desc f p n q).kasWp cmp G s
 | 0,p,n,q,C,u,Q,Y,e,x,R,E,h=>h p n q C u rfl (On _) (by omega) x R E
 | f+1,p,n,q,C,u,Q,Y,e,x,R,E,h=>by
  show cmp (p.getD n 0) (p.getD (n - 1) 0) (λc S=>(if c=true then (if q > 0 then kas_desc f (kas_rev p (n - (q+1)) n) (n+1) 0 else kas_desc f p (n+1) 0)
   else .ask (p.getD (n - 1) 0) (p.getD n 0) λd=>if d=true then .ret (p,n,q) else kas_desc f p (n+1) (q+1)).kasWp cmp G S) s
  refine D _ _ _ (u.get n) (u.get _) ?_;cases o:O.blt (key (p.getD n 0)) (key (p.getD (n - 1) 0)) with
  | true =>
   have Z:O.klt (KN O key p n) (KN O key p (n - 1)):=o
   have r:∀T:Array Nat,(∀k,KN O key T k=KN O key p k)->aX O key T (n+1):=by
    intro T W i j y hj;rw [W,W]
    by_cases z:j<n
    ·exact x i j y z
    ·have A:j=n:=by omega
     subst A
     by_cases B:i=j
     ·subst B; exact eZ _
     ·exact h_ (gz Z) (x i (j - 1) (by omega) (by omega))
   refine yes ?_;have U:n<=p.size:=by omega
   by_cases F:q > 0
   ·rw [if_pos F]
    refine JA D f _ (n+1) 0 ((CZ _ _ _).trans C) (u.perm (CZ _ _ _)) (by rw [kas_rev_size]; exact Q) (by omega) (by omega) (r _ (Bz U E)) (by omega) (λi a b=>by congr 1; omega) λg m v H I J X K L M P=>h g m v H I (J.trans (kas_rev_size _ _)) (by omega) K L M P
   ·rw [if_neg F]
    exact JA D f _ (n+1) 0 C u Q (by omega) (by omega) (r _ λ_=>rfl) (by omega) (λi a b=>by congr 1; omega) λg m v H I J X K L M P=>h g m v H I J (by omega) K L M P
  | false =>
   refine no ?_;show cmp (p.getD (n - 1) 0) (p.getD n 0) (λd S=>(if d=true then KasT.ret (p,n,q) else kas_desc f p (n+1) (q+1)).kasWp cmp G S) s;refine D _ _ _ (u.get _) (u.get n) ?_;cases t:O.blt (key (p.getD (n - 1) 0)) (key (p.getD n 0)) with
   | true=>exact yes (h p n q C u rfl (On _) (by omega) x R E)
   | false =>
    have w:KN O key p n=KN O key p (n - 1):=jq (O:=O) t o;refine no (JA D f p (n+1) (q+1) C u Q (by omega) (by omega) (λi j y hj=>?_) (by omega) (λi a b=>?_) λg m v H I J X K L M P=>h g m v H I J (by omega) K L M P)
    ·by_cases z:j<n
     ·exact x i j y z
     ·have A:j=n:=by omega
      subst A
      by_cases B:i=j
      ·subst B; exact eZ _
      ·rw [w]; exact x i (j - 1) (by omega) (by omega)
    ·rw [show n+1 - 1=n by omega]
     by_cases V:i=n
     ·subst V; rfl
     ·rw [w]; exact E i (by omega) (by omega)
theorem Ni(e:Xg O key N cmp s){n a:Nat}{G:Nat×Array Nat->FM->Prop}(f:p.Perm p0)(d:Bd N p)(r:a<=p.size)(g:1<=n)(t:n<=a)(k:aX O key p n)
  (h:∀m b,b.Perm p0->Bd N b->b.size=p.size->1<=m->m<=a->Srt O key b m->G (m,b) s):(kas_tail3 n a p).kasWp cmp G s:=by
 unfold kas_tail3;rw [KasT.kasWp_bind];have c:n<=p.size:=by omega
 refine QM e (d.perm (CZ _ _ _)) _ n g (by omega) (λi j l u=>?_) λm v o q _=>h m _ ((CZ _ _ _).trans f) (d.perm (CZ _ _ _)) (kas_rev_size _ _) (by omega) o q;rw [Hs c,Hs c,if_pos (by omega),if_pos (by omega)];exact k _ _ (by omega) (by omega)
theorem IF(k:Xg O key N cmp s){n c:Nat}{G:Nat×Array Nat->FM->Prop}(E:p.Perm p0)(F:Bd N p)(H:c<=p.size)(K:n+1<=c)(I:aX O key p (n+1))
  (h:∀m d,d.Perm p0->Bd N d->d.size=p.size->1<=m->m<=c->Srt O key d m->G (m,d) s):(kas_descPart n c p).kasWp cmp G s:=by
 unfold kas_descPart;rw [KasT.kasWp_bind];refine JA (p0:=p0) k (c - (n+1)) p (n+1) 0 E F H (by omega) (by omega) I (by omega) (λi a b=>by grind) λd m l y z A L B C M D=>?_;have f:m<=d.size:=by omega
 show (if l > 0 then kas_tail3 m c (kas_rev d (m - (l+1)) m) else kas_tail3 m c d).kasWp cmp G s
 by_cases g:l > 0
 ·rw [if_pos g]
  refine Ni k ((CZ _ _ _).trans y) (z.perm (CZ _ _ _)) (by rw [kas_rev_size]; omega) (by omega) B (λi j o J=>?_) λq e r t u v w x=>h q e r t (u.trans ((kas_rev_size _ _).trans A)) v w x;rw [Bz f D,Bz f D];exact C i j o J
 ·rw [if_neg g]
  exact Ni k y z (by omega) (by omega) B C λq e r t u v w x=>h q e r t (u.trans A) v w x
theorem VI(y:Xg O key N cmp s){nrem:Nat}{G:Nat×Array Nat->FM->Prop}(z:p.Perm p0)(e:Bd N p)(H:nrem<=p.size)(W:1<=nrem)
  (h:∀m o,o.Perm p0->Bd N o->o.size=p.size->1<=m->m<=nrem->Srt O key o m->G (m,o) s):(kas_count nrem p).kasWp cmp G s:=by
 unfold kas_count;rw [KasT.kasWp_bind];refine QM (nrem:=nrem) y e (nrem - 1) 1 (On _) (by omega) (λi j q I=>by have:i=j:=(by omega); subst this; exact eZ _) λn r t b A=>?_
 by_cases f:n=nrem
 ·rw [if_pos (by simpa using f)]
  exact h n p z e rfl r t b
 ·rw [if_neg (by simpa using f)]
  have u:O.klt (KN O key p n) (KN O key p (n - 1)):=A.resolve_left f
  by_cases v:n > 1
  ·rw [if_pos v]
   show cmp (p.getD 0 0) (p.getD (n - 1) 0) (λc J=>(if c=true then KasT.ret (n,p) else kas_descPart n nrem (kas_rev p 0 n)).kasWp cmp G J) s;refine y _ _ _ (e.get _) (e.get _) ?_;cases g:O.blt (key (p.getD 0 0)) (key (p.getD (n - 1) 0)) with
   | true=>exact yes (h n p z e rfl r t b)
   | false =>
    have d:O.kle (KN O key p (n - 1)) (KN O key p 0):=g;have w:n<=p.size:=by omega
    have a:∀k,0<=k->k<n->KN O key p k=KN O key p (n - 1):=by
     intro k _ K;have L:=b 0 k (by omega) K;have M:=b k (n - 1) (by omega) (by omega);exact jq M (h_ d L)
    refine no (IF y ((CZ _ _ _).trans z) (e.perm (CZ _ _ _)) (by rw [kas_rev_size]; exact H) (by omega) (λi j q I=>?_) λP B Q R S T U V=>h P B Q R (S.trans (kas_rev_size _ _)) T U V);rw [Bz w a,Bz w a]
    by_cases C:j<n
    ·rw [a i (by omega) (by omega),a j (by omega) C]; exact eZ _
    ·have D:j=n:=by omega
     subst D
     by_cases l:i=j
     ·subst l; exact eZ _
     ·rw [a i (by omega) (by omega)]; exact gz u
  ·rw [if_neg v]
   have x:n=1:=by omega
   subst x;refine IF y z e H (by omega) (λi j q I=>?_) h
   by_cases l:i=j
   ·subst l; exact eZ _
   ·have E:i=0:=by omega
    have F:j=1:=by omega
    subst E; subst F
    exact gz u
theorem Ji(m:Xg O key N cmp s)(g:Bd N p){k:Nat}(j:Srt O key p k){G:Nat->FM->Prop}
  (h:∀l,l<=k->(∀i,i<l->O.kle (KN O key p i) (KN O key p k))->(∀i,l<=i->i<k->O.klt (KN O key p k) (KN O key p i))->G l s):∀(f l r:Nat),l<=r->r<=k->r - l<=f ->
  (∀i,i<l->O.kle (KN O key p i) (KN O key p k))->(∀i,r<=i->i<k->O.klt (KN O key p k) (KN O key p i))->(kas_place p k f l r).kasWp cmp G s
 | 0,l,r,n,d,t,b,c=>by
  have:l=r:=by omega
  subst this;exact h l d b c
 | f+1,l,r,n,d,t,b,c=>by
  unfold kas_place
  by_cases e:l≥r
  ·rw [if_pos e]
   have:l=r:=by omega
   subst this;exact h l d b c
  ·rw [if_neg e]
   refine m _ _ _ (g.get _) (g.get _) ?_;cases a:O.blt (key (p.getD k 0)) (key (p.getD ((l+r) / 2) 0)) with
   | true =>
    have o:O.klt (KN O key p k) (KN O key p ((l+r) / 2)):=a;exact yes (Ji m g j h f l ((l+r) / 2) (by omega) (by omega) (by omega) b λi q u=>KeyOrd.klt_of_klt_of_kle o (j _ _ q u))
   | false =>
    have o:O.kle (KN O key p ((l+r) / 2)) (KN O key p k):=a;exact no (Ji m g j h f ((l+r) / 2+1) r (by omega) (by omega) (by omega) (λi q=>h_ (j i ((l+r) / 2) (by omega) (by omega)) o) c)
theorem Fd(y:Xg O key N cmp s){n:Nat}{G:Array Nat->FM->Prop}(h:∀r,r.Perm p0->Srt O key r n->G r s):∀(f:Nat) (p:Array Nat) (k:Nat),p.Perm p0->Bd N p->n<=p.size->k+f=n->Srt O key p k->(kas_bin f p k).kasWp cmp G s
 | 0,p,k,t,u,z,e,d=>h p t (by rw [← e]; exact d)
 | f+1,p,k,t,u,z,e,d=>by
  rw [show kas_bin (f+1) p k=(kas_place p k k 0 k).bind λl=>kas_bin f (bubble p k (k - l)) (k+1) from rfl,KasT.kasWp_bind];refine Ji y u d (λl A v w=>?_) k 0 k (TM _) (On _) (by omega) (λi B=>by omega) λi a b=>by omega
  have g:k<p.size:=by omega
  refine Fd y h f _ (k+1) ((bubble_perm _ _ _).trans t) (u.perm (bubble_perm _ _ _)) (by rw [bubble_size]; exact z) (by omega) λi j x C=>?_;rw [L6 g (by omega),L6 g (by omega),show k - (k - l)=l by omega]
  by_cases m:i=l
  ·rw [if_pos m]
   by_cases c:j=l
   ·rw [if_pos c]; exact eZ _
   ·rw [if_neg c,if_pos (by omega)]
    exact gz (w (j - 1) (by omega) (by omega))
  ·rw [if_neg m]
   by_cases o:l<i/\i<=k
   ·rw [if_pos o,if_neg (by omega),if_pos (by omega)]
    exact d (i - 1) (j - 1) (by omega) (by omega)
   ·rw [if_neg o]
    by_cases c:j=l
    ·rw [if_pos c]; exact v i (by omega)
    ·rw [if_neg c]
     by_cases q:l<j/\j<=k
     ·rw [if_pos q]
      exact d i (j - 1) (by omega) (by omega)
     ·rw [if_neg q]
      exact d i j x (by omega)
theorem sort_ok{n:Nat}(b:1<=n)(c:Xg O key n cmp s){G:Array Nat->FM->Prop}(h:∀p,p.Perm (dI (dD n))->Srt O key p n->G p s):(kas_sort n).kasWp cmp G s:=by
 unfold kas_sort;rw [KasT.kasWp_bind];have f:Bd n (dI (dD n)):=⟨b,λx k=>by grind⟩;have g:(dI (dD n)).size=n:=by simp
 refine VI c (jX _) f (by omega) b λm d e i l o q j=>?_
 by_cases a:m<n
 ·rw [if_pos a,show max m 1=m by omega]
  exact Fd c h _ d m e i (by omega) (by omega) j
 ·rw [if_neg a]
  exact h d e (by grind)
end
end So
namespace L2
open PySem.W
def YT:Key->Key->Bool
 | .inl i,.inl j=>decide (i<j)
 | .inr x,.inr y=>decide (x.cps.toList<y.cps.toList)
 | .inl _,.inr _=>true
 | .inr _,.inl _=>false
def Cg:List Key->List Key->Bool
 | [],[]=>false
 | [],_::_=>true
 | _::_,[]=>false
 | x::a,y::b=>if x=y then Cg a b else YT x y
theorem P9:∀x:Key,YT x x=false
 | .inl i=>decide_eq_false (Int.lt_irrefl i)
 | .inr x=>decide_eq_false (gN _)
theorem SI:∀x y z:Key,YT x y=true->YT y z=true->YT x z=true
 | .inl i,.inl j,.inl k,a,b=>decide_eq_true (Int.lt_trans (of_decide_eq_true a) (of_decide_eq_true b))
 | .inr i,.inr j,.inr k,a,b=>decide_eq_true (List.lt_trans (of_decide_eq_true a) (of_decide_eq_true b))
 | .inl i,.inl j,.inr k,_,_=>rfl
 | .inl i,.inr j,.inr k,_,_=>rfl
 | .inl i,.inr j,.inl k,_,h=>by cases h
 | .inr i,.inl j,_,h,_=>by cases h
 | .inr i,.inr j,.inl k,_,h=>by cases h
theorem SJ:∀x y:Key,YT x y=false->YT y x=false->x=y
 | .inl i,.inl j,c,d=>congrArg _ (by have a:=of_decide_eq_false c; have b:=of_decide_eq_false d; omega)
 | .inr x,.inr y,c,d=>by
  have e:=List.le_antisymm (of_decide_eq_false d) (of_decide_eq_false c);obtain⟨u⟩:=x
  simp_all
 | .inl i,.inr j,h,_=>by cases h
 | .inr i,.inl j,_,h=>by cases h
theorem FQ:∀x:List Key,Cg x x=false
 | []=>rfl
 | x::a=>by unfold Cg; rw [if_pos rfl]; exact FQ a
theorem DN:∀x y z:List Key,Cg x y=true->Cg y z=true->Cg x z=true
 | [],[],_,h,_=>by cases h
 | [],_::_,[],_,h=>by cases h
 | [],_::_,_::_,_,_=>rfl
 | _::_,[],_,h,_=>by cases h
 | _::_,_::_,[],_,h=>by cases h
 | x::f,y::g,z::i,a,b=>by
  unfold Cg at a b ⊢
  by_cases d:x=y
  ·subst d
   rw [if_pos rfl] at a
   by_cases c:x=z
   ·subst c
    rw [if_pos rfl] at b ⊢;exact DN f g i a b
   grind
  ·rw [if_neg d] at a
   by_cases c:y=z
   ·grind
   ·rw [if_neg c] at b
    have e:=SI x y z a b
    by_cases j:x=z
    ·subst j
     rw [P9] at e;cases e
    grind
theorem DP:∀x y:List Key,Cg x y=false->Cg y x=false->x=y
 | [],[],_,_=>rfl
 | [],_::_,h,_=>by cases h
 | _::_,[],_,h=>by cases h
 | x::c,y::d,a,b=>by
  unfold Cg at a b
  by_cases e:x=y
  ·subst e
   rw [if_pos rfl] at a b;rw [DP c d a b]
  ·rw [if_neg e] at a
   rw [if_neg (λz=>e z.symm)] at b;exact absurd (SJ x y a b) e
def R6:KeyOrd:=⟨List Key,Cg,FQ,DN,λa b c h=>by
 cases e:Cg a b with
 | true=>exact .inl rfl
 | false =>
  cases d:Cg b a with
  | true=>exact .inr (DN b a c d h)
  | false=>rw [← DP a b e d]; exact .inr h,DP⟩
theorem Iy:∀x y:List Key,CS x y=true->GY x y=Cg x y
 | [],[],_=>rfl
 | [],_::_,_=>rfl
 | _::_,[],_=>rfl
 | x::b,y::c,h=>by
  have a:(LR x y&&CS b c)=true:=h;rw [cq] at a;unfold GY Cg
  by_cases e:x=y
  ·rw [if_pos e,if_pos e]; exact Iy b c a.2
  ·rw [if_neg e,if_neg e]
   cases x with
   | inl i=>cases y with
    | inl j=>rfl
    | inr z=>cases a.1
   | inr i=>cases y with
    | inl j=>cases a.1
    | inr z=>rfl
section
variable {prog:Program}{w:World}{A:Around}{E:Value->Shared->Prop}{s:Shared}
theorem Uk{b:Bool}{Q:Bool->FM->Prop}{h j:Nat}:∀(a c:List Key) (k l:List Cn) (i:Nat),Vals (a.map kOf) k->Vals (c.map kOf) l->CS a c=true->a.length+j=c.length+h->Q (GY a c) s ->
  KatLex prog w A b (decide (h<j)) Q (k.zip l) i s
 | [],[],k,l,i,o,p,_,g,q=>by
  cases o;cases p;refine kat_nil ?_;rw [show decide (h<j)=false from decide_eq_false (by simp only [eE] at g; omega)];exact q
 | [],m::c,k,l,i,o,p,_,g,q=>by
  cases o;rw [List.zip_nil_left];refine kat_nil ?_;rw [show decide (h<j)=true from decide_eq_true (by simp only [eE,ZB] at g; omega)];exact q
 | n::a,[],k,l,i,o,p,_,g,q=>by
  cases p;rw [List.zip_nil_right];refine kat_nil ?_;rw [show decide (h<j)=false from decide_eq_false (by simp only [eE,ZB] at g; omega)];exact q
 | n::a,m::c,k,l,i,o,p,F,g,q=>by
  have d:(LR n m&&CS a c)=true:=F;rw [cq] at d;have f:Q (if n=m then GY a c else ar n m) s:=q;cases o with
  | @cons _ u _ r t G =>
   cases p with
   | @cons _ v _ B C H =>
    rw [gl];have D:n=m->KatLex prog w A b (decide (h<j)) Q (r.zip B) (i+1) s:=λe=>Uk a c r B (i+1) G H d.2 (by simp only [ZB] at g; omega) (by rw [if_pos e] at f; exact f);cases n with
    | inl x =>
     cases m with
     | inr y=>cases d.1
     | inl y =>
      obtain⟨I,rfl⟩:=t;obtain⟨J,rfl⟩:=C;refine kat_cons (wpAny_eqBool_int ?_)
      by_cases e:x=y
      ·rw [show (x==y)=true by simpa using e]
       exact kat_yes (D (by rw [e]))
      ·rw [show (x==y)=false by simpa using e]
       refine kat_no ?_;rw [if_neg (λz=>e (Sum.inl.inj z))] at f;cases K:(b&&i==0) with
       | true=>exact oneLt_int f
       | false=>exact kat_one _ _ (jZ (show PySem.W.BoolBack Q (.bool (decide (x<y))) s from f))
    | inr x =>
     cases m with
     | inl y=>cases d.1
     | inr y =>
      obtain⟨I,rfl⟩:=t;obtain⟨J,rfl⟩:=C;refine kat_cons (wpAny_eqBool_str ?_)
      by_cases e:x=y
      ·rw [show decide (x=y)=true by simpa using e]
       exact kat_yes (D (by rw [e]))
      ·rw [show decide (x=y)=false by simpa using e]
       refine kat_no ?_;rw [if_neg (λz=>e (fT z))] at f;cases K:(b&&i==0) with
       | true=>exact oneLt_str f
       | false=>exact kat_one _ _ (PySem.P.lt_str (show PySem.W.BoolBack Q (.bool (decide (x.cps.toList<y.cps.toList))) s from f))
structure RU (h:cw) (ks:List Cn) (keys:List (List Key)):Prop where
 at_:∀(i:Nat) (ns:List Key),keys[i]?=some ns->∃a o its n,ks[i]?=some (.ref a)/\h.get? a=some o/\o.cls=.type "tuple"/\o.data=.seq its n/\Vals (ns.map kOf) its.toList
 len:ks.length=keys.length
 same:∀x∈keys,∀y∈keys,CS x y=true
 ne:∀x∈keys,x≠[]
def ak:Key->String
 | .inl _ => "int"
 | .inr _ => "str"
theorem firsts{h:cw}:∀(g:List Cn) (b:List (List Key)) (T:String),g.length=b.length->(∀(i:Nat) (u:List Key),b[i]?=some u->∃a o c n,g[i]?=some (.ref a)/\h.get? a=some o/\o.cls=.type "tuple"/\o.data=.seq c n/\Vals (u.map kOf) c.toList) ->
  (∀x∈b,∃k r,x=k::r/\ak k=T)->∃j:List Cn,KatTups h g j/\j.length=b.length/\∀v∈j,typeOf v=pure (.type T)
 | [],[],T,_,_,_=>⟨[],trivial,rfl,λv l=>by cases l⟩
 | [],_::_,T,m,_,_=>by cases m
 | _::_,[],T,m,_,_=>by cases m
 | k::g,x::b,T,m,z,B=>by
  obtain⟨j,F,G,H⟩:=firsts g b T (by simpa using m) (λi u e=>by
   obtain⟨a,o,c,n,p,r⟩:=z (i+1) u (by simpa using e);exact⟨a,o,c,n,by simpa using p,r⟩) λy I=>B y (Re _ I)
  obtain⟨a,o,c,n,p,J,K,L,q⟩:=z 0 x rfl;have p:k=.ref a:=by simpa using p
  subst p;obtain⟨k,r,rfl,C⟩:=B x Op;rw [dG] at q;cases d:c.toList with
  | nil=>rw [d] at q; cases q
  | cons f M =>
   rw [d] at q;cases q with
   | cons D N =>
    refine⟨f::j,KatTups.cons J K L (by rw [← Array.getElem?_toList,d]; rfl) F,by rw [ZB,ZB,G],λv l=>?_⟩
    rcases T0.mp l with rfl | l
    ·cases k with
     | inl i=>obtain⟨t,rfl⟩:=D; subst C; rfl
     | inr i=>obtain⟨t,rfl⟩:=D; subst C; rfl
    ·exact H v l
theorem LN{c:List Cn}{keys:List (List Key)}(K:RU s.heap c keys)(h2:2<=c.length){G:Array Nat->FM->Prop}(h:∀p,p.Perm (dI (dD c.length))->So.Srt R6 (λi=>keys.getD i []) p c.length->G p s) :
  wpAny (model prog w) A (keyKind' c.toArray) (λN P=>(kas_sort c.length).kasWp (kas_ask prog w A N c) G P) (λ_ _=>False) s:=by
 obtain⟨f,I,Q⟩:∃f I,keys=f::I:=by
  cases e:keys with
  | nil=>have:=K.len; rw [e] at this; simp only [eE] at this; omega
  | cons x r=>exact⟨x,r,rfl⟩
 have J:f∈keys:=by rw [Q]; exact Op
 obtain⟨m,R,S⟩:∃k r,f=k::r:=by
  cases e:f with
  | nil=>exact absurd e (K.ne f J)
  | cons k r=>exact⟨k,r,rfl⟩
 have y:∀x∈keys,∃k r,x=k::r/\ak k=ak m:=λx L=>by
  cases e:x with
  | nil=>exact absurd e (K.ne x L)
  | cons k r =>
   refine⟨k,r,rfl,?_⟩;have b:=K.same x L f J;rw [e,S] at b;have b:(LR k m&&CS r R)=true:=b;rw [cq] at b;cases k with
   | inl i=>cases m with
    | inl j=>rfl
    | inr j=>cases b.1
   | inr i=>cases m with
    | inl j=>cases b.1
    | inr j=>rfl
 obtain⟨fs,z,B,T⟩:=firsts c keys (ak m) K.len K.at_ y;refine kat_kind z (by rw [B,← K.len]; omega) (λv U=>by rw [T v U]; exact Looks.now) (by simp) ?_;refine So.sort_ok (O:=R6) (key:=λi=>keys.getD i []) (by omega) (λi j C V W X=>?_) h;have g:i<keys.length:=by rw [← K.len]; exact V
 have l:j<keys.length:=by rw [← K.len]; exact W
 obtain⟨a,o,q,n,Y,Z,e3,e4,M⟩:=K.at_ i keys[i] (No g);obtain⟨a',o',d,n',D,F,a0,H,t⟩:=K.at_ j keys[j] (No l);unfold kas_ask;rw [show c.getD i dO=.ref a by rw [dW,Y]; rfl,show c.getD j dO=.ref a' by rw [dW,D]; rfl];have b:=K.same _ (dY g) _ (dY l);refine kat_lt Z e4 F H (Uk keys[i] keys[j] _ _ 0 M t b ?_ ?_)
 ·have l1:=M.length
  have l2:=t.length;have l3:(keys[i].map kOf).length=keys[i].length:=Go ..;have l4:(keys[j].map kOf).length=keys[j].length:=Go ..;have l5:q.toList.length=q.size:=eT;have l6:d.toList.length=d.size:=eT;omega
 ·rw [Iy _ _ b]
  have z:keys.getD i []=keys[i]:=by rw [dW,No g]; rfl
  have B:keys.getD j []=keys[j]:=by rw [dW,No l]; rfl
  have u:C (Cg (keys.getD i []) (keys.getD j [])) s:=X;rw [z,B] at u;exact u
theorem Gq{v:Cn}{c:List (Str×Cn)}{Q:Cn->FM->Prop}(e:argsOk "sorted" ⟨[v],c⟩)(f:∀x,argsOk "list.sort" ⟨[.ref x],c⟩)
  (k:wpAny (model prog w) A.in1 (collect v) (λg a=>g.length<=sizeLine/\wpAny (model prog w) A.in1.in1 (gf.«list.sort» ⟨[.ref a.heap.objs.size],c⟩) (λb i=>b=.done (.ret .none)/\Q (.ref a.heap.objs.size) i) E { a with heap:=a.heap.push (seqObj "list" g.toArray 0) }) E s) :
  wpAny (model prog w) A (call (.builtin "sorted") [v] c) Q E s:=call_function_entry_kw kind_sorted plain_sorted entry_sorted e (Db (Sc (Db (dP k (λg a h=>Db (iy (Db (dw (wpAny_call_entry_kw PyProof.Rows.slot_list_sort ⟨_,cj _ rfl,rfl⟩ PyProof.Rows.entry_list_sort (dP h.2 (λb i j=>⟨_,j.1,Sc ⟨_,rfl,j.2⟩⟩) λ_ _ x=>x) (f _)))) h.1)) λ_ _ x=>x))))
def Dk(h:cw)(D:Ch)(a:List Cn):cw:=((h.update D (d_ λ_=>(#[]:Array Cn))).push (seqObj "tuple" a.toArray 0)).push (seqObj "list" #[] 0)
theorem HP{h:cw}{D:Ch}{a:List Cn}{b:Ch}{o:Obj}(c:b≠D)(e:h.get? b=some o):(Dk h D a).get? b=some o :=
 Ev _ (Ev _ ((dJ _ _ (eF c)).trans e))
theorem JU{h:cw}{D:Ch}{c:List Cn}{n:Nat}(d:h.get? D=some (seqObj "list" c.toArray n)):∃a,(Dk h D c).get? D=some (seqObj "list" #[] a)/\(h.update D (d_ λ_=>(#[]:Array Cn))).get? D=some (seqObj "list" #[] a):=by
 obtain⟨a,b⟩:∃a,(h.update D _).get? D=some (seqObj _ _ a):=⟨_,gF d _⟩;exact⟨a,Ev _ (Ev _ b),b⟩
theorem OP{D:Ch}{a:List Cn}{n:Nat}{P:PySem.Fin->FM->Prop}{G:Array Nat->Prop}(r:s.heap.get? D=some (seqObj "list" a.toArray n))(t:a.length<64)
  (u:2<=a.length->wpAny (model prog w) A (keyKind' a.toArray) (λJ k=>(kas_sort a.length).kasWp (kas_ask prog w A J a) (λp v=>v={ s with heap:=Dk s.heap D a }/\G p) k) (λ_ _=>False) { s with heap:=Dk s.heap D a })
  (L:a.length<2->G (dI (dD a.length))) (l:∀(p:Array Nat) (y:cw) (c:Nat),p.size=a.length->G p->(∀b o,b≠D->s.heap.get? b=some o->y.get? b=some o)->y.get? D=some (seqObj "list" (dI (p.toList.map λi=>a.getD i dO)) c)->P (.done (.ret .none)) { s with heap:=y }) :
  wpAny (model prog w) A (gf.«list.sort» ⟨[.ref D],[]⟩) P E s:=by
 obtain⟨V,d,z⟩:=JU r
 have m:∀(p:Array Nat),p.size=a.length->G p->P (.done (.ret .none)) { s with heap:=(Dk s.heap D a).update D (d_ λ_=>dI (p.toList.map λi=>a.getD i dO)) }:=λp q B=>by
  obtain⟨C,F⟩:∃C,((Dk s.heap D a).update D (d_ λ_=>dI (p.toList.map λi=>a.getD i dO))).get? D=some (seqObj "list" (dI (p.toList.map λi=>a.getD i dO)) C):=⟨_,gF d λ_=>dI (p.toList.map λi=>a.getD i dO)⟩;exact l p _ C q B (λb o K e=>(dJ _ _ (eF K)).trans (HP K e)) F
 rw [list_sort_plain];refine Db (iQ r rfl ?_);refine Db (fg r rfl ?_ (by rw [c9,di]; omega) (TM _));refine Db (ia z rfl ?_);refine Db (wpAny_newTuple ?_ (by show a.length<=_; rw [di]; omega));refine Db (iy ?_ (TM _));refine dw ?_;show wpAny (model prog w) A _ P E { s with heap:=Dk s.heap D a }
 dsimp only
 by_cases H:a.length<2
 ·have f:a.toArray.size<2:=by rw [c9]; exact H
  rw [if_pos f,if_pos f];refine Db (Sc ?_);rw [StateT.run_pure];refine Db (Sc ?_)
  dsimp only
  refine Db (ia d rfl ?_);have h:(dI (dD a.length)).size=a.length:=by simp
  have g:(arrOf (SortSt.mk' general' (a.toArray.zip a.toArray) #[] 7 none)).map (·.2)=dI ((dI (dD a.length)).toList.map λi=>a.getD i dO):=by
   refine kat_snds rfl ?_;have e:=kas_range (a.toArray.zip a.toArray);rw [show (a.toArray.zip a.toArray).size=a.length by simp] at e;exact e.symm
  rw [g];refine Db (fg d rfl ?_ (TM _) (by rw [c9,Go,eT,h,di]; omega));simp only [bne_self_eq_false,fX,if_false];exact Sc (m _ h (L H))
 ·have f:¬a.toArray.size<2:=by rw [c9]; exact H
  rw [if_neg f,if_neg f];refine Db (dP (u (by omega)) (λJ W u=>?_) λ_ _ x=>x.elim)
  refine Db (dP (kat_run (Q:=λj k=>∃p:Array Nat,p.size=a.length/\arrOf j=p.map (kas_item (a.toArray.zip a.toArray))/\failedOf j=none/\k={ s with heap:=Dk s.heap D a }/\G p)
   rfl (by omega) t (λN j k O R S T=>⟨N,O,R,S,T⟩) u) ?_ λ_ _ e=>e)
  rintro ⟨⟨⟩,j⟩ k ⟨p,q,I,U,rfl,B⟩
  dsimp only
  have g:=kat_snds rfl I;have h:(dI (p.toList.map λi=>a.getD i dO)).size=a.length:=by rw [c9,Go,eT,q]
  rw [g];refine Db (ia d rfl ?_);refine Db (fg d rfl ?_ (TM _) (cx (jK h) (by rw [di]; omega)));rw [U];simp only [bne_self_eq_false,fX,if_false];exact Sc (m p q B)
theorem SK{D:Ch}{f:Cn}{a:List Cn}{n:Nat}{P:PySem.Fin->FM->Prop}(U:s.heap.get? D=some (seqObj "list" a.toArray n))(Y:a.length<64)(J:List Cn->FM->Prop)(h:Ch)(M:h=s.heap.objs.size+1)
  (h0:∀r,(Dk s.heap D a).get? D=some (seqObj "list" #[] r)->J [] { s with heap:=Dk s.heap D a })
  (z:∀(d:List Cn) (g:FM) (e:Nat) (v:Cn),J d g->g.heap.get? h=some (seqObj "list" d.toArray e)->a[d.length]?=some v->wpAny (model prog w) A (call f [v]) (λk l=>l.heap.get? h=some (seqObj "list" d.toArray e)/\J (d++[k]) { l with heap:=l.heap.update h (d_ (·.push k)) }) (λ_ _=>False) g)
  (N:∀(r:Nat),(Dk s.heap D a).get? D=some (seqObj "list" #[] r)->∀(d:List Cn) (g:FM),J d g->d.length=a.length->g.heap.get? D=some (seqObj "list" #[] r)/\∃G:Array Nat->Prop,
   (2<=a.length->wpAny (model prog w) A (keyKind' d.toArray) (λκ O=>(kas_sort a.length).kasWp (kas_ask prog w A κ d) (λp l=>l=g/\G p) O) (λ_ _=>False) g)/\(a.length<2->G (dI (dD a.length))) /\
   ∀(p:Array Nat) (V:cw) (c:Nat),p.size=a.length->G p->(∀b o,b≠D->b≠h->g.heap.get? b=some o->V.get? b=some o)->V.get? D=some (seqObj "list" (dI (p.toList.map λi=>a.getD i dO)) c)->(∃o,V.get? h=some o)->P (.done (.ret .none)) { g with heap:=V }) :
  wpAny (model prog w) A (ksk_tree D f false) P E s:=by
 obtain⟨r,R,Z⟩:=JU U;have u:((s.heap.update D (d_ λ_=>(#[]:Array Cn))).push (seqObj "tuple" a.toArray 0)).objs.size=h:=by rw [size_push',Heap.size_update,M]
 have hD:D<s.heap.objs.size:=UF U;have S:D≠h:=by rw [M]; exact c7 (fI hD)
 have a0:(Dk s.heap D a).get? h=some (seqObj "list" #[] 0):=by rw [← u]; exact cj _ rfl
 unfold ksk_tree;refine Db (iQ U rfl ?_);refine Db (fg U rfl ?_ (by rw [c9,di]; omega) (TM _));refine Db (ia Z rfl ?_);refine Db (wpAny_newTuple ?_ (by show a.length<=_; rw [di]; omega));refine Db (iy ?_ (TM _));refine dw ?_;show wpAny (model prog w) A (ksk_rest D f false a.toArray r (.ref ((s.heap.update D (d_ λ_=>(#[]:Array Cn))).push (seqObj "tuple" a.toArray 0)).objs.size)) P E { s with heap:=Dk s.heap D a };rw [u];unfold ksk_rest;refine Db (jB ?_)
 first
  | rw [List.forIn_toArray]
  | (rw [← Array.forIn_toList]; simp only [List.toList_toArray])
  | rw [← Array.forIn_toList]
 refine Db (ksk_fold (I:=λi g=>∃d e,fo d=i/\J d g/\g.heap.get? h=some (seqObj "list" d.toArray e)) a 0 _ ⟨[],0,rfl,h0 r R,a0⟩ (λj x g hx hI=>?_) λg hI=>?_)
 ·obtain⟨d,e,t,hJ,C⟩:=hI
  have hj:j<a.length:=(cr.mp hx).1;have t:d.length=j:=by omega
  refine Db (hX (dP (z d g e x hJ C (by rw [t]; exact hx)) (λk l F=>?_) λ_ _ hF=>hF.elim));have ea:(dI d).push k=dI (d++[k]):=by simp
  obtain⟨H,K⟩:∃H,(l.heap.update h (d_ (·.push k))).get? h=some (seqObj "list" (dI (d++[k])) H):=⟨_,by rw [← ea]; exact gF F.1 (·.push k)⟩
  try dsimp only
  refine Db (fg F.1 rfl ?_ (by rw [c9,di]; omega) (cx (jK (Array.size_push ..)) (by rw [c9,di]; omega)));exact Sc ⟨rfl,d++[k],H,by rw [XV,dB]; omega,F.2,K⟩
 ·obtain⟨d,e,t,hJ,C⟩:=hI
  have t:d.length=a.length:=by omega
  obtain⟨a5,G,g2,g1,g3⟩:=N r R d g hJ t
  try dsimp only
  refine Db (iQ C rfl ?_)
  have y:∀(W:SortSt) (p:Array Nat),p.size=a.length->G p->(arrOf W).map (·.2)=dI (p.toList.map λi=>a.getD i dO)->failedOf W=none->wpAny (model prog w) A (ksk_tail D false r (.ref h) W) P E g:=λW p X hg T hf=>by
   have a6:(dI (p.toList.map λi=>a.getD i dO)).size=a.length:=by rw [c9,Go,eT,X]
   obtain⟨ck,a7⟩:∃ck,(g.heap.update h (d_ λ_=>(#[]:Array Cn))).get? h=some (seqObj "list" #[] ck):=⟨_,gF C λ_=>#[]⟩;have L:(g.heap.update h (d_ λ_=>(#[]:Array Cn))).get? D=some (seqObj "list" #[] r):=(dJ _ _ (eF S)).trans a5;obtain⟨H,K⟩:∃H,((g.heap.update h (d_ λ_=>(#[]:Array Cn))).update D (d_ λ_=>dI (p.toList.map λi=>a.getD i dO))).get? D=some (seqObj "list" (dI (p.toList.map λi=>a.getD i dO)) H):=⟨_,gF L λ_=>dI (p.toList.map λi=>a.getD i dO)⟩;unfold ksk_tail
   try dsimp only
   rw [T];refine Db (fg C rfl ?_ (by rw [c9,di]; omega) (TM _));refine Db (ja ?_);refine Db (ia L rfl ?_);refine Db (fg L rfl ?_ (TM _) (cx (jK a6) (by rw [di]; omega)));rw [hf];simp only [bne_self_eq_false,fX,if_false];refine Sc (g3 p _ H X hg (λb o a8 a9 e=>(dJ _ _ (eF a8)).trans ((dJ _ _ (eF a9)).trans e)) K ⟨_,(dJ _ _ S).trans a7⟩)
  unfold ksk_end
  try dsimp only
  simp only [fX,if_false]
  by_cases h2:a.length<2
  ·have m:a.toArray.size<2:=by rw [c9]; exact h2
   rw [if_pos m,if_pos m];refine Db (Sc ?_);rw [StateT.run_pure];refine Db (Sc ?_)
   try dsimp only
   refine y _ (dI (dD a.length)) (by simp) (g1 h2) (kat_snds t ?_) rfl;have er:=kas_range (d.toArray.zip a.toArray);rw [show (d.toArray.zip a.toArray).size=a.length by simp [t]] at er;exact er.symm
  ·have m:¬a.toArray.size<2:=by rw [c9]; exact h2
   rw [if_neg m,if_neg m];refine Db (dP (g2 (by omega)) (λκ s0 C=>?_) λ_ _ x=>x.elim)
   refine Db (dP (kat_run (Q:=λq O=>∃p:Array Nat,p.size=a.length/\arrOf q=p.map (kas_item (d.toArray.zip a.toArray))/\failedOf q=none/\O=g/\G p)
    t (by omega) Y (λp' q O a1 a2 a3 a4=>⟨p',a1,a2,a3,a4⟩) C) ?_ λ_ _ e=>e)
   rintro ⟨⟨⟩,q⟩ O ⟨p,X,b0,hf,rfl,hg⟩
   try dsimp only
   exact y q p X hg (kat_snds t b0) hf
end
section
variable {X:Cx}{zG:List (Addr×Obj)}{σ:L2.St}{H:Hp}{s:Shared}{h':Heap}
structure Sx (X:Cx) (zG:List (Ch×Obj)) (D:Ch):Prop where
 new:X.s₀.heap.objs.size<=D
 loc:D≠X.env.locals
 cell:∀x c,X.env.cells.lookup x=some c->c≠D
 pin:∀p∈X.pn++zG,p.1≠D
 fs:D∉X.fs
theorem Inv.mine(I:Inv X zG σ H s){D:Ch}(h:s.heap.objs.size<=D):Sx X zG D:=by
 refine⟨cx I.sz h,λz=>?_,λx c e z=>?_,λp a z=>?_,I.nofs h⟩
 ·have:=I.lt
  rw [← z] at this;exact absurd this (iK.mpr h)
 ·obtain⟨v,o,b,_⟩:=I.cell x c e
  have:=UF b
  rw [z] at this;exact absurd this (iK.mpr h)
 ·obtain⟨e,_⟩:=I.pin p a
  have:=UF e
  rw [z] at this;exact absurd this (iK.mpr h)
structure KeysAt (K:Frag) (H:Hp) (vs:List V) (keys:List (List Key)):Prop where
 len:vs.length=keys.length
 at_:∀(i:Nat) (ns:List Key),keys[i]?=some ns->∃a,vs[i]?=some (.ref a)/\SqT K H a (ns.map kOf)
 same:∀x∈keys,∀y∈keys,CS x y=true
 ne:∀x∈keys,x≠[]
def L5(a:List (List Key))(b:List Nat):Prop:=b.Perm (dD a.length)/\∀i j,i<=j->j<a.length->Cg (a.getD (b.getD j 0) []) (a.getD (b.getD i 0) [])=false
theorem KeysAt.tups{d:List V}{f:List Cn}{c:List (List Key)}(I:Inv X zG σ H s)(r:Vals d f)(k:KeysAt X.K H d c){h':cw}(g:∀b o,s.heap.get? b=some o->h'.get? b=some o):RU h' f c:=by
 refine⟨λi h e=>?_,r.length.symm.trans k.len,k.same,k.ne⟩;obtain⟨a,j,l⟩:=k.at_ i h e;obtain⟨u,m,p⟩:=r.get j;cases p;obtain⟨q,x,⟨o,t,v,n,w⟩,_⟩:=I.tuple l;exact⟨a,o,_,n,m,g a o t,v,w,by grind⟩
theorem HK:∀{a:List V} {b:List Cn},Vals a b->∀i:Nat,RelV (a.getD i .non) (b.getD i dO)
 | _,_,.nil,i=>by simp [RelV]
 | _,_,.cons r t,0=>by simpa using r
 | _,_,.cons r t,i+1=>by simpa using HK t i
theorem JO{f:Nat->V}{g:Nat->Cn}(h:∀i,RelV (f i) (g i)):∀a:List Nat,Vals (a.map f) (a.map g)
 | []=>.nil
 | i::a=>.cons (h i) (JO h a)
theorem getD_list(p:Array Nat)(i:Nat):p.getD i 0=p.toList.getD i 0:=by simp
theorem UV{a:List (List Key)}{n:Nat}{p:Array Nat}(c:a.length=n)(d:p.Perm (dI (dD n)))(e:So.Srt R6 (λi=>a.getD i []) p n):L5 a p.toList:=by
 subst c;refine⟨Array.perm_iff_toList_perm.mp d,λi j b f=>?_⟩;have h:=e i j b f;unfold So.KN at h;rw [getD_list,getD_list] at h;exact h
theorem Rm{z:dL}{A:Cn->FM->Prop}{d:List V}{f:List Cn}{keys:List (List Key)}{Q:VK}(I:Inv X zG σ H s)(r:Vals d f)(B:d.length<64)(k:KeysAt X.K H d keys)
  (q:∀(v:List Nat) (l:Ch),L5 keys v->H l=none->Q (.ref l) (A4 H l (.lst (v.map λi=>d.getD i .non)))) :
  wpAny (model X.prog X.w) z (gf.«list.sort» ⟨[.ref s.heap.objs.size],[]⟩) (λm C=>m=.done (.ret .none)/\EP X zG σ Q (.ref s.heap.objs.size) C) A { s with heap:=s.heap.push (seqObj "list" f.toArray 0) }:=by
 have x:=r.length;have t:keys.length=f.length:=k.len.symm.trans x;refine OP (G:=λp=>p.Perm _/\So.Srt R6 (λi=>keys.getD i []) p f.length) (n:=0) (cj _ rfl) (by omega) (λD=>?_) (λL=>⟨jX _,λi j E M=>?_⟩) (λp h' c N y g F=>⟨rfl,?_⟩)
 ·refine LN (keys:=keys) (k.tups I r λb o e=>?_) D (λp a b=>⟨rfl,a,b⟩)
  exact HP (c7 (UF e)) (Ev _ e)
 ·have:i=j:=by omega
  subst this;exact eZ _
 ·have J:H s.heap.objs.size=none:=I.fresh
  have u:(p.toList.map λi=>d.getD i .non).length=f.length:=by grind
  refine⟨.ref s.heap.objs.size,A4 H s.heap.objs.size (.lst _),I.laid (t':=s.toks) (λb o e=>g b o (c7 (UF e)) (Ev _ e)) (On _) ⟨by rw [u,← x,di]; omega,_,c,JO (HK r) p.toList,F⟩,rfl,q _ _ (UV t y.1 y.2) J⟩
theorem Ov{c:cz}{w:dC}{A:dL}{E:Cn->FM->Prop}{s:FM}{l:Ch}{b:List Cn}{Q:List Cn->FM->Prop}(e:IsTup s.heap l b.toArray)
  (h:Q b { s with heap:=(s.heap.push (seqObj "list" #[] 0)).update s.heap.objs.size (d_ (·++b.toArray)) }) (g:b.length<=sizeLine) :
  wpAny (model c w) A (collect (.ref l)) Q E s:=by
 obtain⟨o,i,j,n,k⟩:=id e;unfold collect;refine Db (wpAny_runValue (codeAny_builtin entry_proto_collect' ?_));show wpAny _ _ (do again (.builtin "list.__iadd__" ⟨[← newList [],.ref l],[]⟩)) _ _ s;refine Db (iy (Sc ⟨gE _ (by decide +kernel),codeAny_builtin entry_list_iadd' ?_⟩));show wpAny _ _ (ip (.ref s.heap.objs.size) (.ref l) (.ref s.heap.objs.size)) _ _ { s with heap:=s.heap.push (seqObj "list" #[] 0) };unfold ip;have d:(s.heap.push (seqObj "list" #[] 0)).get? l=some o:=Ev _ i;refine Db (iG (T := "tuple") ⟨o,d,j⟩ ?_);have m:(fE "tuple"==fE "tuple")=true:=by rfl
 rw [if_pos (by rw [m]; simp)];refine Db (iQ d k ?_);refine Db (iQ (xs:=#[]) (n:=0) (cj _ rfl) rfl ?_);rw [if_neg (by simp)];refine Db (fg (xs:=#[]) (n:=0) (cj _ rfl) rfl ?_ (TM _) (by show (#[]++b.toArray).size<=sizeLine+1; simp only [Array.size_append,c9,eE]; omega));refine Sc ?_
 show wpAny (model c w) A (do
   let o ← load s.heap.objs.size
   match o.data with
   | .seq xs _=>pure xs.toList
   | _=>unsupported "internal:collect") Q E { s with heap:=(s.heap.push (seqObj "list" #[] 0)).update s.heap.objs.size (d_ (·++b.toArray)) }
 refine Db (wpAny_load (gF (cj _ rfl) _) ?_);show wpAny _ _ (pure ((#[]:Array Cn)++b.toArray).toList) Q E _;rw [show ((#[]:Array Cn)++b.toArray).toList=b by simp];exact Sc h
theorem Ox{h:cw}{g:Array Cn->Array Cn}{b:Ch}{o:Obj}(e:h.get? b=some o):((h.push (seqObj "list" #[] 0)).update h.objs.size (d_ g)).get? b=some o :=
 (dJ _ _ (eF (c7 (UF e)))).trans (Ev _ e)
theorem Ow{g:Bool}{k:dL}{l:Cn->FM->Prop}{p:Ch}{c:List V}{Q:List Cn->FM->Prop}(I:Inv X zG σ H s)(h:SqK g X.K H p c)(q:∀i j,Vals c i->c.length<=sizeLine->Inv X zG σ H j->Q i j) :
  wpAny (model X.prog X.w) k (collect (.ref p)) Q l s:=by
 cases g with
 | true =>
  obtain⟨d,r,f,a⟩:=I.list h;exact collect_list f.isList (q _ _ r a (I.kept λb o e=>Ox e)) (by rw [← r.length]; exact a)
 | false =>
  obtain⟨d,r,f,a⟩:=I.tuple h;exact Ov f (q _ _ r a (I.kept λb o e=>Ox e)) (by rw [← r.length]; exact a)
def T5(K:Frag):List V->Hp->VK->Prop:=λd H Q=>∃(e:Bool) (p:Ch) (b:List V) (a:List (List Key)),d=[.ref p]/\SqK e K H p b/\b.length<64/\KeysAt K H b a /\
 ∀(c:List Nat) (l:Ch),L5 a c->H l=none->Q (.ref l) (A4 H l (.lst (c.map λi=>b.getD i .non)))
theorem KW:C2 X (.builtin "sorted") (T5 X.K):=by
 intro zG s σ H k d Q I r h;obtain⟨l,p,m,b,rfl,e,a,f,q⟩:=h;obtain⟨u,rfl,g⟩:=vals1 r;cases g;exact Gq (args_sorted1 _) (λx=>args_list_sort _) (Ow I e λd n c i j=>⟨by rw [← c.length]; exact i,Rm j c a f q⟩)
end
section
variable {X:Cx}{tg elt iter:Expr}{ifs:List Expr}{sc:Scope}{pos spos pos':Pos}{N':List Str}{js:List (Option Nat)}{wi:TI}{i:Nat}{x:Str}
theorem Qk(hc:X.calm=true)(N':List Str)(js:List (Option Nat))(hi:PI X tg iter wi)
  (hB:G9 sc X.env.scope X.N N' js=true) (hN:X.N.Nodup) (a0:X.N[i]?=some x) (hx:Loc X.env.scope x)
  (a1:swapsWith (.ListComp elt [⟨tg,iter,ifs,0⟩] sc pos) (some (.Name x pos')) spos.line X.env=pure true)
  (hs:∀x,foldedSetIterable iter X.env x=pure x:=by intro _; rfl)
  (hf:X.fn x=true\/X.env.scope.names.lookup x=some .local:=by first | exact .inl rfl | exact .inr rfl | assumption) :
  PS X (.Assign [.Name x pos'] (.ListComp elt [⟨tg,iter,ifs,0⟩] sc pos) spos) (Nj (Tg X sc N' js tg elt ifs wi) (IB i)):=by
 intro M s Z H D I h;have O:CompOk X sc N' js:=CompOk.of hB;obtain⟨P,t,a2,R⟩:=KR (scope:=sc) (env:=X.env) λx hx=>I.ok.has x (O.free x hx);rw [exec_Assign_Name_used _ _ _ _ a1];refine Db (hG (Db ?_));show wpAny _ _ (do let _ ← comprehension (.ListComp elt [⟨tg,iter,ifs,0⟩] sc pos) sc X.env _ (newList []) false (eval iter X.env) (some (assign (.Name x pos') X.env))) _ _ s
 refine Db (dP (wpAny_comprehension_free (Q:=λ_ p=>SP X M D .next p) (use:=some (assign (.Name x pos') X.env)) rfl hs t O.kind O.names (thn (hi M s Z H _ I h) λv s1 h1=>thn h1 λa5 c h2=>?_))
  (λ_ p hq=>Sc (Sc hq)) λ_ _ e=>e)
 obtain⟨it,fp,tn,J,H2,e,G,T,u,f2,hq⟩:=h2;subst e
 have B:X.K.lookup c.heap.objs.size=none:=by
  cases q:X.K.lookup c.heap.objs.size with
  | none=>rfl
  | some o=>exact absurd (UF (G.kIn _ _ q)) (eK _)
 obtain⟨g,tt,te,W,hg,ht,he,⟨m0,w0⟩,hW⟩:=hq c.heap.objs.size (G.hok.fresh (On _)) B P (c.heap.objs.size+1) c H2 fp;refine fh (wpAny_newFunctionEnv O.cell (by intro y hy; simp at hy) (λj f d=>?_) O.kind)
 dsimp only at f d ⊢
 generalize C:c.heap.push { cls:=.type "list",dict:=none,data:=.seq ([]:List Cn).toArray }=Hh at f d ⊢;have k:Hh.objs.size=c.heap.objs.size+1:=by rw [← C,eq]
 have S:∀b∈fp,b<c.heap.objs.size:=λb l=>by
  obtain⟨o,e,_⟩:=T.obj _ _ u b l;exact UF e
 have U:∀b o,c.heap.get? b=some o->j.get? b=some o:=λb o e=>d.extBut b o (by rw [k]; exact c7 (fI (UF e))) (Ev _ (C▸Ev _ e));have hD:∃n,j.get? c.heap.objs.size=some { cls:=.type "list",data:=.seq #[] n }:=⟨_,d.extBut _ _ (by rw [k]; exact c7 (jM _)) (Ev _ (C▸cj _ rfl))⟩
 have I3:∀L,Inv (A3 X sc N' P (c.heap.objs.size+1) c H2 fp) [] (Co js Z) (A4 H2 c.heap.objs.size (.lst [])) { c with heap:=j,toks:=L }:=λL =>
  Od G hc O a2 R f2 (λb l=>let ⟨o,e,_⟩:=T.obj _ _ u b l; ⟨o,e⟩) (by rw [← k]; exact f) U hD
 have V:tn 0 j:=T.keep _ _ _ u λb l o e=>U b o e
 have a3:∀b∈fp,A4 H2 c.heap.objs.size (.lst []) b=none:=λb l=>by
  rw [AQ (c7 (S b l))];exact(f2 b l).1
 have r:∀L,codeAny (model X.prog X.w) X.A (.compLoop (.ListComp elt [⟨tg,iter,ifs,0⟩] sc pos) 0 (.ref it) (.ref c.heap.objs.size) (compEnvC sc P (c.heap.objs.size+1) X.env))
   (compPost (model X.prog X.w) X.A X.xe (some (assign (.Name x pos') X.env)) (λ_ p=>SP X M D .next p) (.ref c.heap.objs.size) (c.heap.objs.size+1)) { c with heap:=j,toks:=L }:=λL=>by
  refine Ls (W:=W) (m0:=m0) (Q:=λv H1=>IB i v Z H1 λzO H2=>D.nx zO H2) G f2 S (dq _) T hg ht he hW (λzZ H' p J' q'=>?_) (I3 L) V a3 w0;obtain⟨m,hn,_⟩:=J'.loc;have Y:H' (c.heap.objs.size+1)=none:=J'.free;have I4:Inv X M Z H' p:=J7 (h':=p.heap) G f2 (dq _) J' λb _=>rfl;obtain⟨g1,g2,g3,g4,g5,g6⟩:=G.fpOk (b:=c.heap.objs.size+1) (dq _) Y;show wpAny (model X.prog X.w) X.A (assign (.Name x pos') X.env (.ref c.heap.objs.size)) (λ_ E=>∃m,E.heap.Ns (c.heap.objs.size+1) m/\∀h',fq (c.heap.objs.size+1) E.heap h'->SP X M D .next { E with heap:=h' }) X.xe p;refine wpAny_assign_Name (LP (v:=.ref c.heap.objs.size) I4 hN a0 hx rfl (λs5 I5 ⟨a,F,ha⟩=>?_) hf)
  have na:c.heap.objs.size+1≠a:=by
   rcases ha with rfl | ha
   ·exact g2
   ·exact λz=>g5 _ _ ha z.symm
  refine⟨m,hn.sameBut F na,λh' a4=>?_⟩;exact⟨_,H',I5.turned (t':=s5.toks) (it:=c.heap.objs.size+1) (λb o l e=>a4.extBut b o l e) Y g2 g4 g5 g6,q'⟩
 rw [show (newEnv sc Hh.objs.size X.env.globals P X.env.qual none .none (some X.env) builtinsNs).locals=c.heap.objs.size+1 from k];show codeAny (model X.prog X.w) X.A (.compStart (.ListComp elt [⟨tg,iter,ifs,0⟩] sc pos) 0 (.ref it) (.ref c.heap.objs.size) (compEnvC sc P (c.heap.objs.size+1) X.env)) _ _;exact codeAny_compStart_list (r _) (T.self _ 0 _ _ _ V (r _))
end
end L2
namespace Dp
open L2
section
variable {X:Cx}{zT:Kd}{tg elt iter:Expr}{ifs:List Expr}{sc:Scope}{pos:Pos}{src:Ef}{b:BW}{tt:HI}{te:DW}
theorem Ou(hc:X.calm=true)(N':List Str)(js:List (Option Nat))(hi:Xd X tg iter src)(hg:∀L C s H O,DG (A3 X sc N' L C s H O) tg b)(ht:∀L C s H O,ZG (A3 X sc N' L C s H O) ifs tt)(he:∀L C s H O,DE (A3 X sc N' L C s H O) elt zT te)
  (hB:G9 sc X.env.scope X.N N' js=true) (hk:zT≠.tp:=by intro z; cases z)
  (hs:∀x,foldedSetIterable iter X.env x=pure x:=by intro _; rfl):∃wi,PI X tg iter wi/\∀(C:Fm) (M:Ch->Prop) (H:Hp) (n:Nat) (ρ:List Slot) (σ:L2.St) (P:D->Nat->Prop) (Q:VK),Rel X.K C M H n ρ σ->BR js src b tt te n ρ P ->
   (∀v r d S,Ext C.U H r->FeedC X.K C.F M r S->VR X.K C.V M H r .fr v d->P d S->Q v r)->Tg X sc N' js tg elt ifs wi σ H Q:=by
 obtain⟨wi,a1,a2⟩:=hi;refine⟨wi,a1,λC M H n ρ σ P Q R w q=>?_⟩;refine a2 C M H n ρ σ _ _ R w λJ T u n1 A f1 y w1=>?_;obtain⟨b3,w1⟩:=w1;have R1:=R.step A f1;intro l hl b5 L Ca s0 H0 O;obtain⟨g,g1,g2⟩:=hg L Ca s0 H0 O;obtain⟨tc,c1,c2⟩:=ht L Ca s0 H0 O;obtain⟨tx,x1,x2⟩:=he L Ca s0 H0 O
 have a4:¬C.U l:=λz=>by
  obtain⟨o,z⟩:=R1.udom l z;rw [hl] at z; cases z
 generalize W:(λb=>M b\/b=l)=M';have a6:M' l:=by rw [← W]; exact .inr rfl
 have M'of:∀b,M b->M' b:=λb z=>by rw [← W]; exact .inl z
 have a3:∀b,M' b->M b\/b=l:=λb z=>by rw [← W] at z; exact z
 have b0:∀b,C.V b\/b=l->M' b:=λb z=>z.elim (λz=>M'of b (R1.vM b z)) λz=>by rw [z]; exact a6
 have b4:js.length=N'.length:=Fb (CompOk.of hB).cap
 refine⟨g,tc,tx,λi m zZ r=>m=u.length - i/\i<=u.length/\∃S zY k G,Rel X.K ⟨M',C.F,C.U,λb=>C.V b\/b=l,T,[],[]⟩ M' r S zY zZ/\r l=some (.lst G)/\Ats X.K M' r k G/\k.length<=i/\Pres M T M' r /\
   Ci b tt te (λk n2=>P (.lst k) n2) (u.drop i) k S zY,g1,c1,x1,⟨u.length,by simp,TM _,n1,G2 js ρ,[],[],?_⟩,?_⟩
 ·have I:Grow T (A4 T l (.lst [])):=A1 hl
  have Y:Pres M T M' (A4 T l (.lst [])):=⟨λb o e _=>I.all b o e,λb z=>(a3 b z).elim .inl λz=>.inr (by rw [z]; exact hl),λb G e=>I.all b _ e⟩;refine⟨⟨?_,λa z=>z,λa z=>?_,I.ext,R1.fU,λa z=>.inl (R1.uV a z),b0,f1.pres Y λf o _ e=>I.all f.1 o e,?_,λp hp=>absurd hp (by simp),λi d a q z=>Qw R1.sl q z,λi s a q o _=>absurd o (by rw [Er q]; decide),λi j s t a q o _ _ _ _=>absurd o (by rw [Er q]; decide),λp hp=>absurd hp (by simp)⟩,AX,rfl,TM _,Y,w1⟩
  ·unfold G2 Co
   rw [Go,Go]
  ·rcases a3 a z with z | z
   ·obtain⟨o,z⟩:=R1.dom a z
    exact⟨o,I.all a o z⟩
   ·subst z
    exact⟨_,AX⟩
  ·refine OR R1.sl Y λd v h=>h.same Y (λa o _ e=>I.all a o e) λa e n1 z=>z.elim n1 λz=>?_
   subst e;obtain⟨o,w⟩:=h.lies;rw [z,hl] at w;cases w
 ·rintro i m zZ r ⟨rfl,hi,S,zY,k,G,R',a7,Z,a8,Y,w'⟩
  by_cases a0:i<u.length
  ·have ed:u.drop i=u[i]::u.drop (i+1):=eI a0
   rw [ed] at w';obtain⟨go,yl⟩:=(y i M' r Y R'.ext R'.dom).1 u[i] (No a0);refine .inr ⟨go,λx H2 hy=>?_⟩;obtain⟨I,hx⟩:=yl x H2 hy;have b1:=R'.step I.ext (R'.feed.grow I);refine g2 _ M' H2 S zY zZ u[i] x _ _ b1 hx w' λzP zV R3 w3=>?_;refine c2 _ M' H2 S zP zV _ _ R3 w3 λc H4 n4 e4 f4 w4=>?_;have R4:=R3.step e4 f4;have p4:Pres M' r M' H4:=I.pres.trans (R3.pres e4);have l4:H4 l=some (.lst G):=e4.keep (I.all _ _ a7) a4;cases c with
   | false=>exact⟨u.length - (i+1),by omega,rfl,a0,n4,zP,k,G,R4,l4,Z.pres p4,by omega,Y.trans p4,w4⟩
   | true =>
    refine x2 _ M' H4 n4 zP zV _ _ R4 w4 λyv H5 d5 n5 e5 f5 r5 w5=>?_;have B:=R4.step e5 f5;have p5:Pres M' H4 M' H5:=R4.pres e5;have l5:H5 l=some (.lst G):=e5.keep l4 a4;have b2:=r5.shOf R4.dom hk;have a5:=(Z.pres p4).pres p5;have pu:Pres M' H5 M' (A4 H5 l (.lst (G++[yv]))):=Fw a6 l5;have b6:G.length=k.length:=Z.length;refine⟨G,l5,by rw [di]; omega,u.length - (i+1),by omega,rfl,a0,n5,zP,k++[d5],G++[yv],?_,AX,(a5.append (Ats.one b2)).pres pu,by rw [XV,dB]; omega,(Y.trans p4).trans (p5.trans pu),w5⟩;refine⟨B.len,B.sub,λa z=>?_,λb o e=>?_,B.fU,B.uV,B.vM,?_,λj s hs=>?_,λp hp=>absurd hp (by simp),B.br0,B.new,B.two,λp hp=>absurd hp (by simp)⟩
    ·by_cases ha:a=l
     ·subst ha; exact⟨_,AX⟩
     ·rw [AQ ha]; exact B.dom a z
    ·obtain⟨o',q1,q2⟩:=B.ext b o e
     by_cases hb:b=l
     ·subst hb
      have e':T b=some o:=e;rw [hl] at e'; cases e'
     ·exact⟨o',by rw [AQ hb]; exact q1,q2⟩
    ·refine f5.pres pu λf o hf e=>?_
     rw [AQ (λz=>a4 (by rw [← z]; exact R1.fU f hf))];exact e
    ·have E:=B.sl j s hs
     cases s with
     | no=>trivial
     | sh d=>obtain⟨v,A,h2⟩:=E; exact⟨v,A,h2.pres pu⟩
     | ex a nm ks u=>obtain⟨A,h2⟩:=E; exact⟨A,h2.pres pu⟩
     | br d =>
      obtain⟨v,A,h2⟩:=E;refine⟨v,A,h2.same pu (λa o z e=>?_) λ_ _ z=>z⟩;subst z;obtain⟨o3,w⟩:=B.br0 j d a hs A
      have a8:a≠l:=λz=>by
       have w':T a=some o3:=w;rw [z,hl] at w'; cases w'
      rw [AQ a8]; exact e
     | ow d =>
      obtain⟨a,A,h2,_⟩:=E;exact absurd h2 (B.new j _ a hs rfl A).1
     | lt a d =>
      obtain⟨A,h2,_⟩:=E;exact absurd h2 (B.new j _ a hs rfl A).1
     | fd=>exact E
  ·have e:i=u.length:=by omega
   subst e;rw [fz] at w';refine .inl ⟨(y _ M' r Y R'.ext R'.dom).2 (On _),?_⟩;have eb:Ext C.U T r:=R'.ext;have a9:Pres M' r M r:=Pres.less M'of;refine q _ r (.lst k) S (A.trans eb) (R'.feed.pres a9 λ_ _ _ z=>z) (VR.back A ?_) w';exact⟨l,rfl,hl,G,a7,by rw [W]; exact Z⟩
theorem M_{q:Kd}{i:Nat}{x:Str}{a c:Pos}(r:X.N.Nodup)(j:X.N[i]?=some x)(t:Loc X.env.scope x)(l:X.calm=true)(e:List Str)(h:List (Option Nat))(u:Xd X tg iter src)(y:∀f C s H g,DG (A3 X sc e f C s H g) tg b)(A:∀f C s H g,ZG (A3 X sc e f C s H g) ifs tt)(B:∀f C s H g,DE (A3 X sc e f C s H g) elt zT te)
  (m:G9 sc X.env.scope X.N e h=true) (k:swapsWith (.ListComp elt [⟨tg,iter,ifs,0⟩] sc pos) (some (.Name x a)) c.line X.env=pure true:=by rfl) (D:zT≠.tp:=by intro z; cases z)
  (o:∀x,foldedSetIterable iter X.env x=pure x:=by intro _; rfl)
  (F:X.fn x=true\/X.env.scope.names.lookup x=some .local:=by first | exact .inl rfl | exact .inr rfl | assumption):DS X q (.Assign [.Name x a] (.ListComp elt [⟨tg,iter,ifs,0⟩] sc pos) c) (Az i (BR h src b tt te)):=by
 obtain⟨U,G,I⟩:=Ou l e h u y A B m D o;exact⟨_,Qk l e h G m r j t k o F,λC M H n J K V E R L w=>I C M H n J K _ _ R w λv O d P Q S T p=>L.nx M O P _ _ ((R.step Q S).set (T.shOf R.dom (by grind))) p⟩
end
end Dp
namespace L2
def Zu:R2:=λy x H Q=>∃a o,x=.ref a/\DGet H a y o/\Q (.bl o.isSome) H
def W7:R2:=λy x H Q=>∃a o,x=.ref a/\DGet H a y o/\Q (.bl (!o.isSome)) H
def Zv:R2:=λx y H Q=>∃a v,x=.ref a/\DGet H a y (some v)/\Q v H
theorem UW{X:Cx}{k:Nat}(b:Room k X.A):OpR X (compareOp .In) Zu:=by
 intro f s h H y x i u Q I c d ⟨a,j,ex,g,q⟩;subst ex;obtain rfl:u=cm a:=d;exact bi (J9 b) I g c λl e=>⟨.bl _,H,e,rfl,q⟩
theorem LV{X:Cx}{k:Nat}(b:Room k X.A):OpR X (compareOp .NotIn) W7:=by
 intro f s h H y x i u Q I c d ⟨a,j,ex,g,q⟩;subst ex;obtain rfl:u=cm a:=d;exact We (J9 b) I g c λl e=>⟨.bl _,H,e,rfl,q⟩
end L2
namespace Dp
open L2
def Bv:List Key->List D->Key->Option D
 | a::b,d::c,k=>if a=k then some d else Bv b c k
 | _,_,_=>none
section
variable {K:Frag}{X:Cx}
theorem Gn{M:Ch->Prop}{H:Hp}{k:Key}:∀{ks:List Key} {b:List D} {a:List V},Ats K M H b a ->
  match Bv ks b k with
  | some z=>∃v,E7 (ks.zip a) k=some v/\At K M H z v
  | none=>E7 (ks.zip a) k=none
 | [],b,a,h=>by exact rfl
 | c::ks,[],a,h=>by cases h; exact rfl
 | c::ks,d::b,a,h=>by
  obtain⟨v,r,rfl,f,g⟩:=h;have i:=Gn (k:=k) (ks:=ks) g;unfold Bv
  by_cases e:c=k
  ·rw [if_pos e]
   refine⟨v,?_,f⟩;show E7 ((c,v)::ks.zip r) k=some v;rw [E_ e]
  ·have:E7 ((c,v)::ks.zip r) k=E7 _ k:=FA e
   simp_all
def keyOf:D->Option Key
 | .int i=>some (.inl i)
 | .str x=>some (.inr x)
 | _=>none
theorem DQ{U M:Ch->Prop}{H:Hp}{d:D}{v:V}{k:Key}(e:keyOf d=some k)(h:AtT K U M H d v):v=kV k:=by
 cases d with
 | int i=>cases e; exact h
 | str x=>cases e; exact h.str.1
 | _=>cases e
def KL:D->Option (List Key×List D)
 | .dic a b=>some (a,b)
 | .fdi a b=>some (a,b)
 | _=>none
theorem KJ{U M:Ch->Prop}{H:Hp}{d:D}{x:V}{g:List Key}{i:List D}(e:KL d=some (g,i))(h:AtT K U M H d x):∃a b,x=.ref a/\Rd H a (.dK (g.zip b))/\Ats K M H i b:=by
 cases d with
 | dic j k=>cases e; obtain⟨a,b,rfl,_,c,_,f⟩:=h; exact⟨a,b,rfl,.inl c,f⟩
 | fdi j k=>cases e; obtain⟨a,b,rfl,⟨o,_,c⟩,_,f⟩:=h; exact⟨a,b,rfl,.inr ⟨o,c⟩,f⟩
 | _=>cases e
theorem I_{H:Hp}{a:Ch}{b:List (Key×V)}{k:Key}(e:Rd H a (.dK b)):DGet H a (kV k) (E7 b k):=.inl ⟨_,k,e,rfl,rfl⟩
def M8(a:Bool)(e d:D)(P:D->Prop):Prop:=∃b c k,KL d=some (b,c)/\keyOf e=some k/\P (.bl (if a then !(Bv b c k).isSome else (Bv b c k).isSome))
def EW(d e:D)(P:D->Prop):Prop:=∃a b k z,KL d=some (a,b)/\keyOf e=some k/\Bv a b k=some z/\P z
theorem Xb:E5 K .sh Zu (M8 false):=λU M H e d y x P Q b o f g w q=>by
 obtain⟨ks,i,k,j,l,w⟩:=w;obtain⟨a,p,rfl,m,n⟩:=KJ j g;refine⟨a,_,rfl,by rw [DQ l f]; exact I_ m,q _ H (.bl _) .refl rfl ?_⟩;have h:=Gn (k:=k) (ks:=ks) n;cases c:Bv ks i k with
 | none=>simp_all
 | some z=>rw [c] at h w; obtain⟨v,r,_⟩:=h; simp_all
theorem PB:E5 K .sh W7 (M8 true):=λU M H e d y x P Q b o f g w q=>by
 obtain⟨ks,i,k,j,l,w⟩:=w;obtain⟨a,p,rfl,m,n⟩:=KJ j g;refine⟨a,_,rfl,by rw [DQ l f]; exact I_ m,q _ H (.bl _) .refl rfl ?_⟩;have h:=Gn (k:=k) (ks:=ks) n;cases c:Bv ks i k with
 | none=>simp_all
 | some z=>rw [c] at h w; obtain⟨v,r,_⟩:=h; simp_all
theorem Y2:E5 K .sh Zv EW:=λU M H d e x y P Q b p c f w q=>by
 obtain⟨ks,r,k,z,g,i,j,w⟩:=w;obtain⟨a,s,rfl,l,m⟩:=KJ g c;have h:=Gn (k:=k) (ks:=ks) m;rw [j] at h;obtain⟨v,n,o⟩:=h;exact⟨a,v,rfl,by rw [DQ i f,← n]; exact I_ l,q v H z .refl o w⟩
variable {a b:Expr}{zR zM:Kd}{wa wb:DW}{pos:Pos}
theorem Fz{k:Nat}(g:Room k X.A)(h:DE X a zR wa)(i:DE X b zM wb)(j:Y8 b:=by intro _ _; rfl):DE X (.Subscript a b pos) .sh (AU EW wa wb):=by
 obtain⟨o,c,d⟩:=h;obtain⟨p,e,f⟩:=i;exact⟨_,MY (J9 g) c e j,λC M H n l m P Q R w q=>Fd Y2 d f C M H n l m P Q R w q⟩
end
def TU(i:Nat)(w:DW):Aj:=λe n c=>∃a:Int,c[i]?=some (.sh (.int a))/\w n c λd f=>∃b:Int,d=.int b/\e.nx f (c.set i (.sh (.int (a+b))))
theorem WR{X:Cx}{h j:Kd}{e:c_}{g:DW}{pos:Pos}{i:Nat}{x:Str}{c:Pos}(k:X.N.Nodup)(l:X.N[i]?=some x)(m:Loc X.env.scope x)(o:DE X e j g)
  (q:X.fn x=true\/X.env.scope.names.lookup x=some .local:=by first | exact .inl rfl | exact .inr rfl | assumption):DS X h (.AugAssign (.Name x c) .Add e pos) (TU i g):=by
 obtain⟨t,r,s⟩:=o;refine⟨_,YE k l m r Ye q,λC M H n u y I E R L w=>?_⟩;obtain⟨a,z,w⟩:=w;obtain⟨v,f,A⟩:=R.sl i _ z;cases (A);refine⟨_,getD_some f,s C M H n u y _ _ R w λv B d D f F G p=>?_⟩;obtain⟨b,rfl,p⟩:=p;exact⟨a,b,rfl,J8 G,L.nx M B D _ _ ((R.step f F).set (d:=.int _) rfl) p⟩
end Dp
namespace L2
open PySem.W
section
variable {X:Cx}{zG:List (Addr×Obj)}{σ:L2.St}{H:Hp}{s:Shared}{h':Heap}
theorem Inv.adopt2{D e:Ch}{o:HO}(I:Inv X zG σ H s)(m:Sx X zG D)(h:H D=none)(i:Sx X zG e)(j:H e=none)(l:D≠e)(k:∀b u,b≠D->b≠e->s.heap.get? b=some u->h'.get? b=some u)(new:ObjOk X.prog X.w (A4 H D o) h' D o):Inv X zG σ (A4 H D o) { s with heap:=h' }:=by
 have a:∀b,b∉[D,e]->b≠D/\b≠e:=λb d=>⟨λz=>d (by rw [z]; exact Op),λz=>d (by rw [z]; exact Re _ (Tk.mpr rfl))⟩
 refine I.step (g':=s.gens) (d':=s.drawn) (t':=s.toks) (ch:=[D,e]) (λb g=>?_) (λb u _ _ d q _=>k b u (a b d).1 (a b d).2 q) (λb u _ _ d q _=>⟨u.slots,k b u (a b d).1 (a b d).2 q⟩) (λb u d q n=>?_)
  (λb u d q=>⟨u,k b u (a b d).1 (a b d).2 q⟩) (λb p q=>?_) (λb u v q=>?_) (λb B q=>⟨#[],?_⟩) (λC t=>?_) (λb u q=>?_) I.bare
 ·rcases T0.mp g with rfl | g
  ·exact⟨.inr m.new,m.loc,m.cell,m.pin⟩
  ·rw [Tk.mp g]
   exact⟨.inr i.new,i.loc,i.cell,i.pin⟩
 ·rw [AQ (a b d).1]; exact n
 ·rw [AQ (A0 q h)]; exact q
 ·rw [AQ (A0 q h)]; exact q
 ·rw [AQ (A0 q h),q]; simp
 ·obtain⟨u,x,y,A,r⟩:=t
  exact⟨u,x,y,k _ u (eF m.loc) (eF i.loc) A,r⟩
 ·by_cases g:b=D
  ·subst g; rw [AX] at q; cases q; exact new
  ·rw [AQ g] at q
   refine(I.hok b u q).stay (λc v d f=>k c v ?_ ?_ f) (λc f=>by rw [AQ (A0 f h)]; exact f) λc p f=>by rw [AQ (A0 f h)]; exact f
   ·grind
   grind
def Xt(K:Frag)(f:Sp)(g:TE):TE:=λσ H Q=>g σ H λx d=>∃(h:Bool) (l:Ch) (c:List V) (a:List (List Key)) (J:List V->Hp->Prop),x=.ref l/\SqK h K d l c/\c.length<64/\J [] d /\
 (∀b H2 v,J b H2->c[b.length]?=some v->f [v] H2 (λk j=>J (b++[k]) j) E0) /\
 ∀b H2,J b H2->b.length=c.length->KeysAt K H2 b a/\∀(e:List Nat) (l:Ch),L5 a e->H2 l=none->Q (.ref l) (A4 H2 l (.lst (e.map λi=>c.getD i .non)))
theorem UN{k:Nat}{f:Ch}{fd:dU}{pn fn:Str}{sp:Sp}{te:TE}{e:c_}{p fp kp pos:Pos}(F:BD X.prog X.w X.K X.mg X.base CL k f fd [pn] sp)(hr:Room (k+2) X.A)(hg:Gl X "sorted")(hm:X.mg "sorted"=none)
  (a9:Gl X fn) (b0:X.mg fn=some (.ref f)) (hb:Binds X.K fd [pn] []) (he:PE X e te) (hs:starEach [e] X.env=[(false,eval e X.env)]:=by rfl) (b1:(fn==("__debug__":Str))=false:=by decide) :
  PE X (.Call (.Name "sorted" p) [e] [⟨some "key",.Name fn fp,kp⟩] pos) (Xt X.K sp te):=by
 intro zG s σ H Q I h;refine eN (FT I hg hm ie ?_)
 refine callWith_kw (thn (BB he B0 hs pos zG s σ H (λC T=>∃x,C=[x]/\∃(κ:Bool) (l:Ch) (C:List V) (keys:List (List Key)) (J:List V->Hp->Prop),x=.ref l/\SqK κ X.K T l C/\C.length<64/\J [] T /\
   (∀B H2 v,J B H2->C[B.length]?=some v->sp [v] H2 (λk H3=>J (B++[k]) H3) E0) /\
   ∀B H2,J B H2->B.length=C.length->KeysAt X.K H2 B keys/\∀(ix:List Nat) (l:Ch),L5 keys ix->H2 l=none->Q (.ref l) (A4 H2 l (.lst (ix.map λi=>C.getD i .non)))) I ?first) λt s1 ⟨xs,T,I1,r1,q1⟩=>kws_cons (Dq I1 a9 b0 (kws_nil ?_) b1)) (by rw [hs]; rfl) (by rw [hs]; rfl)
 case first =>
  show te σ H _;refine cast (congrArg (te σ H) ?_) h
  funext x T
  refine propext ⟨λz=>⟨x,rfl,z⟩,fun⟨y,e,z⟩=>?_⟩;cases e;exact z
 obtain⟨x,rfl,κ,l,C,keys,J,rfl,hq,b2,j0,U,a0⟩:=q1;obtain⟨u,rfl,ru⟩:=vals1 r1;cases ru;show wpAny (model X.prog X.w) X.A (call (.builtin "sorted") [.ref l] [(dk "key",.ref f)]) _ _ s1;refine Gq (ksk_s1 _ _) (λx=>ksk_l1 _ _) (Ow I1 hq λt R r2 hz I2=>⟨by rw [← r2.length]; exact hz,?_⟩);rw [ksk_t1];have hl:=r2.length;generalize W:R.heap.objs.size=D;have a1:(R.heap.push (seqObj "list" t.toArray 0)).objs.size=D+1:=by rw [size_push',W]
 have a2:(R.heap.push (seqObj "list" t.toArray 0)).get? D=some (seqObj "list" t.toArray 0):=by rw [← W]; exact cj _ rfl
 have mD:Sx X zG D:=I2.mine (by rw [W]; exact On _);have mK:Sx X zG (D+2):=I2.mine (by rw [W]; exact Nat.le_add_right _ _);have nD:T D=none:=I2.hok.fresh (by rw [W]; exact On _);have nK:T (D+2)=none:=I2.hok.fresh (by rw [W]; exact Nat.le_add_right _ _);have a3:D≠D+2:=c7 (fI (jM D));have S:∀b,Sx X zG b->b∉Lj X.stack:=λb m z=>(T0.mp (I2.stkSub b z)).elim m.loc m.fs
 refine SK (s:={ R with heap:=R.heap.push (seqObj "list" t.toArray 0) }) (n:=0) a2 (by rw [← hl]; exact b2)
  (λB N=>∃O E,Vals O B/\J O E/\Inv X zG σ E N/\E D=none/\E (D+2)=none/\N.heap.get? D=(Dk (R.heap.push (seqObj "list" t.toArray 0)) D t).get? D) (D+2) (by show D+2=(R.heap.push _).objs.size+1; rw [a1]) (λe1 a4=>?_) (λB N e v Y hk hv=>?_) λe1 a4 B N Y L=>?_
 ·refine⟨[],T,.nil,j0,?_,nD,nK,rfl⟩
  exact I2.kept (t':=R.toks) λb o q=>HP (by rw [← W]; exact c7 (UF q)) (Ev _ q)
 ·obtain⟨O,E,Z,Y,I',n1,n2,P⟩:=Y
  have hi:B.length<t.length:=(cr.mp hv).1;have a5:C[O.length]?=some (C[O.length]'(by rw [Z.length]; omega)):=No _;obtain⟨u',e2,ru⟩:=r2.get a5;rw [Z.length,hv] at e2;cases e2;have b3:=U O E _ Y a5;have E1:Env0 X.prog X.w X.K X.mg X.base X.A.in1.in1 X.stack N E:=I'.env0.in1.in1;refine fj (ft (F.run X.A.in1.in1 X.stack N E ⟨[v],[]⟩ [v] _ _ E0 (hr.in1).in1 E1 (by simpa using hb N [v] I'.kIn rfl) (.cons ru .nil) b3) λr g M=>?_);cases r with
  | error e=>exact dX M
  | ok fl =>
   cases fl with
   | next=>exact dX M
   | brk=>exact dX M
   | cont=>exact dX M
   | ret u =>
    obtain⟨w',H3,os,a6,un,b4,b5,q3⟩:=id M
    obtain⟨oD,eD⟩:∃o,N.heap.get? D=some o:=by
     obtain⟨c,hc,_⟩:=JU a2;exact⟨_,P.trans hc⟩
    have kD:g.heap.get? D=some oD:=un.keep D oD eD n1 (S D mD) (by simp);have kK:g.heap.get? (D+2)=some (seqObj "list" B.toArray e):=un.keep _ _ hk n2 (S _ mK) (by simp);have f1:H3 D=none:=un.free D oD eD n1 (by simp);have f2:H3 (D+2)=none:=un.free _ _ hk n2 (by simp);have I3:Inv X zG σ H3 g:=I'.call' os un b4 a6 (λb z=>absurd z (by simp));refine⟨kK,O++[w'],H3,Z.append (.cons b5 .nil),q3,?_,f1,f2,?_⟩
    ·exact I3.turned (t':=g.toks) (λb o hb q=>(dJ _ _ (eF hb)).trans q) f2 mK.loc (.inr mK.new) mK.cell mK.pin
    ·show (g.heap.update (D+2) _).get? D=_
     rw [dJ _ _ (eF a3),kD,← eD,P]
 ·obtain⟨O,E,Z,Y,I',n1,n2,P⟩:=Y
  obtain⟨a7,q⟩:=a0 O E Y (by rw [Z.length,L,hl]);have b6:keys.length=t.length:=by rw [← a7.len,Z.length,L]
  refine⟨P.trans a4,λp=>p.Perm (dI (dD t.length))/\So.Srt R6 (λi=>keys.getD i []) p t.length,λh2=>?_,λh1=>⟨jX _,λi j b9 hj=>?_⟩,λp h' c hp hg a8 b7 _=>⟨rfl,?_⟩⟩
  ·have ts:=LN (prog:=X.prog) (w:=X.w) (A:=X.A.in1.in1) (keys:=keys) (a7.tups I' Z λb o e=>e) (by omega) (G:=λp g=>g=N/\p.Perm (dI (dD t.length))/\So.Srt R6 (λi=>keys.getD i []) p t.length) (λp a b=>⟨rfl,by rw [← L]; exact a,by rw [← L]; exact b⟩)
   rw [L] at ts;exact ts
  ·have:i=j:=by omega
   subst this;exact eZ _
  ·have b8:(p.toList.map λi=>C.getD i .non).length=t.length:=by rw [Go,eT,hp]
   refine⟨.ref D,A4 E D (.lst (p.toList.map λi=>C.getD i .non)),I'.adopt2 mD n1 mK n2 a3 a8 ⟨by rw [b8,← hl,di]; omega,_,c,JO (HK r2) p.toList,b7⟩,rfl,q _ _ (UV b6 hg.1 hg.2) n1⟩
theorem N_{e f:Type}{F:e->f->Prop}:∀{c:List e} {d:List f} {j:Nat} {a:e} {b:f},Paired F c d->c[j]?=some a->d[j]?=some b->F a b
 | _,_,_,_,_,.nil,h,_=>by simp at h
 | _,_,0,_,_,.cons r t,g,i=>by
  grind
 | _,_,j+1,_,_,.cons r t,g,i=>N_ (j:=j) t (by simp_all) (by simp_all)
end
end L2
namespace Dp
open L2
end Dp
namespace L2
def F3(H:Hp)(L:List Ch)(f:Ch->Obj):Hp:=λb=>if b∈L then (H b).map (HO.frz (f b)) else H b
theorem DR{H:Hp}{L:List Ch}{f:Ch->Obj}{b:Ch}(h:b∉L):F3 H L f b=H b:=by unfold F3; rw [if_neg h]
theorem Mz{H:Hp}{L:List Ch}{f:Ch->Obj}{b:Ch}{o:HO}(h:b∈L)(e:H b=some o):F3 H L f b=some (.frz (f b) o):=by unfold F3; grind
section
variable {X:Cx}{zG:List (Addr×Obj)}{σ:L2.St}{H:Hp}{s:Shared}
theorem Inv.frz{L:List Ch}(I:Inv X zG σ H s)(k:∀b∈L,∃d,H b=some (.dK d)):∃f,Inv X zG σ (F3 H L f) s:=by
 have a:∀(f:Ch->Obj) b o,H b=some o->(∀d,o≠.dK d)->F3 H L f b=some o:=λf b o e n=>by
  rw [DR (λx=>by grind)];exact e
 refine⟨λb=>(s.heap.get? b).getD { cls:=.none,data:=.fields #[] },?_⟩;refine I.step (g':=s.gens) (d':=s.drawn) (t':=s.toks) (h':=s.heap) (ch:=[]) (λ_ z=>nomatch z) (λ_ _ _ _ _ e _=>e) (λb o _ _ _ e _=>⟨o.slots,e⟩) (λb o _ e n=>?_) (λb o _ e=>⟨o,e⟩) (λb l e=>a _ b _ e λ_ z=>by cases z) (λb o u e=>a _ b _ e λ_ z=>by cases z) (λb A e=>⟨#[],by grind⟩) (λ_ h=>h) (λb u e=>?_) I.bare
 ·unfold F3
  simp_all
 ·by_cases g:b∈L
  ·obtain⟨d,i⟩:=k b g
   rw [Mz g i] at e;cases e;obtain⟨z,y,m,r,p,t,v,j,c⟩:=(show ObjOk X.prog X.w H s.heap b (.dK d) from I.hok b _ i);exact⟨by rw [j]; rfl,z,y,m,r,p,t,v,j,c⟩
  ·rw [DR g] at e
   exact(I.hok b u e).stay (λ_ _ _ q=>q) (λc q=>a _ c _ q λ_ z=>by cases z) λc l q=>a _ c _ q λ_ z=>by cases z
def bO(t:TE):TE:=λσ H Q=>t σ H λv c=>∃L:List Ch,(∀b∈L,∃a,c b=some (.dK a))/\∀f:Ch->Obj,Q v (F3 c L f)
theorem UO{e:c_}{t:TE}(h:PE X e t):PE X e (bO t):=by
 intro zG s σ H Q I a;refine thn (h _ s σ H _ I a) λu g ⟨v,i,b,r,L,c,q⟩=>?_;obtain⟨f,d⟩:=b.frz c;exact⟨v,_,d,r,q f⟩
end
end L2
namespace Dp
open L2
def D8:D->Option (List Key)
 | .tup a=>Hz a
 | _=>none
def HH(c:D->Option (List Key))(f:List D):Prop:=f.Pairwise λa b=>∀d e,c a=some d->c b=some e->Cg e d=false
def Keyed(a:D->Option (List Key))(b:List D):Prop:=(∀x∈b,∃k,a x=some k/\k≠[])/\∀x∈b,∀y∈b,∀c d,a x=some c->a y=some d->CS c d=true
theorem range_getD(a:List D):(dD a.length).map (λi=>a.getD i .non)=a:=by
 apply List.ext_getElem
 ·simp
 simp_all
theorem Qt{kf:D->Option (List Key)}{c:List D}{a:List (List Key)}{b:List Nat}(m:a.length=c.length)(r:∀(i:Nat) (x:D),c[i]?=some x->∃k,a[i]?=some k/\kf x=some k)(h:L5 a b) :
  (b.map λi=>c.getD i .non).Perm c/\HH kf (b.map λi=>c.getD i .non):=by
 obtain⟨d,s⟩:=h;constructor
 ·have:=d.map λi=>c.getD i D.non
  rw [m,range_getD] at this;exact this
 ·unfold HH
  rw [jC];intro i j n f l t u o p;rw [List.getElem_map] at o p;rw [Go] at n f;have v:b.length=a.length:=by rw [d.length_eq,fJ]
  have g:∀i (h:i<b.length) k,kf (c.getD b[i] .non)=some k->a.getD (b.getD i 0) []=k:=λi h k e=>by
   have w:b[i]<a.length:=d8.mp (d.mem_iff.mp (dY h));have q:b[i]<c.length:=by rw [← m]; exact w
   obtain⟨C,y,z⟩:=r b[i] c[b[i]] (No q);have A:c.getD b[i] .non=c[b[i]]:=by rw [dW,No q]; rfl
   rw [A,z] at e;have B:b.getD i 0=b[i]:=by rw [dW,No h]; rfl
   rw [B,dW,y];exact cv e
  have:=s i j (jG l) (by rw [← v]; exact f)
  rw [g i n t o,g j f u p] at this;exact this
theorem Hj{b:D->Option (List Key)}:∀{xs:List D},(∀x∈xs,∃k,b x=some k/\k≠[])->∃a:List (List Key),a.length=xs.length/\(∀(i:Nat) (x:D),xs[i]?=some x->∃k,a[i]?=some k/\b x=some k/\k≠[])
 | [],_=>⟨[],rfl,λi x e=>by simp at e⟩
 | x::xs,h=>by
  obtain⟨k,d,f⟩:=h x Op;obtain⟨a,l,g⟩:=Hj (xs:=xs) λy c=>h y (Re _ c);refine⟨k::a,by simp_all,λi y e=>?_⟩;cases i with
  | zero =>
   simp_all
  | succ i =>
   simp_all
section
variable {K:Frag}{M:Addr->Prop}{H:Hp}
theorem Ats.getD:∀{b:List D} {a:List V},Ats K M H b a->∀i:Nat,At K M H (b.getD i .non) (a.getD i .non)
 | [],a,h,i=>by cases (h); simp [At]
 | d::b,a,h,0=>by
  obtain⟨v,r,e,f,c⟩:=h
  grind
 | d::b,a,h,i+1=>by
  obtain⟨v,r,e,f,c⟩:=h;subst e
  simpa using Ats.getD c i
theorem Ats.pick{b:List D}{c:List V}(h:Ats K M H b c):∀a:List Nat,Ats K M H (a.map λi=>b.getD i .non) (a.map λi=>c.getD i .non)
 | []=>rfl
 | i::a=>⟨_,_,rfl,h.getD i,Ats.pick h a⟩
theorem Ld{o:D->Option (List Key)}{f:List D}{t:List V}{c:List (List Key)}(p:∀d k v,d∈f->o d=some k->At K M H d v->∃a,v=.ref a/\SqT K H a (k.map kOf))(u:Ats K M H f t)(z:Keyed o f)(w:c.length=f.length)(A:∀(i:Nat) (x:D),f[i]?=some x->∃k,c[i]?=some k/\o x=some k/\k≠[]):KeysAt K H t c:=by
 have b:∀(i:Nat) (h:List Key),c[i]?=some h->∃x,f[i]?=some x/\o x=some h/\h≠[]:=λi h e=>by
  have l:i<f.length:=by rw [← w]; exact(cr.mp e).1
  obtain⟨k,g,m,n⟩:=A i f[i] (No l);rw [e] at g;cases g;exact⟨f[i],No l,m,n⟩
 refine⟨u.length.trans w.symm,λi h e=>?_,λx q y B=>?_,λx q=>?_⟩
 ·obtain⟨d,g,m,_⟩:=b i h e
  obtain⟨v,n,C⟩:=u.get g;obtain⟨a,rfl,E⟩:=p d h v (dj g) m C;exact⟨a,n,E⟩
 ·obtain⟨i,l⟩:=iB.mp q
  obtain⟨j,F⟩:=iB.mp B;obtain⟨d,g,m,_⟩:=b i x l;obtain⟨G,r,s,_⟩:=b j y F;exact z.2 d (dj g) G (dj r) x y m s
 ·obtain⟨i,l⟩:=iB.mp q
  obtain⟨d,g,m,n⟩:=b i x l;exact n
theorem Le{d:D}{k:List Key}{v:V}(e:D8 d=some k)(h:At K M H d v):∃a,v=.ref a/\SqT K H a (k.map kOf):=by
 cases d with
 | tup g =>
  obtain⟨a,i,b,c,f⟩:=h
  have:=G3 (e) f
  subst this;exact⟨a,b,c.sq⟩
 | _=>cases e
def Hk(c:List D)(P:D->Prop):Prop:=∃d b,c=[d]/\IU d=some b/\b.length<64/\Keyed D8 b/\∀a:List D,a.Perm b->HH D8 a->P (.lst a)
theorem RI:Ft K .fr (T5 K) Hk:=by
 intro U M H E F P Q o p r w q;obtain⟨d,G,rfl,e,c,g,w⟩:=w;obtain⟨v,rfl,s⟩:=Ew r;obtain⟨t,a,u,rfl,f,y⟩:=MG s e (λ_ z=>z) p;obtain⟨h,j,m⟩:=Hj g.1;refine⟨t,a,u,_,rfl,y M H (Pres.refl _ _) (Ext.refl _ _),by rw [f.length]; exact c,Ld (λd k v _=>Le) f g j m,λA l B n=>?_⟩;obtain⟨C,D⟩:=Qt (kf:=D8) j (λi x e=>by obtain⟨k,a,b,_⟩:=m i x e; simp_all) B;exact q _ _ _ (A1 n) (Cy n (f.pick A)) (w _ C D)
end
section
variable {X:Cx}{a e:Expr}{zR:Kd}{wa:DW}{pos p fp kp:Pos}
def TB(W:W2)(wa:DW):DW:=λn h P=>wa n h λd e=>∃(c:List D) (f:D->D),IU d=some c/\c.length<64/\(∀x∈c,∀g:D->Nat->Prop,g (f x) e->W [.sh x] e g)/\Keyed (λx=>D8 (f x)) c /\
 ∀b:List D,b.Perm c->HH (λx=>D8 (f x)) b->P (.lst b) e
theorem U_{k:Nat}{fn pn:Str}{W:W2}(G:Got X.prog X.w X.K X.mg X.base fn k [pn] .sh W)(hr:Room (k+2) X.A)(hg:Gl X "sorted")(hm:X.mg "sorted"=none)(Z:Gl X fn)(he:DE X e zR wa)
  (J:starEach [e] X.env=[(false,eval e X.env)]:=by rfl) (a0:(fn==("__debug__":Str))=false:=by decide):DE X (.Call (.Name "sorted" p) [e] [⟨some "key",.Name fn fp,kp⟩] pos) .fr (TB W wa):=by
 obtain⟨f,fd,F,a1,b0,hb,hW⟩:=G;obtain⟨t,h1,h2⟩:=he;refine⟨_,UN F hr hg hm Z a1 hb h1 J a0,λC M H n ρ σ P Q R w q=>?_⟩;refine h2 C M H n ρ σ _ _ R w λv H1 d Y e1 f1 r1 p=>?_;obtain⟨j,B,hd,a2,hw,hK,w⟩:=p;have L:=R.step e1 f1;obtain⟨κ,l,us,rfl,J,sq⟩:=MG (U:=C.U) (r1.tpOf R.dom R.vM) hd R.uV L.vM;obtain⟨N,hl,hk⟩:=Hj hK.1;have s:=J.length;refine⟨κ,l,us,N,λc H2=>Ext C.U H1 H2/\FeedC X.K C.F M H2 Y/\c.length<=j.length/\∀(i:Nat) (k:V),c[i]?=some k->∃x,j[i]?=some x/\At X.K M H2 (B x) k,rfl,sq M H1 (Pres.refl _ _) (Ext.refl _ _),by rw [s]; exact a2,⟨Ext.refl _ _,f1,TM _,λi k z=>absurd (show (none:Option V)=some k from z) (λh=>nomatch h)⟩,λc H2 v hJ hv=>?_,λc H2 hJ a3=>?_⟩
 ·obtain⟨ex,u,a4,E⟩:=hJ
  have m:=L.step ex u;have hi:c.length<j.length:=by rw [← s]; exact(cr.mp hv).1
  have O:j[c.length]?=some j[c.length]:=No hi;obtain⟨v',e2,hA⟩:=(J.pres (L.pres ex)).get O;rw [hv] at e2;cases e2;refine⟨rfl,C.F,C.U,C.V,M,Y,[.sh j[c.length]],λd n=>d=B j[c.length]/\n=Y,⟨m.dom,m.fU,m.uV,m.vM,u,.cons ⟨⟨v,rfl,hA⟩,rfl⟩ .nil⟩,hw _ (dY hi) _ ⟨rfl,rfl⟩,λr H3 d n' S f3 vr hd=>?_⟩;obtain⟨rfl,rfl⟩:=hd;refine⟨ex.trans S,f3,by rw [XV,dB]; omega,λi k o=>?_⟩
  by_cases a5:i<c.length
  ·rw [fk a5] at o
   obtain⟨x,h3,h4⟩:=E i k o;exact⟨x,h3,h4.pres (m.pres S)⟩
  ·rw [eB (by omega)] at o
   have a6:i=c.length:=by
    have:=(cr.mp o).1
    rw [dB] at this;omega
   subst a6;rw [Nat.sub_self] at o;cases (show some r=some k from o);exact⟨_,O,vr⟩
 ·obtain⟨ex,u,a4,E⟩:=hJ
  have m:=L.step ex u;have a7:c.length=j.length:=by rw [a3,s]
  have a8:Ats X.K M H2 (j.map B) c:=by
   have go:∀(j:List D) (c:List V),c.length=j.length->(∀(i:Nat) (k:V),c[i]?=some k->∃x,j[i]?=some x/\At X.K M H2 (B x) k)->Ats X.K M H2 (j.map B) c:=by
    intro j
    induction j with
    | nil=>intro c h _; exact f_.mp h
    | cons x j ih =>
     intro c h hh;cases c with
     | nil=>cases h
     | cons k c =>
      obtain⟨T,e3,h3⟩:=hh 0 k rfl;cases (show some x=some T from e3)
      exact⟨k,c,rfl,h3,ih c (by simpa using h) λi k' e4=>by
       obtain⟨y,e5,h5⟩:=hh (i+1) k' (by simpa using e4);exact⟨y,by simpa using e5,h5⟩⟩
   exact go j c a7 E
  have a9:Keyed D8 (j.map B):=by
   refine⟨λy hy=>?_,λy hy z hz ka kb ea eb=>?_⟩
   ·obtain⟨x,hx,rfl⟩:=Rs.mp hy
    exact hK.1 x hx
   ·obtain⟨x,hx,rfl⟩:=Rs.mp hy
    obtain⟨T,I,rfl⟩:=Rs.mp hz;exact hK.2 x hx T I ka kb ea eb
  refine⟨Ld (λd k v _=>Le) a8 a9 (by rw [hl,Go]) λi x e=>?_,λix l ho hn=>?_⟩
  ·rw [dR] at e
   obtain⟨T,I,rfl⟩:=fS.mp e;exact hk i T I
  ·obtain⟨o1,o2⟩:=Qt (kf:=λx=>D8 (B x)) hl (λi x e=>by obtain⟨k,a,b,_⟩:=hk i x e; exact⟨k,a,b⟩) ho
   have g:Grow H2 (A4 H2 l (.lst (ix.map λi=>us.getD i .non))):=A1 hn;refine q _ _ (.lst (ix.map λi=>j.getD i .non)) Y ((e1.trans ex).trans g.ext) (u.grow g) (VR.back (e1.trans ex) ?_) (w _ o1 o2);exact Cy hn ((J.pres (L.pres ex)).pick ix)
def XX:Key->D
 | .inl i=>.int i
 | .inr x=>.str x
def Qz:Key->Prop
 | .inl _=>True
 | .inr x=>x.length<=sizeLine
theorem Yq{K:Frag}{M:Ch->Prop}{H:Hp}{k:Key}(h:Qz k):At K M H (XX k) (kOf k):=by
 cases k with
 | inl i=>exact rfl
 | inr x=>exact⟨rfl,h⟩
end
end Dp
namespace L2
end L2
namespace Dp
open L2
def L9(c:HI)(i:Aj):Aj:=λd n a=>∃W:Nat->Nat->List Slot->Prop,(∃m,W m n a)/\∀m n a,W m n a ->
 c n a λb e=>if b=true then ∃N:Nat->List Slot->Prop,(∀f g,N f g->∃h,h<m/\W h f g)/\i { d with nx:=N,ct:=N,bk:=d.nx } e a else d.nx e a
section
variable {X:Cx}{κ:Kd}{c:Expr}{body:List Stmt}{wc:HI}{wb:Aj}{pos:Pos}
theorem Ol(G:iA (model X.prog X.w) X.A X.env X.xe)(I:DT X c wc)(J:QR X κ body wb):DS X κ (.While c body [] pos) (L9 wc wb):=by
 obtain⟨tc,O,P⟩:=I;obtain⟨tb,Q,S⟩:=J;refine⟨_,UE G O Q,λC M H n T σ y E R L w=>?_⟩;obtain⟨W,⟨U,V⟩,g⟩:=w;refine⟨λm h t=>∃i j a,Rel X.K C i t j a h/\W m j a,⟨U,M,n,T,R,V⟩,?_⟩;rintro m h t ⟨i,j,a,z,Y⟩;refine P C i t j a h _ _ z (g m j a Y) λb H2 B e f p=>?_;have R2:=z.step e f;cases b with
 | true =>
  rw [if_pos rfl] at p ⊢;obtain⟨N,Z,p⟩:=p;refine⟨λD F=>∃u k l,Rel X.K C u F k l D/\N k l,λD F ⟨u,k,l,R3,w3⟩=>?_,?_⟩
  ·obtain⟨m',hm,d⟩:=Z k l w3
   exact⟨m',hm,u,k,l,R3,d⟩
  ·exact S C i H2 B a h { y with nx:=N,ct:=N,bk:=y.nx } _ R2 ⟨λo v q r x s d=>⟨o,q,r,s,d⟩,L.rt,λo v q r x s d=>L.nx o v q r x s d,λo v q r x s d=>⟨o,q,r,s,d⟩⟩ p
 | false =>
  rw [if_neg (by decide)] at p ⊢;exact L.nx i H2 B a h R2 p
theorem Rb{f:E2}{n:Nat}{a:List Slot}(I:Nat->Nat->List Slot->Prop)(i:Nat)(j:I i n a)
  (k:∀m n a (N:Nat->List Slot->Prop),I m n a->(∀c e g,c<m->I c e g->N e g)->wc n a λb d=>if b=true then wb { f with nx:=N,ct:=N,bk:=f.nx } d a else f.nx d a)
  (mono:∀n a (P Q:Bool->Nat->Prop),(∀b d,P b d->Q b d)->wc n a P->wc n a Q):L9 wc wb f n a:=by
 refine⟨I,⟨i,j⟩,λm n a h=>?_⟩;refine mono n a _ _ (λb d p=>?_) (k m n a (λe g=>∃c,c<m/\I c e _) h λc e g l o=>⟨c,l,o⟩);cases b with
 | true=>exact⟨_,λ_ _ z=>z,p⟩
 | false=>exact p
end
end Dp
namespace L2
open PySem.W
end L2
namespace Dp
open L2
end Dp
namespace Nt
open L2 Dp
def JG:W2:=λc n P=>∃m:Nat,c=[.fd,.sh (.int m)]/\1<=m/\m<=26/\11<=n/\∀(a:List Str) (b:Nat),a.length=m->(∀x∈a,D9 x)->rising a->n - 11<=b->P (.lst (a.map .str)) b
def words:List Str:=["a","aa","ab","b","far","in","near","out","place","tie","ties","way"]
def wordAt(i:Nat):Str:=words.getD i "a"
theorem PL:∀i,i<12->D9 (wordAt i):=by
 have h:∀i∈dD 12,1<=(wordAt i).length/\(wordAt i).length<=8/\∀c∈cs (wordAt i),97<=c/\c<=122:=by decide +kernel
 exact λi a=>h i (d8.mpr a)
theorem RY:∀i j,i<12->j<12->wordAt i=wordAt j->i=j:=by
 have h:∀i∈dD 12,∀j∈dD 12,cs (wordAt i)=cs (wordAt j)->i=j:=by decide +kernel
 exact λi j a b e=>h i (d8.mpr a) j (d8.mpr b) (congrArg cs e)
def letters:Str := "abcdefghijklmnopqrstuvwxyz"
theorem Jy(i:Nat)(h:i<26):(cs letters)[i]?=some (97+i):=by
 have a:∀i∈dD 26,(cs letters)[i]?=some (97+i):=by decide +kernel
 simp_all
theorem Hc{c i:Type}{f:c->i}:∀{l:List c},l.Nodup->(∀a∈l,∀b∈l,f a=f b->a=b)->(l.map f).Nodup
 | [],_,_=>e6
 | a::l,h,d=>by
  rw [dM] at h;rw [dG,dM];refine⟨λj=>?_,Hc h.2 λx k y m=>d x (Re _ k) y (Re _ m)⟩;obtain⟨b,g,e⟩:=Rs.mp j;exact h.1 (d a Op b (Re _ g) e.symm▸g)
theorem V3{f m j k:Nat}{M:Nat}(d:m<=M)(g:j<m)(i:k<m)(e:(f+j) % M=(f+k) % M):j=k:=by
 have h:∀a b,a<=b->b<m->(f+a) % M=(f+b) % M->a=b:=λa b c l e=>by
  have:=Nat.sub_mod_eq_zero_of_mod_eq e.symm
  rw [Nat.mod_eq_of_lt (by omega)] at this;omega
 rcases Nat.le_total j k with c | c
 ·grind
 grind
theorem HA(a:List Str):O8 (a.map .str)=some a:=by
 induction a with
 | nil=>rfl
 | cons y r b =>
  rw [dG];unfold O8
  grind
theorem V8:∀(a:List Str),cs (Txt.join (dk "") a)=a.flatMap cs:=by
 intro a;show cs (Builtin.Str.glued _ a)=_;rw [StrLaws.glued_eq_join]
 induction a with
 | nil=>rfl
 | cons x r b =>
  cases r with
  | nil=>rw [g0,List.flatMap_nil,dS]; rfl
  | cons y r =>
   show cs (x++dk ""++Str.join _ _)=_;rw [Cs,Cs,b];show cs x++[]++_=_
   grind
theorem UY{a:List Str}(h:∀z∈a,z.length=1):(a.flatMap cs).length=a.length:=by
 induction a with
 | nil=>rfl
 | cons x r b =>
  rw [g0,XV,b λz c=>h z (Re _ c),DY,h x Op,ZB];omega
theorem Nl:∀(a:List Str),(∀y∈a,y.length=1)->(a.map (·.length)).sum=a.length
 | [],_=>rfl
 | y::r,h=>by
  rw [dG,jm,Nl r λz b=>h z (Re _ b),h y Op,ZB];omega
theorem drawn{P:List D->Nat->Prop}{m n:Nat}{s:Slot}(p:m<=n)(h:∀b:List Str,b.length=m->(∀z∈b,z.length=1/\∀c∈cs z,97<=c/\c<=122)->P (b.map .str) (n - m)) :
  Ci (Af 2) CW (AU A8 (AB 0) (AZ BA (AE (Aw 1) (AE (AI (wC (D.int 26))) AY)))) P (Cu 0 m) [] n [.sh (.str letters),.fd,s]:=by
 refine LY (λk g e i=>k<=m/\g=n - (m - k)/\(∃b:List Str,e=b.map .str/\b.length=m - k/\∀z∈b,z.length=1/\∀c∈cs z,97<=c/\c<=122)/\∃s,i=[.sh (.str letters),.fd,s]) ?_ ?_ _ _ _ _ ?_
 ·grind
 ·rintro k d g e i t ⟨u,rfl,⟨b,rfl,v,j⟩,s,rfl⟩ f
  refine⟨26,rfl,by decide,by decide,by omega,λr w x=>?_⟩;obtain⟨q,rfl⟩:∃q:Nat,r=(q:Int):=⟨r.toNat,by omega⟩;have l:q<26:=by omega
  refine⟨97+q,AO (Jy q l),f _ _ _ ⟨by omega,by omega,⟨b++[⟨#[97+q]⟩],by rw [df]; rfl,by grind,λz a=>?_⟩,_,rfl⟩⟩
  rcases cu.mp a with a | a
  ·exact j z a
  ·rw [Tk.mp a]
   refine⟨rfl,λc o=>?_⟩
   have:c=97+q:=by simpa [cs] using o
   omega
 ·rw [By]
  simp_all
theorem S5(i:Nat)(h:i<12):words[i]?=some (wordAt i):=by
 have a:i<words.length:=h;unfold wordAt
 simp_all
theorem EO{b:BW}{g:Aj}{l:E2}{all:List D}(I:List D->Nat->List Slot->Prop)(i:∀n c,I all n c->l.nx n c)
  (f:∀(a:List D) (d:D) (j:List D) (n:Nat) (c:List Slot) (nx:Nat->List Slot->Prop),all=a++d::j->I a n c->(∀m o,I (a++[d]) m o->nx m o)->b d c λp=>g { l with nx:=nx,ct:=nx,bk:=l.nx } n p) :
  ∀(k a:List D) (n:Nat) (c:List Slot),all=a++k->I a n c->Bm b g l k n c
 | [],a,n,c,e,h=>by
  rw [dS] at e;subst e;exact i n c h
 | d::k,a,n,c,e,h=>f _ d k n c _ e h λm o q=>EO I i f k _ m _ (by grind) q
theorem Iq{c:Int}{n:Nat}{a b:List D}{d:D}(h:Cu c n=a++d::b):d=.int (c+(a.length:Int))/\a.length<n:=by
 have f:=congrArg fo h;rw [By] at f;have e:(Cu c n)[a.length]?=some d:=by grind
 unfold Cu at e
 simp_all
theorem Z7{r:Int}(h:r=0\/r=1):MulOk "z" r/\(Txt.mul "z" r).length<=1/\∀c∈cs (Txt.mul "z" r),97<=c/\c<=122:=by
 rcases h with rfl | rfl
 ·exact⟨⟨rfl,⟨λh=>absurd (by decide) h,λh=>absurd (by decide) h⟩⟩,by decide,by decide⟩
 ·exact⟨⟨rfl,⟨λ_ h=>absurd h (by decide),λ_ h=>absurd h (by decide)⟩⟩,by decide,by decide⟩
def nameAt(x:Str)(a f k:Nat):Str:=Txt.slice x none (some (a:Int))++⟨#[97+(f+k) % 26]⟩++Txt.slice x (some ((a:Int)+1)) (some 7)++Txt.mul "z" ((k:Int) % 2)
theorem Hd{x:Str}{a f k:Nat}(c:x.length=8)(d:a<7):cs (nameAt x a f k)=(cs x).take a++(97+(f+k) % 26)::(((cs x).drop (a+1)).take (6 - a)++cs (Txt.mul "z" ((k:Int) % 2))):=by
 unfold nameAt;rw [Cs,Cs,Cs,XY (by omega) (by omega),Yt (by omega) (by omega) (by omega)];have b:(7 - ((a:Int)+1)).toNat=6 - a:=by omega
 rw [b,eR,eR];rfl
theorem OK{x:Str}{a f k:Nat}(b:x.length=8)(j:∀c∈cs x,97<=c/\c<=122)(d:a<7):D9 (nameAt x a f k):=by
 have e:=Hd (f:=f) (k:=k) b d;obtain⟨_,g,i⟩:=Z7 (r:=k % 2) (by omega)
 have l:(nameAt x a f k).length=7+(Txt.mul "z" (k % 2)).length:=by
  rw [← DY,e,XV,ZB,XV,eg,eg,fu,DY,DY];omega
 refine⟨by omega,by omega,λc h=>?_⟩
 grind
theorem P4{x:Str}{a f m j k:Nat}(b:x.length=8)(c:a<7)(i:m<=26)(n:j<m)(o:k<m)(e:nameAt x a f j=nameAt x a f k):j=k:=by
 have d:=congrArg cs e;rw [Hd b c,Hd b c] at d;have g:((cs x).take a).length=a:=by rw [eg,DY]; omega
 have h:=congrArg (λl=>l[a]?) d;rw [eB (by omega),eB (by omega),g] at h
 grind
theorem Ru{ss:List Slot}{n:Nat}{F:D->Nat->Prop}(h:JG ss n F):GC { nx:=λn _=>Kd.fr=.sh/\F .non n,rt:=F } n (ss++Uf 9 .no):=by
 obtain⟨m,rfl,a3,W,hn,p⟩:=h;unfold GC;refine⟨3,rfl,by decide,by decide,by omega,λG a4 a5=>⟨(by decide:12<=sizeLine),?_⟩⟩;have A:∀(L:Nat),n - 1<=L->(Ac (Az 5 (wC (D.str "abcdefghijklmnopqrstuvwxyz")))
 (Ac (Az 6 (bD "str" Ux (wC (D.str "")) (AF (BR [some 5,some 0,none] (EJ (AF (wC (D.int 8)) AT)) (Af 2) CW (AU A8 (AB 0) (AZ BA (AE (Aw 1) (AE (AI (wC (D.int 26))) AY))))) AT)))
 (Ac (BG (Gk (AR (AU (D_ false) (AB 2) (wC (D.int 1)))) (AR (AU EV (AB 1) (wC (D.int 9))))) (Au (BR [some 6,none] (EJ (AF (AB 1) AT)) (Af 1) CW (F5 CJ (AB 0) A6 (BK (AU Aq (wC (D.int 1)) (AB 1)))))) Av)
 (Ac (Az 7 (AZ BA (AE (Aw 0) (AE (AI (wC (D.int 7))) AY))))
 (Ac (Az 4 (AZ BA (AE (Aw 0) (AE (AI (wC (D.int 26))) AY))))
 (Ac (EI 8 (DA AT))
 (Ac (E6 (EJ (AF (AB 1) AT)) (Af 9) (Ac (Az 10 (AU A8 (AB 5) (AU (PK (λ_ j=>0<j) λi j=>D.int (i % j)) (AU Aq (AB 4) (AB 9)) (wC (D.int 26)))))
 (TF 8 "list" KH (AF (AU Aq (AU Aq (AU Aq (F5 CJ (AB 6) A6 (BK (AB 7))) (AB 10)) (F5 CJ (AB 6) (BK (AU Aq (AB 7) (wC (D.int 1)))) (BK (wC (D.int 7))))) (AU C8 (wC (D.str "z")) (AU (PK (λ_ j=>0<j) λi j=>D.int (i % j)) (AB 9) (wC (D.int 2))))) AT))))
 (Au (B8 KG (AF (BE 8) AT)))))))))) { nx:=λn _=>Kd.fr=.sh/\F .non n,rt:=F } L [.fd,.sh (.int m),.sh (.int G),.sh (.lst (words.map .str)),.no,.no,.no,.no,.no,.no,.no]:=by
  intro L a6;refine⟨rfl,8,rfl,⟨by decide,by decide⟩,by rw [By]; decide,?_⟩;refine drawn (m:=8) (by omega) λB O P=>?_;have C:∀z∈B,z.length=1:=λz X=>(P z X).1;have u:=V8 B;have v:(Txt.join (dk "") B).length=8:=by rw [← DY,u,UY C,O]
  have N:∀c∈cs (Txt.join (dk "") B),97<=c/\c<=122:=λc N=>by
   rw [u] at N;obtain⟨z,X,Y⟩:=f6.mp N;exact(P z X).2 c Y
  refine⟨_,_,B,rfl,rfl,HA B,by rw [Nl B C,show (dk "").length=0 from rfl]; omega,by omega,?_⟩;generalize Txt.join (dk "") B=x at v N;have Q:(cs x).length=8:=by rw [DY,v]
  have E:∀(U:Nat),L - 8<=U->(Ac (Az 7 (AZ BA (AE (Aw 0) (AE (AI (wC (D.int 7))) AY))))
 (Ac (Az 4 (AZ BA (AE (Aw 0) (AE (AI (wC (D.int 26))) AY))))
 (Ac (EI 8 (DA AT))
 (Ac (E6 (EJ (AF (AB 1) AT)) (Af 9) (Ac (Az 10 (AU A8 (AB 5) (AU (PK (λ_ j=>0<j) λi j=>D.int (i % j)) (AU Aq (AB 4) (AB 9)) (wC (D.int 26)))))
 (TF 8 "list" KH (AF (AU Aq (AU Aq (AU Aq (F5 CJ (AB 6) A6 (BK (AB 7))) (AB 10)) (F5 CJ (AB 6) (BK (AU Aq (AB 7) (wC (D.int 1)))) (BK (wC (D.int 7))))) (AU C8 (wC (D.str "z")) (AU (PK (λ_ j=>0<j) λi j=>D.int (i % j)) (AB 9) (wC (D.int 2))))) AT))))
 (Au (B8 KG (AF (BE 8) AT))))))) { nx:=λn _=>Kd.fr=.sh/\F .non n,rt:=F } U [.fd,.sh (.int m),.sh (.int G),.sh (.lst (words.map .str)),.no,.sh (.str letters),.sh (.str x),.no,.no,.no,.no]:=by
   intro U a7;refine⟨7,rfl,by decide,by decide,by omega,λa a8 a9=>⟨26,rfl,by decide,by decide,by omega,λfirst b0 b1=>⟨(by decide:0<=sizeLine),(m:Int),rfl,⟨by omega,by omega⟩,?_⟩⟩⟩;obtain⟨a,rfl⟩:∃q:Nat,a=(q:Int):=⟨a.toNat,by omega⟩;obtain⟨f,rfl⟩:∃q:Nat,first=(q:Int):=⟨first.toNat,by omega⟩
   have R:a<7:=by omega
   refine EO (all:=Cu 0 ((m:Int)).toNat) (λl Z t=>Z=U - 1 - 1/\∃s9 H,t=[.fd,.sh (.int m),.sh (.int G),.sh (.lst (words.map .str)),.sh (.int f),.sh (.str letters),.sh (.str x),.sh (.int a),.ow (.lst (((dD l.length).map λk=>nameAt x a f k).map .str)),s9,H]) ?_ ?_ _ [] _ _ rfl ⟨rfl,_,_,rfl⟩
   ·rintro Z t ⟨rfl,s9,H,rfl⟩
    have el:(Cu 0 ((m:Int)).toNat).length=m:=by rw [By]; omega
    refine⟨_,_,rfl,HA _,by rw [Go,fJ,el]; omega,λI o hs=>p I _ ?_ ?_ ?_ (by omega)⟩
    ·rw [o.length_eq,Go,fJ,el]
    ·intro y hy
     obtain⟨k,_,rfl⟩:=Rs.mp (o.mem_iff.mp hy);exact OK v N R
    ·refine F6 hs (o.nodup_iff.mpr (Hc List.nodup_range λj u k b e=>?_))
     rw [el] at u b;exact P4 v R W (d8.mp u) (d8.mp b) e
   ·rintro l d a1 Z t nx S ⟨rfl,s9,H,rfl⟩ J
    obtain⟨rfl,b⟩:=Iq S;have T:(l++[D.int (0+(l.length:Int))]).length=l.length+1:=by rw [XV,dB]
    rw [T] at J;generalize l.length=k at b J ⊢;have K:(f+k) % 26<26:=jD _ (by decide);have ei:((f:Int)+(0+(k:Int))) % 26=(((f+k) % 26:Nat):Int):=by omega
    have ek:(0+(k:Int)) % 2=(k:Int) % 2:=by omega
    obtain⟨a0,O,_⟩:=Z7 (r:=(0+(k:Int)) % 2) (by omega);have l1:=Txt.slice_le x none (some (a:Int));have l2:=Txt.slice_le x (some ((a:Int)+1)) (some 7);have la:=i_ (Txt.slice x none (some (a:Int))) ⟨#[97+(f+k) % 26]⟩;have lb:=i_ (Txt.slice x none (some (a:Int))++⟨#[97+(f+k) % 26]⟩) (Txt.slice x (some ((a:Int)+1)) (some 7));have ls:(⟨#[97+(f+k) % 26]⟩:Str).length=1:=rfl;have b2:=PySem.sizeLine_eq;refine⟨by show (0:Int)<26; decide,97+(f+k) % 26,by rw [ei]; exact AO (Jy _ K),?_⟩;refine⟨_,rfl,rfl,by omega,by omega,by show (0:Int)<2; decide,a0,by omega,by omega,?_⟩;refine⟨_,_,rfl,rfl,by rw [Go,Go,fJ]; omega,J _ _ ⟨rfl,.sh (.int (0+(k:Int))),.sh (.str ⟨#[97+(f+k) % 26]⟩),?_⟩⟩;rw [ek,List.range_succ,df,df];rfl
  refine B3 (λc1=>B3 (λw=>?_) λw=>E _ (On _)) λc1=>B3 (λw=>absurd w (by decide)) λ_=>E _ (On _)
  have b3:m<9:=by
   have:(m:Int)<9:=of_decide_eq_true w
   omega
  refine⟨(m:Int),rfl,⟨by omega,by omega⟩,by rw [By]; omega,?_⟩;refine GX (g:=λd=>match d with | .int k=>.str (Txt.slice x none (some (1+k))) | _=>.non) (λt=>∃s,t=[.sh (.str x),s]) ?_ _ _ _ _ ?_ ⟨_,rfl⟩ ?_
  ·rintro d t ⟨s,rfl⟩
   exact⟨_,rfl⟩
  ·rintro d hd t L P' ⟨s,rfl⟩ o
   obtain⟨k,b,rfl⟩:=Jc hd;exact o
  ·have e:[]++(Cu 0 ((m:Int)).toNat).map (λd=>match d with | .int k=>D.str (Txt.slice x none (some (1+k))) | _=>.non)=((dD m).map λk:Nat=>Txt.slice x none (some (1+(k:Int)))).map .str:=by
    unfold Cu;rw [cy,fA,fA,gH];refine iW λk _=>?_
    have:(0+(k:Int))=k:=by omega
    simp only [Function.comp,this]
   have V:∀k:Nat,k<m->cs (Txt.slice x none (some (1+(k:Int))))=(cs x).take (1+k):=λk b=>by
    rw [XY (by omega) (by omega),show (1+(k:Int)).toNat=1+k by omega]
   rw [e];refine p _ _ (by rw [Go,fJ]) ?_ ?_ (by omega)
   ·intro y hy
    obtain⟨k,b,rfl⟩:=Rs.mp hy;have b:=d8.mp b
    have hl:(Txt.slice x none (some (1+(k:Int)))).length=1+k:=by
     rw [← DY,V k b,eg,Q]; omega
    exact⟨by omega,by omega,λc h=>N c (iR (by rw [← V k b]; exact h))⟩
   ·unfold rising
    rw [fK];refine jS ?_ List.pairwise_lt_range;intro i j hi u b4;rw [V i (d8.mp hi),V j (d8.mp u)];exact Qa _ _ _ (by omega) (by rw [Q]; have:=d8.mp u; omega)
 refine B3 (λc1=>B3 (λw=>?_) λw=>A _ (On _)) λc1=>B3 (λw=>absurd w (by decide)) λ_=>A _ (On _)
 have a2:m<13:=by
  have:(m:Int)<13:=of_decide_eq_true w
  omega
 refine⟨12,rfl,by decide,by decide,by omega,λfirst h0 h1=>?_⟩;obtain⟨f,rfl⟩:∃f:Nat,first=(f:Int):=⟨first.toNat,by omega⟩
 refine⟨(m:Int),rfl,⟨by omega,by omega⟩,by rw [By]; omega,?_⟩;refine GX (g:=λd=>match d with | .int k=>.str (wordAt ((f+k.toNat) % 12)) | _=>.non) (λt=>∃s,t=[.sh (.lst (words.map .str)),.sh (.int f),s]) ?_ _ _ _ _ ?_ ⟨_,rfl⟩ ?_
 ·rintro d t ⟨s,rfl⟩
  exact⟨_,rfl⟩
 ·rintro d hd t L P' ⟨s,rfl⟩ o
  obtain⟨k,b,rfl⟩:=Jc hd;refine⟨by show (0:Int)<12; decide,D.str (wordAt ((f+k) % 12)),?_,?_⟩
  ·have K:(f+k) % 12<12:=jD _ (by decide)
   have ei:((f:Int)+(0+(k:Int))) % 12=(((f+k) % 12:Nat):Int):=by omega
   rw [ei];exact AO (by rw [dR,S5 _ K]; rfl)
  ·have e:(0+(k:Int)).toNat=k:=by omega
   simp only [e] at o;exact o
 ·have e:[]++(Cu 0 ((m:Int)).toNat).map (λd=>match d with | .int k=>D.str (wordAt ((f+k.toNat) % 12)) | _=>.non)=((dD m).map λk=>wordAt ((f+k) % 12)).map .str:=by
   unfold Cu;rw [cy,fA,fA,gH];refine iW λk _=>?_
   have:(0+(k:Int)).toNat=k:=by omega
   simp only [Function.comp,this]
  refine⟨_,(dD m).map λk=>wordAt ((f+k) % 12),rfl,by rw [e]; exact HA _,by rw [Go,fJ]; omega,λI o hs=>p I _ ?_ ?_ ?_ (by omega)⟩
  ·rw [o.length_eq,Go,fJ]
  ·intro x hx
   obtain⟨k,_,rfl⟩:=Rs.mp (o.mem_iff.mp hx);exact PL _ (jD _ (by decide))
  ·refine F6 hs (o.nodup_iff.mpr (Hc List.nodup_range λj u k b e=>?_))
   exact V3 (M:=12) (by omega) (d8.mp u) (d8.mp b) (RY _ _ (jD _ (by decide)) (jD _ (by decide)) e)
structure BP where
 a:Str
 b:Str
 len:Int
structure Net where
 ps:List Str
 ts:List BP
def Aa(t:BP):D:=.tup [.str t.a,.str t.b,.int t.len]
def enc(N:Net):D:=.tup [.tup (N.ps.map .str),.tup (N.ts.map Aa)]
def Bw(s t:BP):Prop:=cs s.a<cs t.a\/(s.a=t.a/\cs s.b<cs t.b)
structure Net.Ok (N:Net):Prop where
 names:∀x∈N.ps,D9 x
 rise:rising N.ps
 tin:∀t∈N.ts,t.a∈N.ps/\t.b∈N.ps/\cs t.a<cs t.b/\1<=t.len/\t.len<=1000000
 trise:N.ts.Pairwise Bw
def Wj:W2:=λd n P=>∃a b:Nat,d=[.fd,.sh (.int a),.sh (.int b)]/\1<=a/\a<=26/\1500<=n/\∀(N:Net) (c:Nat),N.Ok->1<=N.ps.length->N.ps.length<=a->N.ts.length<=b->n - 1500<=c->P (enc N) c
def Kc:Aj:=(Ac (Az 3 (AZ JG (AE (Aw 0) (AE (AI (AU Aq (wC (D.int 1)) (AZ BA (AE (Aw 0) (AE (AI (AB 1)) AY))))) AY))))
 (Ac (Az 4 (AU Aq (wC (D.int 1)) (AZ BA (AE (Aw 0) (AE (AI (wC (D.int 3))) AY)))))
 (Ac (Az 5 (AZ BA (AE (Aw 0) (AE (AI (wC (D.int 4))) AY))))
 (Ac (EI 6 (DA AT))
 (Ac (E6 (EJ (AF (B8 Ce (AF (AB 3) AT)) AT)) (Af 7) (E6 (TC (AF (AU Aq (AB 7) (wC (D.int 1))) (AF (B8 Ce (AF (AB 3) AT)) AT))) (Af 8) (BG (Gk (AR (AU Sg (AZ BA (AE (Aw 0) (AE (AI (wC (D.int 4))) AY))) (AB 4))) (AR (AU EV (B8 Ce (AF (BE 6) AT)) (AB 2)))) (TF 6 "list" KH (AF (BN (AF (AU A8 (AB 3) (AB 7)) (AF (AU A8 (AB 3) (AB 8)) (AF (AZ Wl (AE (Aw 0) (AE (AI (AB 5)) AY))) AT)))) AT)) Av)))
 (Au (BN (AF (B8 B6 (AF (AB 3) AT)) (AF (B8 B6 (AF (BE 6) AT)) AT)))))))))
structure Ix where
 i:Nat
 j:Nat
 len:Int
def Ix.tie(a:List Str)(t:Ix):BP:=⟨a.getD t.i "",a.getD t.j "",t.len⟩
def Yc(s t:Ix):Prop:=s.i<t.i\/(s.i=t.i/\s.j<t.j)
theorem getD_at{a:List Str}{i:Nat}(h:i<a.length):a[i]?=some (a.getD i ""):=by
 simp_all
theorem getD_mem{a:List Str}{i:Nat}(h:i<a.length):a.getD i ""∈a:=dj (getD_at h)
theorem MN{a:List Str}(h:rising a){i j:Nat}(b:i<j)(c:j<a.length):cs (a.getD i "")<cs (a.getD j ""):=by
 have d:=jC.mp h i j (by omega) c b;have e:a.getD i ""=a[i]:=by rw [dW,No _]; rfl
 simp_all
theorem YS{a:List Str}{b:List Ix}(k:∀x∈a,D9 x)(c:rising a)(d:∀t∈b,t.i<t.j/\t.j<a.length/\1<=t.len/\t.len<=1000000)(l:b.Pairwise Yc):Net.Ok ⟨a,b.map (Ix.tie a)⟩:=by
 refine⟨k,c,λt h=>?_,?_⟩
 ·obtain⟨u,m,rfl⟩:=Rs.mp h
  obtain⟨g,e,n,o⟩:=d u m;exact⟨getD_mem (show u.i<a.length by omega),getD_mem e,MN c g e,n,o⟩
 ·show (b.map (Ix.tie a)).Pairwise Bw
  rw [fK];refine jS (λ{s t} p f h=>?_) l;obtain⟨g,e,_⟩:=d s p;obtain⟨v,q,_⟩:=d t f
  rcases h with h | ⟨h,r⟩
  ·exact .inl (MN c h (by omega))
  ·refine .inr ⟨?_,MN c r q⟩
   show a.getD s.i ""=a.getD t.i "";rw [h]
theorem X6{Q:List Slot}{n:Nat}{J:D->Nat->Prop}(h:Wj Q n J):Kc { nx:=λn _=>Kd.sh=.sh/\J .non n,rt:=J } n (Q++Uf 6 .no):=by
 obtain⟨k,a,rfl,U,V,hn,p⟩:=h;unfold Kc;refine⟨_,rfl,by omega,by omega,by omega,λr h0 u=>?_⟩;refine⟨(1+r).toNat,by rw [show (((1+r).toNat:Nat):Int)=1+r by omega],by omega,by omega,by omega,λe R hl W X Y=>?_⟩;refine⟨3,rfl,by decide,by decide,by omega,λx f0 f1=>⟨4,rfl,by decide,by decide,by omega,λf s0 s1=>⟨(by decide:0<=sizeLine),?_⟩⟩⟩;have K:(e.map D.str).length=e.length:=Go ..;refine⟨_,_,rfl,rfl,_,rfl,⟨by omega,by omega⟩,?_⟩
 refine EO (all:=Cu 0 (((e.map D.str).length:Int)).toNat) (λc m y=>R - 1 - 1 - 52*c.length<=m/\∃(b:List Ix) (L z:Slot),(∀t∈b,t.i<t.j/\t.j<e.length/\1<=t.len/\t.len<=1000000)/\b.Pairwise Yc/\b.length<=a/\(∀t∈b,t.i<c.length)/\b.length<=26*c.length /\
  y=[.fd,.sh (.int k),.sh (.int a),.sh (.lst (e.map .str)),.sh (.int (1+x)),.sh (.int f),.ow (.lst ((b.map (Ix.tie e)).map Aa)),L,z]) ?_ ?_ _ [] _ _ rfl ⟨by simp,[],_,_,(λ_ h=>by cases h),jz,TM _,(λ_ h=>by cases h),TM _,rfl⟩
 ·rintro m y ⟨v,b,L,z,u,w,A,o,B,rfl⟩
  have Z:(Cu 0 (((e.map D.str).length:Int)).toNat).length=e.length:=by rw [By]; omega
  rw [Z] at v;refine⟨(by decide:2<=sizeLine),p ⟨e,b.map (Ix.tie e)⟩ m (YS W X u w) (by show 1<=e.length; omega) (by show e.length<=k; omega) (by show (b.map (Ix.tie e)).length<=a; rw [Go]; exact A) (by omega)⟩
 ·rintro c d S m y nx F ⟨v,b,L,z,u,w,A,o,B,rfl⟩ C
  obtain⟨rfl,M⟩:=Iq F;have G:(c++[D.int (0+(c.length:Int))]).length=c.length+1:=by rw [XV,dB]
  rw [G] at C;generalize c.length=one at M C v o B ⊢;rw [K] at M;refine⟨_,_,rfl,rfl,_,_,rfl,⟨by omega,by omega,by omega,by omega⟩,?_⟩
  refine EO (all:=Cu (0+(one:Int)+1) ((((e.map D.str).length:Int)) - (0+(one:Int)+1)).toNat) (λc m y=>R - 1 - 1 - 52*one - 2*c.length<=m/\∃(b:List Ix) (z:Slot),(∀t∈b,t.i<t.j/\t.j<e.length/\1<=t.len/\t.len<=1000000)/\b.Pairwise Yc/\b.length<=a/\(∀t∈b,t.i<one\/(t.i=one/\t.j<one+1+c.length))/\b.length<=26*one+c.length /\
   y=[.fd,.sh (.int k),.sh (.int a),.sh (.lst (e.map .str)),.sh (.int (1+x)),.sh (.int f),.ow (.lst ((b.map (Ix.tie e)).map Aa)),.sh (.int (0+(one:Int))),z]) ?_ ?_ _ [] _ _ rfl ⟨by simpa using v,b,_,u,w,A,λt g=>.inl (o t g),by simpa using B,rfl⟩
  ·rintro m y ⟨v,b,z,u,w,A,o,B,rfl⟩
   rw [By] at v B;refine C _ _ ⟨by omega,b,_,_,u,w,A,λt g=>?_,by omega,rfl⟩
   rcases o t g with h | h <;> omega
  ·rintro H d2 N m y O E ⟨v,b,z,u,w,A,o,B,rfl⟩ l
   obtain⟨rfl,P⟩:=Iq E;rw [XV,dB] at l;generalize H.length=q at P l v o B ⊢;have T:one+1+q<e.length:=by omega
   have skip:O (m - 1) [.fd,.sh (.int k),.sh (.int a),.sh (.lst (e.map .str)),.sh (.int (1+x)),.sh (.int f),.ow (.lst ((b.map (Ix.tie e)).map Aa)),.sh (.int (0+(one:Int))),.sh (.int (0+(one:Int)+1+(q:Int)))]:=by
    refine l _ _ ⟨by omega,b,_,u,w,A,λt g=>?_,by omega,rfl⟩
    rcases o t g with h | h
    ·exact .inl h
    ·exact .inr (by omega)
   refine⟨4,rfl,by decide,by decide,by omega,λdr d0 d1=>?_⟩;refine B3 (λc1=>⟨_,_,rfl,rfl,B3 (λI=>?_) λI=>skip⟩) λc1=>B3 (λI=>absurd I (by decide)) λ_=>skip
   have a0:b.length<a:=by
    have:(((b.map (Ix.tie e)).map Aa).length:Int)<(a:Int):=of_decide_eq_true I
    rw [Go,Go] at this;omega
   refine⟨_,rfl,rfl,D.str (e.getD one ""),?_,D.str (e.getD (one+1+q) ""),?_,f,rfl,by omega,λlen l1 l2=>⟨(by decide:3<=sizeLine),_,_,rfl,rfl,?_,?_⟩⟩
   ·rw [show (0+(one:Int))=((one:Nat):Int) by omega]
    exact AO (by rw [dR,getD_at M]; rfl)
   ·rw [show (0+(one:Int)+1+(q:Int))=((one+1+q:Nat):Int) by omega]
    exact AO (by rw [dR,getD_at T]; rfl)
   ·rw [Go,Go,PySem.sizeLine_eq]; omega
   ·refine l _ _ ⟨by omega,b++[⟨one,one+1+q,len⟩],.sh (.int (0+(one:Int)+1+(q:Int))),λt g=>?_,?_,by rw [XV,dB]; omega,λt g=>?_,by rw [XV,dB]; omega,?_⟩
    ·rcases cu.mp g with g | g
     ·exact u t g
     ·rw [Tk.mp g]
      exact⟨by show one<one+1+q; omega,T,l1,l2⟩
    ·rw [List.pairwise_append]
     refine⟨w,gu _ _,λs hs t g=>?_⟩;rw [Tk.mp g]
     rcases o s hs with h | h
     ·exact .inl h
     ·exact .inr h
    ·rcases cu.mp g with g | g
     ·rcases o t g with h | h
      ·exact .inl h
      ·exact .inr (by omega)
     ·rw [Tk.mp g]
      exact .inr ⟨rfl,by show one+1+q<one+1+(q+1); omega⟩
    ·rw [df,df]
     rfl
def Ex(c:List BP)(p:Str):List (Str×Int):=c.flatMap λt=>(if t.a=p then [(t.b,t.len)] else [])++(if t.b=p then [(t.a,t.len)] else [])
def Z6(a:List BP)(p:Str):D:=.fdi ((Ex a p).map λx=>.inr x.1) ((Ex a p).map λx=>.int x.2)
def HM(N:Net):D:=.dic (N.ps.map .inr) (N.ps.map (Z6 N.ts))
def QQ:W2:=λa n P=>∃N:Net,a=[.sh (enc N)]/\N.Ok/\N.ps.length<=1000/\N.ts.length<=1000/\P (HM N) n
def kv(x:Str×Int):Key×V:=(.inr x.1,.int x.2)
structure Stp (H:Hp) (d:Ch) (as:List (Str×Ch)) (tb:Str->List (Key×V)) (H':Hp):Prop where
 old:∀b o,H b=some o->H' b=some o
 new:H d=none
 top:H' d=some (.dK (as.map λx=>(.inr x.1,.ref x.2)))
 inn:∀x∈as,H x.2=none/\x.2≠d/\H' x.2=some (.dK (tb x.1))
 ads:(as.map (·.2)).Nodup
 nms:(as.map (·.1)).Nodup
theorem Il{b:List (Str×Ch)}(c:(b.map (·.1)).Nodup){p:Str}{a:Ch}(h:(p,a)∈b):E7 (b.map λx=>((.inr x.1:Key),V.ref x.2)) (.inr p)=some (.ref a):=by
 induction b with
 | nil=>cases h
 | cons x r d =>
  rw [dG,dM] at c
  rcases T0.mp h with e | h
  ·rw [← e]
   exact E_ rfl
  ·exact(FA λe=>c.1 (by rw [fT e]; exact Rs.mpr ⟨_,h,rfl⟩)).trans (d c.2 h)
theorem Pm{a:List (Str×Ch)}{p:Str}{v:V}(h:p∉a.map (·.1)):putK (a.map λx=>((.inr x.1:Key),V.ref x.2)) (.inr p) v=(a.map λx=>((.inr x.1:Key),V.ref x.2))++[(.inr p,v)]:=by
 unfold putK
 simp_all
theorem Qj{a:List (Str×Int)}{p:Str}{l:Int}(h:p∉a.map (·.1)):putK (a.map kv) (.inr p) (.int l)=(a++[(p,l)]).map kv:=by
 unfold putK;rw [if_neg,df]
 ·rfl
 ·rw [em]
  rintro ⟨y,b,e⟩;obtain⟨x,c,rfl⟩:=Rs.mp b;exact h (Rs.mpr ⟨x,c,fT (of_decide_eq_true e)⟩)
theorem Stp.more{H m:Hp}{d q:Ch}{l:List (Str×Ch)}{n:Str->List (Key×V)}{p:Str}(s:Stp H d l n m)(i:m q=none)(v:p∉l.map (·.1))(A:n p=[]) :
  Stp H d (l++[(p,q)]) n (A4 (A4 m q (.dK [])) d (.dK (putK (l.map λx=>((.inr x.1:Key),V.ref x.2)) (.inr p) (.ref q)))):=by
 have w:q≠d:=λe=>by rw [e,s.top] at i; cases i
 have k:H q=none:=by
  cases c:H q with
  | none=>rfl
  | some o=>rw [s.old q o c] at i; cases i
 refine⟨λb o e=>?_,s.new,?_,λx f=>?_,?_,?_⟩
 ·have B:b≠d:=λz=>by rw [z,s.new] at e; cases e
  have r:b≠q:=λz=>by rw [z,k] at e; cases e
  rw [AQ B,AQ r];exact s.old b o e
 ·rw [AX,Pm v,df]; rfl
 ·rcases cu.mp f with f | f
  ·obtain⟨y,t,j⟩:=s.inn x f
   have r:x.2≠q:=λz=>by rw [z,i] at j; cases j
   exact⟨y,t,by rw [AQ t,AQ r]; exact j⟩
  ·rw [Tk.mp f]
   exact⟨k,w,by rw [AQ w,AX,A]⟩
 ·rw [df,fL]
  refine⟨s.ads,dM.mpr ⟨(λh=>by cases h),e6⟩,λa u b g e=>?_⟩;obtain⟨x,f,rfl⟩:=Rs.mp u;have g:b=q:=Tk.mp g;obtain⟨y,t,j⟩:=s.inn x f;rw [e,g,i] at j;cases j
 ·rw [df,fL]
  refine⟨s.nms,dM.mpr ⟨(λh=>by cases h),e6⟩,λa u b g e=>?_⟩;have g:b=p:=Tk.mp g;exact v (by rw [← g,← e]; exact u)
theorem SG{c:List (Str×Ch)}(d:(c.map (·.1)).Nodup){p:Str}{a b:Ch}(e:(p,a)∈c)(f:(p,b)∈c):a=b:=by
 have:=(Il d e).symm.trans (Il d f)
 grind
theorem SE{b:List (Str×Ch)}(c:(b.map (·.2)).Nodup){p q:Str}{a:Ch}(e:(p,a)∈b)(f:(q,a)∈b):p=q:=by
 induction b with
 | nil=>cases e
 | cons x r i =>
  rw [dG,dM] at c
  rcases T0.mp e with j | g
  ·rcases T0.mp f with h | d
   ·grind
   ·exact absurd (Rs.mpr ⟨_,d,by rw [← j]⟩) c.1
  ·rcases T0.mp f with h | d
   ·exact absurd (Rs.mpr ⟨_,g,by rw [← h]⟩) c.1
   ·exact i c.2 g d
theorem Stp.put{H g:Hp}{d a:Ch}{c:List (Str×Ch)}{h tb2:Str->List (Key×V)}{p:Str}{kvs:List (Key×V)}(s:Stp H d c h g)(f:(p,a)∈c)(i:tb2 p=kvs)(j:∀q,q≠p->tb2 q=h q) :
  Stp H d c tb2 (A4 g a (.dK kvs)):=by
 obtain⟨u,k,v⟩:=s.inn _ f;refine⟨λb o e=>?_,s.new,?_,λx l=>?_,s.ads,s.nms⟩
 ·have m:b≠a:=λz=>by grind
  rw [AQ m];exact s.old b o e
 ·rw [AQ (eF k)]
  exact s.top
 ·obtain⟨n,r,t⟩:=s.inn x l
  refine⟨n,r,?_⟩
  by_cases e:x.2=a
  ·have:=SE s.ads (show (x.1,a)∈c by grind) f
   rw [e,AX,this,i]
  ·have:x.1≠p:=λz=>e (SG s.nms (show (p,x.2)∈c by grind) f)
   rw [AQ e,j _ this];exact t
theorem OH(c:List BP)(t:BP)(p:Str):Ex (c++[t]) p=Ex c p++((if t.a=p then [(t.b,t.len)] else [])++(if t.b=p then [(t.a,t.len)] else [])):=by
 unfold Ex
 simp_all
theorem Mn{d:List BP}{p q:Str}(h:q∈(Ex d p).map (·.1)):∃t∈d,(t.a=p/\t.b=q)\/(t.b=p/\t.a=q):=by
 obtain⟨x,c,rfl⟩:=Rs.mp h;obtain⟨t,e,c⟩:=f6.mp c;refine⟨t,e,?_⟩
 rcases cu.mp c with c | c
 ·simp_all
 simp_all
theorem Qv(c:List BP)(p:Str):(Ex c p).length<=2*c.length:=by
 induction c with
 | nil=>exact TM _
 | cons t r d =>
  unfold Ex at d ⊢;rw [g0,XV,XV];have e:(if t.a=p then [(t.b,t.len)] else []).length<=1:=by grind
  grind
theorem U2{d:List BP}{t:BP}(i:(d++[t]).Pairwise Bw)(f:∀s∈d++[t],cs s.a<cs s.b):t.b∉(Ex d t.a).map (·.1)/\t.a∉(Ex d t.b).map (·.1):=by
 rw [List.pairwise_append] at i
 have g:∀s∈d,¬((s.a=t.a/\s.b=t.b)\/(s.b=t.a/\s.a=t.b)):=λs c e=>by
  have j:=i.2.2 s c t (Tk.mpr rfl);have m:=f s (eo _ c);have n:=f t (dH _ (Tk.mpr rfl))
  rcases e with ⟨k,l⟩ | ⟨k,l⟩
  ·unfold Bw at j
   grind
  grind
 refine⟨λh=>?_,λh=>?_⟩
 ·obtain⟨s,c,e⟩:=Mn h
  exact g s c e
 ·obtain⟨s,c,e⟩:=Mn h
  exact g s c (e.elim (λz=>.inr ⟨z.2,z.1⟩) λz=>.inl ⟨z.2,z.1⟩)
theorem MM{c:List Str}(h:rising c):c.Nodup:=h.imp λ{a b} d e=>by grind
theorem Pz{a:List Str}(h:a.Nodup){i:Nat}(c:i<a.length):a[i]∉a.take i:=by
 have e:a=a.take i++a[i]::a.drop (i+1):=by
  simp_all
 intro b;rw [e,fL] at h;exact h.2.2 _ b _ Op rfl
theorem Stp.at_{K:Frag}{M:Ch->Prop}{H q:Hp}{d:Ch}{c:List (Str×Ch)}{N:Net}(t:∀a,M a->∃o,H a=some o)(s:Stp H d c (λp=>(Ex N.ts p).map kv) q)(u:c.map (·.1)=N.ps)(f:Ch->Obj):At K M (F3 q (c.map (·.2)) f) (HM N) (.ref d):=by
 have v:∀b,H b=none->¬M b:=λb e m=>by obtain⟨o,h⟩:=t b m; rw [h] at e; cases e
 have i:∀c:List (Str×Ch),(c.map λx=>((.inr x.1:Key),V.ref x.2))=((c.map (·.1)).map (.inr:Str->Key)).zip (c.map λx=>V.ref x.2):=λc=>by
  grind
 refine⟨d,c.map λx=>.ref x.2,rfl,⟨v d s.new,by rw [DR (λw=>by obtain⟨x,j,e⟩:=Rs.mp w; exact(s.inn x j).2.1 e),s.top,i,u]⟩,by rw [Go,Go],?_⟩;rw [← u]
 have z:∀k:List (Str×Ch),(∀x∈k,x∈c)->Ats K M (F3 q (c.map (·.2)) f) ((k.map (·.1)).map (Z6 N.ts)) (k.map λx=>V.ref x.2):=λk=>by
  induction k with
  | nil=>intro _; rfl
  | cons x r l =>
   intro j;refine⟨.ref x.2,r.map λx=>V.ref x.2,rfl,?_,l λy A=>j y (Re _ A)⟩;obtain⟨B,D,C⟩:=s.inn x (j x Op)
   have n:∀g:List (Str×Int),g.map kv=(g.map λx=>(.inr x.1:Key)).zip (g.map λx=>V.int x.2):=λg=>by
    induction g with
    | nil=>rfl
    | cons x r l=>rw [dG,l]; rfl
   refine⟨x.2,(Ex N.ts x.1).map λx=>V.int x.2,rfl,⟨f x.2,v _ B,by rw [Mz (Rs.mpr ⟨x,j x Op,rfl⟩) C,n]⟩,by rw [Go,Go],?_⟩;generalize Ex N.ts x.1=g
   induction g with
   | nil=>rfl
   | cons x r l=>exact⟨.int x.2,_,rfl,rfl,l⟩
 exact z c λ_ h=>h
end Nt
namespace L2
theorem YZ{P:cz}{w:dC}{k:Key}{u:Cn}(h:(BV P w).is k u=true):RelV (kV k) u:=by
 rcases BZ h with ⟨i,t,rfl,rfl⟩ | ⟨x,t,rfl,rfl⟩
 ·exact⟨t,rfl⟩
 ·exact⟨t,rfl⟩
theorem NA{X:Cx}{j:List (Ch×Obj)}{k:L2.St}{H:Hp}{s:FM}{d:Ch}{o:Obj}{a:List (Key×V)}{c:Array DictEntry}{e:Nat}(I:Inv X j k H s)(h:H d=some (.frz o (.dK a)))(hd:o.data=.dict c e) :
  ∃b,KV a b/\s.heap.DictAt (BV X.prog X.w) d b e:=by
 obtain⟨f,_,_,b,l,r,m,n,g,p,i,q⟩:=(I.hok d _ h);rw [f] at g;cases g;rw [hd] at i;cases i;exact⟨b,l,o,c,f,p,hd,q⟩
end L2
namespace Dp
open L2
theorem Ya(k:Key):kV k=kOf k:=by cases k <;> rfl
section
variable {K:Frag}{C:Fm}{M:Addr->Prop}{H:Hp}{n:Nat}{ρ:List Slot}{σ:L2.St}
theorem Rel.hold(R:Rel K C M H n ρ σ){p:Ch}{o:HO}(h:H p=none):Rel K C (λb=>M b\/b=p) (A4 H p o) n ρ σ:=by
 have g:Grow H (A4 H p o):=A1 h;have j:Pres M H _ (A4 H p o):=Ga h;refine⟨R.len,λa z=>.inl (R.sub a z),λa z=>?_,R.ext.trans g.ext,R.fU,R.uV,λa z=>.inl (R.vM a z),(R.feed.grow g).more p λf k q=>?_,λi s q=>(R.sl i s q).pres j (λ_ z=>.inl z) g.ext R.uV,λq c=>(R.pin q c).trans j,R.br0,R.new,R.two,λq c=>?_⟩
 ·rcases z with z | z
  ·obtain⟨u,d⟩:=R.dom a z
   exact⟨u,g.all a u d⟩
  ·rw [z]; exact⟨o,AX⟩
 ·obtain⟨_,_,_,_,_,e,_⟩:=R.feed f k
  have:=e.2
  grind
 ·obtain⟨d,l,e,m⟩:=R.kept q c
  exact⟨g.all _ _ d,.inl l,e,m⟩
end
def J_(a:List Key)(k:Key):Bool:=a.any λb=>decide (b=k)
theorem hasK_iff{a:List Key}{k:Key}:J_ a k=true↔k∈a:=by
 unfold J_
 simp_all
def Dn(a:List Key)(k:Key):List Key:=if J_ a k=true then a else a++[k]
def EL{a:Type}(b:List Key)(c:List a)(k:Key)(d:a):List a:=if J_ b k=true then gn (λe f=>if e=k then d else f) b c else c++[d]
theorem Wh{c:List Key}{d:List V}(j:c.length=d.length)(k:Key):((c.zip d).any λf=>decide (f.1=k))=J_ c k:=by
 rw [e_,em,hasK_iff];constructor
 ·rintro ⟨⟨a,b⟩,g,e⟩
  have e:=of_decide_eq_true e;rw [← e];exact(gh g).1
 ·intro h
  obtain⟨i,l,e⟩:=List.mem_iff_getElem.mp h;exact⟨(c[i],d[i]'(by omega)),List.mem_iff_getElem.mpr ⟨i,by grind,by grind⟩,by grind⟩
theorem UB{c:List Key}{d:List V}(f:c.length=d.length)(k:Key)(v:V):putK (c.zip d) k v=(Dn c k).zip (EL c d k v):=by
 unfold putK Dn EL;rw [Wh f]
 by_cases h:J_ c k=true
 ·have l:∀(c:List _) (d:List V),((c.zip d).map λe=>if e.1=k then (e.1,v) else e)=c.zip (gn (λg i=>if g=k then v else i) c d):=by
   intro c
   induction c with
   | nil=>intro d; rfl
   | cons a c j =>
    intro d;cases d with
    | nil=>rfl
    | cons b d =>
     show (if a=k then (a,v) else (a,b))::_=(a,if a=k then v else b)::_;exact List.cons_eq_cons.mpr ⟨by split <;> rfl,j d⟩
  simp_all
 ·rw [if_neg h,if_neg h,if_neg h,List.zip_append f]
  rfl
theorem Ats.put{K:Frag}{M:Ch->Prop}{H:Hp}{k:Key}{d:D}{v:V}(hd:At K M H d v):∀{c:List Key} {f:List D} {b:List V},Ats K M H f b->Ats K M H (gn (λg i=>if g=k then d else i) c f) (gn (λg i=>if g=k then v else i) c b)
 | [],f,b,h=>rfl
 | a::c,[],b,h=>by cases (h); rfl
 | a::c,e::f,b,h=>by
  obtain⟨u,r,rfl,l,j⟩:=h;refine⟨_,_,rfl,?_,Ats.put hd j⟩
  grind
theorem Ats.putX{K:Frag}{M:Ch->Prop}{H:Hp}{k:Key}{d:D}{v:V}{a:List Key}{b:List D}{c:List V}(hd:At K M H d v)(h:Ats K M H b c):Ats K M H (EL a b k d) (EL a c k v):=by
 unfold EL
 split
 ·exact Ats.put hd h
 ·exact h.append (Ats.one hd)
theorem Qi{b:Type}{a:List Key}{c:List b}{k:Key}{d:b}(e:a.length=c.length):(Dn a k).length=(EL a c k d).length:=by
 unfold Dn EL
 grind
theorem LL:∀{b:List Key} {ds:List D} {k:Key},k∉b->Bv b ds k=none
 | [],ds,k,_=>by rfl
 | a::b,[],k,_=>rfl
 | a::b,d::ds,k,h=>by
  unfold Bv;rw [if_neg (λe=>h (by grind))];exact LL λz=>h (Re _ z)
theorem LK:∀{b:List Key} {c:List D} {k:Key},b.length=c.length->k∈b->∃z,Bv b c k=some z
 | [],c,k,_,h=>by cases h
 | a::b,[],k,h,_=>by cases h
 | a::b,d::c,k,f,h=>by
  unfold Bv
  by_cases e:a=k
  ·simp_all
  ·rw [if_neg e]
   exact LK (by simp_all) ((T0.mp h).resolve_left λz=>e z.symm)
theorem TY{b:List Key}{c:List D}{k:Key}{d:D}(g:b.length=c.length)(j:Key):Bv (Dn b k) (EL b c k d) j=if j=k then some d else Bv b c j:=by
 unfold Dn EL
 by_cases i:J_ b k=true
 ·have h:=hasK_iff.mp i
  rw [if_pos i,if_pos i]
  have n:∀(b:List Key) (c:List D),b.length=c.length->(j=k->k∈b)->Bv b (gn (λp q=>if p=k then d else q) b c) j=if j=k then some d else Bv b c j:=by
   intro b
   induction b with
   | nil =>
    intro c _ l
    by_cases e:j=k
    ·exact absurd (l e) c6
    ·rw [if_neg e]; cases c <;> rfl
   | cons a b o =>
    intro c g l;cases c with
    | nil=>cases g
    | cons e c =>
     show (if a=j then some (if a=k then d else e) else Bv b _ j)=if j=k then some d else if a=j then some e else Bv b c j
     by_cases f:a=j
     ·rw [if_pos f,if_pos f]
      by_cases m:j=k
      ·rw [if_pos m,if_pos (f.trans m)]
      ·rw [if_neg m,if_neg (λz=>m (f.symm.trans z))]
     ·rw [if_neg f,if_neg f]
      refine o c (by simpa using g) λz=>(T0.mp (l z)).resolve_left λw=>f (w.symm.trans z.symm)
  exact n b c g λ_=>h
 ·have h:k∉b:=λz=>i (hasK_iff.mpr z)
  rw [if_neg i,if_neg i]
  have n:∀(b:List Key) (c:List D),b.length=c.length->k∉b->Bv (b++[k]) (c++[d]) j=if j=k then some d else Bv b c j:=by
   intro b
   induction b with
   | nil =>
    intro c g _;cases c with
    | nil =>
     show (if k=j then some d else none)=if j=k then some d else none
     by_cases e:j=k
     ·rw [if_pos e,if_pos e.symm]
     ·rw [if_neg e,if_neg (λz=>e z.symm)]
    | cons e c=>cases g
   | cons a b o =>
    intro c g l;cases c with
    | nil=>cases g
    | cons e c =>
     show (if a=j then some e else Bv (b++[k]) (c++[d]) j)=if j=k then some d else if a=j then some e else Bv b c j
     rw [o c (by simpa using g) λz=>l (Re _ z)]
     by_cases f:a=j
     ·rw [if_pos f,if_pos f,if_neg (λz=>l (by rw [← z,← f]; exact Op))]
     ·rw [if_neg f,if_neg f]
  exact n b c g h
section
variable {X:Cx}{a b e:Expr}{κ zR zM:Kd}{wa wb:DW}{pos pos':Pos}
def TN(f g:DW):DW:=λn e P=>f n e λk h=>g h e λd i=>∃c,keyOf k=some c/\P (.dic [c] [d]) i
theorem VC(L:DE X a zR wa)(N:DE X b zM wb)(O:zM≠.tp:=by intro z; cases z):DE X (.Dict [some a] [b] pos) .fr (TN wa wb):=by
 obtain⟨t,S,T⟩:=L;obtain⟨u,V,W⟩:=N;refine⟨_,Vs (UG S V Vm) rfl rfl (gR _ _) (by show 1<=15; decide),λC M H n E F P Q R w q=>λp i=>?_⟩;have j:=R.hold (o:=.dK []) i
 have r:¬C.U p:=λz=>by
  obtain⟨o,w⟩:=R.dom p (R.vM p (R.uV p z));rw [i] at w; cases w
 refine T C _ _ n E F _ _ j w λx H2 k Y s Z r1 p1=>?_;have R2:=j.step s Z;refine W C _ _ Y E F _ _ R2 p1 λy v d n2 A G r2 B=>?_;obtain⟨e,h,B⟩:=B;have R3:=R2.step A G;have D:At X.K (λb=>M b\/b=p) v d y:=r2.shOf R2.dom O;have g:v p=some (.dK []):=A.keep (s.keep AX r) r;have hx:x=kV e:=DQ h (r1.tpOf j.dom j.vM);refine⟨g,[(e,y)],by rw [hx]; rfl,by show 1<=15; decide,?_⟩;show Q (.ref p) (A4 v p (.dK [(e,y)]));refine q _ _ (.dic [e] [d]) n2 (λb o c=>?_) ?_ ⟨p,rfl,i,[y],AX,rfl,?_⟩ B
 ·have l:b≠p:=A0 c i
  obtain⟨o1,z1,k1,I⟩:=s b o (by rw [AQ l]; exact c);obtain⟨o2,z2,k2,t2⟩:=A b o1 z1;exact⟨o2,by rw [AQ l]; exact z2,λJ=>(k2 J).trans (k1 J),λm z=>(t2 m ((I m z).trans z)).trans (I m z)⟩
 ·refine G.pres ⟨λb o c l=>by rw [AQ (λz=>l (.inr z))]; exact c,λb z=>.inl (.inl z),λb m c=>by rw [AQ (λz=>by rw [z,g] at c; cases c)]; exact c⟩ λf o hf c=>?_
  rw [AQ (λz=>r (by rw [← z]; exact R.fU f hf))];exact c
 ·exact⟨y,[],rfl,D.pres (Fw (.inr rfl) g),rfl⟩
def NZ(i:Nat)(h j:DW):Aj:=λl n e=>∃f g,e[i]?=some (.ow (.dic f g))/\j n e λd m=>h m e λk o=>∃c,keyOf k=some c/\f.length<sizeLine/\l.nx o (e.set i (.ow (.dic (Dn f c) (EL f g c d))))
theorem WQ{i k:Nat}{x:c_}(P:Room k X.A)(Q:PE X x (CH i))(S:DE X a zR wa)(T:DE X b zM wb)(U:zM≠.tp:=by intro z; cases z)
  (V:swapsWith b (some (.Subscript x a pos')) pos.line X.env=pure false:=by rfl):DS X κ (.Assign [.Subscript x a pos'] b pos) (NZ i wa wb):=by
 obtain⟨t,W,Y⟩:=S;obtain⟨u,Z,g2⟩:=T;refine⟨_,Ir (J9 P) Q W Z V,λC M H n F o D2 E R L w=>?_⟩;obtain⟨l,ds,q,w⟩:=w;refine g2 C M H n F o _ _ R w λv H1 d n1 e1 f1 r1 p=>?_;have f:=R.step e1 f1;obtain⟨G,r,m,nv,tt⟩:=f.sl i _ q;refine⟨.ref G,getD_some r,?_⟩;refine Y C M H1 n1 F o _ _ f p λy H2 kk n2 I f2 r2 p=>?_;obtain⟨c,g,a0,p⟩:=p;have R2:=f.step I f2;obtain⟨a1,h,m',a2,s⟩:=R2.sl i _ q;rw [r] at h;cases h;obtain⟨J,N,O,j⟩:=s;have B:At X.K M H2 d v:=(r1.shOf R.dom U).pres (f.pres I);have D:l.length=J.length:=by rw [O,j.length]
 refine⟨G,_,rfl,by rw [DQ g (r2.tpOf f.dom f.vM)]; exact DPut.k N (by rw [List.length_zip]; omega),L.nx M _ n2 _ o (R2.mut (e:=.dic (Dn l c) (EL l ds c d)) q r ⟨EL l J c v,by rw [AX,UB D],Qi O,(j.putX B).pres (Fw m' N)⟩) p⟩
def G4(c:Bool)(d e:D)(P:D->Prop):Prop:=e=.non/\P (.bl (if c then !Oc d else Oc d))
theorem O9{K:Frag}:E5 K .sh (λx y H Q=>y=.non/\Q (.bl (decide (x=.non))) H) (G4 false):=λU M H d e x y P Q c h f g w q=>by
 obtain⟨rfl,w⟩:=w;exact⟨g,q _ H _ .refl (by rw [Ob f]; rfl) w⟩
theorem VQ{K:Frag}:E5 K .sh (λx y H Q=>y=.non/\Q (.bl (!decide (x=.non))) H) (G4 true):=λU M H d e x y P Q c h f g w q=>by
 obtain⟨rfl,w⟩:=w;exact⟨g,q _ H _ .refl (by rw [Ob f]; rfl) w⟩
variable {apos cpos:Pos}{f:Expr}{κf:Kd}{wf:DW}
def QU(wa i:DW):DW:=λn e P=>wa n e λd j=>∃g h,KL d=some (g,h)/\i j e λk l=>∃c,keyOf k=some c/\P ((Bv g h c).getD .non) l
def QT(wa i j:DW):DW:=λn e P=>wa n e λd l=>∃g h,KL d=some (g,h)/\i l e λk m=>j m e λz o=>∃c,keyOf k=some c/\P ((Bv g h c).getD z) o
theorem TX{U M:Ch->Prop}{H:Hp}{K:Frag}{d z:D}{x v:V}{ks:List Key}{g:List D}{key:Key}(e:KL d=some (ks,g))(h:AtT K U M H d x)(l:At K M H z v):∃a o,x=.ref a/\DGet H a (kV key) o/\At K M H ((Bv ks g key).getD z) (o.getD v):=by
 obtain⟨a,m,rfl,i,j⟩:=KJ e h;refine⟨a,_,rfl,I_ i,?_⟩;have h:=Gn (k:=key) (ks:=ks) j;cases c:Bv ks g _ with
 | none=>simp_all
 | some y=>rw [c] at h; obtain⟨u,n,p⟩:=h; grind
theorem Us{U M:Ch->Prop}{H:Hp}{K:Frag}{d:D}{x:V}{c:List Key}{g:List D}(e:KL d=some (c,g))(h:AtT K U M H d x):∃a,x=.ref a/\a_ H a:=by
 obtain⟨a,j,rfl,i,k⟩:=KJ e h;exact⟨a,rfl,.inl ⟨_,i⟩⟩
theorem Wa{k:Nat}(D:Room k X.A)(E:DE X a zR wa)(F:DE X b zM wb)(m:M1 X a "get" apos b cpos:=by exact⟨rfl,rfl,rfl,rfl⟩):DE X (.Call (.Attribute a "get" apos) [b] [] cpos) .sh (QU wa wb):=by
 obtain⟨t,G,I⟩:=E;obtain⟨u,J,K⟩:=F;refine⟨_,UQ (J9 D) G J m,λC M H n j l P Q R w q=>?_⟩;refine I C M H n j l _ _ R w λv L d N r O s p=>?_;obtain⟨Z,ds,x,p⟩:=p;have c:=R.step r O;obtain⟨S,rfl,T⟩:=Us x (s.tpOf R.dom R.vM);refine⟨S,rfl,T,?_⟩;refine K C M L N j l _ _ c p λy H2 kk U h B V p=>?_;obtain⟨key,e,p⟩:=p;have R2:=c.step h B;have i:=(s.tpOf R.dom R.vM).pres (c.pres h) h R.uV;obtain⟨W,o,ex,g,Y⟩:=TX (key:=key) x i (z:=.non) (v:=.non) rfl;cases ex;exact⟨o,by rw [DQ e (V.tpOf c.dom c.vM)]; exact g,q _ H2 _ U (r.trans h) B Y p⟩
theorem WZ{k:Nat}(E:Room k X.A)(F:DE X a zR wa)(G:DE X b zM wb)(I:DE X f κf wf)(J:κf≠.tp:=by intro z; cases z)(m:M2 X a "get" apos b f cpos:=by exact⟨rfl,rfl,rfl,rfl⟩):DE X (.Call (.Attribute a "get" apos) [b,f] [] cpos) .sh (QT wa wb wf):=by
 obtain⟨t,K,L⟩:=F;obtain⟨u,N,O⟩:=G;obtain⟨u2,S,T⟩:=I;refine⟨_,UP (J9 E) K N S m,λC M H n j l P Q R w q=>?_⟩;refine L C M H n j l _ _ R w λv U d V s W x p=>?_;obtain⟨ks,ds,B,p⟩:=p;have e:=R.step s W;obtain⟨Y,rfl,Z⟩:=Us B (x.tpOf R.dom R.vM);refine⟨Y,rfl,Z,?_⟩;refine O C M U V j l _ _ e p λy H2 kk n2 i f2 r2 p=>?_;have R2:=e.step i f2;refine T C M H2 n2 j l _ _ R2 p λz H3 dz n3 c D r3 p=>?_;obtain⟨key,h,p⟩:=p;have R3:=R2.step c D;have r:=((x.tpOf R.dom R.vM).pres (e.pres i) i R.uV).pres (R2.pres c) c R.uV;have hy:=(r2.tpOf e.dom e.vM).pres (R2.pres c) c R.uV;obtain⟨a0,o,ex,g,hz⟩:=TX (key:=key) B r (r3.shOf R2.dom J);cases ex;exact⟨o,by rw [DQ h hy]; exact g,q _ H3 _ n3 ((s.trans i).trans c) D hz p⟩
end
end Dp
namespace L2
open AutoSeq1 (wpAny_loadPart')
end L2
namespace Dp
open L2
section
theorem Rq{k n:Nat}(h:k<n):seqIndex? (k:Int) n=some k:=by
 refine(Mv ?_).1;unfold S0
 grind
end
def Wq(i:Nat)(c:DW):Aj:=λe n a=>∃b,a[i]?=some (.ow (.lst b))/\c n a λd f=>∃(k:Nat) (x:D),d=.int (k:Int)/\b[k]?=some x/\k<2 ^ 60/\e.nx f (a.set i (.ow (.lst (b.eraseIdx k))))
section
variable {X:Cx}{κ zT:Kd}{e:Expr}{we:DW}{pos p apos cpos:Pos}{x:Str}{i:Nat}
theorem WO(h:PE X (.Name x p) (CH i))(K:DE X e zT we)
  (c:attributeBase (.Name x p) "pop" X.env (eval (.Name x p) X.env)=eval (.Name x p) X.env:=by rfl)
  (g:((backTo cpos (starEach [e] X.env)).all (λx=>!x.1)&&(backToKw cpos (keywordEach [] X.env)).all (λx=>x.1.isSome)
   && decide ([e].length+([]:List gL).length+(if ([]:List gL).isEmpty then 0 else 1)<30))=true:=by rfl)
  (f:(apos.endLine==cpos.line)=true:=by rfl) (j:starEach [e] X.env=(false,eval e X.env)::starEach [] X.env:=by rfl) (b:(backTo cpos (starEach [] X.env)).any (·.1)=false:=by rfl)
  (s:swapsWith (.Call (.Attribute (.Name x p) "pop" apos) [e] [] cpos) none pos.line X.env=pure false:=by rfl) :
  DS X κ (.Expr (.Call (.Attribute (.Name x p) "pop" apos) [e] [] cpos) pos) (Wq i we):=by
 obtain⟨t,N,O⟩:=K;refine⟨_,Qm (UT PySem.F.plainAttrs_list PySem.F.slot_list_pop PySem.F.type_list_pop Ue h (BB N B0 j) c g f j b) s,λC M H n P B D2 E R L w=>?_⟩;obtain⟨D,u,w⟩:=w;obtain⟨a,z,m,Q,S⟩:=R.sl i _ u;refine⟨.ref a,getD_some z,QA (show au "list" (.lst D) from rfl) (S.att Q),?_⟩;refine O C M H n P B _ _ R w λv H1 d T U V W p=>?_;obtain⟨k,y,rfl,Y,hk,p⟩:=p;have G:=R.step U V;obtain⟨a',l,Z,a0,r,I,q⟩:=G.sl i _ u;rw [z] at l;cases l;obtain⟨v',J,hv⟩:=q.get Y;have A:k<r.length:=(cr.mp J).1;refine⟨a,r,(k:Int),k,v',rfl,by rw [J8 W],I,by omega,by omega,Rq A,J,?_⟩;exact L.nx M _ T _ B (G.mut (e:=.lst (D.eraseIdx k)) u z (o:=.lst (r.eraseIdx k)) ⟨r.eraseIdx k,AX,(q.eraseIdx k).pres (Fw Z I)⟩) p
end
end Dp
namespace L2
end L2
namespace Dp
open L2
end Dp
namespace L2
open AutoSeq1 (wpAny_loadPart')
theorem boot_enumerate:bootBuiltins "enumerate"=some (.type "enumerate"):=by decide +kernel
section
variable {prog:Program}{w:World}{A:Around}{E:Value->Shared->Prop}{s:Shared}
theorem Sl{κ:Bool}(m:A.handled=none)(f l:Ch)(g:l≠f)(c:Array Cn):Draws prog w A f [f,l] c.size (λi v=>c[i]?=some v) (λi h=>ItAt κ h f l i/\SqAt κ h l c) where
 live:=λ_ _ d=>let ⟨o,n,_⟩:=d.1.lies; ⟨o,n⟩
 frame:=λ_ _ _ d k=>⟨d.1.mv λo e=>k f (by simp) o e,d.2.mv λo e=>k l (by simp) o e⟩
 item:=λi s Q E j d p=>Fy d.1 d.2 (x:=c[i]) (by simp [j]) λq a b=>p _ q s.toks (by simp [j]) ⟨a,d.2.eb b.extBut g⟩ b
 done:=λs Q E d r=>G6 m d.1 d.2 (by simp) r
theorem QE{κ:Bool}(d:A.handled=none)(c l:Ch)(a:Array Cn)(k:Nat)(f:a[k]?=none):Draws prog w A c [c,l] k (λ_ _=>True) (λi h=>ItAt κ h c l i/\SqAt κ h l a/\i=k) where
 live:=λ_ _ b=>let ⟨o,g,_⟩:=b.1.lies; ⟨o,g⟩
 frame:=λ_ _ _ b k=>⟨b.1.mv λo e=>k c (by simp) o e,b.2.1.mv λo e=>k l (by simp) o e,b.2.2⟩
 item:=λi s Q E j b n=>absurd b.2.2 (c7 j)
 done:=λs Q E b m=>G6 d b.1 b.2.1 f m
theorem Ua(κ:Bool)(l:Ch)(items:Array Cn):Meets (gf.«enumerate.__new__» ⟨[.type "enumerate",.ref l],[]⟩) (λ_ R s=>SqAt κ s.heap l items /\
   R (.ok (.ret (.ref (s.heap.push (IA κ l)).objs.size))) { s with heap:=(s.heap.push (IA κ l)).push { cls:=.type "enumerate",data:=.fields #[.none,.bool false,.ref s.heap.objs.size,rawInt 0,.none,.none] } }) :=
 .of_wp λprog w A R s h=>by
  obtain⟨hp,g,d,tk,os⟩:=s; obtain⟨hl,h⟩:=h
  have hsub:=sub_enumerate;cases κ with
  | true =>
   have hL:jb (gG ⟨hp,g,d,tk,os⟩) l items:=hl;obtain⟨⟨c,dct,dt,sl⟩,ho,hc,n,hd⟩:=id hL;replace hc:c=.type "list":=hc;replace hd:dt=.seq items n:=hd;subst hc hd
   wp_walk using fG ho
   refine wpAny_stack_any λst=>Sc ?_
   split
   ·rename_i c _ _ _ _ _
    cases (c==fE "enumerate") <;> (wp_walk using fG ho,e8 hL; exact⟨_,rfl,h⟩)
   ·(wp_walk using fG ho,e8 hL; exact⟨_,rfl,h⟩)
  | false =>
   have hL:jR (gG ⟨hp,g,d,tk,os⟩) l items:=hl;obtain⟨⟨c,dct,dt,sl⟩,ho,hc,n,hd⟩:=id hL;replace hc:c=.type "tuple":=hc;replace hd:dt=.seq items n:=hd;subst hc hd
   wp_walk using fG ho
   refine wpAny_stack_any λst=>Sc ?_
   split
   ·rename_i c _ _ _ _ _
    cases (c==fE "enumerate") <;> (wp_walk using fG ho,ef hL; exact⟨_,rfl,h⟩)
   ·(wp_walk using fG ho,ef hL; exact⟨_,rfl,h⟩)
theorem LA{c:Bool}{l:Ch}{a:Array Cn}{Q:Cn->FM->Prop}(j:SqAt c s.heap l a)
  (h:∀d,IsEnum d (s.heap.objs.size+1) s.heap.objs.size 0 .none->ItAt c d s.heap.objs.size l 0->(∀b o,s.heap.get? b=some o->d.get? b=some o)->Q (.ref (s.heap.objs.size+1)) { s with heap:=d }) :
  wpAny (model prog w) A (call (.type "enumerate") [.ref l]) Q E s:=by
 refine callType_new F.called_enumerate (by decide) (F.typeCall_enumerate_1 _) (F.newCall_enumerate_1 _) (λf=>F.args_object_init_2 f _) F.entry_enumerate_new (Ua c l a) ⟨j,?_⟩;have g:(s.heap.push (IA c l)).objs.size=s.heap.objs.size+1:=eq ..;have i:((s.heap.push (IA c l)).push { cls:=.type "enumerate",data:=.fields #[.none,.bool false,.ref s.heap.objs.size,rawInt 0,.none,.none] }).get? (s.heap.push (IA c l)).objs.size=some _:=cj _ rfl;rw [g] at i;refine⟨⟨_,by rw [g]; exact i,rfl⟩,?_⟩;rw [g];exact h _ i ((J5 c s.heap l).mv λo e=>Ev _ e) λb o e=>Ev _ (Ev _ e)
end
def ZN(K:Frag)(c:Bool)(a:Ch)(b:List V):It :=
 ⟨λi H=>SqK c K H a b/\i<b.length,λi H x d=>∃T p,x=.ref T/\H T=none/\d=A4 H T (.tup [.int i,p])/\b[i]?=some p,λi H=>SqK c K H a b/\b.length<=i⟩
structure ZD (κ:Bool) (e it a:Ch) (k:Nat) (h:cw):Prop where
 e:∃old,IsEnum h e it (k:Int) old
 i:ItAt κ h it a k
theorem Rh{P:cz}{w:dC}{K:Frag}{es:List c_}{j:Nat}{pos:Pos}(κ:Bool)(e f a:Ch)(S:List V)(r:e≠f)(ae:a≠e)(ai:a≠f) :
  Turn P w K (.Tuple es j pos) (ZN K κ a S) [e,f] e (ZD κ e f a) where
 mem:=by simp
 obj:=λi h d c b=>by
  simp only [T0,c6,or_false] at b
  rcases b with rfl | rfl
  ·obtain⟨o,q⟩:=d.e
   exact⟨_,q,λv q=>by cases q⟩
  ·exact d.i.lies
 keep:=λi h T d k=>by
  obtain⟨o,q⟩:=d.e;exact⟨⟨o,k e (by simp) _ q⟩,d.i.mv λo e=>k f (by simp) o e⟩
 item:=by
  intro X t y B b i U s W H E I m d C;subst t y B;obtain⟨D,F⟩:=C;obtain⟨n,p,G⟩:=D.at I;obtain⟨u,hu,ru⟩:=p.get (No F);obtain⟨l,g⟩:=d.e;have l1:=p.length;refine wpAny_pyNext_enum_itemD (Sl (κ:=κ) (A:=X.A.in1) (I.ok.hd b) f a ai n.toArray) g ⟨d.i,G⟩ (by simp; omega) r (by simp [r,ae.symm]) λx T J hp a1 a2 a3 a4 a5=>⟨_,rfl,?_⟩
  have L:x=u:=by
   have Y:n[i]?=some x:=by simpa using hp
   rw [hu] at Y;exact(cv Y).symm
  subst L;refine wpAny_letOwnedTupleGo_enum a1 λZ b1 M=>?_;have hT:H s.heap.objs.size=none:=I.hok.fresh (On _)
  have N:∀c o,c∉[e,f]->s.heap.get? c=some o->Z.get? c=some o:=λc o b z=>by
   simp only [T0,c6,or_false,not_or] at b;exact M.extBut _ _ b.1 (a5 c o b.1 b.2 z)
  have I2:Inv X U W (A4 H s.heap.objs.size (.tup [.int i,S[i]])) { s with heap:=Z,toks:=J+1 }:=by
   refine I.turnLaid (t':=J+1) (ch:=[e,f]) m N (On _) ?_;have nT:s.heap.objs.size≠e:=fV (UF g);exact⟨by show 2<=sizeLine; decide,[.int i J,x],.cons ⟨_,rfl⟩ (.cons ru .nil),⟨_,M.extBut _ _ nT a3,rfl,_,rfl,rfl,rfl⟩⟩
  refine⟨.ref s.heap.objs.size,_,I2,rfl,⟨_,_,rfl,hT,rfl,No F⟩,⟨⟨_,b1⟩,a2.1.eb M.extBut r.symm⟩,λc b=>?_⟩;have O:H c=none:=(m c b).1
  have R:c≠s.heap.objs.size:=λz=>by
   obtain⟨o,ho⟩:∃o,s.heap.get? c=some o:=by
    simp only [T0,c6,or_false] at b
    rcases b with rfl | rfl
    ·exact⟨_,g⟩
    ·obtain⟨o,q,_⟩:=d.i.lies; exact⟨o,q⟩
   rw [z] at ho;exact eK _ (UF ho)
  rw [AQ R]; exact O
 done:=by
  intro X t y B b i U s W H E I m d C;subst t y B;obtain⟨D,F⟩:=C;obtain⟨n,p,G⟩:=D.at I;obtain⟨l,g⟩:=d.e;have l1:=p.length;refine wpAny_pyNext_enum_endD (QE (κ:=κ) (A:=X.A.in1) (I.ok.hd b) f a n.toArray i (by simp; omega)) g ⟨d.i,G,rfl⟩ λT N=>⟨rfl,?_⟩;refine I.turnedL (t':=s.toks) (ch:=[e,f]) m λc o b e=>?_;simp only [T0,c6,or_false,not_or] at b;exact N c o b.2 e
 self:=λA i s Q E d h=>by
  obtain⟨l,g⟩:=d.e;exact wpAny_pyIter_enum g h
section
variable {X:Cx}{e1:Expr}{es:List Expr}{j:Nat}{tpos p pos:Pos}{te:TE}
def aC(K:Frag)(te:TE):TI:=λe H R=>te e H λv b=>∃c a d,v=.ref a/\SqK c K b a d/\R (ZN K c a d) b
theorem Vq(t:Gl X "enumerate")(v:X.mg "enumerate"=none)(w:PE X e1 te)(g:starEach [e1] X.env=[(false,eval e1 X.env)]:=by rfl) :
  PI X (.Tuple es j tpos) (.Call (.Name "enumerate" p) [e1] [] pos) (aC X.K te):=by
 intro y s z H R I h;refine eN (FT I t v boot_enumerate ?_);refine e9 ?_ g rfl;rw [g];refine gC (thn (w y s z H _ I h) λu b ⟨x,A,f,B,i,a,k,ex,C,q⟩=>gy ?_);subst ex;cases B;obtain⟨G,D,l⟩:=C.at f;have m:a<b.heap.objs.size:=by obtain⟨o,e⟩:=l.lies; exact UF e
 refine LA l λJ n E F=>?_;refine wpAny_pyIter_enum n ?_;refine⟨b.heap.objs.size+1,[b.heap.objs.size+1,b.heap.objs.size],_,ZN X.K i a k,A,rfl,f.kept (t':=b.toks) F,Rh i _ _ a k (by show (_:Nat)≠(_:Nat); omega) (c7 (fI m)) (c7 m),⟨⟨_,n⟩,E⟩,λc r=>?_,q⟩
 have d:b.heap.objs.size<=c:=by
  simp only [T0,c6,or_false] at r
  rcases r with rfl | rfl
  ·exact dq _
  ·exact On _
 exact f.fpOk d (f.hok.fresh d)
end
end L2
namespace Dp
open L2
def FW:Nat->List D->List D
 | _,[]=>[]
 | k,x::r=>.tup [.int (k:Int),x]::FW (k+1) r
theorem Lm:∀(k:Nat) (a:List D),(FW k a).length=a.length
 | _,[]=>rfl
 | k,x::r=>by show (FW (k+1) r).length+1=r.length+1; rw [Lm (k+1) r]
theorem Ln:∀(k:Nat) (a:List D) (i:Nat),(FW k a)[i]?=(a[i]?).map λx=>.tup [.int ((k+i:Nat):Int),x]
 | _,[],i=>by simp [FW]
 | k,x::r,0=>rfl
 | k,x::r,i+1=>by
  show (FW (k+1) r)[i]?=(r[i]?).map _;rw [Ln (k+1) r i,show k+1+i=k+(i+1) by omega]
section
variable {K:Frag}
theorem Oj{M:Ch->Prop}{H:Hp}{g:Bool}{a:Ch}{c:List V}{e:List D}(m:Ats K M H e c){i:Nat}{j:Ch->Prop}{b:Hp}(s:Pres M H j b)(n:SqK g K b a c)(k:∀a,j a->∃o,b a=some o) :
  (∀d,(FW 0 e)[i]?=some d->(ZN K g a c).go i b/\∀x H2,(ZN K g a c).yld i b x H2->Grow b H2/\At K j H2 d x)/\((FW 0 e).length<=i->(ZN K g a c).stop i b):=by
 have z:=m.length;refine⟨λd f=>?_,λt=>⟨n,by rw [Lm] at t; omega⟩⟩;rw [Ln,Nat.zero_add] at f;cases h:e[i]? with
 | none=>rw [h] at f; cases f
 | some u =>
  rw [h] at f;have l:D.tup [.int (i:Int),u]=d:=cv f;have A:i<e.length:=(cr.mp h).1;refine⟨⟨n,by omega⟩,λx H2 y=>?_⟩;obtain⟨T,p,rfl,q,rfl,v⟩:=y;obtain⟨B,r,w⟩:=(m.pres s).get h;rw [v] at r;cases r;subst l;exact⟨A1 q,ET k q ⟨.int (i:Int),[p],rfl,rfl,p,[],rfl,w,rfl⟩⟩
end
section
variable {X:Cx}{e1:Expr}{es:List Expr}{j:Nat}{tpos p pos:Pos}{κ:Kd}{wa:DW}
def QV(wa:DW):Ef:=λn b P=>wa n b λd c=>∃a,IU d=some a/\P (FW 0 a) c
theorem RA(g:Gl X "enumerate")(k:X.mg "enumerate"=none)(h:DE X e1 κ wa)(l:κ≠.tp:=by intro z; cases z)(m:starEach [e1] X.env=[(false,eval e1 X.env)]:=by rfl) :
  DI X (.Tuple es j tpos) (.Call (.Name "enumerate" p) [e1] [] pos) (QV wa):=by
 obtain⟨t,o,r⟩:=h;refine⟨_,Vq g k o m,λC M H n s u P K R w q=>?_⟩;refine r C M H n s u _ _ R w λv c d x y A B p=>?_;obtain⟨L,D,p⟩:=p;obtain⟨E,a,F,rfl,G,e⟩:=Pa (B.shOf R.dom l) D;exact⟨E,a,F,rfl,e M c (Pres.refl _ _),q _ c _ x y A (λi I J f b=>Oj G f (e I J f) b) p⟩
end
def Wv(i:Nat)(b:BW)(a:Aj):Aj:=λf n c=>∃d e,c[i]?=some (.br d)/\IU d=some e/\Bm b a f e n c
section
variable {X:Cx}{κ:Kd}{tg:Expr}{body:List Stmt}{b:BW}{wb:Aj}{pos p:Pos}{x:Str}{i:Nat}
theorem Rel.lessKp{K:Frag}{C:Fm}{q:Ch×HO}{M:Ch->Prop}{H:Hp}{n:Nat}{a:List Slot}{c:L2.St}(R:Rel K { C with kp:=q::C.kp } M H n a c):Rel K C M H n a c :=
 ⟨R.len,R.sub,R.dom,R.ext,R.fU,R.uV,R.vM,R.feed,R.sl,R.pin,R.br0,R.new,R.two,λp d=>R.kept p (Re _ d)⟩
theorem WP(hp:iA (model X.prog X.w) X.A X.env X.xe)(hc:X.calm=true)(h:PE X (.Name x p) (CH i))(hg:DG X tg b)(hb:QR X κ body wb)
  (hs:∀y,foldedSetIterable (.Name x p) X.env y=pure y:=by intro _; rfl):DS X κ (.For tg (.Name x p) body [] pos) (Wv i b wb):=by
 obtain⟨g,g1,g2⟩:=hg;obtain⟨tb,b1,b2⟩:=hb;refine⟨_,Jh hp hc (Pq h) g1 b1 hs,λC M H n U Z G E R L w=>?_⟩;obtain⟨d,f,hi,hd,w⟩:=w;obtain⟨v,e1,a2⟩:=R.sl i _ hi;cases d with
 | tup a3 =>
  cases hd;obtain⟨a,I,rfl,hn,J⟩:=a2;refine⟨.ref a,getD_some e1,.inr (.inl ⟨a,rfl,⟨I,hn.sq⟩,?_⟩)⟩;obtain⟨c,ek⟩:∃c,c=C.kp:=⟨_,rfl⟩;have R1:Rel X.K { C with kp:=c } M H n U Z:=by rw [ek]; exact R
  have B:∀{M H n U Z},Rel X.K { C with kp:=c } M H n U Z->Rel X.K C M H n U Z:=λR=>by rw [ek] at R; exact R
  have st:∀l k r s t,Rel X.K { C with kp:=c,zG:=(M,H)::C.zG } l k r s t->SqT X.K k a I:=λl k r s t D=>(hn.pres (D.pin (M,H) Op)).sq;refine⟨λi m t k=>m=f.length - i/\i<=f.length/\∃l r s,Rel X.K { C with kp:=c,zG:=(M,H)::C.zG } l k r s t/\Bm b wb G (f.drop i) r s,⟨f.length,by simp,TM _,M,n,U,R1.pinned,w⟩,?_⟩;rintro i m t k ⟨rfl,a4,l,r,s,D,V⟩;have pr:Pres M H l k:=D.pin (M,H) Op;have N:=st l k r s t D
  by_cases F:i<f.length
  ·have ed:f.drop i=f[i]::f.drop (i+1):=eI F
   rw [ed] at V;obtain⟨v,ev,hv⟩:=(J.pres pr).get (No F);refine .inr ⟨⟨I,v,N,ev⟩,λzO H2=>∃M2 W Y,Rel X.K { C with kp:=c,zG:=(M,H)::C.zG } M2 H2 W Y zO/\Bm b wb G (f.drop (i+1)) W Y,λzO H2 ⟨M2,W,Y,a0,w2⟩=>⟨f.length - (i+1),by omega,rfl,F,M2,W,Y,a0,w2⟩,λy H2 hy=>?_⟩;obtain⟨e2,hy⟩:=hy;subst e2
   have:some v=some y:=ev.symm.trans (hy I N)
   cases this;refine g2 _ l H2 r s t f[i] v _ _ D hv V λzP zV R3 w3=>?_;refine b2 _ l H2 r zP zV { G with nx:=Bm b wb G (f.drop (i+1)),ct:=Bm b wb G (f.drop (i+1)),bk:=G.nx } _ R3 ⟨λO H4 P Q zQ S T=>⟨O,P,Q,S,T⟩,L.rt,λO H4 P Q zQ S T=>L.nx O H4 P Q zQ (B S.unpin) T,λO H4 P Q zQ S T=>⟨O,P,Q,S,T⟩⟩ w3
  ·have e:i=f.length:=by omega
   subst e;rw [fz] at V;exact .inl ⟨⟨I,N,by rw [J.length]; exact On _⟩,L.nx l k r s t (B D.unpin) V⟩
 | lst a3 =>
  cases hd;obtain⟨a,I,rfl,nV,hH,J⟩:=a2
  obtain⟨o,ho,a1⟩:∃o,H a=some o/\∀k:Hp,k a=some o->SqL X.K k a I:=by
   rcases hH with z | ⟨u,z⟩
   ·exact⟨_,z,λk e=>.inl (.inl e)⟩
   ·exact⟨_,z,λk e=>.inl (.inr ⟨u,e⟩)⟩
  refine⟨.ref a,getD_some e1,.inl ⟨a,rfl,⟨I,a1 H ho⟩,?_⟩⟩
  obtain⟨c,R1,B,st⟩:∃c,Rel X.K { C with kp:=c } M H n U Z/\(∀{M H n U Z},Rel X.K { C with kp:=c } M H n U Z->Rel X.K C M H n U Z)/\(∀l k r s t,Rel X.K { C with kp:=c,zG:=(M,H)::C.zG } l k r s t->SqL X.K k a I):=by
   by_cases hM:M a
   ·refine⟨(a,o)::C.kp,⟨R.len,R.sub,R.dom,R.ext,R.fU,R.uV,R.vM,R.feed,R.sl,R.pin,R.br0,R.new,R.two,λq N=>?_⟩,λR=>R.lessKp,λl k r s t D=>a1 k (D.kept (a,o) Op).1⟩
    rcases T0.mp N with rfl | N
    ·refine⟨ho,hM,nV,λj e q z=>?_⟩
     obtain⟨u,hu⟩:=R.br0 i _ a hi e1
     have:=(R.new j _ a q rfl z).2
     rw [hu] at this;cases this
    ·exact R.kept q N
   ·exact⟨C.kp,R,λR=>R,λl k r s t D=>a1 k ((D.pin (M,H) Op).1 a o ho hM)⟩
  refine⟨λi m t k=>m=f.length - i/\i<=f.length/\∃l r s,Rel X.K { C with kp:=c,zG:=(M,H)::C.zG } l k r s t/\Bm b wb G (f.drop i) r s,⟨f.length,by simp,TM _,M,n,U,R1.pinned,w⟩,?_⟩;rintro i m t k ⟨rfl,a4,l,r,s,D,V⟩;have pr:Pres M H l k:=D.pin (M,H) Op;have N:=st l k r s t D
  by_cases F:i<f.length
  ·have ed:f.drop i=f[i]::f.drop (i+1):=eI F
   rw [ed] at V;obtain⟨v,ev,hv⟩:=(J.pres pr).get (No F);refine .inr ⟨⟨I,v,N,ev⟩,λzO H2=>∃M2 W Y,Rel X.K { C with kp:=c,zG:=(M,H)::C.zG } M2 H2 W Y zO/\Bm b wb G (f.drop (i+1)) W Y,λzO H2 ⟨M2,W,Y,a0,w2⟩=>⟨f.length - (i+1),by omega,rfl,F,M2,W,Y,a0,w2⟩,λy H2 hy=>?_⟩;obtain⟨e2,hy⟩:=hy;subst e2
   have:some v=some y:=ev.symm.trans (hy I N)
   cases this;refine g2 _ l H2 r s t f[i] v _ _ D hv V λzP zV R3 w3=>?_;refine b2 _ l H2 r zP zV { G with nx:=Bm b wb G (f.drop (i+1)),ct:=Bm b wb G (f.drop (i+1)),bk:=G.nx } _ R3 ⟨λO H4 P Q zQ S T=>⟨O,P,Q,S,T⟩,L.rt,λO H4 P Q zQ S T=>L.nx O H4 P Q zQ (B S.unpin) T,λO H4 P Q zQ S T=>⟨O,P,Q,S,T⟩⟩ w3
  ·have e:i=f.length:=by omega
   subst e;rw [fz] at V;exact .inl ⟨⟨I,N,by rw [J.length]; exact On _⟩,L.nx l k r s t (B D.unpin) V⟩
 | _=>cases hd
end
end Dp
namespace L2
open PySem.W
end L2
namespace Dp
open L2
end Dp
namespace L2
def bz(d:Ch)(o:Obj)(a:List (Key×V)):It :=
 ⟨λi H=>H d=some (.frz o (.dK a))/\i<a.length,λi H x b=>b=H/\∃p,a[i]?=some p/\x=kV p.1,λi H=>H d=some (.frz o (.dK a))/\a.length<=i⟩
theorem Rg{P:cz}{w:dC}{K:Frag}{tg:c_}(d n:Ch)(o:Obj)(a:List (Key×V))(es:Array DictEntry)(U:Nat)(g:o.data=.dict es U) :
  Turn P w K tg (bz d o a) [n] n (λi h=>h.IsKeyIter n d i a.length U) where
 mem:=by simp
 obj:=λi h f c j=>by
  rw [Tk.mp j];obtain⟨u,B,_,hd⟩:=f;exact⟨u,B,λv q=>by rw [hd] at q; cases q⟩
 keep:=λi h C f k=>f.at λu e=>k n (by simp) u e
 item:=by
  intro X F G J j i W s Y H E I r f L;subst F G J;obtain⟨M,Z⟩:=L;obtain⟨t,x,D⟩:=NA I M g
  have y:=x.length;have N:i<t.length:=by omega
  rw [y] at f;obtain⟨k,v,O⟩:∃k v,t[i]=(k,v):=⟨_,_,rfl⟩;have hx:t[i]?=some (k,v):=by rw [No N,O]
  have hp:a[i]?=some a[i]:=No Z;obtain⟨R,rv⟩:=N_ x hp hx;have R:a[i].1=k:=R;refine wpAny_pyNext_dict_item f D hx λa0 C l p m=>⟨_,rfl,?_⟩;obtain⟨u,B,S,T⟩:=id p;refine Oe B S T (by decide) ?_;have I2:Inv X W Y H { s with heap:=C }:=I.turnedL (t':=s.toks) (ch:=[n]) r λc o j e=>m.extBut c o (λz=>j (by rw [z]; exact Tk.mpr rfl)) e;exact⟨_,H,I2,YZ (by rw [← R] at l; exact l),⟨rfl,_,hp,rfl⟩,by rw [y]; exact p,λb hb=>(r b hb).1⟩
 done:=by
  intro X F G J j i W s Y H E I r f L;subst F G J;obtain⟨M,Z⟩:=L;obtain⟨t,x,D⟩:=NA I M g
  have y:=x.length;rw [y] at f;refine wpAny_pyNext_dict_end (I.ok.hd j) f D (List.getElem?_eq_none (by omega)) λC ext=>⟨rfl,?_⟩;exact I.turnedL (t':=s.toks) (ch:=[n]) r λc o j e=>ext c o (λz=>j (by rw [z]; exact Tk.mpr rfl)) e
 self:=λA i s Q E f h=>wpAny_pyIter_keyiter f h
def aB(c:TE):TI:=λe H R=>c e H λx b=>∃d o a,x=.ref d/\b d=some (.frz o (.dK a))/\R (bz d o a) b
theorem Vp{X:Cx}{e y:c_}{p:TE}(z:PE X e p):PI X y e (aB p):=by
 intro A s B H R I h;refine thn (z A s B H _ I h) λu i ⟨x,r,g,C,d,o,f,ex,j,q⟩=>?_;subst ex;cases C;obtain⟨_,E,_⟩:=G7 g.hok (.inr ⟨o,j⟩)
 obtain⟨k,l,a⟩:∃k l,o.data=.dict k l:=by
  obtain⟨F,_,_,G,t,M,m,n,v,N,J,O⟩:=(show ObjOk X.prog X.w r i.heap d (.frz o (.dK f)) from g.hok d _ j);rw [F] at v;cases v;exact⟨m,n,J⟩
 obtain⟨G,t,D⟩:=NA g j a
 have K:=t.length;refine wpAny_pyIter_dict E D ?_;refine⟨i.heap.objs.size,[i.heap.objs.size],_,bz d o f,r,rfl,g.kept (t':=i.toks) λb o e=>Ev _ e,Rg d _ o f k l a,⟨_,cj _ rfl,rfl,by rw [K]; rfl⟩,λc L=>?_,q⟩;rw [Tk.mp L];exact g.fpOk (On _) (g.hok.fresh (On _))
end L2
namespace Dp
open L2
section
variable {X:Cx}{a tg:Expr}{zR:Kd}{wa:DW}
def Ws(wa:DW):Ef:=λn c P=>wa n c λd e=>∃b f,d=.fdi b f/\(∀k∈b,Qz k)/\P (b.map XX) e
theorem WT(D:DE X a zR wa):DI X tg a (Ws wa):=by
 obtain⟨t,E,F⟩:=D;refine⟨_,Vp E,λC M H n G I P W R w q=>?_⟩;refine F C M H n G I _ _ R w λv l d J m r L p=>?_;obtain⟨b,s,rfl,f,p⟩:=p;have Y:=R.step m r;obtain⟨u,c,rfl,⟨o,N,z⟩,A,O⟩:∃a c,v=.ref a/\NdF M l a b c/\b.length=s.length/\Ats X.K M l s c:=L.tpOf R.dom R.vM;have Z:=O.length;refine⟨u,o,_,rfl,z,q _ _ _ J m r (λi M' Q S T=>?_) p⟩;have g:Q u=some (.frz o (.dK (b.zip c))):=(S.nd N z).2;have zl:(b.zip c).length=b.length:=by rw [List.length_zip]; omega
 refine⟨λe h=>?_,λj=>⟨g,by rw [Go] at j; omega⟩⟩;have k:i<b.length:=by have:=(cr.mp h).1; rw [Go] at this; exact this
 refine⟨⟨g,by omega⟩,λx H2 y=>?_⟩;obtain⟨rfl,pp,B,rfl⟩:=y
 have U:(b.zip c)[i]?=some (b[i],c[i]'(by omega)):=by
  rw [List.getElem?_zip_eq_some];exact⟨No k,No (by omega)⟩
 rw [U] at B;cases B
 have V:e=XX b[i]:=by
  rw [dR,No k] at h;exact(cv h).symm
 subst V;refine⟨.refl,?_⟩;rw [Ya];exact Yq (f _ (dY k))
def Wu(wa:DW):DW:=λn e P=>wa n e λd f=>∃c b,d=.dic c b/\CT b=true/\P (.fdi c b) f
mutual
theorem At.frz{K:Frag}{M:Ch->Prop}{H:Hp}{a:Ch}{f:Ch->Obj}{kvs:List (Key×V)}(ha:H a=some (.dK kvs)):∀{d:D} {v:V},FP d=true->At K M H d v->At K M (F3 H [a] f) d v
 | .non,v,_,h=>h
 | .bl b,v,_,h=>h
 | .int i,v,_,h=>h
 | .str x,v,_,h=>h
 | .tup ds,v,hn,h=>by
  obtain⟨b,vs,e,n2,hs⟩:=h;refine⟨b,vs,e,?_,Ats.frz ha hn hs⟩;unfold NdT at n2 ⊢;rw [DR λz=>by rw [Tk.mp z,ha] at n2; cases n2];exact n2
 | .lst ds,v,hn,h=>by
  obtain⟨b,vs,e,⟨n1,n2⟩,hs⟩:=h;refine⟨b,vs,e,⟨n1,?_⟩,Ats.frz ha hn hs⟩;rw [DR λz=>by rw [Tk.mp z,ha] at n2; cases n2];exact n2
 | .dic _ _,v,hn,h=>by cases hn
 | .fdi _ _,v,hn,h=>by cases hn
 | .dit _ _,v,hn,h=>by cases hn
theorem Ats.frz{K:Frag}{M:Ch->Prop}{H:Hp}{a:Ch}{f:Ch->Obj}{kvs:List (Key×V)}(ha:H a=some (.dK kvs)):∀{ds:List D} {vs:List V},CT ds=true->Ats K M H ds vs->Ats K M (F3 H [a] f) ds vs
 | [],vs,_,h=>h
 | d::ds,vs,hn,h=>by
  obtain⟨v,r,e,h1,h2⟩:=h;have hn:(FP d&&CT ds)=true:=hn;rw [cq] at hn;exact⟨v,r,e,At.frz ha hn.1 h1,Ats.frz ha hn.2 h2⟩
end
theorem Yn(A:DE X a .fr wa):DE X a .sh (Wu wa):=by
 obtain⟨t,B,D⟩:=A;refine⟨_,UO B,λC M H n E F P Q R w q=>?_⟩;refine D C M H n E F _ _ R w λv u d G I J K p=>?_;obtain⟨L,N,rfl,l,p⟩:=p;obtain⟨b,rfl,x,O,j,S,T⟩:=K;refine⟨[b],λc U=>by rw [Tk.mp U]; exact⟨_,j⟩,λf=>?_⟩;have V:¬M b:=λz=>by obtain⟨o,w⟩:=R.dom b z; rw [x] at w; cases w
 have e:∀{c:Ch},c≠b->F3 u [b] f c=u c:=λh=>DR λz=>h (Tk.mp z);refine q _ _ (.fdi L N) G (λc o y=>?_) ?_ ⟨b,O,rfl,⟨f b,V,Mz (Tk.mpr rfl) j⟩,S,Ats.frz j l ?_⟩ p
 ·have W:c≠b:=A0 y x
  obtain⟨Y,Z,k1⟩:=I c o y;exact⟨Y,by rw [e W]; exact Z,k1⟩
 ·intro g hg
  obtain⟨m,k,i,r,h2,⟨n3,s⟩,h4⟩:=J g hg;exact⟨m,k,i,by rw [e λz=>by rw [z,j] at r; cases r]; exact r,h2,⟨n3,by rw [e λz=>by rw [z,j] at s; cases s]; exact s⟩,h4⟩
 ·exact T.pres (Pres.less (M':=M) λ_ z=>.inl z)
end
end Dp
namespace L2
open PySem.W
structure ce (prog:cz) (w:dC) (A:dL) (I d:Ch) (n:Nat) (base:cw) (key:Nat->Ch) (val:Nat->Cn) (ch:Ch->Prop) (St:Nat->cw->Prop):Prop where
 new:∀b,ch b->base.get? b=none
 item:∀(i:Nat) (s:FM) (Q:Option Cn->FM->Prop) (E:Cn->FM->Prop),i<n->St i s.heap->(∀b o,base.get? b=some o->s.heap.get? b=some o)->(∃o,s.heap.get? d=some o) ->
  (∀h' tk a o c,h'.get? a=some o->o.cls=.type "tuple"->o.data=.seq #[.ref (key i),val i] c->St (i+1) h'->(∀b o,¬ch b->s.heap.get? b=some o->h'.get? b=some o)->Q (some (.ref a)) { s with heap:=h',toks:=tk })->wpAny (model prog w) A (pyNext (.ref I)) Q E s
 done:∀(s:FM) (Q:Option Cn->FM->Prop) (E:Cn->FM->Prop),St n s.heap->(∀b o,base.get? b=some o->s.heap.get? b=some o)->(∀h' tk,(∀b o,¬ch b->s.heap.get? b=some o->h'.get? b=some o)->Q none { s with heap:=h',toks:=tk })->wpAny (model prog w) A (pyNext (.ref I)) Q E s
 frame:∀i h h',St i h->fq d h h'->St i h'
 dch:¬ch d
end L2
namespace Dp
open L2
end Dp
namespace L2
end L2
namespace Dp
open L2
end Dp
namespace L2
end L2
namespace Dp
open L2
end Dp
namespace L2
end L2
namespace Dp
open L2
end Dp
namespace L2
end L2
namespace Dp
open L2
end Dp
namespace L2
section
variable {X:Cx}{c e:Expr}
theorem Qy{K:Frag}{C U:Ch}{a:Str}(c:XC K a C U):∀{b:List Ch} {d:List Str},Paired (fun(D:Ch) (n:Str)=>n ≠ "ThinError"/\∃f,XC K n D f) b d->PySem.W.kitAny K (.ref C) (b.map cm)=some (decide (a∈d))
 | [],_,.nil=>by simp [PySem.W.kitAny]
 | D::b,_,@Paired.cons _ _ _ _ n _ d ⟨g,f,h⟩ r=>by
  rw [dG];unfold PySem.W.kitAny;rw [c.kit h g]
  by_cases e:a=n
  ·simp [e]
  ·simp only [e,decide_false]
   rw [Qy c r];simp [e]
theorem Na:∀{a:List Ch} {b:List Cn},Vals (a.map V.ref) b->b=a.map cm
 | [],_,r=>by rw [jP] at r; cases r; rfl
 | D::a,_,r=>by
  rw [dG] at r;cases r with
  | cons h t=>rw [dG,Na t]; cases h; rfl
theorem Sr:C2 X (.builtin "isinstance") (λm H Q=>∃a C U g u i t j k,m=[.ref a,.ref t]/\H a=some u/\XT C g a u/\(∀d,g=some d->∃p,H d=some (.ext (XF d p)))/\XC X.K i C U/\H t=some (.tup (j.map V.ref))/\Paired (fun(D:Ch) (n:Str)=>n ≠ "ThinError"/\∃A,XC X.K n D A) j k/\Q (.bl (decide (i∈k))) H):=by
 intro Z s σ H m us Q I r h;obtain⟨a,C,U,g,u,i,t,j,k,rfl,B,E,F,v,G,L,q⟩:=h;obtain⟨M,N,rfl,O,P⟩:=vals2 r;cases (show M=cm a from O);cases (show N=cm t from P)
 have J:=E.inst I B λd e=>by
  obtain⟨p,l⟩:=F d e;obtain⟨⟨mA,⟨o,_,_,R,_⟩,_⟩,_⟩:=(show ObjOk X.prog X.w H s.heap d _ from I.hok d _ l);exact⟨o,R⟩
 obtain⟨_,S,T,o,l,x,n,b,c,f⟩:=(show ObjOk X.prog X.w H s.heap t _ from I.hok t _ G);obtain⟨Y,dd,y,sl⟩:=o;simp only at x b c f;subst x b c f;have e:=Na T;subst e;exact PySem.W.kia_tup v.kitX I.kIn J l (Qy v L) (by intro z; cases z) λtk=>⟨.bl _,H,I.tok _,rfl,q⟩
end
end L2
namespace Dp
open L2
section
variable {X:Cx}{κ:Kd}{e:Expr}{es:List Expr}{pos p p1 tpos:Pos}{i:Nat}{x:Str}
def Wp(i:Nat)(w:Nat->List Slot->(D->Nat->Prop)->PX->Prop):ZE:=λb c n a=>w n a (λd e=>b.nx e (a.set i (.sh d))) c
theorem WL{b:Kd}{w:Nat->List Slot->(D->Nat->Prop)->PX->Prop}{a:Pos}(c:X.N.Nodup)(f:X.N[i]?=some x)(g:Loc X.env.scope x)(h:cJ X e b w)(j:b≠.tp:=by intro z; cases z)(k:swapsWith e (some (.Name x a)) pos.line X.env=pure false:=by rfl)
  (m:X.fn x=true\/X.env.scope.names.lookup x=some .local:=by first | exact .inl rfl | exact .inr rfl | assumption):bB X κ (.Assign [.Name x a] e pos) (Wp i w):=by
 obtain⟨t,o,q⟩:=h;refine⟨_,Vl c f g o k m,λC M H n s u J E R y r L l w=>?_⟩;exact q C M H n s u _ _ R y r l w λv A d B F G I p=>L.nx M A B _ _ ((r.step F G).set (I.shOf r.dom j)) p
def CN(X:Cx)(es:List c_)(b:List Str):Prop:=∃a:List Ch,PA X es (λ_ H Q=>Q (a.map V.ref) H)/\Paired (fun(D:Ch) (n:Str)=>n ≠ "ThinError"/\∃c,XC X.K n D c) a b
theorem Yv:CN X [] []:=⟨[],B0,.nil⟩
theorem F1{a:Str}{e:List Str}{D U:Ch}(f:a ≠ "ThinError")(xd:XC X.K a D U)(b:Gl X a)(c:X.mg a=some (.ref D))(g:CN X es e)(h:starEach (.Name a p::es) X.env=(false,eval (.Name a p) X.env)::starEach es X.env:=by rfl)(d:(a==("__debug__":Str))=false:=by decide) :
  CN X (.Name a p::es) (a::e):=by
 obtain⟨j,k,l⟩:=g;exact⟨D::j,BB (Qq (v:=.ref D) b c rfl d) k h,.cons ⟨f,U,xd⟩ l⟩
def S9(i:Nat)(a:List Str):DW:=λn b P=>match b[i]? with
 | some (.ex _ c _ _)=>P (.bl (decide (c∈a))) n
 | _=>False
theorem WW{c:List Str}{j}(h:CN X es c)(hl:es.length<=100)(D:Gl X "isinstance")(E:X.mg "isinstance"=none)(F:X.N[i]?=some x:=by rfl)(G:Sw X.env.scope x:=by first | exact TW rfl | exact da (TW rfl) | exact da (da rfl))(k:(x==("__debug__":Str))=false:=by decide)
  (l:(x==("__classdict__":Str))=false:=by decide) (hn:c.length<=100:=by decide) (v:starEach [.Name x p1,.Tuple es j tpos] X.env=(false,eval (.Name x p1) X.env)::starEach [.Tuple es j tpos] X.env:=by rfl) (m:starEach [.Tuple es j tpos] X.env=[(false,eval (.Tuple es j tpos) X.env)]:=by rfl) (r:(backTo pos (starEach [.Tuple es j tpos] X.env)).any (·.1)=false:=by rfl) :
  DE X (.Call (.Name "isinstance" p) [.Name x p1,.Tuple es j tpos] [] pos) .sh (S9 i c):=by
 obtain⟨e,I,y⟩:=h;refine⟨_,Cv Sr D E (by decide +kernel) (BB (Em F G k l) (BB (Pt I) B0 m) v) (by decide) (by decide) v r,λC M H n ρ σ P Q R w q=>?_⟩;unfold S9 at w
 split at w
 ·rename_i a J ks ds k
  obtain⟨K,L,O,S,u,vs,T,⟨na,U⟩,W,Y,Z,hs⟩:=R.sl i _ k;have hz:(e.map V.ref).length<=sizeLine:=by rw [Go,Paired.length y,di]; omega
  refine⟨.ref a,getD_some K,hz,λt A=>?_⟩;have g:Grow H (A4 H t (.tup (e.map V.ref))):=A1 A;have B:∀b o,H b=some o->A4 H t (.tup (e.map V.ref)) b=some o:=λb o q=>by rw [AQ (λz=>by subst z; rw [A] at q; cases q)]; exact q
  refine⟨a,L,O,S,u,J,t,e,c,rfl,B _ _ U,W,λd f=>?_,T,AX,y,q _ _ (.bl _) n g.ext (R.feed.grow g) rfl w⟩
  rcases Y with ⟨z,_⟩ | ⟨dd,z,_,s⟩
  ·rw [z] at f; cases f
  ·rw [z] at f; cases f; exact⟨_,B _ _ s⟩
 ·exact w.elim
end
section
variable {X:Cx}{κ:Kd}{tg iter:Expr}{src:Ef}{body:List Stmt}{pos:Pos}{b:BW}{wb:Aj}
theorem WM{v:Fm->Prop}(I:∀C p,v C->v { C with zG:=p })(V:iA (model X.prog X.w) X.A X.env X.xe)(W:X.calm=true)(P:DI X tg iter src)(Y:DG X tg b)(Z:PJ v X κ body wb)
  (hs:∀x,foldedSetIterable iter X.env x=pure x:=by intro _; rfl):ZP v X κ (.For tg iter body [] pos) (E6 src b wb):=by
 obtain⟨wi,a1,a2⟩:=P;obtain⟨g,g1,g2⟩:=Y;obtain⟨tb,b1,b2⟩:=Z;refine⟨_,Jh V W a1 g1 b1 hs,λC M H n Q σ h E hC R L w=>?_⟩;refine a2 C M H n Q σ _ _ R w λJ z a n1 e1 f1 y w1=>?_;have R1:=R.step e1 f1;refine⟨λi m B j=>m=a.length - i/\i<=a.length/\∃c k o,Rel X.K { C with zG:=(M,z)::C.zG } c j k o B/\Bm b wb h (a.drop i) k o,⟨a.length,by simp,TM _,M,n1,Q,R1.pinned,w1⟩,?_⟩;rintro i m B j ⟨rfl,P,c,k,o,l,D⟩;have S:Pres M z c j:=l.pin (M,z) Op
 by_cases d:i<a.length
 ·have ed:a.drop i=a[i]::a.drop (i+1):=eI d
  rw [ed] at D;obtain⟨go,yl⟩:=(y i c j S l.dom).1 a[i] (No d);refine .inr ⟨go,λT H2=>∃M2 F G,Rel X.K { C with zG:=(M,z)::C.zG } M2 H2 F G T/\Bm b wb h (a.drop (i+1)) F G,λT H2 ⟨M2,F,G,f,w2⟩=>⟨a.length - (i+1),by omega,rfl,d,M2,F,G,f,w2⟩,λx H2 hy=>?_⟩;obtain⟨U,hx⟩:=yl x H2 hy;have f:=l.step U.ext (l.feed.grow U);refine g2 _ c H2 k o B a[i] x _ _ f hx D λzP zV R3 w3=>?_;refine b2 _ c H2 k zP zV { h with nx:=Bm b wb h (a.drop (i+1)),ct:=Bm b wb h (a.drop (i+1)),bk:=h.nx } _ (I C _ hC) R3 ⟨λq N r s O t u=>⟨q,r,s,t,u⟩,L.rt,λq N r s O t u=>L.nx q N r s O t.unpin u,λq N r s O t u=>⟨q,r,s,t,u⟩⟩ w3
 ·have e:i=a.length:=by omega
  subst e;rw [fz] at D;exact .inl ⟨(y _ c j S l.dom).2 (On _),L.nx c j k o B l.unpin D⟩
end
section
variable {X:Cx}{zT:Kd}{tg elt iter:Expr}{ifs:List Expr}{sc:Scope}{pos:Pos}{src:Ef}{b:BW}{tt:HI}{te:DW}
theorem U7{r:Kd}{i:Nat}{x:Str}{c e:Pos}(t:X.N.Nodup)(k:X.N[i]?=some x)(u:Loc X.env.scope x)(m:X.calm=true)(f:List Str)(j:List (Option Nat))(y:Xd X tg iter src)(A:∀g C s H h,DG (A3 X sc f g C s H h) tg b)(B:∀g C s H h,ZG (A3 X sc f g C s H h) ifs tt)(D:∀g C s H h,DE (A3 X sc f g C s H h) elt zT te)
  (o:G9 sc X.env.scope X.N f j=true) (l:swapsWith (.ListComp elt [⟨tg,iter,ifs,0⟩] sc pos) (some (.Name x c)) e.line X.env=pure true:=by rfl) (F:zT≠.tp:=by intro z; cases z)
  (q:∀x,foldedSetIterable iter X.env x=pure x:=by intro _; rfl)
  (G:X.fn x=true\/X.env.scope.names.lookup x=some .local:=by first | exact .inl rfl | exact .inr rfl | assumption):DS X r (.Assign [.Name x c] (.ListComp elt [⟨tg,iter,ifs,0⟩] sc pos) e) (EI i (BR j src b tt te)):=by
 obtain⟨Y,I,J⟩:=Ou m f j y A B D o F q;refine⟨_,Qk m f j I o t k u l q G,λC M H n K O Z E R L w=>?_⟩;refine J C M H n K O _ _ R w λv P d Q S T U p=>?_;obtain⟨a,rfl,V,W⟩:=U;exact L.nx _ P Q _ _ (R.setOw S T V W) p
end
abbrev Fu(K:Frag)(x:Str)(a:dE)(f:Ch)(fd:dU):Prop:=Fun K x x a f fd
theorem F_{P:cz}{w:dC}{K:Frag}{j:Str->Option Cn}{a:cw}{x:Str}{c:dE}{f:Ch}{fd:dU}{N d:List Str}{k:Nat}{g:Kd}{W:W2}{l:Aj}(F:Fu K x c f fd)(S:Ai N d (AH c))
  (m:∀{e:Cn} {A:dL} {b:List Env} {s:FM} {H:Hp} {E:XK},Room k (A.deeper (envOfC x (AH c) s.heap.objs.size f e))->QR (EX CL P w K j a N x (AH c) f e A b s H E).nox g (BX c) l)
  (o:∀{ss n Pd},W ss n Pd->l { nx:=λn _=>g=.sh/\Pd .non n,rt:=Pd } n (ss++Uf (N.length - d.length) .no)) (i:d.length<=N.length:=by decide) :
  BD P w K j a CL (k+1) f fd d (Di K g W d.length):=be F S i (λ_ _ _ _ _ _ h=>m h) (λ_ _ _ _ h=>o h)
section
variable {X:Cx}
theorem cg{m:Nat}(g:Room m X.A){e:c_}{a:List c_}{k:Nat}{h:List Str}{f:Kd}{W:W2}{x:Str}{p pos:Pos}{b:S1}(G:Got X.prog X.w X.K X.mg X.base x k h f W)(i:Xe X (e::a) b)(j:k<=m:=by decide)(l:Gl X x:=by rfl)
  (c:(x==("__debug__":Str))=false:=by decide) (n:starEach (e::a) X.env=(false,eval e X.env)::starEach a X.env:=by rfl) (d:(backTo pos (starEach a X.env)).any (·.1)=false:=by rfl):DE X (.Call (.Name x p) (e::a) [] pos) f (AZ W b):=Bn G (g.mono j) l i c n d
variable {tg iter elt:Expr}{ifs:List Expr}{sc:Scope}{pos:Pos}{b:BW}{tt:HI}{te:DW}{zT:Kd}{src:Ef}
theorem Ks(a:List Str)(c:List (Option Nat))(d:Xd X tg iter src)(e:∀{cl C s H fp},DG (A3 X sc a cl C s H fp) tg b)(f:∀{cl C s H fp},ZG (A3 X sc a cl C s H fp) ifs tt)(g:∀{cl C s H fp},DE (A3 X sc a cl C s H fp) elt zT te)
  (h:G9 sc X.env.scope X.N a c=true) (i:X.calm=true:=by rfl) (j:zT≠.tp:=by intro z; cases z) (k:∀x,foldedSetIterable iter X.env x=pure x:=by intro _; rfl):DE X (.ListComp elt [⟨tg,iter,ifs,0⟩] sc pos) .fr (BR c src b tt te):=Wc i a c d (λ_ _ _ _ _=>e) (λ_ _ _ _ _=>f) (λ_ _ _ _ _=>g) h j k
end
end Dp
namespace K14
open L2 Dp Nt
def top(i:Nat):dE:=PySem.Challenge.pw_thinnet_k14_papers_of_ways_bent.main.body.getD i (.Pass ⟨0,0,0,0⟩)
def XH(s:dE):dE:=match s with
 | .ClassDef _ _ _ b _ _ _ _ _ _ _=>b.getD 0 (.Pass ⟨0,0,0,0⟩)
 | _=>.Pass ⟨0,0,0,0⟩
abbrev GQ:dE:=top 10
abbrev Dx:dE:=top 11
abbrev FJ:dE:=top 12
abbrev HR:dE:=top 13
abbrev GO:dE:=top 14
abbrev GN:dE:=top 15
abbrev FI:dE:=top 16
abbrev HS:dE:=top 17
abbrev GP:dE:=top 18
abbrev FG:dE:=top 20
abbrev Ck:dE:=top 21
abbrev FH:dE:=top 23
abbrev FE:dE:=top 25
abbrev FF:dE:=top 26
abbrev FL:dE:=top 28
abbrev Dl:dE:=top 29
abbrev Ei:dE:=top 30
abbrev Dz:dE:=top 31
abbrev D0:dE:=top 32
abbrev GS:dE:=top 33
abbrev Ej:dE:=top 34
abbrev C4:dE:=top 35
abbrev Ek:dE:=top 36
abbrev DF:dE:=top 37
abbrev GR:dE:=top 38
abbrev FN:dE:=top 39
abbrev DM:dE:=top 40
abbrev D1:dE:=top 41
abbrev FK:dE:=top 42
abbrev D4:dE:=top 43
abbrev DL:dE:=top 44
abbrev Dy:dE:=top 45
abbrev C3:dE:=top 46
abbrev Cm:dE:=top 47
abbrev DJ:dE:=top 48
abbrev DK:dE:=top 49
abbrev El:dE:=top 50
abbrev CY:dE:=top 51
abbrev Jb:dE:=top 52
abbrev B_:dE:=XH (top 2)
abbrev CM:dE:=XH (top 3)
structure Txt (K:Frag) (mg:Str->Option Cn):Prop where
 Gak:mg "ValueError"=none
 Gai:mg "all"=none
 Gam:mg "bool"=none
 Gah:mg "enumerate"=none
 Gal:mg "int"=none
 Gaa:mg "isinstance"=none
 Gac:mg "len"=none
 Gae:mg "list"=none
 Gad:mg "range"=none
 Gaf:mg "repr"=none
 Gag:mg "sorted"=none
 Gaj:mg "str"=none
 Gab:mg "tuple"=none
 Gan:mg "zip"=none
 x_NoPaper:∃C U,XC K "NoPaper" C U/\mg "NoPaper"=some (.ref C)
 x_NoLine:∃C U,XC K "NoLine" C U/\mg "NoLine"=some (.ref C)
 x_TooMany:∃C U,XC K "TooMany" C U/\mg "TooMany"=some (.ref C)
 x_Twice:∃C U,XC K "Twice" C U/\mg "Twice"=some (.ref C)
 x_NoPlace:∃C U,XC K "NoPlace" C U/\mg "NoPlace"=some (.ref C)
 x_NoTie:∃C U,XC K "NoTie" C U/\mg "NoTie"=some (.ref C)
 x_NoRow:∃C U,XC K "NoRow" C U/\mg "NoRow"=some (.ref C)
 x_ThinError:∃U,ZO K U/\mg "ThinError"=some (.ref U)/\nsIn K mainGlobals "ThinError"=some (some (.ref U))
section
variable {P:Program}{w:World}{K:Frag}{mg:Str->Option Value}{base:Heap}
theorem j1:Ai ["_law_feed_here","_law_many","_law_digit","_law_at","_law_cell","_law_first"] ["_law_feed_here","_law_many"] (AH Dl):=⟨rfl,rfl,rfl,by decide +kernel,rfl,by decide +kernel,by decide +kernel⟩
theorem Vz{f:Ch}{fd:dU}(F:Fun K "_law_next" "_law_next" Dl f fd)(ml:mg "len"=none):BD P w K mg base CL 1 f fd ["_law_feed_here","_law_many"] (Di K .sh BA 2):=by
 refine F.ok j1 (λvs H Q E h=>h.1) (λa0 A a1 s H vs Q E hr h=>?_);obtain⟨hl,F0,U,V',M,n,ss,Pd,ra,⟨m,rfl,a8,S,hn,hP⟩,q⟩:=h;obtain⟨a9,fU,uV,vM,a2,T⟩:=ra;cases T with
 | cons r1 T =>
 cases T with
 | cons r2 T =>
 cases T;obtain⟨⟨d,c⟩,e0,hF⟩:=r1.1;cases e0;obtain⟨v2,e2,Z⟩:=r2.1;cases e2;cases (show _=V.int m from Z);obtain⟨a,r,u,J,L,hc,a3,a4,b0⟩:=a2 (d,c) hF
 have N:∀(W r' z:Int) (y:Hp),(∀b o,H b=some o->b≠d->y b=some o)->y d=some (.lst [.ref c,.int W,.int r'])->0<=W->W<=a+1->0<=z->z<m->Q (.int z) y:=by
  intro W r' z y hk X h0 h1 a5 a6;refine q (.int z) y (.int z) (n - 1) (λb o e=>?_) (λg hg=>?_) rfl (hP z a5 a6)
  ·by_cases v:b=d
   ·subst v
    exact⟨_,X,λnu=>absurd (fU (b,c) hF) nu,λvs z=>by rw [z,J] at e; cases e⟩
   ·exact⟨o,hk b o e v,λ_=>rfl,λ_ _=>rfl⟩
  ·have:g=(d,c):=cv (hg.symm.trans hF)
   subst this;exact⟨W,r',u,X,L,⟨hc.1,hk c _ hc.2 L⟩,a3,h0,by omega⟩
 have hu:(A.deeper (envOfC "_law_next" (AH Dl) s.heap.objs.size f a0)).units<cLine:=hr.units0;have l:∀{y:Hp} {xs:List V},y d=some (.lst xs)->SqL K y d xs:=λh=>SqL.of h;have R:∀z:Int,0<=z % m/\z % m<m:=λz=>⟨Int.emod_nonneg _ (by omega),Int.emod_lt_of_pos _ (by omega)⟩
 refine⟨_,BL (Ql (Gv XD (Eu ix_list (pv 0) A_ (λ_ _=>rfl)) A_ (Ag _))
   (BL (FO (i:=2) j1.nd rfl (TW rfl) (CA D5 (Eu ix_list (pv 0) A_ (λ_ _=>rfl)) (pv 1)))
   (BL (MW (CA Ma (Eu ix_list (pv 0) A_ (λ_ _=>rfl)) (pv 1)) (Ps (pv 0) A_ set_list))
   (Cb (GV (pv 2))))) MV)
  (BL (FO (i:=3) j1.nd rfl (TW rfl) (Eu ix_list (pv 0) A_ (λ_ _=>rfl)))
  (BL (MW (CA op_add (pv 3) A_) (Ps (pv 0) A_ set_list))
  (BL (FO (i:=4) j1.nd rfl (TW rfl) (N6 (Gv (R8 hu) (Eu ix_list (pv 0) A_ (λ_ _=>rfl)) (Pu B0) (Ag _))
   (Eu ix_list (Eu ix_list (pv 0) A_ (λ_ _=>rfl)) (CA D5 (pv 3) (Cv As rfl ml PySem.boot_len (BB (Eu ix_list (pv 0) A_ (λ_ _=>rfl)) B0))) (λ_ _=>rfl)) A_))
  (BL (Ql (PW.pt (T_ (Gv Z2 (pv 4) (CA Eo A_ A_) (Ag _)) (Qh (Gv op_lt (pv 3) (Cv As rfl ml PySem.boot_len (BB (Eu ix_list (pv 0) A_ (λ_ _=>rfl)) B0)) (Ag _)))))
   (BL (MW (CA Ma (pv 4) (pv 1)) (Ps (pv 0) A_ set_list))
   (Cb (GV (CA D5 (pv 4) (pv 1))))) MV)
  (BL (FO (i:=5) j1.nd rfl (TW rfl) (CA D5 (CA op_mul (CA op_add (CA op_add (CA op_add (CA D5 (pv 4) A_) (CA op_mul (CA op_mul A_ (pv 3)) (pv 3))) (CA op_mul A_ (pv 3))) A_) A_) A_))
  (Cb (GV (CA D5 (CA Ma (CA D5 (CA op_mul (CA op_add (pv 5) (CA op_mul A_ (pv 3))) A_) A_) A_) (pv 1))))))))),?_⟩
 refine⟨_,rfl,d,_,2,_,rfl,rfl,l J,rfl,_,_,rfl,rfl,_,rfl,?_⟩;refine B3 (λc1=>?_) (λc1=>?_)
 ·refine⟨_,rfl,d,_,2,_,rfl,rfl,l J,rfl,_,rfl,_,_,rfl,rfl,(by show (0:Int)<m; omega),?_⟩
  refine⟨_,rfl,d,_,2,_,rfl,rfl,l J,rfl,_,rfl,_,_,rfl,rfl,⟨(by show (0:Int)<m; omega),S⟩,_,rfl,d,_,2,2,rfl,rfl,J,rfl,?_⟩;refine⟨_,rfl,?_⟩;exact N a _ _ _ (λb o e v=>by rw [AQ v]; exact e) AX a4 (by omega) (R _).1 (R _).2
 ·-- at=feed[1]; feed[1]=at+1
  refine⟨_,rfl,d,_,1,_,rfl,rfl,l J,rfl,?_⟩;refine⟨_,rfl,_,_,rfl,rfl,_,rfl,d,_,1,1,rfl,rfl,J,rfl,?_⟩;generalize Y:A4 H d (.lst ([V.ref c,V.int a,V.int r].set 1 (V.int (a+1))))=H1;have f1:H1 d=some (.lst [.ref c,.int (a+1),.int r]):=by rw [← Y]; exact AX
  have k1:∀b o,H b=some o->b≠d->H1 b=some o:=λb o e v=>by rw [← Y,AQ v]; exact e
  have B:H1 c=some (.lst (u.map V.int)):=k1 c _ hc.2 L
  have D:∀(z:Int) (H2:Hp),(∀b o,H1 b=some o->H2 b=some o) ->
    (Rl (ZY (Ze (Qb (EK (IY λi j=>V.bl (decide (j<=i))) (CH 4) (EK (rI Ik λi j=>V.int (i ^ j.toNat)) (tC (V.int 10)) (tC (V.int 18))))) (Qb (EK (IY λi j=>V.bl (decide (i<j))) (CH 3) (al (λxs H Q=>∃x n,xs=[x]/\Y9 K x H n/\Q (V.int n) H) (Qc (EK (X9 K) (CH 0) (tC (V.int 0))) Ve))))) (Rl (Nj (EK (rI Wn λi j=>V.int (i / j)) (CH 4) (CH 1)) (aD (CH 0) (tC (V.int 2)) W3)) (Va (EK (rI (λ_ j=>0<j) λi j=>V.int (i % j)) (CH 4) (CH 1)))) Wx) (Rl (Nj (EK (rI (λ_ j=>0<j) λi j=>V.int (i % j)) (EK (rI CMul λi j=>V.int (i*j)) (EK (IY λi j=>V.int (i+j)) (EK (IY λi j=>V.int (i+j)) (EK (IY λi j=>V.int (i+j)) (EK (rI (λ_ j=>0<j) λi j=>V.int (i % j)) (CH 4) (tC (V.int 1000003))) (EK (rI CMul λi j=>V.int (i*j)) (EK (rI CMul λi j=>V.int (i*j)) (tC (V.int 41)) (CH 3)) (CH 3))) (EK (rI CMul λi j=>V.int (i*j)) (tC (V.int 17)) (CH 3))) (tC (V.int 3))) (tC (V.int 51749))) (tC (V.int 999917))) (IB 5)) (Va (EK (rI (λ_ j=>0<j) λi j=>V.int (i % j)) (EK (rI Wn λi j=>V.int (i / j)) (EK (rI (λ_ j=>0<j) λi j=>V.int (i % j)) (EK (rI CMul λi j=>V.int (i*j)) (EK (IY λi j=>V.int (i+j)) (CH 5) (EK (rI CMul λi j=>V.int (i*j)) (tC (V.int 8111)) (CH 3))) (tC (V.int 39373))) (tC (V.int 2097143))) (tC (V.int 3))) (CH 1)))))
     { nx:=λ_ y=>Q .non y,rt:=Q } [some (.ref d),some (.int m),none,some (.int a),some (.int z),none] H2:=by
   intro z H2 k2;have f2:=k2 _ _ f1;have c2:=k2 _ _ B
   have t:∀H3:Hp,H3=H2->(Rl (Nj (EK (rI (λ_ j=>0<j) λi j=>V.int (i % j)) (EK (rI CMul λi j=>V.int (i*j)) (EK (IY λi j=>V.int (i+j)) (EK (IY λi j=>V.int (i+j)) (EK (IY λi j=>V.int (i+j)) (EK (rI (λ_ j=>0<j) λi j=>V.int (i % j)) (CH 4) (tC (V.int 1000003))) (EK (rI CMul λi j=>V.int (i*j)) (EK (rI CMul λi j=>V.int (i*j)) (tC (V.int 41)) (CH 3)) (CH 3))) (EK (rI CMul λi j=>V.int (i*j)) (tC (V.int 17)) (CH 3))) (tC (V.int 3))) (tC (V.int 51749))) (tC (V.int 999917))) (IB 5)) (Va (EK (rI (λ_ j=>0<j) λi j=>V.int (i % j)) (EK (rI Wn λi j=>V.int (i / j)) (EK (rI (λ_ j=>0<j) λi j=>V.int (i % j)) (EK (rI CMul λi j=>V.int (i*j)) (EK (IY λi j=>V.int (i+j)) (CH 5) (EK (rI CMul λi j=>V.int (i*j)) (tC (V.int 8111)) (CH 3))) (tC (V.int 39373))) (tC (V.int 2097143))) (tC (V.int 3))) (CH 1))))
     { nx:=λ_ y=>Q .non y,rt:=Q } [some (.ref d),some (.int m),none,some (.int a),some (.int z),none] H3:=by
    intro H3 e3;subst e3;have v:CMul (41*a) a:=.inr ⟨by omega,by omega⟩;refine⟨_,rfl,_,_,rfl,rfl,(by show (0:Int)<1000003; decide),_,rfl,_,_,rfl,rfl,.inl ⟨by decide,by decide⟩,_,rfl,_,_,rfl,rfl,v,_,_,rfl,rfl,_,rfl,_,_,rfl,rfl,.inl ⟨by decide,by decide⟩,_,_,rfl,rfl,_,_,rfl,rfl,_,_,rfl,rfl,.inr ⟨by decide,by decide⟩,_,_,rfl,rfl,(by show (0:Int)<999917; decide),?_⟩;refine⟨_,rfl,_,rfl,_,_,rfl,rfl,.inl ⟨by decide,by decide⟩,_,_,rfl,rfl,_,_,rfl,rfl,.inr ⟨by decide,by decide⟩,_,_,rfl,rfl,(by show (0:Int)<2097143; decide),_,_,rfl,rfl,⟨by decide,by decide⟩,_,rfl,_,_,rfl,rfl,(by show (0:Int)<m; omega),?_⟩;exact N (a+1) r _ _ (λb o e v=>k2 b o (k1 b o e v)) f2 (by omega) (by omega) (R _).1 (R _).2
   refine⟨_,rfl,_,_,rfl,rfl,⟨by decide,by decide,by decide⟩,_,_,rfl,rfl,_,rfl,?_⟩;refine B3 (λc3=>?_) (λc3=>?_)
   ·refine⟨_,rfl,_,rfl,d,_,0,_,rfl,rfl,l f2,rfl,_,_,rfl,.inl ⟨_,SqL.of c2,rfl⟩,_,_,rfl,rfl,_,rfl,?_⟩
    refine B3 (λc4=>?_) (λc4=>t H2 rfl);refine⟨_,rfl,_,rfl,_,_,rfl,rfl,⟨(by show (0:Int)<m; omega),S⟩,_,rfl,d,_,2,2,rfl,rfl,f2,rfl,?_⟩;refine⟨_,rfl,_,rfl,_,_,rfl,rfl,(by show (0:Int)<m; omega),?_⟩;exact N (a+1) _ _ _ (λb o e v=>by rw [AQ v]; exact k2 b o (k1 b o e v)) AX (by omega) (by omega) (R _).1 (R _).2
   ·refine B3 (λc4=>absurd c4 (by simp)) (λ_=>t H2 rfl)
  refine⟨_,rfl,d,_,0,_,rfl,rfl,l f1,rfl,(by show 0<=sizeLine; decide),λp hp=>?_⟩;have O:∀b o,H1 b=some o->A4 H1 p (.lst []) b=some o:=λb o e=>by rw [AQ (A0 e hp)]; exact e
  refine⟨c,p,_,rfl,rfl,SqL.of (O _ _ B),SqL.of AX,_,rfl,?_⟩;cases u with
  | nil=>exact BQ (D 0 _ O)
  | cons G C =>
   refine Bi ?_;have a7:(((G::C).map V.int).length:Int)=(C.length:Int)+1:=by simp
   have I:(0:Int)<(((G::C).map V.int).length:Int):=by omega
   obtain⟨z,hz⟩:∃z,atI ((G::C).map V.int) (a % (((G::C).map V.int).length:Int))=some (.int z):=by
    have h1:=Int.emod_nonneg a (show (((G::C).map V.int).length:Int)≠0 by omega);have Z:=Int.emod_lt_of_pos a I;generalize a % (((G::C).map V.int).length:Int)=j at h1 Z;obtain⟨k,rfl⟩:∃k:Nat,j=(k:Int):=⟨j.toNat,by omega⟩;have hk:k<(G::C).length:=by rw [Go] at Z; omega
    refine⟨(G::C)[k],AO ?_⟩;rw [dR,No hk];rfl
   refine⟨_,rfl,d,_,0,_,rfl,rfl,l (O _ _ f1),rfl,_,rfl,_,rfl,d,_,0,_,rfl,rfl,l (O _ _ f1),rfl,_,_,rfl,.inl ⟨_,SqL.of (O _ _ B),rfl⟩,_,_,rfl,rfl,I,c,_,_,_,rfl,rfl,SqL.of (O _ _ B),hz,?_⟩;exact D z _ O
end
end K14
namespace Nt
open L2 Dp
abbrev EE(a:D->Nat->Prop):E2:={ nx:=λn _=>Kd.sh=.sh/\a .non n,rt:=a }
theorem BO{b:BW}{k:DW}{P:List D->Nat->Prop}(g:D->D)(I:List Slot->Prop):∀(e a:List D) (n:Nat) (c:List Slot),
  (∀d∈e,∀(c:List Slot) (n:Nat) (l:D->Nat->List Slot->Prop),I c->(∀i,I i->l (g d) n i)->b d c λm=>k n m λy p=>l y p m)->I c->P (a++e.map g) n->Ci b CW k P e a n c
 | [],a,n,c,_,_,h=>by rw [jP,dS] at h; exact h
 | d::e,a,n,c,o,j,h=>o d Op c n _ j λi f =>
  BO g I e _ n _ (λd q=>o d (Re _ q)) f (by simp_all)
theorem Og{b:Type}{l:List b}{p:b->Bool}{P:D->Prop}(h:P (.bl (l.all p))):Oh [.lst (l.map λa=>.bl (p a))] P :=
 ⟨_,_,rfl,HB p l,by simp_all⟩
theorem Kf{b1 b2:Bool}{P:D->Nat->Prop}{n:Nat}{k:(D->Nat->Prop)->Prop}(a:b1=true->P (.bl b2) n->k P)(h:P (.bl (b1&&b2)) n):(match (.bl b1:D) with | .bl true=>k P | .bl false=>P (.bl false) n | _=>False):=VM a h
abbrev Wb(g:D->Bool):W2:=W9 1 λa=>.bl (g (a.getD 0 .non))
theorem Wb.out{g:D->Bool}{a:List Slot}{n:Nat}{P:D->Nat->Prop}(h:Wb g a n P):∃d,a=[.sh d]/\P (.bl (g d)) n:=by
 obtain⟨b,c,rfl,h⟩:=h
 match b,c with
 | [d],_=>simp_all
def S6:D->Bool
 | .int _=>true
 | _=>false
def G1:D->Bool
 | .int i=>decide (1<=i)&&decide (i<=1000000)
 | _=>false
def tupleOfB(k:Int):D->Bool
 | .tup a=>((a.length:Int)==k)
 | _=>false
def CC:D->Bool
 | .str x=>(decide (1<=x.length)&&decide (x.length<=8))&&(cs x).all λc=>decide (97<=c)&&decide (c<=122)
 | _=>false
def He(d e:D):Option Bool:=match d,e with
 | .int i,.int j=>some (decide (i<j))
 | .str i,.str j=>some (decide (cs i<cs j))
 | .tup c,.tup f=>match Hz c,Hz f with
  | some a,some b=>if CS a b then some (GY a b) else none
  | _,_=>none
 | _,_=>none
theorem Q5{d e:D}{b:Bool}{P:D->Prop}(h:He d e=some b)(p:P (.bl b)):EV d e P:=by
 unfold He at h
 split at h
 ·cases h; exact p
 ·cases h; exact p
 ·split at h
  ·rename_i a c f g
   split at h
   ·rename_i i
    cases h;exact⟨a,c,f,g,i,p⟩
   ·cases h
  ·cases h
 ·cases h
def Kh:List D->Bool
 | x::y::r=>(He x y==some true)&&Kh (y::r)
 | _=>true
abbrev NS:W2:=Wb S6
abbrev L4:W2:=Wb CC
abbrev Fq:W2:=λa n P=>∃k d,a=[.sh (.int k),.sh d]/\P (.bl (tupleOfB k d)) n
abbrev DB:W2:=λc n P=>∃d a,c=[.sh d]/\IU d=some a/\a.length<=1000/\(∀x∈a,∀y∈a,∃b,He x y=some b)/\P (.bl (Kh a)) n
def QK:Aj:=(Au (HJ (Eh "int" (AB 0)) (Xn (Eh "bool" (AB 0)))))
def LB:Aj:=(Au (HJ (Eh "tuple" (AB 1)) (AU (D_ false) (B8 Ce (AF (AB 1) AT)) (AB 0))))
def O5:Aj:=(Au (B8 Oh (AF (BR [none,none] (VX (AF (AB 0) (AF (F5 CJ (AB 0) (BK (wC (D.int 1))) A6) AT))) (E9 2 (Ay (Af 0) (Ay (Af 1) Cj))) CW (AU EV (AB 0) (AB 1))) AT)))
section
variable {ss:List Slot}{n:Nat}{Pd:D->Nat->Prop}
theorem N0(h:NS ss n Pd):QK (EE Pd) n (ss++Uf 0 .no):=by
 obtain⟨d,rfl,q⟩:=h.out;cases d <;> exact q
theorem Jg(h:Fq ss n Pd):LB (EE Pd) n (ss++Uf 0 .no):=by
 obtain⟨k,d,rfl,h⟩:=h;cases d with
 | tup a=>exact⟨_,_,rfl,rfl,h⟩
 | _=>exact h
theorem Rn(x:Str):(Dp.signs x).length=x.length:=by unfold Dp.signs; rw [Go]; exact DY x
theorem Ys{b:Type}(a:List b):Dp.cutD a (some 1) none=a.drop 1:=by
 unfold Dp.cutD;rw [HT.sIx_none,show 1=((1:Nat):Int) from rfl,HT.sIx_nat]
 by_cases h:1<=a.length
 ·rw [gj h]
  exact jc (by simp_all)
 grind
theorem RH:∀c:List D,((Gi c (c.drop 1)).all λd=>match d with | .tup [a,b]=>He a b==some true | _=>false)=Kh c
 | []=>rfl
 | [x]=>rfl
 | x::y::r=>by
  have e:=RH (y::r);show ((Gi _ (y::r)).all _)=_;unfold Gi Kh;rw [List.zipWith_cons_cons,fB]
  congr 1
theorem VU{c e:List D}{d:D}(h:d∈Gi c e):∃a∈c,∃b∈e,d=.tup [a,b]:=by
 unfold Gi at h;obtain⟨i,f⟩:=List.getElem?_of_mem h;rw [jg] at f;cases g:c[i]? with
 | none=>simp_all
 | some a =>
  cases j:e[i]? with
  | none=>simp_all
  | some b =>
   rw [g,j] at f;exact⟨a,dj g,b,dj j,(cv f).symm⟩
theorem MU(h:DB ss n Pd):O5 (EE Pd) n (ss++Uf 0 .no):=by
 obtain⟨d,c,rfl,e,A,f,h⟩:=h
 have i:(Gi c (c.drop 1)).length<=10000000/\Ci (E9 2 (Ay (Af 0) (Ay (Af 1) Cj))) CW (AU EV (AB 0) (AB 1)) (λg k=>Oh [.lst g] λz=>Pd z k) (Gi c (c.drop 1)) [] n [.no,.no]:=by
  refine⟨by unfold Gi; rw [List.length_zipWith]; omega,?_⟩;refine BO (λd=>.bl (match d with | .tup [a,b]=>He a b==some true | _=>false)) (λj=>∃s t,j=[s,t]) _ _ _ _ ?_ ⟨_,_,rfl⟩ ?_
  ·rintro z l j m o ⟨s,t,rfl⟩ q
   obtain⟨a,u,b,v,rfl⟩:=VU l;obtain⟨r,w⟩:=f a u b (gS v);refine⟨rfl,rfl,?_⟩;show EV a b λy=>o y m [.sh a,.sh b];refine Q5 w ?_
   simp_all
  ·rw [cy]
   refine Og (p:=fun(d:D)=>match d with | .tup [a,b]=>He a b==some true | _=>false) ?_;rw [RH];exact h
 cases d with
 | lst x =>
  cases e;exact⟨_,_,c,c.drop 1,rfl,rfl,by rw [Ys]; rfl,i⟩
 | tup x =>
  cases e;exact⟨_,_,c,c.drop 1,rfl,rfl,by rw [Ys]; rfl,i⟩
 | _=>cases e
end
def IT:D->Bool
 | .tup [a,b,c]=>(CC a&&CC b)&&((He a b==some true)&&G1 c)
 | _=>false
def Iu:D->Bool
 | .tup a=>decide (a.length<=24)&&(a.all CC&&Kh a)
 | _=>false
def EA(c:List Str):D->Bool
 | .tup [.str a,.str b,_]=>c.any (·==a)&&c.any (·==b)
 | _=>false
def FY:D->D
 | .tup (a::b::_)=>.tup [a,b]
 | d=>d
def Ww(b:List Str):D->Bool
 | .tup a=>decide (a.length<=60)&&(a.all IT&&(a.all (EA b)&&Kh (a.map FY)))
 | _=>false
def strsOf(a:List D):List Str:=(O8 a).getD []
def PN(p t:D):Bool:=match p with
 | .tup a=>Ww (strsOf a) t
 | _=>false
def P1:D->Bool
 | .tup [p,t]=>Iu p&&PN p t
 | _=>false
abbrev RR:W2:=Wb P1
theorem VO{a:Type}(p:a->Bool)(l:List a):(l.map p).all id=l.all p:=by simp_all
theorem nameB_iff{d:D}:CC d=true↔∃x,d=.str x/\D9 x:=by
 cases d with
 | str x =>
  simp [CC,D9];constructor
  ·simp_all
  simp_all
 | _=>exact⟨(λh=>by cases h),fun⟨x,e,_⟩=>(by cases e)⟩
theorem Nm{x:Str}(h:∀c∈cs x,c<1114112):PyData.strOk x=true:=by
 unfold PyData.strOk;rw [← Array.all_toList,d9];intro c a;exact decide_eq_true (h c a)
theorem Jz{x:Str}(h:D9 x):D7 (.str x):=⟨rfl,Nm λc a=>by have:=h.2.2 c a; omega,TM _⟩
theorem OX{a:List Str}(h:∀p∈a,D9 p):CT (a.map .str)=true/\fi (Bk (a.map .str))=true/\eY (Bk (a.map .str))=0:=by
 induction a with
 | nil=>exact⟨rfl,rfl,rfl⟩
 | cons p r b =>
  obtain⟨e,c,f⟩:=b λq d=>h q (Re _ d);refine⟨by assumption,?_,?_⟩
  ·rw [dG,Bk,fi,c,Bool.and_true]
   exact(Jz (h p Op)).2.1
  assumption
theorem ER{ps:List Str}(h:∀p∈ps,D9 p):D7 (.tup (ps.map .str)):=by
 obtain⟨a,b,c⟩:=OX h;refine⟨a,b,?_⟩;show eY _+1<=100
 simp_all
theorem Iw(x y:Str):He (.str x) (.str y)=some (decide (cs x<cs y)):=rfl
theorem OJ{b:List D}(h:b.all CC=true):∃a:List Str,b=a.map .str/\∀p∈a,D9 p:=by
 induction b with
 | nil=>simp_all
 | cons d r c =>
  rw [fB,cq] at h;obtain⟨a,e,f⟩:=c h.2;obtain⟨x,rfl,g⟩:=nameB_iff.mp h.1;refine⟨x::a,by grind,λp i=>?_⟩
  grind
theorem B9(a:List Str):strsOf (a.map .str)=a:=by unfold strsOf; rw [HA]; rfl
section
theorem bF{d:D}(h:tupleOfB 3 d=true):∃a b c,d=.tup [a,b,c]:=by
 cases d with
 | tup e =>
  have:=eq_of_beq h
  match e,this with
  | [a,b,c],_=>grind
  | [],h=>cases h
  | [_],h=>cases h
  | [_,_],h=>cases h
  | _::_::_::_::r,h=>grind
 | _=>cases h
theorem Xr{d:D}(h:tupleOfB 2 d=true):∃a b,d=.tup [a,b]:=by
 cases d with
 | tup c =>
  have:=eq_of_beq h
  match c,this with
  | [a,b],_=>grind
  | [],h=>cases h
  | [_],h=>cases h
  | _::_::_::r,h=>grind
 | _=>cases h
theorem bT{d:D}(h:tupleOfB 3 d=false):IT d=false:=by
 cases d with
 | tup e =>
  match e,h with
  | [a,b,c],h=>cases h
  | [],_=>rfl
  | [_],_=>rfl
  | [_,_],_=>rfl
  | _::_::_::_::r,_=>rfl
 | _=>rfl
theorem Z4{d:D}(h:tupleOfB 2 d=false):P1 d=false:=by
 cases d with
 | tup c =>
  match c,h with
  | [a,b],h=>cases h
  | [],_=>rfl
  | [_],_=>rfl
  | _::_::_::r,_=>rfl
 | _=>rfl
theorem MC{d:D}(h:IT d=true):∃x y l,d=.tup [.str x,.str y,.int l]/\D9 x/\D9 y/\cs x<cs y/\1<=l/\l<=1000000:=by
 cases d with
 | tup i =>
  match i,h with
  | [a,b,c],h =>
   have f:((CC a&&CC b)&&((He a b==some true)&&G1 c))=true:=h;simp only [cq] at f;obtain⟨x,rfl,j⟩:=nameB_iff.mp f.1.1;obtain⟨y,rfl,k⟩:=nameB_iff.mp f.1.2;have e:=eq_of_beq f.2.1;have e:=of_decide_eq_true (cv e);cases c with
   | int l =>
    have g:(decide _&&decide _)=true:=f.2.2;rw [cq,decide_eq_true_eq,decide_eq_true_eq] at g;exact⟨x,y,l,rfl,j,k,e,g.1,g.2⟩
   | _=>cases f.2.2
  | [],h=>cases h
  | [_],h=>cases h
  | [_,_],h=>cases h
  | _::_::_::_::r,h=>cases h
 | _=>cases h
end
mutual
def fine(B:Nat):D->Prop
 | .int i=>i.natAbs<=B
 | .str x=>∀c∈cs x,c<1114112
 | .tup ds=>EU B ds
 | .lst ds=>EU B ds
 | .dic _ _=>False
 | .fdi _ _=>False
 | .dit _ _=>False
 | _=>True
def EU(B:Nat):List D->Prop
 | []=>True
 | d::ds=>fine B d/\EU B ds
end
mutual
def szD:D->Nat
 | .int _=>200
 | .str x=>x.length
 | .tup ds=>B7 ds
 | .lst ds=>B7 ds
 | _=>0
def B7:List D->Nat
 | []=>0
 | d::ds=>szD d+1+B7 ds
end
mutual
def Cr:D->Nat
 | .tup ds=>C9 ds+1
 | .lst ds=>C9 ds+1
 | _=>0
def C9:List D->Nat
 | []=>0
 | d::ds=>max (Cr d) (C9 ds)
end
theorem fines_iff{B:Nat}:∀{b:List D},EU B b↔∀d∈b,fine B d
 | []=>⟨(λ_ d h=>by cases h),λ_=>trivial⟩
 | d::b=>by
  have c:=@fines_iff B b;constructor
  ·rintro ⟨f,g⟩ e a
   rcases T0.mp a with rfl | a
   ·exact f
   ·exact c.mp g e a
  ·exact λh=>⟨h d Op,c.mpr λe a=>h e (Re _ a)⟩
theorem dps_le{k:Nat}:∀{a:List D},C9 a<=k↔∀d∈a,Cr d<=k
 | []=>⟨(λ_ d h=>by cases h),λ_=>TM _⟩
 | d::a=>by
  have c:=@dps_le k a;show max (Cr d) (C9 a)<=k↔_;rw [Nat.max_le,c];constructor
  ·rintro ⟨f,g⟩ e b
   rcases T0.mp b with rfl | b
   ·exact f
   ·exact g e b
  ·exact λh=>⟨h d Op,λe b=>h e (Re _ b)⟩
theorem Bl:∀(b a:List D),B7 (b++a)=B7 b+B7 a
 | [],a=>by simp [B7]
 | d::b,a=>by
  rw [f7];show szD d+1+B7 (b++a)=szD d+1+B7 b+B7 a;rw [Bl b a]; omega
theorem Io:∀(a:List D),B7 a.reverse=B7 a
 | []=>rfl
 | d::a=>by
  rw [gI,Bl,Io a];show B7 a+(szD d+1+0)=szD d+1+B7 a;omega
theorem Nk(a:List D)(k:Nat):B7 (a.take k)<=B7 a:=by
 have:=Bl (a.take k) (a.drop k)
 rw [gO] at this;omega
theorem Ti(a:List D)(k:Nat):B7 (a.drop k)<=B7 a:=by
 have:=Bl (a.take k) (a.drop k)
 rw [gO] at this;omega
theorem MD{c:List D}{d:D}(h:d∈c):szD d+1<=B7 c:=by
 obtain⟨a,b,rfl⟩:=List.append_of_mem h;rw [Bl];show _<=_+(szD d+1+B7 b);omega
theorem BU:∀(a:List D),a.length<=B7 a
 | []=>TM _
 | d::a=>by
  have:=BU a
  show a.length+1<=szD d+1+B7 a;omega
theorem B5(a:List D)(b c:Option Int):B7 (Dp.cutD a b c)<=B7 a:=cx (Nk _ _) (Ti _ _)
theorem BY{a:List D}{b c:Option Int}{d:D}(h:d∈Dp.cutD a b c):d∈a:=gS (iR h)
theorem Sf{B C:Nat}(h:B<=C):∀(n:Nat),(∀d:D,sizeOf d<=n->fine B d->fine C d)/\∀a:List D,sizeOf a<=n->EU B a->EU C a:=by
 intro n
 induction n with
 | zero =>
  refine⟨λd e _=>?_,λa e _=>?_⟩
  ·cases d <;> simp at e
  ·cases a <;> simp at e
 | succ n f =>
  refine⟨λd e c=>?_,λa e c=>?_⟩
  ·cases d with
   | int i=>exact cx (show i.natAbs<=B from c) h
   | str x=>exact c
   | tup a=>exact f.2 a (by simp at e; omega) c
   | lst a=>exact f.2 a (by simp at e; omega) c
   | dic g a=>exact(show False from c).elim
   | fdi g a=>exact(show False from c).elim
   | dit g a=>exact(show False from c).elim
   | non=>trivial
   | bl b=>trivial
  ·cases a with
   | nil=>trivial
   | cons d a=>exact⟨f.1 d (by simp at e; omega) c.1,f.2 a (by simp at e; omega) c.2⟩
theorem fine.mono{B C:Nat}{d:D}(a:fine B d)(h:B<=C):fine C d:=(Sf h _).1 d (On _) a
mutual
theorem M5{B:Nat}(hB:B<10 ^ 45):∀{d:D},fine B d->FP d=true/\(toPy d).showable=true/\(toPy d).canLay0=true/\(toPy d).depth=Cr d/\(toPy d).leavesShort 60=true/\(toPy d).weight<=szD d
 | .non,_=>⟨rfl,rfl,rfl,rfl,rfl,On _⟩
 | .bl b,_=>⟨rfl,rfl,rfl,rfl,rfl,On _⟩
 | .int i,h=>by
  have h':i.natAbs<=B:=h;have hlt:i.natAbs<10 ^ 45:=fD h' hB;have h2:i.natAbs<2 ^ 150:=iI hlt (by decide)
  have hl:i.natAbs.log2<150:=by
   by_cases h0:i.natAbs=0
   ·rw [h0]; decide
   ·exact(Nat.log2_lt h0).mpr h2
  refine⟨rfl,?_,rfl,rfl,?_,?_⟩
  ·show decide (i.natAbs.log2<1920)=true
   exact decide_eq_true (by omega)
  ·show decide ((jx (.int i)).length<=60)=true
   refine decide_eq_true ?_
   have:=int_text_length_le10 (a:=i) (k:=45) (by decide) hlt
   show (dk (toString i)).length<=60;rw [PySem.ofString_length];omega
  ·show (if i==0 then 0 else i.natAbs.log2+1)<=200
   split <;> omega
 | .str x,h=>by
  have h':∀c∈cs x,c<1114112:=h;refine⟨rfl,rfl,Nm h',rfl,?_,On _⟩;show (x.cps.toList.all λc=>decide (c<16 ^ 8))=true;rw [d9];intro c hc;exact decide_eq_true (iI (h' c hc) (by decide))
 | .tup ds,h=>by
  obtain⟨h1,h2,h3,h4,h5,h6⟩:=KD hB (ds:=ds) h;refine⟨h1,h2,h3,?_,h5,h6⟩;show eY (Bk ds)+1=C9 ds+1;rw [h4]
 | .lst ds,h=>by
  obtain⟨h1,h2,h3,h4,h5,h6⟩:=KD hB (ds:=ds) h;refine⟨h1,h2,h3,?_,h5,h6⟩;show eY (Bk ds)+1=C9 ds+1;rw [h4]
 | .dic ks ds,h=>(show False from h).elim
 | .fdi ks ds,h=>(show False from h).elim
 | .dit ks ds,h=>(show False from h).elim
theorem KD{B:Nat}(hB:B<10 ^ 45):∀{ds:List D},EU B ds->CT ds=true/\PyData.showableAll (Bk ds)=true/\fi (Bk ds)=true/\eY (Bk ds)=C9 ds/\ji 60 (Bk ds)=true/\PyData.weightAll (Bk ds)<=B7 ds
 | [],_=>⟨rfl,rfl,rfl,rfl,rfl,On _⟩
 | d::ds,h=>by
  obtain⟨h1,h2,h3,h4,h5,h6⟩:=M5 hB (d:=d) h.1;obtain⟨g1,g2,g3,g4,g5,g6⟩:=KD hB (ds:=ds) h.2;refine⟨?_,?_,?_,?_,?_,?_⟩
  ·show (FP d&&CT ds)=true
   rw [h1,g1]; rfl
  ·show ((toPy d).showable&&PyData.showableAll (Bk ds))=true
   rw [h2,g2]; rfl
  ·show ((toPy d).canLay0&&fi (Bk ds))=true
   rw [h3,g3]; rfl
  ·show max (toPy d).depth (eY (Bk ds))=max (Cr d) (C9 ds)
   rw [h4,g4]
  ·show ((toPy d).leavesShort 60&&ji 60 (Bk ds))=true
   rw [h5,g5]; rfl
  ·show (toPy d).weight+1+PyData.weightAll (Bk ds)<=szD d+1+B7 ds
   omega
end
theorem Np{B:Nat}{d:D}(a:B<10 ^ 45)(h:fine B d)(hd:Cr d<=100)(g:szD d<=270000):Gr d:=by
 obtain⟨b,c,i,e,f,j⟩:=M5 a h;refine⟨b,c,by rw [e]; exact hd,?_⟩
 have:=PyData.shown_le 60 (by decide) (toPy d) f
 rw [PySem.sizeLine_eq]
 have:62*(toPy d).weight<=62*270000:=Nat.mul_le_mul_left _ (by omega)
 omega
theorem Ip{B:Nat}{d:D}(a:B<10 ^ 45)(h:fine B d)(hd:Cr d<=100)(b:szD d<=200000):Gr d:=Np a h hd (by omega)
theorem CI{B:Nat}{d:D}(a:B<10 ^ 45)(h:fine B d)(hd:Cr d<=100):D7 d:=by
 obtain⟨b,f,c,e,g,i⟩:=M5 a h;exact⟨b,c,by rw [e]; exact hd⟩
def VT:W2:=λb n P=>∃(d:D) (B:Nat),b=[.fd,.sh d]/\fine B d/\2000000<=B/\B<10 ^ 40/\szD d<=80000/\2<=n/\∀(e:D) (a:Nat),fine (B+1) e->szD e<=2*szD d+250->Cr e<=Cr d+1->n - 2<=a->P e a
def Kb:Aj:=(Ac (EI 2 (DA (AF (wC D.non) (AF (wC (D.bl true)) (AF (wC (D.int 0)) (AF (wC (D.int 1)) (AF (Eg (wC (D.int 1))) (AF (wC (D.str "a")) (AF (wC (D.str "b")) (AF (BN AT) (AF (DA AT) (AF (AU (PK Ik λi j=>D.int (i ^ j.toNat)) (wC (D.int 10)) (wC (D.int 6))) (AF (AU Aq (AU (PK Ik λi j=>D.int (i ^ j.toNat)) (wC (D.int 10)) (wC (D.int 6))) (wC (D.int 1))) (AF (wC (D.str "abcdefghi")) (AF (wC (D.str "B")) (AF (AB 1) AT))))))))))))))))
 (Ac (BG (AR (TJ "tuple" "list" (AB 1))) (Ac (Az 3 (AZ BA (AE (Aw 0) (AE (AI (AU Aq (B8 Ce (AF (AB 1) AT)) (wC (D.int 1)))) AY))))
 (Ac (EI 2 (AU XM (BE 2) (DA (AF (B8 M6 (AF (AB 1) AT)) (AF (B8 B6 (AF (AB 1) AT)) (AF (Rc (AB 1) (Eg (wC (D.int 1)))) (AF (AU Aq (F5 CJ (AB 1) A6 (BK (AB 3))) (F5 CJ (AB 1) (BK (AU Aq (AB 3) (wC (D.int 1)))) A6)) AT)))))))
 (TF 2 "list" KH (AF (AU Aq (AU Aq (F5 CJ (AB 1) A6 (BK (AB 3))) (F5 CJ (AB 1) (BK (AB 3)) (BK (AU Aq (AB 3) (wC (D.int 1)))))) (F5 CJ (AB 1) (BK (AB 3)) A6)) AT)))) Av)
 (Ac (BG (AR (Eh "int" (AB 1))) (EI 2 (AU XM (BE 2) (DA (AF (AU Aq (AB 1) (wC (D.int 1))) (AF (AU IC (AB 1) (wC (D.int 1))) (AF (AU Uy (AB 1) (wC (D.int 1))) (AF (B8 Uw (AF (AB 1) AT)) (AF (AU IC (wC (D.int 0)) (AB 1)) AT)))))))) Av)
 (Au (AU A8 (BE 2) (AZ BA (AE (Aw 0) (AE (AI (B8 Ce (AF (BE 2) AT))) AY))))))))
theorem Li(i:Int):∀c∈cs (dk (toString i)),c<1114112:=by
 intro c a
 by_cases h:c=45\/(48<=c/\c<=57)
 ·omega
 ·exact absurd a (int_text_free' c (by omega) i)
theorem Lr(b:List D)(a:Int)(h:0<=a):B7 (Dp.cutD b none (some a))+B7 (Dp.cutD b (some a) (some (a+1)))<=B7 b:=by
 obtain⟨k,rfl⟩:∃k:Nat,a=k:=⟨a.toNat,by omega⟩
 have c:Dp.cutD b none (some k)=b.take (min k b.length):=by
  unfold Dp.cutD;rw [HT.sIx_none,HT.sIx_nat,jh,Nat.sub_zero]
 have d:Dp.cutD b (some (k:Int)) (some ((k:Int)+1))=(b.drop (min k b.length)).take (min (k+1) b.length - min k b.length):=by
  unfold Dp.cutD;rw [show ((k:Int)+1)=(k+1:Nat) by omega,HT.sIx_nat,HT.sIx_nat]
 rw [c,d];have e:=Bl (b.take (min k b.length)) (b.drop (min k b.length));rw [gO] at e;have f:=Nk (b.drop (min k b.length)) (min (k+1) b.length - min k b.length);omega
section
variable {ss:List Slot}{n:Nat}{Pd:D->Nat->Prop}
theorem X5(s:VT ss n Pd):Kb (EE Pd) n (ss++Uf 2 .no):=by
 obtain⟨d,B,rfl,v,S,w,I,hn,p⟩:=s
 have g:∀(o:List D),(∀z∈o,fine (B+1) z/\szD z<=2*szD d+250/\Cr z<=Cr d+1)->1<=o.length->o.length<=100->∀(m:Nat) (O:Slot),n - 1<=m ->
   (Au (AU A8 (BE 2) (AZ BA (AE (Aw 0) (AE (AI (B8 Ce (AF (BE 2) AT))) AY))))) (EE Pd) m [.fd,.sh d,.ow (.lst o),O]:=by
  intro o J A P m O hm;refine⟨_,_,rfl,rfl,(o.length:Int),rfl,by omega,by omega,by omega,λr s A=>?_⟩;obtain⟨k,rfl⟩:∃k:Nat,r=(k:Int):=⟨r.toNat,by omega⟩;have K:k<o.length:=by omega
  refine⟨o[k],AO (No K),?_⟩;obtain⟨T,U,V⟩:=J o[k] (dY K);exact p _ _ T U V (by omega)
 have self:fine (B+1) d/\szD d<=2*szD d+250/\Cr d<=Cr d+1:=⟨v.mono (by omega),by omega,by omega⟩
 have j:∀z∈[D.non,.bl true,.int 0,.int 1,.int (-1),.str "a",.str "b",.tup [],.lst [],.int (10 ^ (6:Int).toNat),.int (10 ^ (6:Int).toNat+1),.str "abcdefghi",.str "B",d],fine (B+1) z/\szD z<=2*szD d+250/\Cr z<=Cr d+1:=by
  have t:∀x∈[("a":Str),"b","abcdefghi","B"],(∀c∈cs x,c<1114112)/\x.length<=9:=by decide +kernel
  have u:∀i:Int,i.natAbs<=1000001->fine (B+1) (.int i):=λi h=>show i.natAbs<=B+1 by omega
  intro z e;simp only [T0,c6,or_false] at e
  rcases e with rfl | rfl | rfl | rfl | rfl | rfl | rfl | rfl | rfl | rfl | rfl | rfl | rfl | rfl
  ·exact⟨trivial,TM _,TM _⟩
  ·exact⟨trivial,TM _,TM _⟩
  ·exact⟨u _ (by decide),by show 200<=_; omega,TM _⟩
  ·exact⟨u _ (by decide),by show 200<=_; omega,TM _⟩
  ·exact⟨u _ (by decide),by show 200<=_; omega,TM _⟩
  ·exact⟨(t _ (by simp)).1,cx (t _ (by simp)).2 (by omega),TM _⟩
  ·exact⟨(t _ (by simp)).1,cx (t _ (by simp)).2 (by omega),TM _⟩
  ·exact⟨trivial,TM _,by show 0+1<=_; omega⟩
  ·exact⟨trivial,TM _,by show 0+1<=_; omega⟩
  ·exact⟨u _ (by decide),by show 200<=_; omega,TM _⟩
  ·exact⟨u _ (by decide),by show 200<=_; omega,TM _⟩
  ·exact⟨(t _ (by simp)).1,cx (t _ (by simp)).2 (by omega),TM _⟩
  ·exact⟨(t _ (by simp)).1,cx (t _ (by simp)).2 (by omega),TM _⟩
  ·exact self
 have l:∀(o f:List D),(∀z∈o,fine (B+1) z/\szD z<=2*szD d+250/\Cr z<=Cr d+1)->(∀z∈f,fine (B+1) z/\szD z<=2*szD d+250/\Cr z<=Cr d+1)->∀z∈o++f,fine (B+1) z/\szD z<=2*szD d+250/\Cr z<=Cr d+1:=λo f A P z I=>(cu.mp I).elim (A z) (P z);unfold Kb;refine⟨1,rfl,(by decide:0<=sizeLine),(by decide:0<=sizeLine),⟨by decide,by decide,by decide⟩,⟨by decide,by decide,by decide⟩,(by decide:14<=sizeLine),?_⟩;have W:=PySem.sizeLine_eq;cases d with
 | non=>exact⟨trivial,g _ j (by simp) (by simp) n .no (by omega)⟩
 | str x=>exact⟨trivial,g _ j (by simp) (by simp) n .no (by omega)⟩
 | bl k =>
  refine⟨trivial,?_⟩;have L:D7 (.bl k):=CI (B:=B) (by omega) v (TM _);have M:D7 (.int 1):=CI (B:=B) (d:=.int 1) (by omega) (show (1:Int).natAbs<=B by omega) (TM _);refine⟨L,M,(by decide:5<=sizeLine),(by show 14+5<=sizeLine; decide),?_⟩;refine g _ (l _ _ j ?_) (by simp) (by simp) n .no (by omega);intro z e;simp only [T0,c6,or_false] at e;have K:(bI k).natAbs<=1:=by cases k <;> decide
  rcases e with rfl | rfl | rfl | rfl | rfl
  ·exact⟨show (bI k+1).natAbs<=B+1 by omega,by show 200<=_; omega,TM _⟩
  ·exact⟨show (bI k - 1).natAbs<=B+1 by omega,by show 200<=_; omega,TM _⟩
  ·exact⟨trivial,TM _,TM _⟩
  ·have:∀k:Bool,(∀c∈cs (if k then ("True":Str) else "False"),c<1114112)/\(if k then ("True":Str) else "False").length<=5:=by decide +kernel
   exact⟨(this k).1,cx (this k).2 (by omega),TM _⟩
  ·exact⟨show (0 - bI k).natAbs<=B+1 by omega,by show 200<=_; omega,TM _⟩
 | int i =>
  refine⟨trivial,?_⟩;have u:i.natAbs<=B:=v;have L:D7 (.int i):=CI (B:=B) (by omega) v (TM _);have M:D7 (.int 1):=CI (B:=B) (d:=.int 1) (by omega) (show (1:Int).natAbs<=B by omega) (TM _)
  have C:i.natAbs.log2<1920:=by
   by_cases s:i.natAbs=0
   ·rw [s]; decide
   ·exact iI ((Nat.log2_lt s).mpr (iI (fD u w) (by decide:10 ^ 40<2 ^ 150))) (by decide)
  have Q:(dk (toString i)).length<=41:=by
   rw [PySem.ofString_length];exact int_text_length_le10 (k:=40) (by decide) (fD u w)
  refine⟨L,M,C,by omega,(by decide:5<=sizeLine),(by show 14+5<=sizeLine; decide),?_⟩;refine g _ (l _ _ j ?_) (by simp) (by simp) n .no (by omega);intro z e;simp only [T0,c6,or_false] at e
  rcases e with rfl | rfl | rfl | rfl | rfl
  ·exact⟨show (i+1).natAbs<=B+1 by omega,by show 200<=_; omega,TM _⟩
  ·exact⟨show (i - 1).natAbs<=B+1 by omega,by show 200<=_; omega,TM _⟩
  ·exact⟨trivial,TM _,TM _⟩
  ·exact⟨Li i,by show (dk (toString i)).length<=_; omega,TM _⟩
  ·exact⟨show (0 - i).natAbs<=B+1 by omega,by show 200<=_; omega,TM _⟩
 | tup b =>
  have X:=BU b;have N:B7 b<=80000:=I;refine⟨trivial,_,_,rfl,rfl,(b.length:Int)+1,rfl,by omega,by omega,by omega,λa s A=>?_⟩
  have q:∀(f:List D),(∀y∈f,y∈b)->B7 f<=2*B7 b->(fine (B+1) (.tup f)/\szD (.tup f)<=2*szD (.tup b)+250/\Cr (.tup f)<=Cr (.tup b)+1)/\fine (B+1) (.lst f)/\szD (.lst f)<=2*szD (.tup b)+250/\Cr (.lst f)<=Cr (.tup b)+1:=λf E Y=>by
   have F:EU (B+1) f:=fines_iff.mpr λy h=>fines_iff.mp self.1 y (E y h);have G:B7 f<=2*B7 b+250:=by omega
   have:=dps_le.mpr λy h=>dps_le.mp (On (C9 b)) y (E y h)
   have H:C9 f+1<=C9 b+1+1:=by omega
   exact⟨⟨F,G,H⟩,F,G,H⟩
  have Z:=B5 b none (some a);have c2:=B5 b (some (a+1)) none;have c3:=B5 b (some a) (some (a+1));have c4:=B5 b (some a) none;have d1:=BU (Dp.cutD b none (some a));have d2:=BU (Dp.cutD b (some (a+1)) none);have d3:=BU (Dp.cutD b (some a) (some (a+1)));have d4:=BU (Dp.cutD b (some a) none);have e1:(Dp.cutD b none (some a)++Dp.cutD b (some a) (some (a+1))).length=_:=XV;refine⟨1,rfl,rfl,by omega,(by decide:4<=sizeLine),(by show 14+4<=sizeLine; decide),_,rfl,rfl,by omega,by omega,_,_,rfl,rfl,(by show 14+4<sizeLine; decide),?_⟩;refine g _ (l _ _ (l _ _ j ?_) ?_) (by simp) (by simp) (n - 1) (.sh (.int a)) (On _)
  ·intro z e
   simp only [T0,c6,or_false] at e
   rcases e with rfl | rfl | rfl | rfl
   ·exact(q b (λ_ h=>h) (by omega)).2
   ·exact(q b (λ_ h=>h) (by omega)).1
   ·exact(q b.reverse (λy h=>gU.mp h) (by rw [Io]; omega)).1
   ·exact(q _ (λy h=>(cu.mp h).elim BY BY) (by rw [Bl]; omega)).1
  ·intro z e
   rw [Tk.mp e];refine(q _ (λy h=>(cu.mp h).elim (λh=>(cu.mp h).elim BY BY) BY) ?_).1;rw [Bl,Bl]
   have:=Lr b a s
   omega
 | lst b =>
  have X:=BU b;have N:B7 b<=80000:=I;refine⟨trivial,_,_,rfl,rfl,(b.length:Int)+1,rfl,by omega,by omega,by omega,λa s A=>?_⟩
  have q:∀(f:List D),(∀y∈f,y∈b)->B7 f<=2*B7 b->(fine (B+1) (.tup f)/\szD (.tup f)<=2*szD (.lst b)+250/\Cr (.tup f)<=Cr (.lst b)+1)/\fine (B+1) (.lst f)/\szD (.lst f)<=2*szD (.lst b)+250/\Cr (.lst f)<=Cr (.lst b)+1:=λf E Y=>by
   have F:EU (B+1) f:=fines_iff.mpr λy h=>fines_iff.mp self.1 y (E y h);have G:B7 f<=2*B7 b+250:=by omega
   have:=dps_le.mpr λy h=>dps_le.mp (On (C9 b)) y (E y h)
   have H:C9 f+1<=C9 b+1+1:=by omega
   exact⟨⟨F,G,H⟩,F,G,H⟩
  have Z:=B5 b none (some a);have c2:=B5 b (some (a+1)) none;have c3:=B5 b (some a) (some (a+1));have c4:=B5 b (some a) none;have d1:=BU (Dp.cutD b none (some a));have d2:=BU (Dp.cutD b (some (a+1)) none);have d3:=BU (Dp.cutD b (some a) (some (a+1)));have d4:=BU (Dp.cutD b (some a) none);have e1:(Dp.cutD b none (some a)++Dp.cutD b (some a) (some (a+1))).length=_:=XV;refine⟨1,rfl,rfl,by omega,(by decide:4<=sizeLine),(by show 14+4<=sizeLine; decide),_,rfl,rfl,by omega,by omega,_,_,rfl,rfl,(by show 14+4<sizeLine; decide),?_⟩;refine g _ (l _ _ (l _ _ j ?_) ?_) (by simp) (by simp) (n - 1) (.sh (.int a)) (On _)
  ·intro z e
   simp only [T0,c6,or_false] at e
   rcases e with rfl | rfl | rfl | rfl
   ·exact(q b (λ_ h=>h) (by omega)).2
   ·exact(q b (λ_ h=>h) (by omega)).1
   ·exact(q b.reverse (λy h=>gU.mp h) (by rw [Io]; omega)).2
   ·exact(q _ (λy h=>(cu.mp h).elim BY BY) (by rw [Bl]; omega)).2
  ·intro z e
   rw [Tk.mp e];refine(q _ (λy h=>(cu.mp h).elim (λh=>(cu.mp h).elim BY BY) BY) ?_).2;rw [Bl,Bl]
   have:=Lr b a s
   omega
 | dic R b=>exact(show False from v).elim
 | fdi R b=>exact(show False from v).elim
 | dit R b=>exact(show False from v).elim
end
def Hq(j:Nat):W2:=λb n P=>∃(d:D) (B i:Nat),b=[.fd,.sh d,.sh (.int i)]/\i<=j/\fine B d/\2000000<=B/\B<10 ^ 40/\szD d<=80000/\2*j+4<=n/\∀(e:D) (a:Nat),fine (B+1) e->szD e<=2*szD d+250->Cr e<=Cr d+1->n - (2*j+4)<=a->P e a
def IJ(Kq:W2):Aj:=(Ac (BG (CG (Be (AR (TJ "tuple" "list" (AB 1)))) (CG (AR (AU (D_ false) (B8 Ce (AF (AB 1) AT)) (wC (D.int 0)))) (CG (AR (AU (D_ false) (AB 2) (wC (D.int 0)))) (AR (AU (D_ false) (AZ BA (AE (Aw 0) (AE (AI (wC (D.int 5))) AY))) (wC (D.int 0))))))) (Au (AZ VT (AE (Aw 0) (AE (AI (AB 1)) AY)))) Av)
 (Ac (Az 3 (AZ BA (AE (Aw 0) (AE (AI (B8 Ce (AF (AB 1) AT))) AY))))
 (Ac (Az 4 (AZ Kq (AE (Aw 0) (AE (AI (AU A8 (AB 1) (AB 3))) (AE (AI (AU IC (AB 2) (wC (D.int 1)))) AY)))))
 (Au (AU Aq (AU Aq (F5 CJ (AB 1) A6 (BK (AB 3))) (VY (AR (Eh "list" (AB 1))) (DA (AF (AB 4) AT)) (BN (AF (AB 4) AT)))) (F5 CJ (AB 1) (BK (AU Aq (AB 3) (wC (D.int 1)))) A6))))))
theorem Yr(b:List D)(a:Nat):Dp.cutD b none (some (a:Int))=b.take (min a b.length):=by
 unfold Dp.cutD;rw [HT.sIx_none,HT.sIx_nat,jh,Nat.sub_zero]
theorem VF(b:List D)(a:Nat):Dp.cutD b (some (a:Int)) none=b.drop (min a b.length):=by
 unfold Dp.cutD;rw [HT.sIx_none];exact jc (by simp_all)
theorem Pl{b:List D}{a:Nat}(h:a<b.length)(e:D):B7 (Dp.cutD b none (some (a:Int))++[e]++Dp.cutD b (some ((a:Int)+1)) none)+szD b[a]=B7 b+szD e:=by
 have c:Dp.cutD b (some (a+1)) none=b.drop (a+1):=by
  rw [show ((a:Int)+1)=(a+1:Nat) by omega,VF,gj (by omega)]
 rw [Yr b a,c,gj (by omega),Bl,Bl];have d:=Bl (b.take a) (b.drop a);rw [gO,eI h] at d;have f:B7 (b[a]::b.drop (a+1))=szD _+1+B7 _:=rfl;have g:B7 [e]=szD e+1+0:=rfl;omega
section
variable {ss:List Slot}{n:Nat}{Pd:D->Nat->Prop}
theorem Qf{K:W2}{j:Nat}(o:∀ss n P,j≠0->Hq (j - 1) ss n P->K ss n P)(M:Hq j ss n Pd):IJ K (EE Pd) n (ss++Uf 2 .no):=by
 obtain⟨d,B,i,rfl,hi,q,s,t,D,hn,p⟩:=M;have g:∀m:Nat,n - 1<=m->VT [.fd,.sh d] m Pd:=λm hm=>⟨d,B,rfl,q,s,t,D,by omega,λe E N O Q h4=>p e E N O Q (by omega)⟩;unfold IJ;have R:=PySem.sizeLine_eq;cases d with
 | non=>exact⟨trivial,g n (by omega)⟩
 | bl b=>exact⟨trivial,g n (by omega)⟩
 | int k=>exact⟨trivial,g n (by omega)⟩
 | str x=>exact⟨trivial,g n (by omega)⟩
 | dic L c=>exact(show False from q).elim
 | fdi L c=>exact(show False from q).elim
 | dit L c=>exact(show False from q).elim
 | tup c =>
  have S:=BU c;have F:B7 c<=80000:=D;refine⟨trivial,_,_,rfl,rfl,?_⟩;refine B3 (λ_=>g n (by omega)) λw=>?_;have G:c.length≠0:=λz=>w (by show ((c.length:Int)==0)=true; rw [z]; rfl);refine B3 (λ_=>g n (by omega)) λA=>?_;have T:i≠0:=λz=>A (by show ((i:Int)==0)=true; rw [z]; rfl);refine⟨5,rfl,by decide,by decide,by omega,λr U V=>?_⟩;refine B3 (λ_=>g (n - 1) (by omega)) λ_=>?_;refine⟨_,_,rfl,rfl,(c.length:Int),rfl,by omega,by omega,by omega,λa W X=>?_⟩;obtain⟨a,rfl⟩:∃k:Nat,a=(k:Int):=⟨a.toNat,by omega⟩;have u:a<c.length:=by omega
  refine⟨c[a],AO (No u),?_⟩;have v:c[a]∈c:=dY u;have H:=MD v;refine o _ _ _ (by omega) ⟨c[a],B,i - 1,by rw [show (((i - 1:Nat)):Int)=(i:Int) - 1 by omega],by omega,fines_iff.mp q _ v,s,t,by omega,by omega,λe E I Y Z f4=>?_⟩;have C:=Pl u e;have d1:=BU (Dp.cutD c none (some (a:Int)));have d2:=BU (Dp.cutD c (some ((a:Int)+1)) none);have w:=B5 c none (some (a:Int));have A:=B5 c (some ((a:Int)+1)) none;have e1:(Dp.cutD c none (some (a:Int))++[e]).length=_:=XV;have e2:[e].length=1:=rfl
  have l:∀y∈Dp.cutD c none (some (a:Int))++[e]++Dp.cutD c (some ((a:Int)+1)) none,y∈c\/y=e:=λy f=>by
   rcases cu.mp f with f | f
   ·rcases cu.mp f with f | f
    ·exact .inl (BY f)
    ·exact .inr (Tk.mp f)
   ·exact .inl (BY f)
  have J:=dps_le.mp (On (C9 c)) _ v;refine⟨(by decide:1<=sizeLine),by omega,by omega,p (.tup _) _ ?_ ?_ ?_ (by omega)⟩
  ·exact fines_iff.mpr λy f=>(l y f).elim (λh=>(fines_iff.mp q y h).mono (by omega)) λh=>by rw [h]; exact I
  ·show B7 _<=2*B7 c+250
   omega
  ·show C9 _+1<=C9 c+1+1
   have:=dps_le (k:=C9 c+1).mpr λy f=>(l y f).elim (λh=>Nat.le_succ_of_le (dps_le.mp (On (C9 c)) y h)) λh=>by rw [h]; omega
   omega
 | lst c =>
  have S:=BU c;have F:B7 c<=80000:=D;refine⟨trivial,_,_,rfl,rfl,?_⟩;refine B3 (λ_=>g n (by omega)) λw=>?_;have G:c.length≠0:=λz=>w (by show ((c.length:Int)==0)=true; rw [z]; rfl);refine B3 (λ_=>g n (by omega)) λA=>?_;have T:i≠0:=λz=>A (by show ((i:Int)==0)=true; rw [z]; rfl);refine⟨5,rfl,by decide,by decide,by omega,λr U V=>?_⟩;refine B3 (λ_=>g (n - 1) (by omega)) λ_=>?_;refine⟨_,_,rfl,rfl,(c.length:Int),rfl,by omega,by omega,by omega,λa W X=>?_⟩;obtain⟨a,rfl⟩:∃k:Nat,a=(k:Int):=⟨a.toNat,by omega⟩;have u:a<c.length:=by omega
  refine⟨c[a],AO (No u),?_⟩;have v:c[a]∈c:=dY u;have H:=MD v;refine o _ _ _ (by omega) ⟨c[a],B,i - 1,by rw [show (((i - 1:Nat)):Int)=(i:Int) - 1 by omega],by omega,fines_iff.mp q _ v,s,t,by omega,by omega,λe E I Y Z f4=>?_⟩;have C:=Pl u e;have d1:=BU (Dp.cutD c none (some (a:Int)));have d2:=BU (Dp.cutD c (some ((a:Int)+1)) none);have w:=B5 c none (some (a:Int));have A:=B5 c (some ((a:Int)+1)) none;have e1:(Dp.cutD c none (some (a:Int))++[e]).length=_:=XV;have e2:[e].length=1:=rfl
  have l:∀y∈Dp.cutD c none (some (a:Int))++[e]++Dp.cutD c (some ((a:Int)+1)) none,y∈c\/y=e:=λy f=>by
   rcases cu.mp f with f | f
   ·rcases cu.mp f with f | f
    ·exact .inl (BY f)
    ·exact .inr (Tk.mp f)
   ·exact .inl (BY f)
  have J:=dps_le.mp (On (C9 c)) _ v;refine⟨(by decide:1<=sizeLine),by omega,by omega,p (.lst _) _ ?_ ?_ ?_ (by omega)⟩
  ·exact fines_iff.mpr λy f=>(l y f).elim (λh=>(fines_iff.mp q y h).mono (by omega)) λh=>by rw [h]; exact I
  ·show B7 _<=2*B7 c+250
   omega
  ·show C9 _+1<=C9 c+1+1
   have:=dps_le (k:=C9 c+1).mpr λy f=>(l y f).elim (λh=>Nat.le_succ_of_le (dps_le.mp (On (C9 c)) y h)) λh=>by rw [h]; omega
   omega
end
def Mo(a b:Int):D->Bool
 | .int i=>decide (a<=i)&&decide (i<=b)
 | _=>false
def OO(a:List Str)(d:D):Bool:=IT d&&EA a d
abbrev JH:W2:=λc n P=>∃d a b,c=[.sh d,.sh (.int a),.sh (.int b)]/\P (.bl (Mo a b d)) n
abbrev RS:W2:=λb n P=>∃(a:List Str) (d:D),b=[.sh (.tup (a.map .str)),.sh d]/\(∀p∈a,D9 p)/\P (.bl (OO a d)) n
def NM:Aj:=(Au (HJ (Eh "int" (AB 0)) (HJ (Xn (Eh "bool" (AB 0))) (JN Sg Sg (AB 1) (AB 0) (AB 2)))))
def Ke:Aj:=(Ac (BG (CG (Be (AR (Eh "str" (AB 0)))) (Be (AR (JN EV EV (wC (D.int 0)) (B8 Ce (AF (AB 0) AT)) (wC (D.int 9)))))) (Au (wC (D.bl false))) Av)
 (Au (B8 Oh (AF (BR [none] (BI (AB 0)) (Af 0) CW (AU (ZI λi j P=>P (D.bl (!(d6 j i 0 j.length 1).isEmpty))) (AB 0) (wC (D.str "abcdefghijklmnopqrstuvwxyz")))) AT))))
def LC:Aj:=(Ac (BG (CG (Be (AR (Eh "tuple" (AB 1)))) (CG (AR (AU (D_ true) (B8 Ce (AF (AB 1) AT)) (wC (D.int 3)))) (Be (AR (AZ JH (AE (AI (AU A8 (AB 1) (wC (D.int 2)))) (AE (AI (wC (D.int 1))) (AE (AI (AU (PK Ik λi j=>D.int (i ^ j.toNat)) (wC (D.int 10)) (wC (D.int 6)))) AY)))))))) (Au (wC (D.bl false))) Av)
 (Ac (BG (CG (Be (AR (AZ L4 (AE (AI (AU A8 (AB 1) (wC (D.int 0)))) AY)))) (Be (AR (AZ L4 (AE (AI (AU A8 (AB 1) (wC (D.int 1)))) AY))))) (Au (wC (D.bl false))) Av)
 (Au (HJ (AU (DV false) (AU A8 (AB 1) (wC (D.int 0))) (AB 0)) (HJ (AU (DV false) (AU A8 (AB 1) (wC (D.int 1))) (AB 0)) (AU EV (AU A8 (AB 1) (wC (D.int 0))) (AU A8 (AB 1) (wC (D.int 1)))))))))
def O6:Aj:=(Au (AU (DV true) (wC (D.bl false)) (BR [some 0,none] (EJ (AF (AU IC (B8 Ce (AF (AB 0) AT)) (wC (D.int 1))) AT)) (Af 1) CW (AU EV (AU A8 (AB 0) (AB 1)) (AU A8 (AB 0) (AU Aq (AB 1) (wC (D.int 1))))))))
def LD:Aj:=(Ac (BG (CG (Be (AR (Eh "tuple" (AB 0)))) (CG (AR (AU (D_ true) (B8 Ce (AF (AB 0) AT)) (wC (D.int 2)))) (Be (AR (Eh "tuple" (AU A8 (AB 0) (wC (D.int 0)))))))) (Au (wC (D.bl false))) Av)
 (Ac (BG (CG (Be (AR (Eh "tuple" (AU A8 (AB 0) (wC (D.int 1)))))) (CG (AR (AU (f2 λi j=>D.bl (decide (j<i))) (B8 Ce (AF (AU A8 (AB 0) (wC (D.int 0))) AT)) (wC (D.int 24)))) (AR (AU (f2 λi j=>D.bl (decide (j<i))) (B8 Ce (AF (AU A8 (AB 0) (wC (D.int 1))) AT)) (wC (D.int 60)))))) (Au (wC (D.bl false))) Av)
 (Ac (BG (CG (AR (AU (DV false) (wC (D.bl false)) (BR [none] (BI (AU A8 (AB 0) (wC (D.int 0)))) (Af 0) CW (AZ L4 (AE (AI (AB 0)) AY))))) (Be (AR (AZ DB (AE (AI (AU A8 (AB 0) (wC (D.int 0)))) AY))))) (Au (wC (D.bl false))) Av)
 (Ac (BG (AR (AU (DV false) (wC (D.bl false)) (BR [some 0,none] (BI (AU A8 (AB 0) (wC (D.int 1)))) (Af 1) CW (AZ RS (AE (AI (AU A8 (AB 0) (wC (D.int 0)))) (AE (AI (AB 1)) AY)))))) (Au (wC (D.bl false))) Av)
 (Au (AZ DB (AE (AI (BR [none] (BI (AU A8 (AB 0) (wC (D.int 1)))) (Af 0) CW (F5 CJ (AB 0) A6 (BK (wC (D.int 2)))))) AY)))))))
theorem SR{b:Type}(p:b->Bool)(l:List b):CT (l.map λa=>D.bl (p a))=true/\fi (Bk (l.map λa=>D.bl (p a)))=true/\eY (Bk (l.map λa=>D.bl (p a)))=0:=by
 induction l with
 | nil=>exact⟨rfl,rfl,rfl⟩
 | cons a r c =>
  assumption
theorem Yh(b:Bool):GA (.bl b) (.bl false)=!b:=by cases b <;> rfl
theorem Yz{b:Type}(p:b->Bool)(l:List b):((l.map λa=>D.bl (p a)).any λy=>GA y (.bl false))=!(l.all p):=by
 induction l with
 | nil=>rfl
 | cons a r c=>rw [dG,List.any_cons,fB,c,Yh,Bool.not_and]
theorem ES{c:Type}{p:c->Bool}{l:List c}{b:Bool}{P:D->Prop}(h:P (.bl (if b then l.all p else !(l.all p)))):DV b (.bl false) (.lst (l.map λa=>.bl (p a))) P:=by
 obtain⟨d,e,f⟩:=SR p l;refine⟨⟨rfl,rfl,TM _⟩,⟨d,e,?_⟩,_,rfl,?_⟩
 ·show eY _+1<=100
  simp_all
 ·rw [Yz,Bool.not_not]
  exact h
theorem OS(c:Nat):(!(d6 letters ⟨#[c]⟩ 0 letters.length 1).isEmpty)=(decide (97<=c)&&decide (c<=122)):=by
 rw [PySem.StrLaws.found_one _ c]
 by_cases h:97<=c/\c<=122
 ·have:∀c<123,97<=c->letters.cps.toList.contains c=true:=by decide +kernel
  grind
 ·have a:∀x∈letters.cps.toList,97<=x/\x<=122:=by decide +kernel
  have:letters.cps.toList.contains c=false:=by
   grind
  simp_all
theorem Ug(b:List Str)(a:List D):a.all (OO b)=(a.all IT&&a.all (EA b)):=by
 unfold OO
 induction a with
 | nil=>rfl
 | cons t r c=>rw [fB,fB,fB,c]; cases IT t <;> cases EA b t <;> cases r.all _ <;> rfl
theorem L0:∀a:List D,((dD (a.length - 1)).all λi=>He (a.getD i .non) (a.getD (i+1) .non)==some true)=Kh a
 | []=>rfl
 | [x]=>rfl
 | x::y::r=>by
  show ((dD (r.length+1)).all _)=((He x y==some _)&&Kh _);rw [g9,fB,jO,← L0 _];rfl
section
variable {ss:List Slot}{n:Nat}{Pd:D->Nat->Prop}
theorem MQ(h:JH ss n Pd):NM (EE Pd) n (ss++Uf 0 .no):=by
 obtain⟨d,a,b,rfl,q⟩:=h;cases d with
 | int i=>exact Kf (k:=λP=>P _ n) (λ_ h=>h) q
 | _=>exact q
theorem Jf(i:L4 ss n Pd):Ke (EE Pd) n (ss++Uf 0 .no):=by
 obtain⟨d,rfl,h⟩:=i.out;clear i;cases d with
 | str x =>
  have a:Pd (.bl ((decide (1<=x.length)&&decide (x.length<=8))&&(cs x).all λc=>decide (97<=c)&&decide (c<=122))) n:=h;refine⟨_,_,rfl,rfl,?_⟩;show (match (.bl (decide ((0:Int)<(x.length:Int))):D) with | .bl true=>_ | .bl false=>_ | _=>False)
  by_cases b:1<=x.length
  ·have e:decide ((0:Int)<(x.length:Int))=true:=decide_eq_true (by omega)
   rw [e];show (if (!decide ((x.length:Int)<9))=true then _ else _)
   by_cases j:x.length<=8
   ·have f:decide ((x.length:Int)<9)=true:=decide_eq_true (by omega)
    rw [decide_eq_true b,decide_eq_true j,fM,fM] at a;rw [f];refine BQ ⟨by rw [Rn]; omega,?_⟩;refine BO (λd=>match d with | .str z=>.bl (!(d6 letters z 0 letters.length 1).isEmpty) | _=>.non) (λk=>∃s,k=[s]) _ _ _ _ ?_ ⟨_,rfl⟩ ?_
    ·rintro d l k m o ⟨s,rfl⟩ g
     obtain⟨c,q,rfl⟩:=Rs.mp l;exact g _ ⟨_,rfl⟩
    ·rw [cy]
     unfold Dp.signs;rw [fA];show Oh [.lst (x.cps.toList.map λc=>.bl (!(d6 letters ⟨#[c]⟩ 0 letters.length 1).isEmpty))] λz=>Pd z n;refine Og (p:=λc=>!(d6 letters ⟨#[c]⟩ 0 letters.length 1).isEmpty) ?_;rw [show (λc=>!(d6 letters ⟨#[c]⟩ 0 letters.length 1).isEmpty)=λc=>decide (97<=c)&&decide (c<=122) from funext OS];exact a
   ·have f:decide ((x.length:Int)<9)=false:=decide_eq_false (by omega)
    rw [decide_eq_true b,decide_eq_false j,iZ,gP] at a;rw [f];exact Bi a
  ·have e:decide ((0:Int)<(x.length:Int))=false:=decide_eq_false (by omega)
   rw [decide_eq_false b,gP,gP] at a;rw [e];exact Bi a
 | _=>exact h
theorem Nz(h:DB ss n Pd):O6 (EE Pd) n (ss++Uf 0 .no):=by
 obtain⟨d,a,rfl,c,H,j,h⟩:=h
 have x:((Cu 0 ((a.length:Int) - 1).toNat).length<=10000000)/\Ci (Af 1) CW (AU EV (AU A8 (AB 0) (AB 1)) (AU A8 (AB 0) (AU Aq (AB 1) (wC (D.int 1))))) (λl F=>DV true (.bl false) (.lst l) λz=>Pd z F) (Cu 0 ((a.length:Int) - 1).toNat) [] n [.sh d,.no]:=by
  refine⟨by rw [By]; omega,?_⟩;refine BO (λe=>.bl (match e with | .int i=>He (a.getD i.toNat .non) (a.getD (i.toNat+1) .non)==some true | _=>false)) (λA=>∃s,A=[.sh d,s]) _ _ _ _ ?_ ⟨_,rfl⟩ ?_
  ·rintro z G A m g ⟨s,rfl⟩ o
   obtain⟨k,I,rfl⟩:=Jc G;have q:(0+(k:Int))=(k:Int):=by omega
   have u:k<a.length:=by omega
   have v:k+1<a.length:=by omega
   have b:g (.bl (He a[k] a[k+1]==some true)) m [.sh d,.sh (.int (0+(k:Int)))]:=by
    have:=o [.sh d,.sh (.int (0+(k:Int)))] ⟨_,rfl⟩
    rw [q] at this ⊢;show g (.bl _) m _;have t:g (.bl (He (a.getD k .non) (a.getD (k+1) .non)==some true)) m [.sh d,.sh (.int (k:Int))]:=this;rw [dW,dW,No u,No v] at t;exact t
   obtain⟨r,B⟩:=j _ (dY u) _ (dY v);have C:atI a (0+(k:Int))=some a[k]:=by rw [q]; exact AO (No u)
   have E:atI a (0+(k:Int)+1)=some a[k+1]:=by rw [q,show ((k:Int)+1)=((k+1:Nat):Int) by omega]; exact AO (No v)
   have f:EV a[k] a[k+1] λy=>g y m [.sh d,.sh (.int (0+(k:Int)))]:=by
    refine Q5 B ?_;rw [B] at b;cases r <;> exact b
   cases d with
   | lst w=>cases c; exact⟨_,C,_,E,f⟩
   | tup w=>cases c; exact⟨_,C,_,E,f⟩
   | _=>cases c
  ·rw [cy]
   refine ES (p:=fun(e:D)=>match e with | .int i=>He (a.getD i.toNat .non) (a.getD (i.toNat+1) .non)==some true | _=>false) ?_;show Pd (.bl ((Cu 0 ((a.length:Int) - 1).toNat).all _)) n;unfold Cu;rw [jO,show ((a.length:Int) - 1).toNat=a.length - 1 by omega]
   have e:((fun(e:D)=>match e with | .int i=>He (a.getD i.toNat .non) (a.getD (i.toNat+1) .non)==some true | _=>false)∘fun(i:Nat)=>D.int (0+(i:Int)))=λi=>He (a.getD i .non) (a.getD (i+1) .non)==some true:=by
    funext i
    show (He (a.getD (0+(i:Int)).toNat .non) (a.getD ((0+(i:Int)).toNat+1) .non)==some true)=_;rw [show (0+(i:Int)).toNat=i by omega]
   rw [e,L0];exact h
 cases d with
 | lst w=>cases c; exact⟨_,_,rfl,rfl,_,rfl,⟨by omega,by omega⟩,x⟩
 | tup w=>cases c; exact⟨_,_,rfl,rfl,_,rfl,⟨by omega,by omega⟩,x⟩
 | _=>cases c
theorem Kw(u:RS ss n Pd):LC (EE Pd) n (ss++Uf 0 .no):=by
 obtain⟨g,d,rfl,j,h⟩:=u;cases d with
 | tup i =>
  refine⟨_,_,rfl,rfl,?_⟩;show if (!((i.length:Int)==3))=true then _ else _
  cases q:((i.length:Int)==3) with
  | false =>
   have f:Pd (.bl (IT (.tup i)&&EA g (.tup i))) n:=h;rw [bT (d:=.tup i) q] at f;exact Bi f
  | true =>
   obtain⟨a,b,c,e⟩:=bF (d:=.tup i) q;cases e;have f:Pd (.bl (((CC a&&CC b)&&((He a b==some true)&&G1 c))&&EA g (.tup [a,b,c]))) n:=h;refine BQ ⟨_,rfl,(⟨by decide,by decide,by decide⟩:Ik 10 6),c,1,_,rfl,?_⟩;show if (!Mo 1 ((10:Int) ^ (6:Int).toNat) c)=true then _ else _
   have v:Mo 1 ((10:Int) ^ (6:Int).toNat) c=G1 c:=by cases c <;> rfl
   rw [v];cases r:G1 c with
   | false =>
    rw [r] at f;simp only [iZ,gP] at f;exact Bi f
   | true =>
    rw [r] at f;refine BQ ⟨_,rfl,[a],rfl,rfl,?_⟩;show if (!CC a)=true then _ else _
    cases l:CC a with
    | false=>rw [l] at f; exact Bi f
    | true =>
     refine BQ ⟨_,rfl,[b],rfl,rfl,?_⟩;show if (!CC b)=true then _ else _
     cases m:CC b with
     | false=>rw [l,m] at f; exact Bi f
     | true =>
      rw [l,m] at f;obtain⟨x,rfl,w⟩:=nameB_iff.mp l;obtain⟨y,rfl,A⟩:=nameB_iff.mp m;rw [Iw] at f
      have o:Pd (.bl (decide (cs x<cs y)&&(g.any (·==x)&&g.any (·==y)))) n:=by
       cases s:decide (cs x<cs y) with
       | false=>rw [s] at f; exact f
       | true=>rw [s] at f; exact f
      rw [Bool.and_comm,Bool.and_assoc] at o;have t:∀x:Str,((g.map D.str).any λz=>GA z (.str x))=g.any (·==x):=λx=>by rw [jQ]; rfl
      rw [← t,← t] at o;refine BQ ⟨_,rfl,Jz w,ER j,_,rfl,?_⟩;refine Kf (b1:=(g.map D.str).any λz=>GA z (.str x)) (b2:=((g.map D.str).any λz=>GA z (.str y))&&decide (cs x<cs y)) (P:=Pd) (n:=n) (k:=λP=>_) (λ_ p=>⟨_,rfl,Jz A,ER j,_,rfl,?_⟩) o;exact Kf (b1:=(g.map D.str).any λz=>GA z (.str y)) (b2:=decide (cs x<cs y)) (P:=Pd) (n:=n) (k:=λP=>_) (λ_ p=>⟨_,rfl,_,rfl,p⟩) p
 | _=>exact h
theorem Kx(E:RR ss n Pd):LD (EE Pd) n (ss++Uf 0 .no):=by
 obtain⟨d,rfl,h⟩:=E.out;clear E;cases d with
 | tup o =>
  refine⟨_,_,rfl,rfl,?_⟩;show if (!((o.length:Int)==2))=true then _ else _
  cases k:((o.length:Int)==2) with
  | false =>
   rw [Z4 (d:=.tup o) k] at h;exact Bi h
  | true =>
   obtain⟨p,t,e⟩:=Xr (d:=.tup o) k;cases e;have a:Pd (.bl (Iu p&&PN p t)) n:=h;refine BQ ⟨_,rfl,?_⟩;cases p with
   | tup f =>
    refine⟨_,rfl,?_⟩;cases t with
    | tup b =>
     have a:Pd (.bl ((decide (f.length<=24)&&(f.all CC&&Kh f))&&(decide (b.length<=60)&&(b.all IT&&(b.all (EA (strsOf f))&&Kh (b.map FY)))))) n:=h;refine⟨_,rfl,_,_,rfl,rfl,?_⟩;show if decide ((24:Int)<(f.length:Int))=true then _ else _
     by_cases F:f.length<=24
     ·rw [decide_eq_true F,fM] at a
      rw [decide_eq_false (show ¬(24:Int)<(f.length:Int) by omega)];refine BQ ⟨_,rfl,_,_,rfl,rfl,?_⟩;show if decide ((60:Int)<(b.length:Int))=true then _ else _
      by_cases G:b.length<=60
      ·rw [decide_eq_true G,fM] at a
       rw [decide_eq_false (show ¬(60:Int)<(b.length:Int) by omega)];refine BQ ⟨_,rfl,by show f.length<=10000000; omega,?_⟩;refine BO (λd=>.bl (CC d)) (λi=>∃s,i=[s]) _ _ _ _ ?_ ⟨_,rfl⟩ ?_
       ·rintro d z i m H ⟨s,rfl⟩ g
        exact⟨[d],rfl,rfl,g _ ⟨_,rfl⟩⟩
       rw [cy];refine ES ?_;show if (!f.all CC)=true then _ else _
       cases A:f.all CC with
       | false=>rw [A] at a; exact Bi a
       | true =>
        rw [A,fM] at a;obtain⟨j,rfl,B⟩:=OJ A;rw [B9] at a;refine BQ ⟨_,rfl,_,_,rfl,rfl,by omega,λx r y v=>?_,?_⟩
        ·obtain⟨p,_,rfl⟩:=Rs.mp r
         obtain⟨q,_,rfl⟩:=Rs.mp v;exact⟨_,Iw p q⟩
        show if (!Kh (j.map .str))=true then _ else _
        cases I:Kh (j.map .str) with
        | false=>rw [I] at a; exact Bi a
        | true =>
         rw [I,fM] at a;refine BQ ⟨_,rfl,by show b.length<=10000000; omega,?_⟩;refine BO (λd=>.bl (OO j d)) (λi=>∃s,i=[.sh (.tup [.tup (j.map .str),.tup b]),s]) _ _ _ _ ?_ ⟨_,rfl⟩ ?_
         ·rintro d z i m H ⟨s,rfl⟩ g
          exact⟨_,rfl,j,d,rfl,B,g _ ⟨_,rfl⟩⟩
         rw [cy];refine ES ?_;show if (!b.all (OO j))=true then _ else _
         rw [Ug];rw [← Bool.and_assoc] at a;cases w:(b.all IT&&b.all (EA j)) with
         | false=>rw [w] at a; exact Bi a
         | true =>
          rw [w,fM] at a;rw [cq] at w;have c:∀t∈b,IT t=true:=d9.mp w.1;refine BQ ⟨_,rfl,by show b.length<=10000000; omega,?_⟩;refine BO FY (λi=>∃s,i=[s]) _ _ _ _ ?_ ⟨_,rfl⟩ ?_
          ·rintro d z i m H ⟨s,rfl⟩ g
           obtain⟨x,y,l,rfl,r,v,_⟩:=MC (c d z);exact g _ ⟨_,rfl⟩
          rw [cy];refine⟨_,_,rfl,rfl,by rw [Go]; omega,λx r y v=>?_,a⟩;obtain⟨t,C,rfl⟩:=Rs.mp r;obtain⟨u,D,rfl⟩:=Rs.mp v;obtain⟨J,K,L,rfl,_⟩:=MC (c t C);obtain⟨M,N,O,rfl,_⟩:=MC (c u D);exact⟨_,rfl⟩
      ·rw [decide_eq_false G,gP,iZ] at a
       rw [decide_eq_true (show (60:Int)<(b.length:Int) by omega)];exact Bi a
     ·rw [decide_eq_false F,gP] at a
      rw [decide_eq_true (show (24:Int)<(f.length:Int) by omega)];exact Bi a
    | _=>have k:Pd (.bl (Iu (.tup f)&&false)) n:=a; rw [iZ] at k; exact k
   | _=>exact a
 | _=>exact h
end
def item(d:D):Prop:=fine 1000001 d/\szD d<=450/\Cr d<=1
theorem GK{k:Nat}:∀{a:List D},(∀d∈a,szD d+1<=k)->B7 a<=k*a.length
 | [],_=>TM _
 | d::a,h=>by
  have c:=GK λe b=>h e (Re _ b);show szD d+1+B7 a<=k*(a.length+1)
  grind
theorem FV{B:Nat}{a:List D}(h:∀d∈a,fine B d):fine B (.tup a):=fines_iff.mpr h
theorem item_str{x:Str}(b:x.length<=8)(a:∀c∈cs x,c<1114112):item (.str x):=⟨a,by show x.length<=450; omega,TM _⟩
theorem Cp{x:Str}(h:D9 x):item (.str x):=item_str h.2.1 λc a=>by have:=h.2.2 c a; omega
theorem OZ{a b:Str}{l:Int}(e:item (.str a))(f:item (.str b))(h:a.length<=8)(i:b.length<=8)(g:l.natAbs<=1000001):item (.tup [.str a,.str b,.int l]):=by
 refine⟨FV λd c=>?_,?_,?_⟩
 ·simp at c
  rcases c with rfl | rfl | rfl
  ·exact e.1
  ·exact f.1
  ·exact g
 ·show a.length+1+(b.length+1+(200+1+0))<=450
  omega
 ·show max 0 (max 0 (max 0 0))+1<=1
  decide
theorem J1{N:Net}(ok:N.Ok):∀d∈N.ts.map Aa,item d:=λd c=>by
 obtain⟨t,e,rfl⟩:=Rs.mp c;obtain⟨f,g,_,h,i⟩:=ok.tin t e;have a:=ok.names _ f;have b:=ok.names _ g;exact OZ (Cp a) (Cp b) a.2.1 b.2.1 (by omega)
theorem Q0{N:Net}(ok:N.Ok):∀d∈N.ps.map D.str,item d:=λd a=>by
 obtain⟨x,b,rfl⟩:=Rs.mp a;exact Cp (ok.names x b)
theorem Xq{b c:List D}(e:∀d∈b,item d)(f:∀d∈c,item d)(g:b.length<=26)(h:c.length<=80):fine 1000001 (.tup [.tup b,.tup c])/\szD (.tup [.tup b,.tup c])<=48000/\Cr (.tup [.tup b,.tup c])<=3:=by
 have i:=GK λd a=>fw (e d a).2.1;have j:=GK λd a=>fw (f d a).2.1;have k:=dps_le.mpr λd a=>(e d a).2.2;have l:=dps_le.mpr λd a=>(f d a).2.2;refine⟨FV λd a=>?_,?_,?_⟩
 ·simp at a
  rcases a with rfl | rfl
  ·exact FV λd a=>(e d a).1
  ·exact FV λd a=>(f d a).1
 ·show B7 b+1+(B7 c+1+0)<=48000
  omega
 ·show max (C9 b+1) (max (C9 c+1) 0)+1<=3
  omega
theorem Fh{p:D->Prop}{xs:List D}(h:∀d∈xs,p d){o:Int}(b:0<=o)(c:o<(xs.length:Int)):∃z,atI xs o=some z/\p z:=by
 obtain⟨k,rfl⟩:∃k:Nat,o=k:=⟨o.toNat,by omega⟩;have a:k<xs.length:=by omega
 exact⟨_,AO (No a),h _ (dY a)⟩
theorem Kg:∀{c:List D},c.Pairwise (λa b=>He a b=some true)->Kh c=true
 | [],_=>rfl
 | [x],_=>rfl
 | x::y::r,h=>by
  rw [dm] at h;show ((He x y==some _)&&Kh _)=true;rw [h.1 y Op,Kg h.2];rfl
theorem DD(x:Str):¬cs x<cs x:=gN _
theorem Ud{N:Net}(ok:N.Ok)(k:N.ps.length<=24)(l:N.ts.length<=60):P1 (enc N)=true:=by
 show ((decide ((N.ps.map D.str).length<=24)&&((N.ps.map D.str).all CC&&Kh (N.ps.map D.str)))&&(decide ((N.ts.map Aa).length<=60)&&((N.ts.map Aa).all IT&&((N.ts.map Aa).all (EA (strsOf (N.ps.map D.str)))&&Kh ((N.ts.map Aa).map FY)))))=true;rw [B9,Go,Go,decide_eq_true k,decide_eq_true l];simp only [fM,cq,d9];refine⟨⟨λd c=>?_,Kg ?_⟩,λd c=>?_,λd c=>?_,Kg ?_⟩
 ·obtain⟨x,m,rfl⟩:=Rs.mp c
  exact nameB_iff.mpr ⟨x,rfl,ok.names x m⟩
 ·rw [fK]
  refine ok.rise.imp λ{a b} h=>?_;rw [Iw,decide_eq_true h]
 ·obtain⟨t,f,rfl⟩:=Rs.mp c
  obtain⟨g,i,n,o,p⟩:=ok.tin t f;show ((CC (.str t.a)&&CC (.str t.b))&&((He (.str t.a) (.str t.b)==some true)&&(decide (1<=t.len)&&decide (t.len<=1000000))))=true;rw [nameB_iff.mpr ⟨_,rfl,ok.names _ g⟩,nameB_iff.mpr ⟨_,rfl,ok.names _ i⟩,Iw,decide_eq_true n,decide_eq_true o,decide_eq_true p];rfl
 ·obtain⟨t,f,rfl⟩:=Rs.mp c
  obtain⟨g,i,_⟩:=ok.tin t f;show (N.ps.any (·==t.a)&&N.ps.any (·==t.b))=true;rw [cq,em,em];exact⟨⟨_,g,beq_self_eq_true _⟩,⟨_,i,beq_self_eq_true _⟩⟩
 ·rw [fA,fK]
  refine ok.trise.imp λ{s t} h=>?_;show (if (true&&(true&&true))=true then some (GY [.inr s.a,.inr s.b] [.inr t.a,.inr t.b]) else none)=some true;rw [if_pos (show (true&&(true&&true))=true from rfl)]
  congr 1
  show (if (fH s.a:Key)=.inr t.a then (if (fH s.b:Key)=.inr t.b then false else decide (cs s.b<cs t.b)) else decide (cs s.a<cs t.a))=true
  rcases h with h | ⟨h,j⟩
  ·rw [if_neg (λe=>DD s.a (by rw [fT e] at h ⊢; exact h)),decide_eq_true h]
  ·rw [if_pos (by rw [h]),if_neg (λe=>DD s.b (by rw [fT e] at j ⊢; exact j)),decide_eq_true j]
theorem z1:1<=sizeLine:=by decide
theorem z2:2<=sizeLine:=by decide
theorem z3:3<=sizeLine:=by decide
theorem z0:0<=sizeLine:=TM _
theorem bj:Ik 10 6:=⟨by decide,by decide,by decide⟩
def ZU(s t:BP):Decidable (s=t) :=
 if h:s.a=t.a/\s.b=t.b/\s.len=t.len then .isTrue (by obtain⟨a,b,l⟩:=s; obtain⟨g,i,j⟩:=t; obtain⟨c,d,f⟩:=h; simp only at c d f; subst c d f; rfl) else .isFalse λe=>h (by rw [e]; exact⟨rfl,rfl,rfl⟩)
instance:DecidableEq BP:=ZU
abbrev EF(a:D->Nat->Prop):E2:={ nx:=λn _=>Kd.fr=.sh/\a .non n,rt:=a }
def Jd(t:BP):List Key:=[.inl t.len,.inr t.a,.inr t.b]
def Fc(a:List BP):Prop:=a.Pairwise λs t=>Cg (Jd t) (Jd s)=false
def N3:D->D
 | .tup [x,y,z]=>.tup [z,x,y]
 | d=>d
abbrev RP:W2:=λa n P=>∃x y z:D,a=[.sh (.tup [x,y,z])]/\P (.tup [z,x,y]) n
def Dg:W2:=λc n P=>∃(d:D) (b:List BP),c=[.sh d]/\IU d=some (b.map Aa)/\b.length<64/\∀a:List BP,a.Perm b->Fc a->P (.lst (a.map Aa)) n
def Ss:Aj:=(Au (BN (AF (AU A8 (AB 0) (wC (D.int 2))) (AF (AU A8 (AB 0) (wC (D.int 0))) (AF (AU A8 (AB 0) (wC (D.int 1))) AT)))))
def KZ:Aj:=(Au (TB RP (AB 0)))
theorem Tt{s t:BP}(h:Jd s=Jd t):s=t:=by
 obtain⟨a,b,l⟩:=s;obtain⟨c,d,e⟩:=t;unfold Jd at h
 grind
theorem MX{g:Type}{R:g->g->Prop}(c:∀a b,R a b->R b a->a=b):∀{d f:List g},d.Perm f->d.Pairwise R->f.Pairwise R->d=f
 | [],f,p,_,_=>(List.nil_perm.mp p).symm
 | a::d,[],p,_,_=>absurd (List.perm_nil.mp p) (gR _ _)
 | a::d,b::f,p,i,j=>by
  have e:a=b:=by
   rcases T0.mp (p.mem_iff.mp Op) with e | h
   ·exact e
   ·rcases T0.mp (p.mem_iff.mpr (Op)) with e | k
    ·exact e.symm
    ·exact c a b ((dm.mp i).1 b k) ((dm.mp j).1 a h)
  subst e;rw [MX c ((List.perm_cons a).mp p) (dm.mp i).2 (dm.mp j).2]
theorem Hv{c d:List BP}(p:c.Perm d)(e:Fc c)(f:Fc d):c=d:=MX (λa b x y=>Tt (DP _ _ y x)) p e f
theorem TZ{b:Type}{f:b->D}{g:D->b}(e:∀x,g (f x)=x){c:List D}{d:List b}(h:c.Perm (d.map f)):∃a:List b,a.Perm d/\c=a.map f:=by
 refine⟨c.map g,?_,?_⟩
 ·have:=h.map g
  rw [fA,show g∘f=id from funext e,g_] at this;exact this
 ·rw [fA]
  have:∀x∈c,(f∘g) x=x:=λx i=>by
   obtain⟨t,_,rfl⟩:=Rs.mp (h.mem_iff.mp i)
   grind
  rw [iW this,List.map_id']
def aM:D->BP
 | .tup [.str a,.str b,.int l]=>⟨a,b,l⟩
 | _=>⟨"","",0⟩
section
variable {ss:List Slot}{n:Nat}{Pd:D->Nat->Prop}
theorem Pf(h:RP ss n Pd):Ss (EE Pd) n (ss++Uf 0 .no):=by
 obtain⟨x,y,z,rfl,p⟩:=h;exact⟨_,AO rfl,_,AO rfl,_,AO rfl,z3,p⟩
theorem UU{a:List BP}(h:HH (λx=>D8 (N3 x)) (a.map Aa)):Fc a:=by
 unfold HH at h;rw [fK] at h;exact h.imp λ{s t} z=>z _ _ rfl rfl
theorem Nx(h:Dg ss n Pd):KZ (EF Pd) n (ss++Uf 0 .no):=by
 obtain⟨d,e,rfl,f,b,p⟩:=h;unfold KZ;refine⟨e.map Aa,N3,f,by rw [Go]; exact b,λx a Q i=>?_,⟨λx a=>?_,λx a y j k l m o=>?_⟩,λq r s=>?_⟩
 ·obtain⟨t,_,rfl⟩:=Rs.mp a
  exact⟨_,_,_,rfl,i⟩
 ·obtain⟨t,_,rfl⟩:=Rs.mp a
  exact⟨Jd t,rfl,gR _ _⟩
 ·obtain⟨t,_,rfl⟩:=Rs.mp a
  obtain⟨u,_,rfl⟩:=Rs.mp j;cases (show some (Jd t)=some k from m);cases (show some (Jd u)=some l from o);rfl
 ·obtain⟨c,v,rfl⟩:=TZ (g:=aM) (λ_=>rfl) r
  exact p c v (UU s)
theorem P2{N:Net}(ok:N.Ok){x:Str}{p:Str×Int}(h:p∈Ex N.ts x):p.1∈N.ps/\1<=p.2/\p.2<=1000000/\∃t∈N.ts,t.len=p.2/\((t.a=x/\t.b=p.1)\/(t.b=x/\t.a=p.1)):=by
 obtain⟨t,c,h⟩:=f6.mp h;obtain⟨g,i,j,d,f⟩:=ok.tin t c
 rcases cu.mp h with h | h
 ·split at h
  ·rename_i e
   rw [Tk.mp h];exact⟨i,d,f,t,c,rfl,.inl ⟨e,rfl⟩⟩
  ·cases h
 ·split at h
  ·rename_i e
   rw [Tk.mp h];exact⟨g,d,f,t,c,rfl,.inr ⟨e,rfl⟩⟩
  ·cases h
theorem Q8(s t:BP):GA (Aa s) (Aa t)=true↔s=t:=by
 obtain⟨a,b,l⟩:=s;obtain⟨c,d,e⟩:=t;show (a==c&&(b==d&&(l==e&&true)))=true↔_
 simp_all
theorem SQ{a:List D}(h:∀d∈a,item d):D7 (.lst a):=by
 have c:=dps_le.mpr λd b=>(h d b).2.2;exact CI (by decide) (fines_iff.mpr λd b=>(h d b).1) (by show C9 a+1<=100; omega)
theorem Ll{a b:Type}(f:a->b):∀(l:List a) (i:Nat),(l.map f).eraseIdx i=(l.eraseIdx i).map f
 | [],i=>rfl
 | x::l,0=>rfl
 | x::l,i+1=>by
  show f x::(l.map f).eraseIdx i=f x::(l.eraseIdx i).map f;rw [Ll f l i]
theorem WI{N:Net}(ok:N.Ok){x o:Str}{s t:BP}(j:s∈N.ts)(k:t∈N.ts)(e:Bw s t)(l:(s.a=x/\s.b=o)\/(s.b=x/\s.a=o))(m:(t.a=x/\t.b=o)\/(t.b=x/\t.a=o)):False:=by
 have i:=(ok.tin s j).2.2.1;have lt:=(ok.tin t k).2.2.1;have c:∀a,¬cs a<cs a:=λa=>gN _
 rcases l with ⟨d,f⟩ | ⟨d,f⟩ <;> rcases m with ⟨g,h⟩ | ⟨g,h⟩ <;> rw [d,f] at i <;> rw [g,h] at lt
 ·rcases e with e | ⟨_,e⟩
  ·rw [d,g] at e; exact c _ e
  grind
 ·grind
 ·exact c _ (List.lt_trans i lt)
 ·rcases e with e | ⟨_,e⟩
  ·rw [f,h] at e; exact c _ e
  grind
theorem SH{N:Net}(ok:N.Ok)(x:Str):((Ex N.ts x).map (·.1)).Nodup:=by
 have m:∀c:List BP,(∀t∈c,t∈N.ts)->c.Pairwise Bw->((Ex c x).map (·.1)).Nodup:=by
  intro c
  induction c with
  | nil=>intro _ _; exact e6
  | cons t c o =>
   intro d l;have k:=o (λs i=>d s (Re _ i)) (dm.mp l).2;have lt:=(ok.tin t (d t Op)).2.2.1
   have f:∀y,((t.a=x/\t.b=y)\/(t.b=x/\t.a=y))->y∉(Ex c x).map (·.1):=λy p q=>by
    obtain⟨s,i,h⟩:=Mn q;exact WI ok (d t Op) (d s (Re _ i)) ((dm.mp l).1 s i) p h
   have e:Ex (t::c) x=((if t.a=x then [(t.b,t.len)] else [])++(if t.b=x then [(t.a,t.len)] else []))++Ex c x:=by
    unfold Ex;rw [g0]
   rw [e]
   by_cases j:t.a=x
   ·have g:¬t.b=x:=λz=>by rw [j,z] at lt; exact gN _ lt
    rw [if_pos j,if_neg g,dS,jj,dG,dM];exact⟨f _ (.inl ⟨j,rfl⟩),k⟩
   ·rw [if_neg j,cy]
    by_cases g:t.b=x
    ·rw [if_pos g,jj,dG,dM]
     exact⟨f _ (.inr ⟨g,rfl⟩),k⟩
    ·rw [if_neg g,cy]
     exact k
 exact m N.ts (λ_ h=>h) ok.trise
end
theorem PY:∀c,97<=c->c<=122->iS 39 c=[c]:=by
 have:∀c<123,97<=c->iS 39 c=[c]:=by decide +kernel
 grind
theorem KA:∀(l:List Nat) (a:Array Nat),(∀c∈l,97<=c/\c<=122)->(l.foldl (λb c=>b++(iS 39 c).toArray) a).toList=a.toList++l
 | [],a,_=>by simp
 | c::l,a,h=>by
  have e:=h c Op;rw [List.foldl_cons,KA l _ λd f=>h d (Re _ f),PY c e.1 e.2];simp
theorem Bg{x:Str}(h:D9 x):∀c∈cs x,97<=c/\c<=122:=λc a=>by
 have:=h.2.2 c a
 omega
theorem JD{x:Str}(h:D9 x):cs (reprText x)=39::(cs x++[39]):=by
 have a:=Bg h
 have b:reprQuote x=39:=by
  unfold reprQuote
  have:x.cps.contains 39=false:=by
   rw [d7];intro c
   have d:39∈cs x:=by
    have:=Array.contains_iff_mem.mp c
    exact jk.mpr this
   grind
  grind
 unfold reprText;rw [b];show ((x.cps.foldl _ #[39]).push 39).toList=_;rw [← Array.foldl_toList,Array.toList_push,KA x.cps.toList _ a];rfl
def Sy:List Str->List Nat->List Nat
 | [],f=>f
 | p::r,f=>44::32::39::(cs p++39::Sy r f)
theorem VG:cs (", ":Str)=[44,32]:=by decide +kernel
theorem CO:∀(p:Str) (r:List Str) (f:List Nat),(∀q∈p::r,D9 q)->cs (Str.join ", " ((p::r).map reprText))++f=39::(cs p++39::Sy r f)
 | p,[],f,h=>by
  show cs (reprText p)++f=_;rw [JD (h p Op)];simp [Sy]
 | p,q::r,f,h=>by
  show cs (reprText p ++ ", "++Str.join _ _)++f=_;rw [Cs,Cs,JD (h p Op),eR,CO q r f λz a=>h z (Re _ a),VG];simp [Sy]
theorem UM:∀{a b r e:List Nat},(∀c∈a,97<=c/\c<=122)->(∀c∈b,97<=c/\c<=122)->a++39::r=b++39::e->a=b/\r=e
 | [],[],r,e,_,_,h=>⟨rfl,(eQ h).2⟩
 | [],c::b,r,e,_,f,h=>by
  have:=f c Op
  grind
 | c::a,[],r,e,i,_,h=>by
  simp_all
 | c::a,d::b,r,e,i,f,h=>by
  obtain⟨j,k⟩:=UM (λz g=>i z (Re _ g)) (λz g=>f z (Re _ g)) (eQ h).2
  grind
def Yf(f:List Nat):Prop:=f=[41]\/f=[44,41]
theorem QY:∀{r b:List Str} {f a:List Nat},(∀q∈r,D9 q)->(∀q∈b,D9 q)->Yf f->Yf a->Sy r f=Sy b a->r=b
 | [],[],_,_,_,_,_,_,_=>rfl
 | [],q::b,f,a,_,_,c,_,h=>by
  have h:f=44::32::39::(cs q++39::Sy b a):=h
  rcases c with e | e <;> rw [e] at h <;> simp at h
 | q::r,[],f,a,_,_,_,c,h=>by
  have h:44::32::39::(cs q++39::Sy r f)=a:=h
  rcases c with e | e <;> rw [e] at h <;> simp at h
 | q::r,d::b,f,a,j,k,c,g,h=>by
  have h:44::32::39::(cs q++39::Sy r f)=44::32::39::(cs d++39::Sy b a):=h;have h:cs q++39::Sy r f=cs d++39::Sy b a:=by grind
  obtain⟨l,m⟩:=UM (Bg (j q Op)) (Bg (k d Op)) h;rw [KQ l,QY (λz i=>j z (Re _ i)) (λz i=>k z (Re _ i)) c g m]
theorem JR:∀a:List Str,Bk (a.map .str)=a.map PyData.str
 | []=>rfl
 | p::r=>by
  show PyData.str p::Bk _=_;rw [JR r];rfl
theorem JV(a:List Str):BF (.tup (a.map .str))=tupleText (a.map reprText):=by
 show (PyData.tuple _).shown=_;rw [JR,jx,PyData.shownAll_strs]
theorem Yu(b:Bool):cs ((if b=true then ",)" else ")" : String):Str)=if b=true then [44,41] else [41]:=by
 cases b
 ·decide +kernel
 ·decide +kernel
theorem KP(a:List Str):cs (tupleText a)=40::(cs (Str.join ", " a)++(if (a.length==1)=true then [44,41] else [41])):=by
 unfold tupleText;rw [Cs,Cs,Yu];rfl
theorem Uv(b:Bool):Yf (if b=true then [44,41] else [41]):=by
 cases b
 ·exact .inl rfl
 ·exact .inr rfl
theorem OI{b a:List Str}(c:∀p∈b,D9 p)(d:∀q∈a,D9 q)(h:BF (.tup (b.map .str))=BF (.tup (a.map .str))):b=a:=by
 rw [JV,JV] at h;have h:=congrArg cs h;rw [KP,KP,Go,Go] at h;have h:=(eQ h).2;cases b with
 | nil =>
  cases a with
  | nil=>rfl
  | cons q a =>
   rw [CO q a _ d] at h;have h:[41]=39::_:=h;simp at h
 | cons p b =>
  cases a with
  | nil =>
   rw [CO p b _ c] at h;have h:39::_=[41]:=h;simp at h
  | cons q a =>
   rw [CO q a _ d,CO p b _ c] at h;obtain⟨f,g⟩:=UM (Bg (c p Op)) (Bg (d q Op)) (eQ h).2;rw [KQ f,QY (λz e=>c z (Re _ e)) (λz e=>d z (Re _ e)) (Uv _) (Uv _) g]
theorem VH(n:Nat):cs ((toString (n:Int):String):Str)=(Nat.toDigits 10 n).map Char.toNat:=by
 rw [Str.ofString_eq_toList];show (toString _).toList.map _=_
 have:toString (n:Int)=Nat.repr n:=rfl
 simp_all
theorem VL{a b:Char}(h:a.toNat=b.toNat):a=b:=Char.ext (UInt32.toNat_inj.mp h)
theorem ON:∀{a b:List Char},a.map Char.toNat=b.map Char.toNat->a=b
 | [],[],_=>rfl
 | [],_::_,h=>by cases h
 | _::_,[],h=>by cases h
 | x::a,y::b,h=>by
  have h:=eQ h;rw [VL h.1,ON h.2]
theorem SY{i j:Int}(b:0<=i)(c:0<=j)(h:cs ((toString i:String):Str)=cs ((toString j:String):Str)):i=j:=by
 obtain⟨n,rfl⟩:=jV b;obtain⟨m,rfl⟩:=jV c;rw [VH,VH] at h
 have:=congrArg (λl=>Nat.ofDigitChars 10 l 0) (ON h)
 simp_all
theorem Ro(t:BP):BF (Aa t)=tupleText [reprText t.a,reprText t.b,((toString t.len:String):Str)]:=by
 show (PyData.tuple [.str _,.str _,.int _]).shown=_;simp [jx,PyData.shownAll]
theorem QG{t:BP}(c:D9 t.a)(d:D9 t.b):cs (BF (Aa t))=40::39::(cs t.a++39::44::32::39::(cs t.b++39::44::32::(cs ((toString t.len:String):Str)++[41]))):=by
 rw [Ro,KP];show 40::(cs (reprText _ ++ ", "++(reprText _ ++ ", "++toString _))++[41])=_;rw [Cs,Cs,Cs,Cs,JD c,JD d,VG];simp
theorem Rj{s t:BP}(c:D9 s.a)(d:D9 s.b)(e:D9 t.a)(f:D9 t.b)(j:0<=s.len)(k:0<=t.len)(h:BF (Aa s)=BF (Aa t)):s=t:=by
 have h:=congrArg cs h;rw [QG c d,QG e f] at h;obtain⟨g,m⟩:=UM (Bg c) (Bg e) (eQ (eQ h).2).2;obtain⟨i,n⟩:=UM (Bg d) (Bg f) (eQ (eQ (eQ m).2).2).2;have o:=SY j k (List.append_cancel_right (eQ (eQ n).2).2);obtain⟨a,b,l⟩:=s;obtain⟨p,q,r⟩:=t;have g:=KQ g;have i:=KQ i
 grind
def E8(t:BP):List Key:=[.inr t.a,.inr t.b,.inl t.len]
def Sk(t:BP):List Key:=[.inr t.a,.inr t.b]
def O2(a:List BP):Prop:=a.Pairwise λs t=>Cg (E8 t) (E8 s)=false
def NX(N:Net)(d:D):Prop:=∃a:List BP,d=.tup [.tup (N.ps.map .str),.tup (a.map Aa)]/\(∀t∈a,t∈N.ts)/\a.Pairwise Bw
noncomputable def thinB(N:Net)(d:D):Bool:=@decide (NX N d) (gv _)
theorem thinB_iff{N:Net}{d:D}:thinB N d=true↔NX N d:=by
 unfold thinB
 grind
theorem Oi{N:Net}{d:D}{b:Bool}(h:b=true↔NX N d):b=thinB N d:=by
 rw [e_,thinB_iff];exact h
def ZS(N:Net)(d:D):Prop:=∃s∈N.ts,d=Aa s
noncomputable def JQ(N:Net)(d:D):Bool:=@decide (ZS N d) (gv _)
theorem tofB_iff{N:Net}{d:D}:JQ N d=true↔ZS N d:=by
 unfold JQ
 grind
theorem XQ{a:Str}{x:D}(h:GA (.str a) x=true):x=.str a:=by
 cases x with
 | str b =>
  have h:(a==b)=true:=h
  grind
 | _=>cases h
theorem aK{a:Str}{x:D}(h:GA x (.str a)=true):x=.str a:=by
 cases x with
 | str b =>
  have h:(b==a)=true:=h
  grind
 | _=>cases h
theorem ID:∀{a:List D} {b:List Str},iz (Bk a) (Bk (b.map .str))=true->a=b.map .str
 | [],[],_=>rfl
 | [],_::_,h=>by cases h
 | _::_,[],h=>by cases h
 | x::a,p::b,h=>by
  have h:(eW _ _&&iz _ _)=true:=h;rw [cq] at h;rw [aK h.1,ID h.2];rfl
theorem eqvAll_refl:∀a:List Str,iz (Bk (a.map .str)) (Bk (a.map .str))=true
 | []=>rfl
 | p::a=>by
  show ((p==p)&&iz _ _)=true;rw [beq_self_eq_true,eqvAll_refl a];rfl
theorem eqD_strs{p:D}{a:List Str}:GA p (.tup (a.map .str))=true↔p=.tup (a.map .str):=by
 constructor
 ·intro h
  cases p with
  | tup b=>rw [ID h]
  | _=>cases h
 ·rintro rfl
  exact eqvAll_refl a
theorem Sj{s:BP}{d:D}(h:GA (Aa s) d=true):∃z,d=.tup [.str s.a,.str s.b,z]/\∀i,z=.int i->i=s.len:=by
 cases d with
 | tup c =>
  match c,h with
  | [x,y,z],h =>
   have h:(eW (toPy (.str s.a)) (toPy x)&&(eW (toPy (.str s.b)) (toPy y)&&(eW (.int s.len) (toPy z)&&true)))=true:=h;rw [Bool.and_true,cq,cq] at h;refine⟨z,by rw [XQ (a:=s.a) (x:=x) h.1,XQ (a:=s.b) (x:=y) h.2.1],λi e=>?_⟩;subst e;have f:(s.len==i)=true:=h.2.2
   grind
  | [],h=>cases h
  | [x],h=>exact absurd h (by show ¬((eW (toPy (.str s.a)) (toPy x)&&false)=true); simp)
  | [x,y],h=>exact absurd h (by show ¬((eW (toPy (.str s.a)) (toPy x)&&(eW (toPy (.str s.b)) (toPy y)&&false))=true); simp)
  | x::y::z::u::r,h=>exact absurd h (by show ¬((eW (toPy (.str s.a)) (toPy x)&&(eW (toPy (.str s.b)) (toPy y)&&(eW (.int s.len) (toPy z)&&false)))=true); simp)
 | _=>cases h
theorem JE{f:BP->D}{k:BP->List Key}(d:∀s t,He (f s) (f t)=some (Cg (k s) (k t))):∀{ts:List BP},Kh (ts.map f)=true↔ts.Pairwise λs t=>Cg (k s) (k t)=true
 | []=>⟨λ_=>.nil,λ_=>rfl⟩
 | [t]=>⟨λ_=>gu _ _,λ_=>rfl⟩
 | s::t::r=>by
  show ((He _ _==some _)&&Kh ((t::r).map f))=true↔_;rw [cq,JE d (ts:=t::r),d,dm (a:=s)];constructor
  ·rintro ⟨b,e⟩
   have b:=cv (eq_of_beq b);refine⟨λu c=>?_,e⟩
   rcases T0.mp c with rfl | c
   ·exact b
   ·exact DN _ _ _ b ((dm.mp e).1 u c)
  simp_all
theorem P8(s t:BP):He (Aa s) (Aa t)=some (Cg (E8 s) (E8 t)):=by
 show (if (true&&(true&&(true&&true)))=true then some (GY (E8 s) (E8 t)) else none)=_;rw [if_pos (show (true&&(true&&(true&&true)))=true from rfl),Iy _ _ rfl]
theorem V6(s t:BP):He (FY (Aa s)) (FY (Aa t))=some (Cg (Sk s) (Sk t)):=by
 show (if (true&&(true&&true))=true then some (GY (Sk s) (Sk t)) else none)=_;rw [if_pos (show (true&&(true&&true))=true from rfl),Iy _ _ rfl]
theorem ekey_iff{s t:BP}:Cg (Sk s) (Sk t)=true↔Bw s t:=by
 show (if fH _=.inr _ then (if fH _=.inr _ then false else decide (cs _<cs _)) else decide (cs _<cs _))=true↔(cs _<cs _\/(s.a=t.a/\cs _<cs _))
 by_cases c:s.a=t.a
 ·rw [if_pos (by rw [c])]
  by_cases d:s.b=t.b
  ·simp_all
  ·rw [if_neg (λe=>d (fT e)),decide_eq_true_eq,c]
   constructor
   ·intro h; simp_all
   grind
 simp_all
theorem K_(s:BP):¬Bw s s:=by
 rintro (h | ⟨_,h⟩) <;> exact DD _ h
theorem QZ{s t:BP}(h:Bw s t):Cg (E8 s) (E8 t)=true:=by
 show (if fH _=.inr _ then (if fH _=.inr _ then (if jF _=.inl _ then false else decide _) else decide (cs _<cs _)) else decide (cs _<cs _))=true
 rcases h with h | ⟨h,c⟩
 ·rw [if_neg (λe=>DD s.a (by simp_all)),decide_eq_true h]
 ·rw [if_pos (by rw [h]),if_neg (λe=>DD s.b (by grind)),decide_eq_true c]
theorem LQ:∀{e:List BP},e.Pairwise Bw->∀s∈e,∀t∈e,s.a=t.a->s.b=t.b->s=t
 | [],_,s,c,_,_,_,_=>by cases c
 | x::e,h,s,c,t,d,g,i=>by
  have h:=dm.mp h
  rcases T0.mp c with j | c
  ·rcases T0.mp d with f | d
   ·rw [j,f]
   ·rcases h.1 t d with h | ⟨_,h⟩
    ·grind
    grind
  ·rcases T0.mp d with f | d
   ·rcases h.1 s c with h | ⟨_,h⟩
    ·rw [← f,g] at h; exact absurd h (DD _)
    grind
   ·exact LQ h.2 s c t d g i
theorem WH{N:Net}(ok:N.Ok){s t:BP}(f:s∈N.ts)(g:t∈N.ts)(h:Cg (E8 s) (E8 t)=true):Bw s t:=by
 have h:(if fH _=.inr _ then (if fH _=.inr _ then (if jF _=.inl _ then false else decide _) else decide _) else decide _)=true:=h
 by_cases c:s.a=t.a
 ·rw [if_pos (by rw [c])] at h
  by_cases d:s.b=t.b
  ·rw [if_pos (by rw [d]),if_pos (by rw [LQ ok.trise s f t g c d])] at h
   cases h
  ·rw [if_neg (λe=>d (fT e)),decide_eq_true_eq] at h
   exact .inr ⟨c,h⟩
 ·rw [if_neg (λe=>c (fT e)),decide_eq_true_eq] at h
  exact .inl h
theorem CD{a:List BP}(h:a.Pairwise Bw):a.Nodup:=h.imp λ{s t} h e=>by rw [e] at h; exact K_ _ h
theorem sub_len{l m:List BP}(a:l.Nodup)(b:m.Nodup)(h:∀t∈l,t∈m):l.length<=m.length:=by
 have:l.Perm (m.filter λt=>decide (t∈l)):=(i4 a (b.filter _)).mpr λt=>by
  simp_all
 rw [this.length_eq];exact eM _ _
theorem PV{N:Net}(ok:N.Ok){a:List BP}(h:∀t∈a,t∈N.ts)(b:a.Pairwise Bw):Net.Ok ⟨N.ps,a⟩:=⟨ok.names,ok.rise,λt c=>ok.tin t (h t c),b⟩
theorem HL{P:BP->Prop}:∀{xs:List D},(∀d∈xs,∃s,P s/\d=Aa s)->∃a:List BP,xs=a.map Aa/\∀t∈a,P t
 | [],_=>⟨[],rfl,λt h=>by cases h⟩
 | d::xs,h=>by
  obtain⟨s,c,rfl⟩:=h d Op;obtain⟨a,rfl,f⟩:=HL λe b=>h e (Re _ b);refine⟨s::a,rfl,λt z=>?_⟩
  grind
theorem Nh{N:Net}{a:List D}(h:a.all (JQ N)=true):∃b:List BP,a=b.map Aa/\∀t∈b,t∈N.ts :=
 HL λd c=>by
  obtain⟨s,f,e⟩:=tofB_iff.mp (d9.mp h d c);exact⟨s,f,e⟩
theorem Rk{N:Net}(ok:N.Ok)(p:D)(b:List D):(GA p (.tup (N.ps.map .str))&&(b.all (JQ N)&&Kh b))=thinB N (.tup [p,.tup b]):=by
 refine Oi ⟨λh=>?_,λh=>?_⟩
 ·rw [cq,cq] at h
  obtain⟨f,rfl,a⟩:=Nh h.2.1;refine⟨f,by rw [eqD_strs.mp h.1],a,?_⟩
  have:=(JE P8).mp h.2.2
  exact this.imp_of_mem λ{s t} g c z=>WH ok (a s g) (a t c) z
 ·obtain⟨f,e,a,i⟩:=h
  cases e;rw [cq,cq];refine⟨eqD_strs.mpr rfl,d9.mpr λd j=>?_,(JE P8).mpr (i.imp λ{s t} z=>QZ z)⟩;obtain⟨t,c,rfl⟩:=Rs.mp j;exact tofB_iff.mpr ⟨t,a t c,rfl⟩
theorem Ng{N:Net}{d:D}(h:∀p a,d≠.tup [p,.tup a]):thinB N d=false:=by
 rw [d7];intro z;obtain⟨b,e,_⟩:=thinB_iff.mp z;exact h _ _ e
theorem Ub{d:D}(h:P1 d=true):∃(e:List Str) (g:List BP),d=.tup [.tup (e.map .str),.tup (g.map Aa)]/\(∀p∈e,D9 p)/\e.length<=24/\g.length<=60/\(∀t∈g,D9 t.a/\D9 t.b/\1<=t.len/\t.len<=1000000)/\g.Pairwise Bw:=by
 cases o:tupleOfB 2 d with
 | false=>rw [Z4 o] at h; cases h
 | true =>
  obtain⟨p,t,rfl⟩:=Xr o;have j:(Iu p&&PN p t)=true:=h;rw [cq] at j;cases p with
  | tup xs =>
   have k:(decide (xs.length<=24)&&(xs.all CC&&Kh xs))=true:=j.1;rw [cq,cq,decide_eq_true_eq] at k;obtain⟨e,rfl,m⟩:=OJ k.2.1;have c:Ww (strsOf (e.map .str)) t=true:=j.2;rw [B9] at c;cases t with
   | tup i =>
    have c:(decide (i.length<=60)&&(i.all IT&&(i.all (EA e)&&Kh (i.map FY))))=true:=c;rw [cq,cq,cq,decide_eq_true_eq] at c
    obtain⟨g,rfl,n⟩:=HL (P:=λt=>D9 t.a/\D9 t.b/\1<=t.len/\t.len<=1000000) (xs:=i) λd r=>by
     obtain⟨x,y,l,rfl,u,v,_,w,A⟩:=MC (d9.mp c.2.1 d r);exact⟨⟨x,y,l⟩,⟨u,v,w,A⟩,rfl⟩
    refine⟨e,g,rfl,m,by have:=k.1; rw [Go] at this; exact this,by have:=c.1; rw [Go] at this; exact this,n,?_⟩;have q:=c.2.2.2;rw [fA] at q;exact((JE (f:=FY∘Aa) V6).mp q).imp λ{s t} z=>ekey_iff.mp z
   | _=>cases c
  | _=>cases j.1
theorem Te{N:Net}(ok:N.Ok){f:List Str}{c:List BP}(g:∀p∈f,D9 p)(i:∀t∈c,D9 t.a/\D9 t.b/\1<=t.len/\t.len<=1000000)(n:c.Pairwise Bw) :
  ((BF (.tup (f.map .str))==BF (.tup (N.ps.map .str)))&&(c.map Aa).all λd=>(N.ts.map Aa).any λe=>BF e==BF d)=thinB N (.tup [.tup (f.map .str),.tup (c.map Aa)]):=by
 refine Oi ⟨λh=>?_,λh=>?_⟩
 ·rw [cq] at h
  have e:=OI g ok.names (eq_of_beq h.1);subst e;refine⟨c,rfl,λt k=>?_,n⟩
  have:=d9.mp h.2 (Aa t) (Rs.mpr ⟨t,k,rfl⟩)
  obtain⟨e,o,z⟩:=em.mp this;obtain⟨s,l,rfl⟩:=Rs.mp o;obtain⟨q,r,_,C,_⟩:=ok.tin s l;obtain⟨v,w,E,_⟩:=i t k;rw [← Rj (ok.names _ q) (ok.names _ r) v w (by omega) (by omega) (eq_of_beq z)];exact l
 ·obtain⟨x,e,j,_⟩:=h
  have y:f.map D.str=N.ps.map D.str:=by injection e with e; injection e with e; injection e
  have A:c.map Aa=x.map Aa:=by injection e with e; injection e with _ e; injection e with e; injection e
  rw [cq,y,beq_self_eq_true];refine⟨rfl,d9.mpr λd m=>?_⟩;rw [A] at m;obtain⟨u,B,rfl⟩:=Rs.mp m;exact em.mpr ⟨Aa u,Rs.mpr ⟨u,j u B,rfl⟩,beq_self_eq_true _⟩
theorem Td{N:Net}{d:D}(ok:N.Ok)(c:N.ps.length<=24)(e:N.ts.length<=60)(h:NX N d):P1 d=true:=by
 obtain⟨f,rfl,a,b⟩:=h;exact Ud (PV ok a b) c (cx (sub_len (CD b) (CD ok.trise) a) e)
end Nt
namespace L2
open PySem.W
end L2
namespace Dp
open L2
end Dp
namespace Nt
open L2 Dp
def look(a:List BP)(x y:Str):Option Int:=((Ex a x).find? λz=>decide (z.1=y)).map (·.2)
def FS(a:List BP):Str->List Str->Int->Option Int
 | _,[],s=>some s
 | x,y::r,s=>match look a x y with
  | some l=>FS a y r (s+l)
  | none=>none
def MO:Option Int->D
 | some i=>.int i
 | none=>.non
def Cq:D->Bool
 | .str _=>true
 | _=>false
def Uj(N:Net):List Str->D
 | x::r=>if x∈N.ps then MO (FS N.ts x r 0) else .non
 | []=>.non
def Mr(N:Net):D->D
 | .tup a=>if a.all Cq then Uj N (strsOf a) else .non
 | _=>.non
def K9(d:D):Prop:=fine (10 ^ 30) d/\szD d<=160000/\Cr d<=50
abbrev LG:W2:=λa n P=>∃(N:Net) (d:D),a=[.sh (enc N),.sh d]/\N.Ok/\N.ps.length<=26/\N.ts.length<=60/\K9 d/\P (Mr N d) n
def O3:Aj:=(Ac (BG (CG (Be (AR (Eh "tuple" (AB 1)))) (AR (AU (D_ false) (B8 Ce (AF (AB 1) AT)) (wC (D.int 0))))) (Au (wC D.non)) Av)
 (Ac (BG (Be (AR (B8 Oh (AF (BR [none] (BI (AB 1)) (Af 0) CW (Eh "str" (AB 0))) AT)))) (Au (wC D.non)) Av)
 (Ac (Az 2 (AZ QQ (AE (AI (AB 0)) AY)))
 (Ac (BG (AR (AU (M8 true) (AU A8 (AB 1) (wC (D.int 0))) (AB 2))) (Au (wC D.non)) Av)
 (Ac (Az 3 (wC (D.int 0)))
 (Ac (E6 (VX (AF (AB 1) (AF (F5 CJ (AB 1) (BK (wC (D.int 1))) A6) AT))) (E9 2 (Ay (Af 4) (Ay (Af 5) Cj))) (Ac (BG (AR (AU (M8 true) (AB 5) (AU EW (AB 2) (AB 4)))) (Au (wC D.non)) Av)
 (TU 3 (AU EW (AU EW (AB 2) (AB 4)) (AB 5)))))
 (Au (AB 3))))))))
def QL:Aj:=(Ac (BG (CG (Be (AR (Eh "tuple" (AB 1)))) (CG (AR (AU (D_ false) (B8 Ce (AF (AB 1) AT)) (wC (D.int 0)))) (AR (AU (DV false) (wC (D.bl false)) (BR [none] (BI (AB 1)) (Af 0) CW (Eh "str" (AB 0))))))) (Au (wC D.non)) Av)
 (Ac (BG (AR (AU (DV false) (wC (D.bl false)) (BR [some 0,none] (BI (AB 1)) (Af 1) CW (AU (DV false) (AB 1) (AU A8 (AB 0) (wC (D.int 0))))))) (Au (wC D.non)) Av)
 (Ac (Az 2 (wC (D.int 0)))
 (Ac (E6 (TC (AF (wC (D.int 1)) (AF (B8 Ce (AF (AB 1) AT)) AT))) (Af 3) (Ac (ZR (F5 CJ (AB 1) (BK (AU IC (AB 3) (wC (D.int 1)))) (BK (AU Aq (AB 3) (wC (D.int 1))))) (E9 2 (Ay (Af 4) (Ay (Af 5) Cj))))
 (Ac (Az 6 (BR [some 4,some 5,none] (BI (AU A8 (AB 0) (wC (D.int 1)))) (Af 2) (Gk (AR (AU (D_ true) (AB 0) (AB 1))) (Gk (AR (AU (DV false) (AB 0) (F5 CJ (AB 2) A6 (BK (wC (D.int 2)))))) (AR (AU (DV false) (AB 1) (F5 CJ (AB 2) A6 (BK (wC (D.int 2)))))))) (AU A8 (AB 2) (wC (D.int 2)))))
 (Ac (BG (AR (AU Uy (AB 6) (DA AT))) (Au (wC D.non)) Av)
 (Az 2 (AU Aq (AB 2) (AU A8 (AB 6) (wC (D.int 0)))))))))
 (Au (AB 2))))))
theorem Gp:∀{b:List D},b.all Cq=true->∃a:List Str,b=a.map .str
 | [],_=>⟨[],rfl⟩
 | d::r,h=>by
  rw [fB,cq] at h;obtain⟨a,e⟩:=Gp h.2;cases d with
  | str x=>exact⟨x::a,by grind⟩
  | _=>cases h.1
theorem MA{g:Str->D}{x:Str}:∀{a:List Str},Bv (a.map .inr) (a.map g) (.inr x)=if x∈a then some (g x) else none
 | []=>rfl
 | p::a=>by
  show (if fH p=.inr x then some _ else Bv _ _ _)=_;rw [MA]
  grind
theorem MB{y:Str}:∀{a:List (Str×Int)},Bv (a.map λx=>.inr x.1) (a.map λx=>.int x.2) (.inr y)=((a.find? λz=>decide (z.1=y)).map (·.2)).map .int
 | []=>rfl
 | p::b=>by
  show (if fH _=.inr y then some _ else Bv _ _ _)=_;rw [MB]
  by_cases e:p.1=y
  ·simp_all
  simp_all
theorem Jw{N:Net}(ok:N.Ok){x y:Str}{l:Int}(h:look N.ts x y=some l):y∈N.ps/\1<=l/\l<=1000000:=by
 unfold look at h;cases c:(Ex N.ts x).find? λz=>decide (z.1=y) with
 | none=>grind
 | some z =>
  have d:=List.find?_some c;obtain⟨t,b,a⟩:=f6.mp (jE c);obtain⟨e,f,_,g,i⟩:=ok.tin t b
  rcases cu.mp a with a | a
  ·simp_all
  simp_all
section
variable {ss:List Slot}{n:Nat}{Pd:D->Nat->Prop}
theorem OQ{N:Net}(ok:N.Ok){d:E2}{e f:Slot}:∀(r:List Str) (x:Str) (s:Int) (a b:Slot),x∈N.ps->(match FS N.ts x r s with | some l=>∀a b,d.nx n [e,f,.sh (HM N),.sh (.int l),a,b] | none=>d.rt .non n) ->
  Bm (E9 2 (Ay (Af 4) (Ay (Af 5) Cj))) (Ac (BG (AR (AU (M8 true) (AB 5) (AU EW (AB 2) (AB 4)))) (Au (wC D.non)) Av) (TU 3 (AU EW (AU EW (AB 2) (AB 4)) (AB 5)))) d (Gi ((x::r).map .str) (r.map .str)) n [e,f,.sh (HM N),.sh (.int s),a,b]
 | [],x,s,a,b,g,h=>h a b
 | y::r,x,s,a,b,g,h=>by
  have i:Bv (N.ps.map .inr) (N.ps.map (Z6 N.ts)) (.inr x)=some (Z6 N.ts x):=by rw [MA,if_pos g]
  refine⟨rfl,rfl,?_⟩;refine⟨_,_,.inr x,_,rfl,rfl,i,_,_,.inr y,rfl,rfl,?_⟩;rw [MB];unfold FS at h;have j:((Ex N.ts x).find? λz=>decide (z.1=y)).map (·.2)=look N.ts x y:=rfl;rw [j];cases c:look N.ts x y with
  | none=>rw [c] at h; exact Bi h
  | some l =>
   rw [c] at h;have k:Bv ((Ex N.ts x).map λz=>.inr z.1) ((Ex N.ts x).map λz=>.int z.2) (.inr y)=some (.int l):=by rw [MB,j,c]; rfl
   refine BQ ⟨s,rfl,_,_,.inr x,_,rfl,rfl,i,_,_,.inr y,_,rfl,rfl,k,l,rfl,?_⟩;exact OQ ok r y (s+l) _ _ (Jw ok c).1 h
theorem MP(t:LG ss n Pd):O3 (EE Pd) n (ss++Uf 4 .no):=by
 obtain⟨N,d,rfl,ok,v,lt,fd,p⟩:=t;cases d with
 | tup b =>
  have w:=BU b;have x:B7 b<=160000:=fd.2.1;have f:Pd (if b.all Cq then Uj N (strsOf b) else .non) n:=p;refine⟨_,_,rfl,rfl,?_⟩;show if ((b.length:Int)==0)=true then _ else _
  cases b with
  | nil=>exact Bi f
  | cons g h =>
   rw [show (((g::h).length:Int)==0)=false from beq_eq_false_iff_ne.mpr (by rw [ZB]; omega)];refine BQ ⟨by omega,?_⟩;refine BO (λd=>.bl (Cq d)) (λq=>∃s,q=[s]) _ _ _ _ ?_ ⟨_,rfl⟩ ?_
   ·rintro d z q m A ⟨s,rfl⟩ i
    have:=i [.sh d] ⟨_,rfl⟩
    cases d <;> exact this
   rw [cy];refine⟨_,_,rfl,HB Cq (g::h),?_⟩;rw [VO];show if (!(g::h).all Cq)=true then _ else _
   cases k:(g::h).all Cq with
   | false=>rw [k] at f; exact Bi f
   | true =>
    rw [k] at f;obtain⟨u,e⟩:=Gp k;rw [e,B9] at f;cases u with
    | nil=>cases e
    | cons y r =>
     rw [dG] at e;cases e;refine BQ ⟨N,rfl,ok,by omega,by omega,?_⟩;refine⟨.str y,AO (j:=0) rfl,_,_,.inr y,rfl,rfl,?_⟩;show if (!(Bv (N.ps.map .inr) (N.ps.map (Z6 N.ts)) (.inr y)).isSome)=true then _ else _
     rw [MA];have a:Pd (if y∈N.ps then MO (FS N.ts y r 0) else .non) n:=f
     by_cases o:y∈N.ps
     ·rw [if_pos o] at a ⊢
      refine BQ ⟨_,_,(y::r).map .str,r.map .str,rfl,rfl,by show some (Dp.cutD (D.str y::r.map .str) (some 1) none)=_; rw [Ys]; rfl,?_⟩;refine OQ ok r y 0 _ _ o ?_;cases c:FS N.ts y r 0 with
      | none=>rw [c] at a; exact a
      | some l=>rw [c] at a; exact λ_ _=>a
     ·rw [if_neg o] at a ⊢
      exact Bi a
 | _=>exact p
theorem Cw{b:BW}{p:HI}{q:DW}{P:List D->Nat->Prop}(c:D->Bool)(g:D->D)(I:List Slot->Prop):∀(j e:List D) (n:Nat) (f:List Slot),
  (∀d∈j,∀(f:List Slot) (n:Nat) (r:D->Nat->List Slot->Prop) (s:Nat->List Slot->Prop),I f->(∀i,I i->c d=true->r (g d) n i)->(∀i,I i->c d=false->s n i)->b d f λk=>p n k λc t=>if c=true then q t k λy u=>r y u k else s t k)->I f->P (e++(j.filter c).map g) n->Ci b p q P j e n f
 | [],e,n,f,_,_,h=>by rw [List.filter_nil,jP,dS] at h; exact h
 | d::j,e,n,f,l,m,h=>l d Op f n _ _ m
  (λi a v=>Cw c g I j _ n _ (λd o=>l d (Re _ o)) a (by simp_all))
  (λi a v=>Cw c g I j _ n _ (λd o=>l d (Re _ o)) a (by grind))
def Ez(x y:Str):D->Bool
 | .tup [.str a,.str b,_]=>!(x==y)&&((a==x||b==x)&&(a==y||b==y))
 | _=>false
def Ul:D->D
 | .tup [_,_,l]=>l
 | d=>d
theorem J0{x y:Str}:∀{ts:List BP},(∀t∈ts,t.a≠t.b)->(((ts.map Aa).filter (Ez x y)).map Ul).head?=(look ts x y).map .int
 | [],_=>rfl
 | t::ts,h=>by
  have i:=J0 (x:=x) (y:=y) (ts:=ts) λs k=>h s (Re _ k);have j:=h t Op;have g:Ez x y (Aa t)=(!(x==y)&&((t.a==x||t.b==x)&&(t.a==y||t.b==y))):=rfl;have l:look (t::ts) x y=((((if t.a=x then [(t.b,t.len)] else [])++(if t.b=x then [(t.a,t.len)] else []))++Ex ts x).find? λz=>decide (z.1=y)).map (·.2):=rfl;rw [dG,l]
  by_cases f:t.a=x
  ·have d:t.b≠x:=λe=>j (f.trans e.symm)
   rw [if_pos f,if_neg d,dS]
   by_cases e:t.b=y
   ·have c:x≠y:=λz=>d (e.trans z.symm)
    have:Ez x y (Aa t)=true:=by rw [g,beq_eq_false_iff_ne.mpr c,beq_iff_eq.mpr f,beq_iff_eq.mpr e]; simp
    rw [jW this,f7,jd (by exact decide_eq_true e)];rfl
   ·have:Ez x y (Aa t)=false:=by
     rw [g]
     by_cases c:x=y
     ·rw [beq_iff_eq.mpr c]; rfl
     ·rw [beq_eq_false_iff_ne.mpr e,beq_eq_false_iff_ne.mpr (show t.a≠y from λz=>c (f.symm.trans z))]; simp
    rw [gw (by rw [this]; decide),f7,je (by rw [decide_eq_true_eq]; exact e)];exact i
  ·rw [if_neg f,cy]
   by_cases d:t.b=x
   ·rw [if_pos d]
    by_cases e:t.a=y
    ·have c:x≠y:=λz=>f (e.trans z.symm)
     have:Ez x y (Aa t)=true:=by rw [g,beq_eq_false_iff_ne.mpr c,beq_iff_eq.mpr d,beq_iff_eq.mpr e]; simp
     rw [jW this,f7,jd (by exact decide_eq_true e)];rfl
    ·have:Ez x y (Aa t)=false:=by
      rw [g]
      by_cases c:x=y
      ·rw [beq_iff_eq.mpr c]; rfl
      ·rw [beq_eq_false_iff_ne.mpr e,beq_eq_false_iff_ne.mpr (show t.b≠y from λz=>c (d.symm.trans z))]; simp
     rw [gw (by rw [this]; decide),f7,je (by rw [decide_eq_true_eq]; exact e)];exact i
   ·have:Ez x y (Aa t)=false:=by rw [g,beq_eq_false_iff_ne.mpr f,beq_eq_false_iff_ne.mpr d]; simp
    rw [if_neg d,cy,gw (by rw [this]; decide)];exact i
theorem OU{N:Net}(ok:N.Ok):∀{r:List Str} {x:Str} {s:Int},(∃y∈r,y∉N.ps)->FS N.ts x r s=none
 | [],x,s,h=>by grind
 | z::r,x,s,h=>by
  unfold FS;cases c:look _ x z with
  | none=>rfl
  | some l =>
   have d:=(Jw ok c).1;obtain⟨y,a,b⟩:=h
   rcases T0.mp a with rfl | a
   ·grind
   ·exact OU ok ⟨y,a,b⟩
theorem Wf{a:List Str}{k:Nat}{x y:Str}{r:List Str}(h:a.drop k=x::y::r):Dp.cutD (a.map D.str) (some (1+(k:Int) - 1)) (some (1+(k:Int)+1))=[.str x,.str y]:=by
 have b:=congrArg fo h;rw [fu,ZB,ZB] at b;unfold Dp.cutD;rw [show (1+k - 1)=(k:Int) by omega,show (1+k+1)=((k+2:Nat):Int) by omega,HT.sIx_nat,HT.sIx_nat,Go,gj (by omega),gj (by omega),← List.map_drop,h,show k+2 - k=2 by omega];rfl
theorem Ph(h0:LG ss n Pd):QL (EE Pd) n (ss++Uf 5 .no):=by
 obtain⟨N,d,rfl,ok,lp,lt,fd,p⟩:=h0;cases d with
 | tup K =>
  have hl:=BU K;have v:B7 K<=160000:=fd.2.1;have M:Pd (if K.all Cq then Uj N (strsOf K) else .non) n:=p;refine⟨_,_,rfl,rfl,?_⟩;show if ((K.length:Int)==0)=true then _ else _
  cases K with
  | nil=>exact Bi M
  | cons U V =>
   rw [show (((U::V).length:Int)==0)=false from beq_eq_false_iff_ne.mpr (by rw [ZB]; omega)];refine BQ ⟨by omega,?_⟩;refine BO (λd=>.bl (Cq d)) (λq=>∃s,q=[s]) _ _ _ _ ?_ ⟨_,rfl⟩ ?_
   ·rintro d g q m S ⟨s,rfl⟩ o
    have:=o [.sh d] ⟨_,rfl⟩
    cases d <;> exact this
   rw [cy];refine ES ?_;show if (!(U::V).all Cq)=true then _ else _
   cases W:(U::V).all Cq with
   | false=>rw [W] at M; exact Bi M
   | true =>
    rw [W] at M;obtain⟨ys,e⟩:=Gp W;rw [e,B9] at M;cases ys with
    | nil=>cases e
    | cons y r =>
     rw [dG] at e;cases e;have T:Pd (if y∈N.ps then MO (FS N.ts y r 0) else .non) n:=M
     have w:∀z∈y::r,D7 (.str z):=λz v=>by
      refine CI (B:=10 ^ 30) (by decide) ?_ (TM _);exact fines_iff.mp fd.1 _ (Rs.mpr ⟨z,v,rfl⟩:D.str z∈(y::r).map D.str)
     refine BQ ⟨by omega,?_⟩;refine BO (λd=>.bl (match d with | .str z=>N.ps.any (·==z) | _=>false)) (λq=>∃s,q=[.sh (enc N),s]) _ _ _ _ ?_ ⟨_,rfl⟩ ?_
     ·rintro d g q m S ⟨s,rfl⟩ o
      obtain⟨z,v,rfl⟩:=Rs.mp (show d∈(y::r).map D.str from g);refine⟨_,AO (j:=0) rfl,w z v,ER ok.names,_,rfl,?_⟩
      have:=o [.sh (enc N),.sh (.str z)] ⟨_,rfl⟩
      have O:((N.ps.map D.str).any λu=>GA u (.str z))=N.ps.any (·==z):=by rw [jQ]; rfl
      have this:S (.bl (N.ps.any (·==z))) m [.sh (enc N),.sh (.str z)]:=this;rw [← O] at this;exact this
     rw [cy];refine ES (l:=(y::r).map D.str) (p:=fun(d:D)=>match d with | .str z=>N.ps.any (·==z) | _=>false) ?_;show if (!((y::r).map D.str).all _)=true then _ else _
     rw [jO]
     have F:((y::r).all ((fun(d:D)=>match d with | .str z=>N.ps.any (·==z) | _=>false)∘D.str))=true↔∀z∈y::r,z∈N.ps:=by
      rw [d9];refine forall_congr' λz=>forall_congr' λv=>?_;show (N.ps.any (·==z))=true↔_;rw [em];exact⟨fun⟨u,hu,e⟩=>by rw [← eq_of_beq e]; exact hu,λh=>⟨z,h,beq_self_eq_true _⟩⟩
     by_cases E:∀z∈y::r,z∈N.ps
     ·rw [F.mpr E]
      rw [if_pos (E y Op)] at T;refine BQ ⟨_,_,rfl,rfl,_,_,rfl,⟨by decide,by decide,by omega,by omega⟩,?_⟩;have X:∀t∈N.ts,t.a≠t.b:=λt P e=>by have:=(ok.tin t P).2.2.1; rw [e] at this; exact gN _ this
      have G:(((y::r).map D.str).length:Int) - 1=(r.length:Int):=by rw [Go,ZB]; omega
      refine EO (all:=Cu 1 ((((y::r).map D.str).length:Int) - 1).toNat) (λk m q=>∃(x:Str) (f:List Str) (s:Int) (Y Z s5 s6:Slot),(y::r).drop k.length=x::f/\m=n/\Pd (MO (FS N.ts x f s)) n/\q=[.sh (enc N),.sh (.tup ((y::r).map .str)),.sh (.int s),Y,Z,s5,s6]) ?_ ?_ _ [] _ _ rfl ⟨y,r,0,_,_,_,_,rfl,rfl,T,rfl⟩
      ·rintro m q ⟨x,f,s,Y,Z,s5,s6,g,rfl,A,rfl⟩
       rw [By,G] at g
       have:=congrArg fo g
       rw [fu,ZB,ZB] at this;have hr:f=[]:=f_.mp (by omega);rw [hr] at A;exact A
      ·rintro k d a2 m q S Q ⟨x,f,s,Y,Z,s5,s6,g,rfl,A,rfl⟩ o
       obtain⟨rfl,hk⟩:=Iq Q;rw [G] at hk;have H:=congrArg fo g;rw [fu,ZB,ZB] at H;cases f with
       | nil=>rw [eE] at H; omega
       | cons z f =>
        rw [XV,dB] at o;have a0:(y::r).drop (k.length+1)=z::f:=by rw [← List.drop_drop,g]; rfl
        have hx:x∈y::r:=gS (i:=k.length) (by rw [g]; exact Op);have v:z∈y::r:=gS (i:=k.length) (by rw [g]; exact Re _ Op);have ec:=Wf g;show E9 2 (Ay (Af 4) (Ay (Af 5) Cj)) (D.tup (Dp.cutD ((y::r).map D.str) (some (1+(k.length:Int) - 1)) (some (1+(k.length:Int)+1)))) _ _;rw [ec];refine⟨rfl,rfl,?_⟩;refine⟨.tup (N.ts.map Aa),AO (j:=1) rfl,by rw [Go]; omega,?_⟩;refine Cw (Ez x z) Ul (λq=>∃s,q=[.sh (.str x),.sh (.str z),s]) _ _ _ _ ?_ ⟨_,rfl⟩ ?_
        ·rintro d g q m S sk ⟨s,rfl⟩ h1 h2
         obtain⟨t,P,rfl⟩:=Rs.mp g;obtain⟨m1,m2,_⟩:=ok.tin t P
         have l2:D7 (.tup [.str t.a,.str t.b]):=ER (ps:=[t.a,t.b]) λp A=>by
          simp only [T0,c6,or_false] at A
          rcases A with rfl | rfl
          ·exact ok.names _ m1
          ·exact ok.names _ m2
         have k1:=h1 [.sh (.str x),.sh (.str z),.sh (Aa t)] ⟨_,rfl⟩;have I:=h2 [.sh (.str x),.sh (.str z),.sh (Aa t)] ⟨_,rfl⟩;have ej:Ez x z (Aa t)=(!(x==z)&&((t.a==x||t.b==x)&&(t.a==z||t.b==z))):=rfl;have a1:∀x:Str,([D.str t.a,D.str t.b].any λu=>GA u (.str x))=(t.a==x||t.b==x):=λx=>by show (t.a==x||(t.b==x||false))=_; rw [Bool.or_false]
         rw [ej] at k1 I;show if (!(x==z))=true then _ else _
         cases O:(x==z) with
         | true=>rw [O] at I; exact BQ (BQ (I rfl))
         | false =>
          refine Bi ⟨w x hx,l2,_,rfl,?_⟩;show if ([D.str t.a,D.str t.b].any λu=>GA u (.str x))=true then _ else _
          rw [a1];cases e2:(t.a==x||t.b==x) with
          | false=>rw [O,e2] at I; exact BQ (BQ (I rfl))
          | true =>
           refine Bi ⟨w z v,l2,_,rfl,?_⟩;show if ([D.str t.a,D.str t.b].any λu=>GA u (.str z))=true then _ else _
           rw [a1];cases e3:(t.a==z||t.b==z) with
           | false=>rw [O,e2,e3] at I; exact BQ (I rfl)
           | true=>rw [O,e2,e3] at k1; exact Bi ⟨_,AO (j:=2) rfl,k1 rfl⟩
        ·rw [cy]
         have J:=J0 (x:=x) (y:=z) X
         have C:∀d∈((N.ts.map Aa).filter (Ez x z)).map Ul,fine 1000000 d:=λd g=>by
          obtain⟨e,he,rfl⟩:=Rs.mp g;obtain⟨t,P,rfl⟩:=Rs.mp (eU.mp he).1;obtain⟨_,_,_,m3,m4⟩:=ok.tin t P;show t.len.natAbs<=1000000;omega
         have R:∀d∈((N.ts.map Aa).filter (Ez x z)).map Ul,Cr d<=0:=λd g=>by
          obtain⟨e,he,rfl⟩:=Rs.mp g;obtain⟨t,P,rfl⟩:=Rs.mp (eU.mp he).1;exact On _
         generalize ((N.ts.map Aa).filter (Ez x z)).map Ul=L at J C R;have a3:C9 L<=0:=dps_le.mpr R;refine⟨z0,CI (B:=1000000) (by decide) (fines_iff.mpr C) (by show C9 L+1<=100; omega),⟨rfl,rfl,by decide⟩,?_⟩;unfold FS at A;cases L with
         | nil =>
          have hc:look N.ts x z=none:=by
           cases c:look N.ts x z with
           | none=>rfl
           | some l=>rw [c] at J; cases J
          rw [hc] at A;exact Bi A
         | cons a L =>
          cases c:look N.ts x z with
          | none=>rw [c] at J; cases J
          | some l =>
           rw [c] at J A;cases J;exact BQ ⟨_,AO (j:=0) rfl,o _ _ ⟨z,f,s+l,_,_,_,_,a0,rfl,A,rfl⟩⟩
     ·rw [d7.mpr (λh=>E (F.mp h))]
      have:(if y∈N.ps then MO (FS N.ts y r 0) else .non)=D.non:=by
       by_cases hy:y∈N.ps
       ·rw [if_pos hy,OU ok]
        ·rfl
        ·refine gi λhc=>E λz v=>?_
         rcases T0.mp v with rfl | v
         ·exact hy
         ·exact gi λhn=>hc ⟨z,v,hn⟩
       ·rw [if_neg hy]
      rw [this] at T;exact Bi T
 | _=>exact p
end
def Wi:W2:=λa n P=>∃(N:Net) (d:D),a=[.sh (enc N),.sh d]/\N.Ok/\D7 d/\P (.bl (JQ N d)) n
def IS:W2:=λa n P=>∃(N:Net) (d:D),a=[.sh (enc N),.sh d]/\N.Ok/\N.ps.length<=24/\N.ts.length<=60/\fine (10 ^ 41) d/\szD d<=200000/\Cr d<=90/\P (.bl (thinB N d)) n
def PF:W2:=λc n P=>∃(N:Net) (b:List BP),c=[.sh (enc N),.sh (enc ⟨N.ps,b⟩)]/\N.Ok/\N.ts.length<64/\(∀t∈b,t∈N.ts)/\∀a:List BP,a.Perm (N.ts.filter λt=>decide (t∉b))->Fc a->P (.lst (a.map Aa)) n
def II:Aj:=(Au (HJ (AU (DV false) (AB 1) (AU A8 (AB 0) (wC (D.int 1)))) (AZ NS (AE (AI (AU A8 (AB 1) (wC (D.int 2)))) AY))))
def Lz:Aj:=(Ac (BG (CG (Be (AR (AZ Fq (AE (AI (wC (D.int 2))) (AE (AI (AB 1)) AY))))) (Be (AR (Eh "tuple" (AU A8 (AB 1) (wC (D.int 1))))))) (Au (wC (D.bl false))) Av)
 (Au (HJ (AU Uy (AU A8 (AB 1) (wC (D.int 0))) (AU A8 (AB 0) (wC (D.int 0)))) (HJ (B8 Oh (AF (BR [some 0,none] (BI (AU A8 (AB 1) (wC (D.int 1)))) (Af 1) CW (AZ Wi (AE (AI (AB 0)) (AE (AI (AB 1)) AY)))) AT)) (AZ DB (AE (AI (AU A8 (AB 1) (wC (D.int 1)))) AY))))))
def Ka:Aj:=(Au (AZ Dg (AE (AI (BR [some 1,none] (BI (AU A8 (AB 0) (wC (D.int 1)))) (Af 1) (AR (AU (DV true) (AB 1) (AU A8 (AB 0) (wC (D.int 1))))) (AB 1))) AY)))
def E3:Aj:=(Au (BR [none,none,none] (BI (B8 Hk (AF (BR [none] (BI (AB 0)) (Af 0) CW (BN (AF (AU A8 (AB 0) (wC (D.int 2))) (AF (AU A8 (AB 0) (wC (D.int 0))) (AF (AU A8 (AB 0) (wC (D.int 1))) AT))))) AT))) (E9 3 (Ay (Af 0) (Ay (Af 1) (Ay (Af 2) Cj)))) CW (BN (AF (AB 1) (AF (AB 2) (AF (AB 0) AT))))))
theorem Vw{a:List BP}(h:HH D8 (a.map Aa)):O2 a:=by
 unfold HH at h;rw [fK] at h;exact h.imp λ{s t} z=>z _ _ rfl rfl
theorem EQ{N:Net}(ok:N.Ok){a:List BP}(h:∀t∈a,t∈N.ts):D7 (.tup (a.map Aa))/\D7 (.lst (a.map Aa)):=by
 have c:∀d∈a.map Aa,item d:=λd b=>by
  obtain⟨t,e,rfl⟩:=Rs.mp b;exact J1 ok _ (Rs.mpr ⟨t,h t e,rfl⟩)
 have f:C9 (a.map Aa)<=1:=dps_le.mpr λd b=>(c d b).2.2;exact⟨CI (B:=1000001) (by decide) (fines_iff.mpr λd b=>(c d b).1) (by show C9 (a.map Aa)+1<=100; omega),SQ c⟩
theorem Iz{N:Net}(ok:N.Ok){t:BP}(h:t∈N.ts):D7 (Aa t):=by
 have a:=J1 ok _ (Rs.mpr ⟨t,h,rfl⟩);exact CI (B:=1000001) (by decide) a.1 (by have:=a.2.2; omega)
theorem NP{a:List BP}{t:BP}:((a.map Aa).any λy=>GA y (Aa t))=decide (t∈a):=by
 rw [e_,em,decide_eq_true_eq];constructor
 ·rintro ⟨d,b,e⟩
  obtain⟨s,c,rfl⟩:=Rs.mp b;rw [← (Q8 s t).mp e];exact c
 ·intro h
  exact⟨Aa t,Rs.mpr ⟨t,h,rfl⟩,(Q8 t t).mpr rfl⟩
theorem Qx:∀a:List D,a.length<=B7 a
 | []=>TM _
 | x::a=>by
  have:=Qx a
  show a.length+1<=szD x+1+B7 a;omega
theorem OT:∀c:List BP,200*c.length<=B7 (c.map Aa)
 | []=>TM _
 | t::c=>by
  have:=OT c
  show 200*(c.length+1)<=t.a.length+1+(t.b.length+1+(200+1+0))+1+B7 (c.map Aa);omega
theorem Hu{t:BP}(d:D9 t.a)(e:D9 t.b):∀c∈cs (BF (Aa t)),c<1114112:=by
 rw [QG d e];intro c f;simp only [T0,cu,c6,or_false] at f;have g:c∈cs t.a->c<1114112:=λh=>by have:=Bg d c h; omega
 have i:c∈cs t.b->c<1114112:=λh=>by have:=Bg e c h; omega
 have j:=Li t.len c
 rcases f with h | h | h | h | h | h | h | h | h | h | h | h | h
 all_goals first | exact g h | exact i h | exact j h | omega
section
variable {ss:List Slot}{n:Nat}{Pd:D->Nat->Prop}
theorem MT(h:Wi ss n Pd):II (EE Pd) n (ss++Uf 0 .no):=by
 obtain⟨N,d,rfl,ok,g,p⟩:=h;unfold II;refine⟨_,AO (j:=1) rfl,g,(EQ ok λ_ h=>h).1,_,rfl,?_⟩;cases c:(N.ts.map Aa).any λy=>GA y d with
 | false =>
  have:JQ N d=false:=by
   rw [d7];intro z;obtain⟨s,f,rfl⟩:=tofB_iff.mp z;rw [NP,decide_eq_true f] at c;cases c
  rw [this] at p;exact p
 | true =>
  obtain⟨e,k,q⟩:=em.mp c;obtain⟨s,f,rfl⟩:=Rs.mp k;obtain⟨z,rfl,l⟩:=Sj q;refine⟨_,AO (j:=2) rfl,[z],rfl,rfl,?_⟩
  have:JQ N (.tup [.str s.a,.str s.b,z])=S6 z:=by
   rw [e_,tofB_iff];constructor
   ·rintro ⟨t,_,e⟩
    have e:z=.int t.len:=by injection e with e; injection e with _ e; injection e with _ e; injection e
    rw [e];rfl
   ·intro m
    cases z with
    | int i=>exact⟨s,f,by rw [l i rfl]; rfl⟩
    | _=>cases m
  rw [this] at p;exact p
theorem Pj(h:IS ss n Pd):Lz (EE Pd) n (ss++Uf 0 .no):=by
 obtain⟨N,d,rfl,ok,H,I,o,u,v,p⟩:=h;unfold Lz;refine⟨2,d,rfl,?_⟩;cases f:tupleOfB 2 d with
 | false =>
  rw [Ng (λp c e=>by rw [e] at f; cases f)] at p;exact Bi p
 | true =>
  obtain⟨x,y,rfl⟩:=Xr f;refine BQ ⟨_,AO (j:=1) rfl,?_⟩;cases y with
  | tup c =>
   rw [← Rk ok] at p;have w:fine (10 ^ 41) x:=o.1;have z:EU (10 ^ 41) c:=o.2.1;have A:max (Cr x) (max (C9 c+1) 0)+1<=90:=v;have C:szD x+1+(B7 c+1+0)<=200000:=u;refine BQ ⟨_,AO (j:=0) rfl,_,AO (j:=0) rfl,CI (B:=10 ^ 41) (by decide) w (by omega),ER ok.names,?_⟩;refine Kf (b1:=GA x (.tup (N.ps.map .str))) (b2:=c.all (JQ N)&&Kh c) (P:=Pd) (n:=n) (k:=λP=>_) (λ_ g=>?_) p;refine⟨_,AO (j:=1) rfl,by show c.length<=10000000; have:=Qx c; omega,?_⟩;refine BO (λd=>.bl (JQ N d)) (λq=>∃s,q=[.sh (enc N),s]) _ _ _ _ ?_ ⟨_,rfl⟩ ?_
   ·rintro e r q m J ⟨s,rfl⟩ i
    have D:C9 c<=88:=by omega
    exact⟨N,e,rfl,ok,CI (B:=10 ^ 41) (by decide) (fines_iff.mp z e r) (by have:=dps_le.mp D e r; omega),i _ ⟨_,rfl⟩⟩
   rw [cy];refine⟨_,_,rfl,HB (JQ N) c,?_⟩;rw [VO];refine Kf (b1:=c.all (JQ N)) (b2:=Kh c) (P:=Pd) (n:=n) (k:=λP=>_) (λl g=>?_) g;obtain⟨E,rfl,F⟩:=Nh l
   have:=OT E
   refine⟨_,AO (j:=1) rfl,_,_,rfl,rfl,by rw [Go]; omega,λa l b G=>?_,g⟩;obtain⟨s,_,rfl⟩:=Rs.mp l;obtain⟨t,_,rfl⟩:=Rs.mp G;exact⟨_,P8 s t⟩
  | _ =>
   rw [Ng (λp c e=>by cases e)] at p;exact Bi p
theorem Ny(h:PF ss n Pd):Ka (EF Pd) n (ss++Uf 0 .no):=by
 obtain⟨N,a,rfl,ok,b,f,p⟩:=h;unfold Ka;refine⟨_,AO (j:=1) rfl,by show (N.ts.map Aa).length<=10000000; rw [Go]; omega,?_⟩;refine Cw (λd=>!((a.map Aa).any λy=>GA y d)) id (λg=>∃s,g=[.sh (enc ⟨N.ps,a⟩),s]) _ _ _ _ ?_ ⟨_,rfl⟩ ?_
 ·rintro d i g m q r ⟨s,rfl⟩ k l
  obtain⟨t,o,rfl⟩:=Rs.mp i;refine⟨_,AO (j:=1) rfl,Iz ok o,(EQ ok f).1,_,rfl,?_⟩;exact B3 (λc=>k _ ⟨_,rfl⟩ c) λc=>l _ ⟨_,rfl⟩ (d7.mpr c)
 ·rw [cy,g_]
  have e:(N.ts.map Aa).filter (λd=>!((a.map Aa).any λy=>GA y d))=(N.ts.filter λt=>decide (t∉a)).map Aa:=by
   rw [List.filter_map]
   congr 1
   refine List.filter_congr λt _=>?_;show (!((a.map Aa).any λy=>GA y (Aa t)))=decide (t∉a);rw [NP,decide_not]
  rw [e];exact⟨_,_,rfl,rfl,fD (eM _ _) b,p⟩
theorem IX(h:Dg ss n Pd):E3 (EF Pd) n (ss++Uf 0 .no):=by
 obtain⟨d,B,rfl,e,v,p⟩:=h;have G:=PySem.sizeLine_eq;unfold E3
 have C:(B.map Aa).length<=10000000/\Ci (Af 0) CW (BN (AF (AU A8 (AB 0) (wC (D.int 2))) (AF (AU A8 (AB 0) (wC (D.int 0))) (AF (AU A8 (AB 0) (wC (D.int 1))) AT)))) (λi w=>Hk [.lst i] λz=>BI (wC z) w [] λE H=>E.length<=10000000/\Ci (E9 3 (Ay (Af 0) (Ay (Af 1) (Ay (Af 2) Cj)))) CW (BN (AF (AB 1) (AF (AB 2) (AF (AB 0) AT)))) (λi w=>Pd (.lst i) w) E [] H [.no,.no,.no]) (B.map Aa) [] n [.no]:=by
  refine⟨by rw [Go]; omega,?_⟩;refine BO N3 (λq=>∃s,q=[s]) _ _ _ _ ?_ ⟨_,rfl⟩ ?_
  ·rintro d e q m I ⟨s,rfl⟩ k
   obtain⟨t,J,rfl⟩:=Rs.mp e;exact⟨_,AO (j:=2) rfl,_,AO (j:=0) rfl,_,AO (j:=1) rfl,z3,k _ ⟨_,rfl⟩⟩
  rw [cy,fA];refine⟨_,_,rfl,rfl,by rw [Go]; exact v,⟨λx A=>?_,λx A y K L M N O=>?_⟩,λP Q r=>?_⟩
  ·obtain⟨t,_,rfl⟩:=Rs.mp A
   exact⟨Jd t,rfl,gR _ _⟩
  ·obtain⟨t,_,rfl⟩:=Rs.mp A
   obtain⟨u,_,rfl⟩:=Rs.mp K;cases (show some (Jd t)=some L from N);cases (show some (Jd u)=some M from O);rfl
  ·obtain⟨o,F,rfl⟩:=TZ (f:=N3∘Aa) (g:=λd=>match d with | .tup [.int l,.str a,.str b]=>⟨a,b,l⟩ | _=>⟨"","",0⟩) (λ_=>rfl) Q
   have r:Fc o:=by
    unfold HH at r;rw [fK] at r;exact r.imp λ{s t} z=>z _ _ rfl rfl
   refine⟨by show (o.map (N3∘Aa)).length<=10000000; rw [Go,F.length_eq]; omega,?_⟩;refine BO (λd=>match d with | .tup [l,a,b]=>.tup [a,b,l] | d=>d) (λq=>∃a b c,q=[a,b,c]) _ _ _ _ ?_ ⟨_,_,_,rfl⟩ ?_
   ·rintro d e q m I ⟨a,b,c,rfl⟩ k
    obtain⟨t,J,rfl⟩:=Rs.mp e;exact⟨rfl,rfl,z3,k _ ⟨_,_,_,rfl⟩⟩
   ·rw [cy,fA]
    exact p o F r
 cases d with
 | lst R=>cases e; exact C
 | tup R=>cases e; exact C
 | _=>cases e
end
theorem Tc{s t:BP}(h:E8 s=E8 t):s=t:=by
 obtain⟨a,b,l⟩:=s;obtain⟨c,d,e⟩:=t;unfold E8 at h;simp only [List.cons.injEq,Sum.inl.injEq,Sum.inr.injEq,and_true] at h;obtain⟨rfl,rfl,rfl⟩:=h;rfl
theorem PP{c d:List BP}(p:c.Perm d)(e:O2 c)(f:O2 d):c=d:=MX (λa b x y=>Tc (DP _ _ y x)) p e f
theorem QJ{a:List BP}(h:a.Pairwise Bw):O2 a:=h.imp λ{s t} z=>by
 cases e:Cg (E8 t) (E8 s) with
 | false=>rfl
 | true =>
  have:=DN _ _ _ (QZ z) e
  rw [FQ] at this;cases this
def NT:W2:=λc n P=>c=[.fd]/\3<=n/\∀(t b:Int) (a:Nat),1<=b->b<=t->t<=1000000->n - 3<=a->P (.tup [.int t,.int b]) a
def JF:W2:=λa n P=>∃l t b x:Int,a=[.sh (.int l),.sh (.tup [.int t,.int b]),.sh (.int x)]/\1<=b/\b<=1000000/\1<=t/\t<=1000000/\P (.bl (decide (l*b<=x*t))) n
def O4:Aj:=(Au (AU Sg (AU C8 (AB 0) (AU A8 (AB 1) (wC (D.int 1)))) (AU C8 (AB 2) (AU A8 (AB 1) (wC (D.int 0))))))
def NN:Aj:=(Ac (Az 1 (DA (AF (BN (AF (wC (D.int 2)) (AF (wC (D.int 1)) AT))) (AF (BN (AF (wC (D.int 3)) (AF (wC (D.int 2)) AT))) (AF (BN (AF (wC (D.int 1)) (AF (wC (D.int 1)) AT))) (AF (BN (AF (wC (D.int 3)) (AF (wC (D.int 1)) AT))) (AF (BN (AF (wC (D.int 5)) (AF (wC (D.int 2)) AT))) (AF (BN (AF (wC (D.int 1000)) (AF (wC (D.int 999)) AT))) (AF (BN (AF (AU (PK Ik λi j=>D.int (i ^ j.toNat)) (wC (D.int 10)) (wC (D.int 6))) (AF (wC (D.int 1)) AT))) (AF (BN (AF (AU (PK Ik λi j=>D.int (i ^ j.toNat)) (wC (D.int 10)) (wC (D.int 6))) (AF (AU (PK Ik λi j=>D.int (i ^ j.toNat)) (wC (D.int 10)) (wC (D.int 6))) AT))) AT))))))))))
 (Ac (Az 2 (AZ BA (AE (Aw 0) (AE (AI (wC (D.int 12))) AY))))
 (Ac (BG (AR (AU EV (AB 2) (wC (D.int 8)))) (Au (AU A8 (AB 1) (AB 2))) Av)
 (Ac (Az 3 (AU Aq (wC (D.int 1)) (AZ BA (AE (Aw 0) (AE (AI (wC (D.int 20))) AY)))))
 (Au (BN (AF (AU Aq (AB 3) (AZ BA (AE (Aw 0) (AE (AI (AU C8 (wC (D.int 3)) (AB 3))) AY)))) (AF (AB 3) AT))))))))
section
variable {ss:List Slot}{n:Nat}{Pd:D->Nat->Prop}
theorem cA{i j:Int}(a:0<=j)(b:j<=1000000):CMul i j:=.inr ⟨by omega,by omega⟩
theorem cV{i j:Int}(a:0<=i)(b:i<=1000000):CMul i j:=.inl ⟨by omega,by omega⟩
theorem MS(h:JF ss n Pd):O4 (EE Pd) n (ss++Uf 0 .no):=by
 obtain⟨l,t,b,x,rfl,d,a,e,c,p⟩:=h;exact⟨_,AO rfl,cA (by omega) a,_,AO rfl,cA (by omega) c,p⟩
theorem MR(h:NT ss n Pd):NN (EE Pd) n (ss++Uf 3 .no):=by
 obtain⟨rfl,k,p⟩:=h;refine⟨z2,z2,z2,z2,z2,z2,bj,z2,bj,bj,z2,by decide,?_⟩;refine⟨12,rfl,by decide,by decide,by omega,λr a l=>?_⟩;refine B3 (λc=>?_) λc=>?_
 ·have c:r<8:=of_decide_eq_true c
  obtain⟨z,e,t,b,rfl,f,g,i⟩:=Fh (p:=λd=>∃t b:Int,d=.tup [.int t,.int b]/\1<=b/\b<=t/\t<=1000000) (xs:=[.tup [.int 2,.int 1],.tup [.int 3,.int 2],.tup [.int 1,.int 1],.tup [.int 3,.int 1],.tup [.int 5,.int 2],.tup [.int 1000,.int 999],.tup [.int ((10:Int) ^ (6:Int).toNat),.int 1],.tup [.int ((10:Int) ^ (6:Int).toNat),.int ((10:Int) ^ (6:Int).toNat)]]) (λd j=>by
   simp only [T0,or_false] at j
   grind) a (by omega)
  exact⟨_,e,p t b _ f g i (by omega)⟩
 ·refine⟨20,rfl,by decide,by decide,by omega,λs m o=>?_⟩
  refine⟨cV (by decide) (by decide),_,rfl,by omega,by omega,by omega,λu q v=>⟨z2,p _ _ _ (by omega) (by omega) (by omega) (by omega)⟩⟩
end
def Ed(N:Net)(x y:Str)(l:Int):Prop:=(y,l)∈Ex N.ts x
inductive Wk (N:Net) (s:Str):Str->Int->Prop
 | nil:Wk N s s 0
 | snoc {x y:Str} {d l:Int}:Wk N s x d->Ed N x y l->Wk N s y (d+l)
def Least(N:Net)(s x:Str)(d:Int):Prop:=Wk N s x d/\∀a,Wk N s x a->d<=a
theorem Ed.pos{N:Net}(ok:N.Ok){x y:Str}{l:Int}(h:Ed N x y l):1<=l/\l<=1000000:=by
 obtain⟨_,a,b,_⟩:=P2 ok h
 simp_all
theorem Ed.ins{N:Net}(ok:N.Ok){x y:Str}{l:Int}(h:Ed N x y l):y∈N.ps:=(P2 ok h).1
theorem Wk.pos{N:Net}(ok:N.Ok){s x:Str}{d:Int}(h:Wk N s x d):0<=d:=by
 induction h with
 | nil=>omega
 | snoc _ a b=>have:=a.pos ok; omega
theorem Least.unique{N:Net}{s x:Str}{d a:Int}(h:Least N s x d)(b:Least N s x a):d=a:=by
 have:=h.2 a b.1
 have:=b.2 d h.1
 omega
theorem NG{N:Net}{s:Str}{F:Str->Option Int}(c:∃d,F s=some d/\d<=0)(f:∀x d,F x=some d->Wk N s x d)(j:∀x d y l,F x=some d->Ed N x y l->∃b,F y=some b/\b<=d+l) :
  (∀x d,F x=some d->Least N s x d)/\∀x d,Wk N s x d->F x≠none:=by
 have a:∀x d,Wk N s x d->∃b,F x=some b/\b<=d:=by
  intro x d h
  induction h with
  | nil=>exact c
  | snoc _ k m =>
   grind
 refine⟨λx d e=>⟨f x d e,λb h=>?_⟩,λx d h e=>?_⟩
 ·obtain⟨g,i,n⟩:=a x b h
  simp_all
 ·obtain⟨g,i,_⟩:=a x d h
  grind
theorem WJ{N:Net}{t:BP}(c:t∈N.ts):Ed N t.a t.b t.len/\Ed N t.b t.a t.len:=by
 constructor
 ·exact f6.mpr ⟨t,c,eo _ (by simp_all)⟩
 ·exact f6.mpr ⟨t,c,dH _ (by simp_all)⟩
theorem Ed.tie{N:Net}(ok:N.Ok){x y:Str}{l:Int}(h:Ed N x y l):∃t∈N.ts,t.len=l/\((t.a=x/\t.b=y)\/(t.b=x/\t.a=y)):=by
 obtain⟨_,_,_,t,c,e,h⟩:=P2 ok h;exact⟨t,c,e,h⟩
structure Dmap (ks:List Key) (ds:List D) (enc:α->D) (F:Str->Option α):Prop where
 len:ks.length=ds.length
 at_:∀x:Str,Bv ks ds (.inr x)=(F x).map enc
 dom:∀k∈ks,∃x:Str,k=.inr x
 nd:ks.Nodup
theorem Dmap.mem{c:Type}{b:List Key}{ds:List D}{enc:c->D}{F:Str->Option c}(h:Dmap b ds enc F)(x:Str):(.inr x∈b)↔F x≠none:=by
 constructor
 ·intro a e
  obtain⟨z,d⟩:=LK h.len a;rw [h.at_,e] at d;cases d
 ·intro f
  by_cases a:fH x∈b
  ·exact a
  ·have:=LL (ds:=ds) a
   rw [h.at_] at this
   simp_all
theorem Dmap.one{b:Type}{enc:b->D}{s:Str}{a:b}:Dmap [.inr s] [enc a] enc (λx=>if x=s then some a else none):=by
 refine⟨rfl,λx=>?_,λk c=>⟨s,Tk.mp c⟩,dM.mpr ⟨c6,e6⟩⟩;show (if fH s=.inr x then some _ else none)=(if x=s then some a else none).map _
 by_cases e:x=s
 ·simp_all
 ·rw [if_neg e,if_neg (λz=>e (fT z).symm)]; rfl
def Rp{b:Type}(F:Str->Option b)(x:Str)(a:b):Str->Option b:=λy=>if y=x then some a else F y
theorem Fv{b:Type}{F:Str->Option b}{x:Str}{a:b}:Rp F x a x=some a:=if_pos rfl
theorem Gs{b:Type}{F:Str->Option b}{x y:Str}{a:b}(h:y≠x):Rp F x a y=F y:=if_neg h
theorem Dmap.put{d:Type}{f:List Key}{g:List D}{enc:d->D}{F:Str->Option d}(h:Dmap f g enc F)(x:Str)(a:d):Dmap (Dn f (.inr x)) (EL f g (.inr x) (enc a)) enc (Rp F x a):=by
 refine⟨Qi h.len,λy=>?_,λk c=>?_,?_⟩
 ·rw [TY h.len]
  unfold Rp
  by_cases e:y=x
  ·rw [if_pos e,if_pos (by rw [e])]; rfl
  ·rw [if_neg e,if_neg (λz=>e (fT z)),h.at_]
 ·unfold Dn at c
  split at c
  ·exact h.dom k c
  ·rcases cu.mp c with c | c
   ·exact h.dom k c
   simp_all
 ·unfold Dn
  split
  ·exact h.nd
  ·rename_i i
   rw [fL];refine⟨h.nd,dM.mpr ⟨c6,e6⟩,λa j b l e=>i (hasK_iff.mpr ?_)⟩
   grind
theorem Dmap.le{d:Type}{a:List Key}{g:List D}{enc:d->D}{F:Str->Option d}(h:Dmap a g enc F){b:List Str}(i:∀x,F x≠none->x∈b):a.length<=b.length:=by
 have:∀(a:List Key) (b:List Str),a.Nodup->(∀k∈a,∃x:Str,k=.inr x/\x∈b)->a.length<=b.length:=by
  intro a
  induction a with
  | nil=>simp_all
  | cons k a l =>
   intro b c e;obtain⟨x,rfl,n⟩:=e k Op;have c:=dM.mp c
   have o:=l (b.erase x) c.2 λj m=>by
    obtain⟨y,rfl,p⟩:=e j (Re _ m)
    grind
   grind
 refine this a b h.nd λk f=>?_;obtain⟨x,rfl⟩:=h.dom k f;exact⟨x,rfl,i x ((h.mem x).mp f)⟩
abbrev bA:=Str->Option (Int×Option Str)
structure Dj (N:Net) (s:Str) (F:bA) (Wt:List Str):Prop where
 start:F s=some (0,none)
 ins:∀x,F x≠none->x∈N.ps
 wk:∀x d p,F x=some (d,p)->Wk N s x d
 prev:∀x d p,F x=some (d,p)->(p=none/\x=s)\/∃y dy q l,p=some y/\F y=some (dy,q)/\y∉Wt/\Ed N y x l/\d=dy+l
 wfound:∀x∈Wt,F x≠none
 nd:Wt.Nodup
 done:∀x d p y l,F x=some (d,p)->x∉Wt->Ed N x y l->∃dy q,F y=some (dy,q)/\dy<=d+l
 near:∀x d p y dy q,F x=some (d,p)->x∉Wt->F y=some (dy,q)->y∈Wt->d<=dy
structure Dm (N:Net) (s:Str) (F:bA) (Wt:List Str) (v:Str) (dv:Int) (seen:List (Str×Int)):Prop where
 start:F s=some (0,none)
 ins:∀x,F x≠none->x∈N.ps
 wk:∀x d p,F x=some (d,p)->Wk N s x d
 prev:∀x d p,F x=some (d,p)->(p=none/\x=s)\/∃y dy q l,p=some y/\F y=some (dy,q)/\y∉Wt/\Ed N y x l/\d=dy+l
 wfound:∀x∈Wt,F x≠none
 nd:Wt.Nodup
 done:∀x d p y l,F x=some (d,p)->x∉Wt->x≠v->Ed N x y l->∃dy q,F y=some (dy,q)/\dy<=d+l
 near:∀x d p y dy q,F x=some (d,p)->x∉Wt->F y=some (dy,q)->y∈Wt->d<=dy
 here:∃p,F v=some (dv,p)
 out:v∉Wt
 least:∀x d p,F x=some (d,p)->x∉Wt->d<=dv
 gone:∀y l,(y,l)∈seen->∃dy q,F y=some (dy,q)/\dy<=dv+l
structure Told (N:Net) (s:Str) (F:bA):Prop where
 start:F s=some (0,none)
 ins:∀x,F x≠none->x∈N.ps
 least:∀x d p,F x=some (d,p)->Least N s x d
 all:∀x d,Wk N s x d->F x≠none
 prev:∀x d p,F x=some (d,p)->(p=none/\x=s)\/∃y dy q l,p=some y/\F y=some (dy,q)/\Ed N y x l/\d=dy+l
abbrev Kn:=Str->Option Int
structure Bf (N:Net) (s:Str) (c:Nat) (K:Kn):Prop where
 start:∃d,K s=some d/\d<=0
 ins:∀x,K x≠none->x∈N.ps
 wk:∀x d,K x=some d->Wk N s x d
 top:∀x d,K x=some d->d<=1000000*(c:Int)
def big:Nat:=27000001
def wt(K:Kn)(x:Str):Nat:=match K x with
 | some d=>d.toNat
 | none=>big
def Sz(a:List Str)(K:Kn):Nat:=(a.map (wt K)).sum
theorem Tl{f g:Str->Nat}:∀{a:List Str},(∀x∈a,f x<=g x)->(a.map f).sum<=(a.map g).sum
 | [],_=>On _
 | x::a,h=>by
  have c:=Tl λy b=>h y (Re _ b)
  grind
theorem Tj{f g:Str->Nat}:∀{b:List Str},(∀x∈b,f x<=g x)->(∃x∈b,f x<g x)->(b.map f).sum<(b.map g).sum
 | [],_,⟨x,c,_⟩=>by cases c
 | x::b,h,⟨y,a,d⟩=>by
  have i:=h x Op;rw [dG,dG,jm,jm]
  rcases T0.mp a with rfl | a
  ·have e:=Tl λy a=>h y (Re _ a)
   omega
  ·have e:=Tj (λy a=>h y (Re _ a)) ⟨y,a,d⟩
   omega
theorem Bf.put {N : Net} (ok : N.Ok) {s : Str} {c c' : Nat} {K : Kn} (h : Bf N s c K) (u : c' ≤ 26) (n : c ≤ c') {x y : Str} {d l : Int} (g : K x = some d) (b : Ed N x y l) (o : K y = none → c' = c + 1) (f : ∀ a, K y = some a → d + l < a) : Bf N s c' (Rp K y (d + l)) ∧ Sz N.ps (Rp K y (d + l)) < Sz N.ps K := by
  have v := b.pos ok;have A := (h.wk x d g).pos ok;have p : Wk N s y (d + l) := .snoc (h.wk x d g) b;have B := h.top x d g
  have q : d + l ≤ 1000000 * (c' : Int) := by
    cases e : K y with
    | none => rw [o e]; have : ((c + 1 : Nat) : Int) = (c : Int) + 1 := by omega
              rw [this, Int.mul_add]; omega
    | some a =>
      have C := f a e;have r := h.top y a e;have : (1000000 : Int) * (c : Int) ≤ 1000000 * (c' : Int) := iT (by omega) (by omega);omega
  refine ⟨⟨?_, λz j => ?_, λz i e => ?_, λz i e => ?_⟩, Tj (λz _ => ?_) ⟨y, b.ins ok, ?_⟩⟩
  · obtain ⟨k, m, t⟩ := h.start
    by_cases z : s = y
    · have := f k (by rw [← z]; exact m)
      omega
    · exact ⟨k, by rw [Gs z]; exact m, t⟩
  · by_cases e : z = y
    · rw [e]; exact b.ins ok
    · rw [Gs e] at j; exact h.ins z j
  · by_cases w : z = y
    · rw [w, Fv] at e; cases e; rw [w]; exact p
    · rw [Gs w] at e; exact h.wk z i e
  · by_cases w : z = y
    · rw [w, Fv] at e; cases e; exact q
    · rw [Gs w] at e
      have r := h.top z i e;have : (1000000 : Int) * (c : Int) ≤ 1000000 * (c' : Int) := iT (by omega) (by omega);omega
  · unfold wt
    by_cases w : z = y
    · rw [w, Fv]
      cases e : K y with
      | none => show (d + l).toNat ≤ big; unfold big; omega
      | some a => show (d + l).toNat ≤ a.toNat; have := f a e; omega
    · rw [Gs w]
      exact On _
  · unfold wt
    rw [Fv];cases e : K y with
    | none => show (d + l).toNat < big; unfold big; omega
    | some a => show (d + l).toNat < a.toNat; have := f a e; omega
theorem Bf.init{N:Net}{s:Str}(b:s∈N.ps):Bf N s 1 (λx=>if x=s then some 0 else none):=by
 have a:∀x d,(if x=s then some (0:Int) else none)=some d->x=s/\d=0:=λx d e=>by
  grind
 refine⟨⟨0,if_pos rfl,Int.le_refl _⟩,λx e=>by grind,λx d e=>?_,λx d e=>?_⟩
 ·obtain⟨rfl,rfl⟩:=a x d e
  exact .nil
 ·obtain⟨rfl,rfl⟩:=a x d e
  decide
def JS(K:Kn)(e:Str×Str×Int):Prop:=∀d,K e.1=some d->∃a,K e.2.1=some a/\a<=d+e.2.2
structure LTold (N:Net) (s:Str) (K:Kn):Prop where
 ins:∀x,K x≠none->x∈N.ps
 least:∀x d,K x=some d->Least N s x d
 all:∀x d,Wk N s x d->K x≠none
 top:∀x d,K x=some d->d<=30000000
theorem Bf.told{N:Net}(ok:N.Ok){s:Str}{c:Nat}{K:Kn}(h:Bf N s c K)(n:c<=26)(f:∀t∈N.ts,JS K (t.a,t.b,t.len)/\JS K (t.b,t.a,t.len)):LTold N s K:=by
 have g:=NG h.start h.wk (λx d y l e j=>by
  obtain⟨t,i,k,m⟩:=j.tie ok;subst k
  rcases m with ⟨rfl,rfl⟩ | ⟨rfl,rfl⟩
  ·exact(f t i).1 d e
  ·exact(f t i).2 d e)
 exact⟨h.ins,g.1,g.2,λx d e=>by have:=h.top x d e; omega⟩
def walk(N:Net):List Str->Int->Prop
 | [],_=>False
 | [_],d=>d=0
 | x::y::r,d=>∃l e,Ed N x y l/\walk N (y::r) e/\d=l+e
def cb(N:Net)(a b:Str):Option Int->Prop
 | some d=>Least N a b d
 | none=>∀d,¬Wk N a b d
theorem LTold.far{N:Net}{s:Str}{K:Kn}(h:LTold N s K)(x:Str):cb N s x (K x):=by
 cases e:K x with
 | none=>exact λd a=>h.all x d a e
 | some d=>exact h.least x d e
def bS:Option Int->D
 | some y=>.int y
 | none=>.non
def okN(N:Net):Prop:=N.Ok/\N.ps.length<=25/\N.ts.length<=60
section
theorem Cd(x:Str):keyOf (.str x)=some (.inr x):=rfl
theorem Xl{N:Net}{d:List Str}(b:d.Nodup)(h:∀x∈d,x∈N.ps):d.length<=N.ps.length:=by
 have:∀(a c:List Str),a.Nodup->(∀x∈a,x∈c)->a.length<=c.length:=by
  intro a
  induction a with
  | nil=>grind
  | cons x a g =>
   intro c b f;have k:=f x Op;have b:=dM.mp b;have l:=g (c.erase x) b.2 λj i=>(List.mem_erase_of_ne λe=>b.1 (by simp_all)).mpr (f j (Re _ i))
   grind
 simp_all
theorem UA(a:List Key)(k:Key):(Dn a k).length=if J_ a k=true then a.length else a.length+1:=by
 unfold Dn
 split
 ·rfl
 simp_all
theorem Dmap.has{b:Type}{a:List Key}{d:List D}{enc:b->D}{F:Str->Option b}(h:Dmap a d enc F){x:Str}:(F x=none->J_ a (.inr x)=false)/\(F x≠none->J_ a (.inr x)=true):=by
 constructor
 ·intro e
  cases c:J_ a _ with
  | false=>rfl
  | true=>exact absurd e ((h.mem x).mp (hasK_iff.mp c))
 ·intro e
  exact hasK_iff.mpr ((h.mem x).mpr e)
end
structure cY (N:Net) (F:bA) (b:Str) (db:Int) (acc:List Str) (pl:Option Str):Prop where
 st:(acc=[]/\pl=some b)\/∃z r dz,acc.reverse=z::r/\F z=some (dz,pl)/\walk N acc.reverse (db - dz)/\acc.reverse.getLast?=some b
 nd:acc.Nodup
 ins:∀x∈acc,x∈N.ps
 less:∀y dy q,pl=some y->F y=some (dy,q)->∀x∈acc,∃dx qx,F x=some (dx,qx)/\dy<dx
 fnd:∀y,pl=some y->F y≠none
theorem Ms{w:List Str}{b:Str}(h:w.getLast?=some b):atI (w.map D.str) (-1)=some (.str b):=by
 obtain⟨a,rfl⟩:=List.getLast?_eq_some_iff.mp h;rw [df];exact VN _ _
theorem WC{a:List Key}{b:List D}{K:Kn}(M:Dmap a b D.int K)(x:Str):(Bv a b (.inr x)).getD .non=bS (K x):=by
 rw [M.at_];cases K x <;> rfl
theorem PU{N:Net}(a:okN N):fine 1000001 (enc N)/\szD (enc N)<=48000/\Cr (enc N)<=3:=Xq (Q0 a.1) (J1 a.1) (by rw [Go]; have:=a.2.1; omega) (by rw [Go]; have:=a.2.2; omega)
def sub(N:Net)(kept:List BP):Net:=⟨N.ps,N.ts.filter λu=>decide (u∈kept)⟩
def XG(N:Net)(t b:Int)(u:BP):Prop:=∃d,Least N u.a u.b d/\d*b<=u.len*t
noncomputable def LW(N:Net)(t b:Int)(u:BP):Bool:=@decide (XG N t b u) (gv _)
theorem nearB_iff{N:Net}{t b:Int}{u:BP}:LW N t b u=true↔XG N t b u:=by
 unfold LW
 grind
noncomputable def Ey(N:Net)(t b:Int):List BP->List BP->List BP
 | a,[]=>a
 | a,u::r=>if LW (sub N a) t b u=true then Ey N t b a r else Ey N t b (a++[u]) r
def HF:W2:=λc n P=>∃(N:Net) (t b:Int),c=[.sh (enc N),.sh (.tup [.int t,.int b])]/\okN N/\1<=b/\b<=1000000/\1<=t/\t<=1000000/\∀a:List BP,a.Perm N.ts->Fc a->P (enc (sub N (Ey N t b [] a))) n
def Dh:W2:=λd n P=>∃(N:Net) (s:Str) (z:D) (a:List BP),d=[.br z,.sh (.str s)]/\IU z=some (a.map Aa)/\(∀u,u∈a↔u∈N.ts)/\okN N/\s∈N.ps/\∀(b:List Key) (c:List D) (K:Kn),Dmap b c D.int K->LTold N s K->P (.dic b c) n
def Fe:Aj:=(Ac (EI 2 (TN (AB 1) (wC (D.int 0))))
 (Ac (Az 3 (wC (D.bl true)))
 (Ac (L9 (AR (AB 3)) (Ac (Az 3 (wC (D.bl false)))
 (Wv 0 (E9 3 (Ay (Af 4) (Ay (Af 5) (Ay (Af 6) Cj)))) (E6 (BI (DA (AF (BN (AF (AB 4) (AF (AB 5) AT))) (AF (BN (AF (AB 5) (AF (AB 4) AT))) AT)))) (E9 2 (Ay (Af 7) (Ay (Af 8) Cj))) (BG (AR (AU (M8 false) (AB 7) (BE 2))) (Ac (Az 9 (AU Aq (AU EW (BE 2) (AB 7)) (AB 6)))
 (BG (AR (AU EV (AB 9) (QT (BE 2) (AB 8) (AU Aq (AB 9) (wC (D.int 1)))))) (Ac (NZ 2 (AB 8) (AB 9))
 (Az 3 (wC (D.bl true)))) Av)) Av)))))
 (TD 2))))
def EY:Aj:=(Ac (EI 2 (DA AT))
 (Ac (E6 (BI (AZ Dg (AE (AI (AU A8 (AB 0) (wC (D.int 1)))) AY))) (Af 3) (Ac (Az 4 (QU (AZ Dh (AE (JM (BE 2)) (AE (AI (AU A8 (AB 3) (wC (D.int 0)))) AY))) (AU A8 (AB 3) (wC (D.int 1)))))
 (BG (CG (AR (AU (G4 false) (AB 4) (wC D.non))) (AR (AU (f2 λi j=>D.bl (decide (j<i))) (AU C8 (AB 4) (AU A8 (AB 1) (wC (D.int 1)))) (AU C8 (AU A8 (AB 3) (wC (D.int 2))) (AU A8 (AB 1) (wC (D.int 0))))))) (TF 2 "list" KH (AF (AB 3) AT)) Av)))
 (Au (BN (AF (AU A8 (AB 0) (wC (D.int 0))) (AF (B8 B6 (AF (B8 Hk (AF (BE 2) AT)) AT)) AT))))))
theorem sub_mem{N:Net}{kept:List BP}{u:BP}:u∈(sub N kept).ts↔u∈N.ts/\u∈kept:=by
 show u∈N.ts.filter _↔_
 simp_all
theorem Qe{N:Net}(a:okN N)(kept:List BP):okN (sub N kept):=⟨PV a.1 (λt h=>(sub_mem.mp h).1) (a.1.trise.filter _),a.2.1,cx (eM _ _) a.2.2⟩
theorem X0{N:Net}(ok:N.Ok){kept a:List BP}(d:∀t∈kept,t∈N.ts)(nd:kept.Nodup)(b:a.Perm kept)(c:O2 a):(⟨N.ps,a⟩:Net)=sub N kept:=by
 congr 1
 refine PP ((i4 (b.nodup_iff.mpr nd) ((CD ok.trise).filter _)).mpr λt=>?_) c (QJ (ok.trise.filter _));rw [b.mem_iff]
 simp_all
theorem P_{N:Net}{t b:Int}{kept r:List BP}{u:BP}:Ey N t b kept (u::r)=if LW (sub N kept) t b u=true then Ey N t b kept r else Ey N t b (kept++[u]) r:=rfl
theorem Ju{f g:Type}:∀{l:List (f×g)},(l.map (·.1)).Nodup->∀{p q:f×g},p∈l->q∈l->p.1=q.1->p=q
 | a::l,d,p,q,h,i,e=>by
  rw [dG,dM] at d
  rcases T0.mp h with b | b <;> rcases T0.mp i with c | c
  ·rw [b,c]
  ·grind
  ·exact absurd (Rs.mpr ⟨p,b,by rw [e,c]⟩) d.1
  ·exact Ju d.2 b c e
theorem V7{N:Net}(ok:N.Ok){x y:Str}{l:Int}(h:Ed N x y l):look N.ts x y=some l:=by
 unfold look;cases e:(Ex _ x).find? _ with
 | none=>exact absurd (List.find?_eq_none.mp e _ h) (by simp)
 | some q =>
  have a:=of_decide_eq_true (List.find?_some (p:=λz=>decide _) e);rw [Ju (SH ok x) (jE e) h a];rfl
theorem LI{N:Net}{B:Nat}(ok:N.Ok):∀{w:List Str},(∀x∈w,x∈N.ps)->EU B (w.map .str)/\B7 (w.map .str)<=9*w.length/\C9 (w.map .str)<=0
 | [],_=>⟨trivial,On _,On _⟩
 | x::r,h=>by
  obtain⟨a,b,c⟩:=LI ok λy e=>h y (Re _ e);have d:=ok.names x (h x Op);refine⟨⟨λf g=>by have:=d.2.2 f g; omega,a⟩,?_,?_⟩
  ·show x.length+1+B7 _<=9*(r.length+1)
   have:=d.2.1
   omega
  assumption
section
variable {ss:List Slot}{n:Nat}{Pd:D->Nat->Prop}
theorem Je(h:Dh ss n Pd):Fe (EF Pd) n (ss++Uf 8 .no):=by
 obtain⟨N,s,I,us,rfl,a0,L,O,hs,p⟩:=h;have a7:=PySem.sizeLine_eq;have ok:=O.1;have a8:=O.2.1;unfold Fe;refine⟨_,Cd s,?_⟩
 have step:∀(Y:E2) (x y:Str) (l:Int),Ed N x y l->∀(f:List Key) (i:List D) (K:Kn) (g:Bool) (o q w A v:Slot),Dmap f i D.int K->Bf N s f.length K ->
   (∀(E:List Key) (R:List D) (k:Kn) (g':Bool) (t7 t8 t9:Slot),Dmap E R D.int k->Bf N s E.length k->((g'=g/\k=K/\JS K (x,y,l))\/(g'=true/\Sz N.ps k<Sz N.ps K)) ->
    Y.nx n [.br I,.sh (.str s),.ow (.dic E R),.sh (.bl g'),o,q,.sh (.int l),t7,t8,t9]) ->
   (BG (AR (AU (M8 false) (AB 7) (BE 2))) (Ac (Az 9 (AU Aq (AU EW (BE 2) (AB 7)) (AB 6)))
 (BG (AR (AU EV (AB 9) (QT (BE 2) (AB 8) (AU Aq (AB 9) (wC (D.int 1)))))) (Ac (NZ 2 (AB 8) (AB 9))
 (Az 3 (wC (D.bl true)))) Av)) Av) Y n [.br I,.sh (.str s),.ow (.dic f i),.sh (.bl g),o,q,.sh (.int l),.sh (.str x),.sh (.str y),v]:=by
  intro Y x y l he f i K g o q w A v M B hD;have kl:=M.le B.ins;refine⟨f,i,_,rfl,Cd x,?_⟩;show if ((Bv f i (.inr x)).isSome)=true then _ else _
  cases ex:K x with
  | none =>
   rw [M.at_,ex];exact BQ (hD f i K g _ _ _ M B (.inl ⟨rfl,rfl,λd e=>by rw [show K x=some d from e] at ex; cases ex⟩))
  | some d =>
   rw [M.at_,ex];refine Bi ⟨f,i,_,_,rfl,Cd x,by rw [M.at_,ex]; rfl,?_⟩;refine⟨f,i,rfl,_,Cd y,?_⟩
   have S:(K y=none\/∃C,K y=some C/\d+l<C)->(Ac (NZ 2 (AB 8) (AB 9)) (Az 3 (wC (D.bl true)))) Y n [.br I,.sh (.str s),.ow (.dic f i),.sh (.bl g),o,q,.sh (.int l),.sh (.str x),.sh (.str y),.sh (.int (d+l))]:=λF=>by
    refine⟨f,i,rfl,_,Cd y,by omega,?_⟩;have r:=UA f (.inr y)
    have T:=B.put ok (c':=(Dn f (.inr y)).length) (by rw [r]; split <;> omega) (by rw [r]; split <;> omega) ex he (λe=>by rw [r,if_neg (by rw [(M.has (x:=y)).1 e]; decide)]) (λC e=>by
     rcases F with F | ⟨d2,F,U⟩
     ·rw [e] at F; cases F
     ·rw [e] at F; cases F; exact U)
    exact hD _ _ _ true _ _ _ (M.put y (d+l)) T.1 (.inr ⟨rfl,T.2⟩)
   rw [M.at_];cases ey:K y with
   | none =>
    show if decide (d+l<d+l+1)=true then _ else _
    rw [decide_eq_true (by omega)];exact Bi (S (.inl ey))
   | some C =>
    show if decide (d+l<C)=true then _ else _
    by_cases c:d+l<C
    ·rw [decide_eq_true c]
     exact Bi (S (.inr ⟨C,ey,c⟩))
    ·rw [decide_eq_false c]
     refine BQ (hD f i K g _ _ _ M B (.inl ⟨rfl,rfl,λd2 e=>?_⟩));rw [show K x=some d2 from e] at ex;cases ex;exact⟨C,ey,by show C<=d+l; omega⟩
 refine Rb (λm Z ρ=>Z=n/\∃(f:List Key) (i:List D) (K:Kn) (g:Bool) (o q J w A v:Slot),ρ=[.br I,.sh (.str s),.ow (.dic f i),.sh (.bl g),o,q,J,w,A,v]/\Dmap f i D.int K/\Bf N s f.length K/\((g=true/\m=Sz N.ps K+1)\/(g=false/\m=0/\∀t∈N.ts,JS K (t.a,t.b,t.len)/\JS K (t.b,t.a,t.len)))) _ ⟨rfl,_,_,_,true,_,_,_,_,_,_,rfl,Dmap.one (enc:=D.int) (a:=(0:Int)),Bf.init hs,.inl ⟨rfl,rfl⟩⟩ ?_ ?_
 ·rintro m Z ρ N' ⟨rfl,f,i,K,g,o,q,J,w,A,v,rfl,M,B,G⟩ hN
  rcases G with ⟨rfl,hm⟩ | ⟨rfl,_,ht⟩
  ·have H:∀(j done:List BP) (f:List Key) (i:List D) (k:Kn) (g:Bool) (o q J w A v:Slot),done++j=us->Dmap f i D.int k->Bf N s f.length k->((g=true/\Sz N.ps k<Sz N.ps K)\/(g=false/\Sz N.ps k<=Sz N.ps K/\∀t∈done,JS k (t.a,t.b,t.len)/\JS k (t.b,t.a,t.len))) ->
     Bm (E9 3 (Ay (Af 4) (Ay (Af 5) (Ay (Af 6) Cj)))) (E6 (BI (DA (AF (BN (AF (AB 4) (AF (AB 5) AT))) (AF (BN (AF (AB 5) (AF (AB 4) AT))) AT)))) (E9 2 (Ay (Af 7) (Ay (Af 8) Cj))) (BG (AR (AU (M8 false) (AB 7) (BE 2))) (Ac (Az 9 (AU Aq (AU EW (BE 2) (AB 7)) (AB 6)))
 (BG (AR (AU EV (AB 9) (QT (BE 2) (AB 8) (AU Aq (AB 9) (wC (D.int 1)))))) (Ac (NZ 2 (AB 8) (AB 9))
 (Az 3 (wC (D.bl true)))) Av)) Av)) { EF Pd with nx:=N',ct:=N',bk:=TD 2 (EF Pd) } (j.map Aa) Z [.br I,.sh (.str s),.ow (.dic f i),.sh (.bl g),o,q,J,w,A,v]:=by
    intro j
    induction j with
    | nil =>
     intro done f i k g o q J w A v e M B G;rw [dS] at e;subst e
     rcases G with ⟨rfl,U⟩ | ⟨rfl,_,ht⟩
     ·exact hN (Sz N.ps k+1) _ _ (by omega) ⟨rfl,f,i,k,true,_,_,_,_,_,_,rfl,M,B,.inl ⟨rfl,rfl⟩⟩
     ·exact hN 0 _ _ (by omega) ⟨rfl,f,i,k,false,_,_,_,_,_,_,rfl,M,B,.inr ⟨rfl,rfl,λt h=>ht t ((L t).mpr h)⟩⟩
    | cons t j ih =>
     intro done f i k g o q J w A v e M B G;have V:t∈N.ts:=(L t).mp (by rw [← e]; exact dH _ Op);have e':(done++[t])++j=us:=by rw [eR]; exact e
     have ed:=WJ V;refine⟨rfl,rfl,z2,z2,z2,?_⟩;refine⟨rfl,rfl,?_⟩;refine step _ t.a t.b t.len ed.1 f i k g _ _ w A v M B λa1 a2 K1 g1 t7 t8 t9 M1 B1 h1=>?_;refine⟨rfl,rfl,?_⟩;refine step _ t.b t.a t.len ed.2 a1 a2 K1 g1 _ _ t7 t8 t9 M1 B1 λa3 a4 K2 g2 u7 u8 u9 M2 B2 h2=>?_;refine ih (done++[t]) a3 a4 K2 g2 _ _ _ _ _ _ e' M2 B2 ?_
     rcases h1 with ⟨rfl,rfl,t1⟩ | ⟨rfl,a9⟩
     ·rcases h2 with ⟨rfl,rfl,t2⟩ | ⟨rfl,a5⟩
      ·rcases G with z | ⟨z1,z2,z3⟩
       ·exact .inl z
       ·refine .inr ⟨z1,z2,λu W=>?_⟩
        rcases cu.mp W with W | W
        ·exact z3 u W
        ·rw [Tk.mp W]; exact⟨t1,t2⟩
      ·refine .inl ⟨rfl,?_⟩
       rcases G with ⟨_,z⟩ | ⟨_,z,_⟩ <;> omega
     ·have X:Sz N.ps K1<Sz N.ps K:=by rcases G with ⟨_,z⟩ | ⟨_,z,_⟩ <;> omega
      rcases h2 with ⟨rfl,rfl,t2⟩ | ⟨rfl,a5⟩
      ·exact .inl ⟨rfl,X⟩
      ·exact .inl ⟨rfl,by omega⟩
   exact⟨I,_,rfl,a0,H us [] f i K false _ _ _ _ _ _ rfl M B (.inr ⟨rfl,On _,λt h=>by cases h⟩)⟩
  ·exact⟨_,rfl,p f i K M (B.told ok (by have:=M.le B.ins; omega) ht)⟩
 ·rintro Z ρ P Q a6 h
  unfold AR AB at h ⊢
  split at h
  ·rename_i d hd
   cases d with
   | bl b=>exact a6 _ _ h
   | _=>exact h.elim
  ·exact h.elim
theorem HV(h:HF ss n Pd):EY (EE Pd) n (ss++Uf 3 .no):=by
 obtain⟨N,t,b,rfl,w,b1,b2,t1,t2,p⟩:=h;have ok:=w.1;have Y:=w.2.2;have Z:=PySem.sizeLine_eq;unfold EY;refine⟨z0,_,AO (j:=1) rfl,_,N.ts,rfl,rfl,by omega,λo E o2=>?_⟩;have F:o.Nodup:=E.nodup_iff.mpr (CD ok.trise)
 have go:∀(k done f:List BP) (J L:Slot),done++k=o->(∀u∈f,u∈done)->f.Nodup->Ey N t b f k=Ey N t b [] o ->
   Bm (Af 3) (Ac (Az 4 (QU (AZ Dh (AE (JM (BE 2)) (AE (AI (AU A8 (AB 3) (wC (D.int 0)))) AY))) (AU A8 (AB 3) (wC (D.int 1)))))
 (BG (CG (AR (AU (G4 false) (AB 4) (wC D.non))) (AR (AU (f2 λi j=>D.bl (decide (j<i))) (AU C8 (AB 4) (AU A8 (AB 1) (wC (D.int 1)))) (AU C8 (AU A8 (AB 3) (wC (D.int 2))) (AU A8 (AB 1) (wC (D.int 0))))))) (TF 2 "list" KH (AF (AB 3) AT)) Av)) { EE Pd with nx:=Au (BN (AF (AU A8 (AB 0) (wC (D.int 0))) (AF (B8 B6 (AF (B8 Hk (AF (BE 2) AT)) AT)) AT))) (EE Pd) } (k.map Aa) n [.sh (enc N),.sh (.tup [.int t,.int b]),.ow (.lst (f.map Aa)),J,L]:=by
  intro k
  induction k with
  | nil =>
   intro done f J L e C r A;rw [dS] at e;subst e;have q:∀u∈f,u∈N.ts:=λu O=>E.mem_iff.mp (C u O);have P:=sub_len r (CD ok.trise) q;refine⟨_,AO (j:=0) rfl,_,_,rfl,rfl,by rw [Go]; omega,⟨λx H=>?_,λx H y Q ka kb ea eb=>?_⟩,λa0 hp ho=>?_⟩
   ·obtain⟨t,_,rfl⟩:=Rs.mp H
    exact⟨E8 t,rfl,gR _ _⟩
   ·obtain⟨t,_,rfl⟩:=Rs.mp H
    obtain⟨u,_,rfl⟩:=Rs.mp Q;cases (show some (E8 t)=some ka from ea);cases (show some (E8 u)=some kb from eb);rfl
   ·obtain⟨a1,p1,rfl⟩:=TZ (g:=aM) (λ_=>rfl) hp
    refine⟨z2,?_⟩;have es:=X0 ok q r p1 (Vw ho)
    have:Pd (enc (sub N f)) n:=by rw [show f=Ey N t b [] done from A]; exact p done E o2
    rw [← es] at this;exact this
  | cons u k U =>
   intro done f J L e C r A;have q:∀v∈f,v∈N.ts:=λv l=>E.mem_iff.mp (by rw [← e]; exact eo _ (C v l));have P:=sub_len r (CD ok.trise) q;have O:u∈N.ts:=E.mem_iff.mp (by rw [← e]; exact dH _ Op)
   have R:u∉done:=by
    rw [← e,fL] at F;exact λz=>F.2.2 u z u Op rfl
   have V:(done++[u])++k=o:=by rw [eR]; exact e
   obtain⟨m1,m2,_⟩:=ok.tin u O;rw [P_] at A;have s:LW (sub N f) t b u=false->∀B,(TF 2 "list" KH (AF (AB 3) AT)) { nx:=Bm (Af 3) (Ac (Az 4 (QU (AZ Dh (AE (JM (BE 2)) (AE (AI (AU A8 (AB 3) (wC (D.int 0)))) AY))) (AU A8 (AB 3) (wC (D.int 1)))))
 (BG (CG (AR (AU (G4 false) (AB 4) (wC D.non))) (AR (AU (f2 λi j=>D.bl (decide (j<i))) (AU C8 (AB 4) (AU A8 (AB 1) (wC (D.int 1)))) (AU C8 (AU A8 (AB 3) (wC (D.int 2))) (AU A8 (AB 1) (wC (D.int 0))))))) (TF 2 "list" KH (AF (AB 3) AT)) Av)) { EE Pd with nx:=Au (BN (AF (AU A8 (AB 0) (wC (D.int 0))) (AF (B8 B6 (AF (B8 Hk (AF (BE 2) AT)) AT)) AT))) (EE Pd) } (k.map Aa),rt:=Pd } n [.sh (enc N),.sh (.tup [.int t,.int b]),.ow (.lst (f.map Aa)),.sh (Aa u),B]:=λc B=>by
    rw [c,if_neg (by decide)] at A;refine⟨_,rfl,rfl,_,_,rfl,rfl,by rw [Go]; omega,?_⟩
    have:=U (done++[u]) (f++[u]) (.sh (Aa u)) B V (λv l=>by
     rcases cu.mp l with l | l
     ·exact eo _ (C v l)
     ·exact dH _ l) (by
     rw [fL];exact⟨r,dM.mpr ⟨c6,e6⟩,λx H y Q z=>R (by rw [← Tk.mp Q,← z]; exact C x H)⟩) A
    rw [df] at this;exact this
   refine⟨_,AO (j:=0) rfl,sub N f,u.a,_,f,rfl,rfl,λv=>⟨λl=>sub_mem.mpr ⟨q v l,l⟩,λl=>(sub_mem.mp l).2⟩,Qe w f,m1,λks ds K M T=>?_⟩;refine⟨ks,ds,rfl,_,AO (j:=1) rfl,_,Cd u.b,?_⟩;rw [WC M];have I:=T.far u.b;cases W:K u.b with
   | none =>
    rw [W] at I;refine⟨rfl,?_⟩
    exact s (by
     rw [d7];intro z;obtain⟨d,hd,_⟩:=nearB_iff.mp z;exact I d hd.1) _
   | some d =>
    rw [W] at I
    have X:LW (sub N f) t b u=decide (d*b<=u.len*t):=by
     rw [e_,nearB_iff,decide_eq_true_eq];constructor
     ·rintro ⟨d',S,r⟩
      rw [Least.unique (show Least (sub N f) u.a u.b d from I) S];exact r
     ·intro r
      exact⟨d,I,r⟩
    refine⟨rfl,?_⟩;refine⟨_,AO (j:=1) rfl,.inr ⟨by omega,by omega⟩,_,AO (j:=2) rfl,_,AO (j:=0) rfl,.inr ⟨by omega,by omega⟩,?_⟩;show if decide (u.len*t<d*b)=true then _ else _
    by_cases c:u.len*t<d*b
    ·rw [decide_eq_true c]
     exact Bi (s (by rw [X]; exact decide_eq_false (by omega)) _)
    ·rw [decide_eq_false c]
     rw [X,decide_eq_true (by omega),if_pos rfl] at A;exact BQ (U (done++[u]) f _ _ V (λv l=>eo _ (C v l)) r A)
 exact go o [] [] _ _ rfl (λu h=>by cases h) e6 rfl
end
def thn(N:Net)(a:List BP):Prop:=(∀t∈a,t∈N.ts)/\a.Pairwise Bw
def OW(N:Net)(a:List BP):List BP:=N.ts.filter λt=>decide (t∉a)
abbrev S8(w:List Str):D:=.tup (w.map .str)
def ZT(t b:Int):Prop:=1<=b/\b<=1000000/\1<=t/\t<=1000000
def NU:W2:=λd n P=>∃(N:Net) (t b:Int),d=[.fd,.sh (enc N),.sh (.tup [.int t,.int b])]/\okN N/\ZT t b/\N.ts.length+2<=n/\∀(a:List BP) (c:Nat),thn N a->n - (N.ts.length+2)<=c->P (enc ⟨N.ps,a⟩) c
def Eb:Aj:=(Ac (BG (CG (Be (AR (AZ RR (AE (AI (AB 1)) AY)))) (AR (AU (D_ true) (B8 DU (AF (AU A8 (AB 1) (wC (D.int 0))) AT)) (B8 DU (AF (AU A8 (AB 0) (wC (D.int 0))) AT))))) (Au (wC (D.bl false))) Av)
 (Ac (Az 2 (BR [none] (BI (AU A8 (AB 0) (wC (D.int 1)))) (Af 0) CW (B8 DU (AF (AB 0) AT))))
 (Au (AU (DV true) (wC (D.bl false)) (BR [some 2,none] (BI (AU A8 (AB 1) (wC (D.int 1)))) (Af 1) CW (AU (DV false) (B8 DU (AF (AB 1) AT)) (AB 0)))))))
def F2:Aj:=(Ac (BG (Gk (AR (AU (D_ false) (AB 4) (wC (D.int 1)))) (AR (AU aH (BE 5) (DA AT)))) (Wq 5 (AZ BA (AE (Aw 0) (AE (AI (B8 Ce (AF (BE 5) AT))) AY)))) Av)
 (Au (BN (AF (AU A8 (AB 1) (wC (D.int 0))) (AF (B8 B6 (AF (BE 5) AT)) AT)))))
def Dd:Aj:=(Ac (Az 3 (AZ HF (AE (AI (AB 1)) (AE (AI (AB 2)) AY))))
 (Ac (Az 4 (AZ BA (AE (Aw 0) (AE (AI (wC (D.int 4))) AY))))
 (Ac (BG (AR (AU (D_ false) (AB 4) (wC (D.int 0)))) (Au (BN (AF (AU A8 (AB 1) (wC (D.int 0))) (AF (B8 B6 (AF (BR [some 0,none] (BI (AU A8 (AB 1) (wC (D.int 1)))) (Af 1) (AR (AU (f2 λi j=>D.bl (decide (j<i))) (AZ BA (AE (Aw 0) (AE (AI (wC (D.int 3))) AY))) (wC (D.int 0)))) (AB 1)) AT)) AT)))) Av)
 (Ac (EI 5 (BR [some 3,some 0,none] (BI (AU A8 (AB 1) (wC (D.int 1)))) (Af 2) (CG (AR (AU (DV false) (AB 2) (AU A8 (AB 0) (wC (D.int 1))))) (AR (AU (D_ false) (AZ BA (AE (Aw 1) (AE (AI (wC (D.int 3))) AY))) (wC (D.int 0))))) (AB 2)))
 F2))))
theorem Ra{N:Net}(ok:N.Ok){w:List Str}(d:w.length<=1000)(h:∀x∈w,x∈N.ps):K9 (.tup (w.map .str)):=by
 obtain⟨a,b,c⟩:=LI ok h;exact⟨a,by show B7 _<=160000; omega,by show C9 _+1<=50; omega⟩
theorem thn.okN{N:Net}(a:okN N){b:List BP}(h:thn N b):okN ⟨N.ps,b⟩:=⟨PV a.1 h.1 h.2,a.2.1,by
 have:=sub_len (CD h.2) (CD a.1.trise) h.1
 have:=a.2.2
 grind⟩
theorem thn.thinB{N:Net}{a:List BP}(h:thn N a):thinB N (enc ⟨N.ps,a⟩)=true:=thinB_iff.mpr ⟨a,rfl,h.1,h.2⟩
section
variable {ss:List Slot}{n:Nat}{Pd:D->Nat->Prop}
theorem HW(h:IS ss n Pd):Eb (EE Pd) n (ss++Uf 1 .no):=by
 obtain⟨N,d,rfl,ok,J,M,Z,hs,f,p⟩:=h;have O:=PySem.sizeLine_eq;unfold Eb;refine⟨[d],rfl,rfl,?_⟩;show if (!P1 d)=true then _ else _
 cases c:P1 d with
 | false =>
  have:thinB N d=false:=by
   rw [d7];intro z;rw [Td ok J M (thinB_iff.mp z)] at c;cases c
  rw [this] at p;exact Bi p
 | true =>
  obtain⟨I,P,rfl,A,Q,k2,i,R⟩:=Ub c;rw [← Te ok A i R] at p
  have C:∀(o:List Str),(∀q∈o,D9 q)->o.length<=24->Gr (.tup (o.map .str)):=λo S hl=>by
   have r:∀d∈o.map D.str,item d:=λd f=>by
    obtain⟨x,T,rfl⟩:=Rs.mp f;exact Cp (S x T)
   have U:=GK (k:=451) λd f=>fw (r d f).2.1;have d1:C9 (o.map D.str)<=1:=dps_le.mpr λd f=>(r d f).2.2;rw [Go] at U;exact Ip (B:=1000001) (by decide) (fines_iff.mpr λd f=>(r d f).1) (by show C9 (o.map D.str)+1<=100; omega) (by show B7 (o.map D.str)<=200000; omega)
  have E:∀t:BP,D9 t.a/\D9 t.b/\1<=t.len/\t.len<=1000000->Gr (Aa t):=λt g=>by
   have r:=OZ (Cp g.1) (Cp g.2.1) g.1.2.1 g.2.1.2.1 (l:=t.len) (by omega);exact Ip (B:=1000001) (by decide) r.1 (by have:=r.2.2; show Cr (Aa t)<=100; unfold Aa; omega) (by have:=r.2.1; show szD (Aa t)<=200000; unfold Aa; omega)
  have v:∀t∈N.ts,D9 t.a/\D9 t.b/\1<=t.len/\t.len<=1000000:=λt g=>by
   obtain⟨V,W,_,X,Y⟩:=ok.tin t g;exact⟨ok.names _ V,ok.names _ W,X,Y⟩
  refine BQ ⟨_,AO (j:=0) rfl,_,rfl,C I A Q,_,AO (j:=0) rfl,_,rfl,C N.ps ok.names J,?_⟩;show if (!(BF (.tup (I.map .str))==BF (.tup (N.ps.map .str))))=true then _ else _
  cases e:BF (.tup (I.map .str))==BF (.tup (N.ps.map .str)) with
  | false=>rw [e] at p; exact Bi p
  | true =>
   rw [e,fM] at p;refine BQ ⟨_,AO (j:=1) rfl,by show (N.ts.map Aa).length<=10000000; rw [Go]; omega,?_⟩;refine BO (λd=>.str (BF d)) (λF=>∃s,F=[s]) _ _ _ _ ?_ ⟨_,rfl⟩ ?_
   ·rintro d f F m K ⟨s,rfl⟩ w
    obtain⟨u,H,rfl⟩:=Rs.mp f;exact⟨_,rfl,E u (v u H),w _ ⟨_,rfl⟩⟩
   rw [cy]
   have G:D7 (.lst ((N.ts.map Aa).map λd=>.str (BF d))):=by
    refine CI (B:=0) (by decide) (fines_iff.mpr λd f=>?_) ?_
    ·obtain⟨e,L,rfl⟩:=Rs.mp f
     obtain⟨u,H,rfl⟩:=Rs.mp L;exact Hu (v u H).1 (v u H).2.1
    ·have:C9 ((N.ts.map Aa).map λd=>D.str (BF d))<=0:=dps_le.mpr λd f=>by
      obtain⟨e,L,rfl⟩:=Rs.mp f;exact On _
     show C9 _+1<=100;omega
   refine⟨_,AO (j:=1) rfl,by show (P.map Aa).length<=10000000; rw [Go]; omega,?_⟩;refine BO (λd=>.bl ((N.ts.map Aa).any λe=>BF e==BF d)) (λF=>∃s,F=[.sh (.lst ((N.ts.map Aa).map λd=>.str (BF d))),s]) _ _ _ _ ?_ ⟨_,rfl⟩ ?_
   ·rintro d f F m K ⟨s,rfl⟩ w
    obtain⟨t,g,rfl⟩:=Rs.mp f;refine⟨_,rfl,E t (i t g),CI (B:=0) (d:=.str _) (by decide) (Hu (i t g).1 (i t g).2.1) (TM _),G,_,rfl,?_⟩;show K (.bl (((N.ts.map Aa).map λd=>.str (BF d)).any λy=>GA y (.str (BF (Aa t))))) m _;rw [jQ];exact w _ ⟨_,rfl⟩
   ·rw [cy]
    refine ES ?_;exact p
theorem Qd{N:Net}(a:okN N){b:List BP}(h:b.Sublist N.ts):thn N b:=⟨λt c=>h.subset c,a.1.trise.sublist h⟩
theorem GU(h:NU ss n Pd):Dd (EE Pd) n (ss++Uf 3 .no):=by
 obtain⟨N,t,b,rfl,g,⟨S,T,U,V⟩,hn,p⟩:=h;have W:=g.2.2;have X:=PySem.sizeLine_eq;unfold Dd;have A:(N.ts.map Aa).length<=10000000:=by rw [Go]; omega
 refine⟨N,t,b,rfl,g,S,T,U,V,λw o1 o2=>?_⟩;have C:=Qe g (Ey N t b [] w);have K:∀u∈(sub N (Ey N t b [] w)).ts,u∈N.ts:=λu Y=>(sub_mem.mp Y).1;revert C K;generalize eG:sub N (Ey N t b [] w)=G;intro C K;refine⟨4,rfl,by decide,by decide,by omega,λo w0 w1=>?_⟩;refine B3 (λ_=>?_) λ_=>?_
 ·refine⟨_,AO (j:=0) rfl,_,AO (j:=1) rfl,A,?_⟩
  have L:∀(d done f:List BP) (m:Nat) (s:Slot),done++d=N.ts->f.Sublist done->n - 1 - done.length<=m ->
    Ci (Af 1) (AR (AU (f2 λi j=>D.bl (decide (j<i))) (AZ BA (AE (Aw 0) (AE (AI (wC (D.int 3))) AY))) (wC (D.int 0)))) (AB 1) (λf E=>[D.tup (N.ps.map .str),.tup f].length<=sizeLine/\Pd (.tup [.tup (N.ps.map .str),.tup f]) E) (d.map Aa) (f.map Aa) m [.fd,s]:=by
   intro d
   induction d with
   | nil =>
    intro done f m s e l y;rw [dS] at e;subst e;exact⟨z2,p f m (Qd g l) (by omega)⟩
   | cons t d F =>
    intro done f m s e l y;have Z:done.length+(d.length+1)=N.ts.length:=by rw [← e,XV,ZB]
    have H:(done++[t])++d=N.ts:=by rw [eR]; exact e
    refine⟨3,rfl,by decide,by decide,by omega,λr P Q=>B3 (λ_=>?_) λ_=>?_⟩
    ·have:=F (done++[t]) (f++[t]) (m - 1) (.sh (Aa t)) H (l.append (g7 [t])) (by rw [XV,dB]; omega)
     rw [df] at this;exact this
    ·exact F (done++[t]) f (m - 1) (.sh (Aa t)) H (l.trans (jT _ _)) (by rw [XV,dB]; omega)
  exact L N.ts [] [] _ _ rfl (g7 _) (by simp)
 ·refine⟨_,AO (j:=1) rfl,A,?_⟩
  have x:∀(a:List BP) (m:Nat),a.Sublist N.ts->n - (N.ts.length+2)<=m->(Au (BN (AF (AU A8 (AB 1) (wC (D.int 0))) (AF (B8 B6 (AF (BE 5) AT)) AT)))) (EE Pd) m [.fd,.sh (enc N),.sh (.tup [.int t,.int b]),.sh (enc G),.sh (.int o),.ow (.lst (a.map Aa))]:=λa m l y =>
   ⟨_,AO (j:=0) rfl,z2,p a m (Qd g l) y⟩
  have q:∀(a:List BP) (m:Nat),a.Sublist N.ts->n - (N.ts.length+1)<=m->F2 (EE Pd) m [.fd,.sh (enc N),.sh (.tup [.int t,.int b]),.sh (enc G),.sh (.int o),.ow (.lst (a.map Aa))]:=λa m l y=>by
   refine B3 (λ_=>?_) λ_=>BQ (x a m l (by omega));refine⟨z0,(EQ g.1 λt ht=>l.subset ht).2,CI (B:=0) (by decide) trivial (by decide),?_⟩;refine B3 (λc=>?_) λ_=>x a m l (by omega)
   have M:a≠[]:=λz=>by
    rw [z] at c;exact absurd c (by decide)
   have a0:1<=a.length:=by
    cases a with
    | nil=>exact absurd rfl M
    | cons _ _=>rw [ZB]; omega
   have a1:(a.map Aa).length=a.length:=Go ..;have R:=l.length_le;refine⟨_,rfl,_,_,rfl,rfl,_,rfl,by omega,by omega,by omega,λr P Q=>?_⟩;obtain⟨k,rfl⟩:∃k:Nat,r=(k:Int):=⟨r.toNat,by omega⟩;have e1:a[k]?=some a[k]:=No (by omega);refine⟨k,Aa a[k],rfl,by rw [dR,e1]; rfl,by omega,?_⟩;rw [Ll];exact x _ _ ((List.eraseIdx_sublist _ _).trans l) (by omega)
  have L:∀(d done f:List BP) (m:Nat) (s:Slot),done++d=N.ts->f.Sublist done->n - 1 - done.length<=m ->
    Ci (Af 2) (CG (AR (AU (DV false) (AB 2) (AU A8 (AB 0) (wC (D.int 1))))) (AR (AU (D_ false) (AZ BA (AE (Aw 1) (AE (AI (wC (D.int 3))) AY))) (wC (D.int 0))))) (AB 2) (λf E=>F2 (EE Pd) E [.fd,.sh (enc N),.sh (.tup [.int t,.int b]),.sh (enc G),.sh (.int o),.ow (.lst f)]) (d.map Aa) (f.map Aa) m [.sh (enc G),.fd,s]:=by
   intro d
   induction d with
   | nil =>
    intro done f m s e l y;rw [dS] at e;subst e;exact q f m l (by omega)
   | cons v d F =>
    intro done f m s e l y;have Z:done.length+(d.length+1)=N.ts.length:=by rw [← e,XV,ZB]
    have H:(done++[v])++d=N.ts:=by rw [eR]; exact e
    have hv:v∈N.ts:=by rw [← e]; exact dH _ Op
    have I:∀J,n - 1 - (done.length+1)<=J->Ci (Af 2) (CG (AR (AU (DV false) (AB 2) (AU A8 (AB 0) (wC (D.int 1))))) (AR (AU (D_ false) (AZ BA (AE (Aw 1) (AE (AI (wC (D.int 3))) AY))) (wC (D.int 0))))) (AB 2) (λf E=>F2 (EE Pd) E [.fd,.sh (enc N),.sh (.tup [.int t,.int b]),.sh (enc G),.sh (.int o),.ow (.lst f)]) (d.map Aa) (f.map Aa++[Aa v]) J [.sh (enc G),.fd,.sh (Aa v)]:=λJ O=>by
     have:=F (done++[v]) (f++[v]) J (.sh (Aa v)) H (l.append (g7 [v])) (by rw [XV,dB]; exact O)
     rw [df] at this;exact this
    refine⟨_,AO (j:=1) rfl,Iz g.1 hv,(EQ g.1 K).1,_,rfl,?_⟩;refine B3 (λ_=>I m (by omega)) λ_=>?_;refine⟨3,rfl,by decide,by decide,by omega,λr P Q=>B3 (λ_=>I (m - 1) (by omega)) λ_=>?_⟩;exact F (done++[v]) f (m - 1) (.sh (Aa v)) H (l.trans (jT _ _)) (by rw [XV,dB]; omega)
  exact L N.ts [] [] _ _ rfl (g7 _) (by simp)
end
def Vg:D->List Str
 | .tup a=>strsOf a
 | _=>[]
def YU(M:Net)(a b:Str)(d:D):D:=match Mr M d with
 | .int l=>if ((Vg d).head?==some a&&(Vg d).getLast?==some b)=true then .int l else .non
 | _=>.non
def S7(M:Net)(t b:Int)(u:BP)(d:D):D:=match YU M u.a u.b d with
 | .int l=>if l*b<=u.len*t then .non else .str "far"
 | _=>.str "way"
def OG(w:Str)(k:Nat):D:=.tup [.str w,.int (k:Int)]
def Hl(M:Net)(t b:Int):Nat->List BP->List D->D
 | k,u::a,d::c=>match S7 M t b u d with
  | .str w=>OG w k
  | _=>Hl M t b (k+1) a c
 | _,_,_=>.non
def QD(M:Net)(t b:Int)(a:List BP):D->D
 | .tup c=>if c.length=a.length then Hl M t b 0 a c else OG "shape" 0
 | _=>OG "shape" 0
def Tf(r:D)(P:D->Nat->Prop)(a:PX)(n:Nat):Prop:=match r with
 | .tup [.str w,.int k]=>a "NoPaper" ["word","number"] [.str w,.int k] n
 | _=>P (.bl true) n
def Yy(d:D):Prop:=fine (10 ^ 41) d/\szD d<=200000/\Cr d<=90
def RT:W2:=λc n P=>∃(M:Net) (a b:Str) (d:D),c=[.sh (enc M),.sh (.str a),.sh (.str b),.sh d]/\okN M/\K9 d/\P (YU M a b d) n
def PD:W2:=λa n P=>∃(M:Net) (t b:Int) (u:BP) (d:D),a=[.sh (enc M),.sh (.tup [.int t,.int b]),.sh (Aa u),.sh d]/\okN M/\ZT t b/\K9 d/\P (S7 M t b u d) n
def ZH(N:Net)(t b:Int)(d p:D)(Q:D->Prop):Prop:=okN N/\N.ps.length<=24/\ZT t b/\Yy d/\K9 p/\(thinB N d=false\/(∀e,p≠.tup e)->Q (OG "shape" 0))/\∀a c:List BP,d=enc ⟨N.ps,a⟩->thn N a->c.Perm (OW N a)->Fc c->Q (QD ⟨N.ps,a⟩ t b c p)
def JI:WX:=λa n P c=>∃(N:Net) (t b:Int) (d p:D),a=[.sh (enc N),.sh (.tup [.int t,.int b]),.sh d,.sh p]/\ZH N t b d p λr=>Tf r P c n
def NW:W2:=λa n P=>∃(N:Net) (t b:Int) (d p:D),a=[.sh (enc N),.sh (.tup [.int t,.int b]),.sh d,.sh p]/\ZH N t b d p λr=>P r n
def NV:W2:=λb n P=>∃(a:Ch) (w:Str) (k:Int),b=[.ex a "NoPaper" ["word","number"] [.str w,.int k]]/\P (.tup [.str w,.int k]) n
def EH:W2:=λa n P=>∃(N:Net) (t b:Int) (d p:D),a=[.sh (enc N),.sh (.tup [.int t,.int b]),.sh d,.sh p]/\okN N/\N.ps.length<=24/\ZT t b/\Yy d/\K9 p/\szD (enc N)+szD d+szD p<=260000/\P (.bl true) n
def Kp:W2:=λc n P=>∃(M:Net) (a b:Str),c=[.sh (enc M),.sh (.str a),.sh (.str b)]/\okN M/\a∈M.ps/\b∈M.ps/\2<=M.ps.length/\∀(x:Str) (r:List Str),(x::r).length<=M.ps.length->(∀y∈x::r,y∈M.ps)->P (S8 (x::r)) n
def isWy(d:D):Prop:=∃a:List D,d=.tup a/\(∀i∈a,item i)/\1<=a.length/\a.length<=7
def RQ:W2:=λc n P=>∃(N:Net) (a:List D),c=[.fd,.sh (enc N),.sh (.tup a)]/\N.Ok/\1<=N.ps.length/\N.ps.length<=7/\a.length<=12/\(∀d∈a,isWy d)/\14<=n/\∀(e:D) (b:Nat),fine 2000001 e->szD e<=77000->Cr e<=10->n - 14<=b->P e b
abbrev Kq:W2:=Hq 4
def DZ:Aj:=(Ac (Az 4 (AZ LG (AE (AI (AB 0)) (AE (AI (AB 3)) AY))))
 (Ac (BG (CG (AR (AU (G4 false) (AB 4) (wC D.non))) (CG (AR (AU (D_ true) (AU A8 (AB 3) (wC (D.int 0))) (AB 1))) (AR (AU (D_ true) (AU A8 (AB 3) (Eg (wC (D.int 1)))) (AB 2))))) (Au (wC D.non)) Av)
 (Au (AB 4))))
def GB:Aj:=(Ac (Az 4 (AZ RT (AE (AI (AB 0)) (AE (AI (AU A8 (AB 2) (wC (D.int 0)))) (AE (AI (AU A8 (AB 2) (wC (D.int 1)))) (AE (AI (AB 3)) AY))))))
 (Ac (BG (AR (AU (G4 false) (AB 4) (wC D.non))) (Au (wC (D.str "way"))) Av)
 (Au (VY (AR (AZ JF (AE (AI (AB 4)) (AE (AI (AB 1)) (AE (AI (AU A8 (AB 2) (wC (D.int 2)))) AY))))) (wC D.non) (wC (D.str "far"))))))
def EC(b:PX):Aj:=(Ac (BG (CG (Be (AR (AZ IS (AE (AI (AB 0)) (AE (AI (AB 2)) AY))))) (Be (AR (AZ Fq (AE (AI (B8 Ce (AF (AZ PF (AE (AI (AB 0)) (AE (AI (AB 2)) AY))) AT))) (AE (AI (AB 3)) AY)))))) (λa=>(L_ "NoPaper" ["word","number"] (AF (wC (D.str "shape")) (AF (wC (D.int 0)) AT))) a b) Av)
 (Ac (E6 (QV (AZ PF (AE (AI (AB 0)) (AE (AI (AB 2)) AY)))) (E9 2 (Ay (Af 4) (Ay (Af 5) Cj))) (Ac (Az 6 (AZ PD (AE (AI (AB 2)) (AE (AI (AB 1)) (AE (AI (AB 5)) (AE (AI (AU A8 (AB 3) (AB 4))) AY))))))
 (BG (AR (AU (G4 true) (AB 6) (wC D.non))) (λa=>(L_ "NoPaper" ["word","number"] (AF (AB 6) (AF (AB 4) AT))) a b) Av)))
 (Au (wC (D.bl true)))))
def NL:Aj:=(Ac (Az 7 (AZ LG (AE (AI (AB 2)) (AE (AI (AU A8 (AB 3) (AB 5))) AY))))
 (Ac (BG (CG (AR (AU (G4 false) (AB 7) (wC D.non))) (CG (AR (AU (D_ true) (AU A8 (AU A8 (AB 3) (AB 5)) (wC (D.int 0))) (AU A8 (AB 6) (wC (D.int 0))))) (AR (AU (D_ true) (AU A8 (AU A8 (AB 3) (AB 5)) (Eg (wC (D.int 1)))) (AU A8 (AB 6) (wC (D.int 1))))))) (Au (BN (AF (wC (D.str "way")) (AF (AB 5) AT)))) Av)
 (BG (AR (AU (f2 λi j=>D.bl (decide (j<i))) (AU C8 (AB 7) (AU A8 (AB 1) (wC (D.int 1)))) (AU C8 (AU A8 (AB 6) (wC (D.int 2))) (AU A8 (AB 1) (wC (D.int 0)))))) (Au (BN (AF (wC (D.str "far")) (AF (AB 5) AT)))) Av)))
def Dv:Aj:=(Ac (BG (CG (Be (AR (AZ IS (AE (AI (AB 0)) (AE (AI (AB 2)) AY))))) (Be (AR (Eh "tuple" (AB 3))))) (Au (BN (AF (wC (D.str "shape")) (AF (wC (D.int 0)) AT)))) Av)
 (Ac (Az 4 (AZ Dg (AE (AI (BR [some 2,none] (BI (AU A8 (AB 0) (wC (D.int 1)))) (Af 1) (AR (AU (DV true) (AB 1) (AU A8 (AB 0) (wC (D.int 1))))) (AB 1))) AY)))
 (Ac (BG (AR (AU (D_ true) (B8 Ce (AF (AB 3) AT)) (B8 Ce (AF (AB 4) AT)))) (Au (BN (AF (wC (D.str "shape")) (AF (wC (D.int 0)) AT)))) Av)
 (Ac (E6 (QV (AB 4)) (E9 2 (Ay (Af 5) (Ay (Af 6) Cj))) NL)
 (Au (wC D.non))))))
def EZ:Aj:=(Ac (Az 1 (S9 0 ["NoLine","NoPlace","NoRow","NoTie","TooMany","Twice"]))
 (Ac (BG (CG (AR (AB 1)) (CG (Be (AR (Xm 0 "NoPaper"))) (Be (AR (S_ 0))))) (Au (BN (AF (wC (D.str "other")) (AF (wC (D.int 0)) AT)))) Av)
 (Au (BN (AF (aj 0 "word") (AF (aj 0 "number") AT))))))
def Ea:Aj:=(Ac (Az 3 (Wu (AZ Dh (AE (JM (AU A8 (AB 0) (wC (D.int 1)))) (AE (AI (AB 1)) AY)))))
 (Ac (EI 4 (DA (AF (AB 2) AT)))
 (Ac (L9 (Gk (AR (AU (D_ true) (AU A8 (BE 4) (Eg (wC (D.int 1)))) (AB 1))) (AR (AU (M8 false) (AU A8 (BE 4) (Eg (wC (D.int 1)))) (AB 3)))) (Ac (Az 5 (BR [some 0,some 4,none] (Ws (AB 3)) (Af 2) (AR (AU (G4 true) (AZ LG (AE (AI (AB 0)) (AE (AI (BN (AF (AB 2) (AF (AU A8 (BE 1) (Eg (wC (D.int 1)))) AT)))) AY))) (wC D.non))) (AB 2)))
 (Ac (Az 5 (BR [some 3,some 0,some 4,none] (BI (AB 5)) (Af 3) (AR (AU (D_ false) (AU Aq (AU EW (AB 0) (AB 3)) (AZ LG (AE (AI (AB 1)) (AE (AI (BN (AF (AB 3) (AF (AU A8 (BE 2) (Eg (wC (D.int 1)))) AT)))) AY)))) (AU EW (AB 0) (AU A8 (BE 2) (Eg (wC (D.int 1))))))) (AB 3)))
 (TF 4 "list" KH (AF (AU A8 (AB 5) (wC (D.int 0))) AT)))))
 (Au (VY (AR (AU (D_ false) (AU A8 (BE 4) (Eg (wC (D.int 1)))) (AB 1))) (B8 B6 (AF (Rc (BE 4) (Eg (wC (D.int 1)))) AT)) (BN (AF (AB 1) (AF (AB 2) AT))))))))
def Fg:Aj:=(Ac (Az 4 (wC D.non))
 (Ac (Az 5 (B8 DU (AF (BN (AF (AB 0) (AF (AB 2) (AF (AB 3) AT)))) AT)))
 (Ac (ZQ (Wp 4 (TQ JI (AE (AI (AB 0)) (AE (AI (AB 1)) (AE (AI (AB 2)) (AE (AI (AB 3)) AY))))))
 (TL "ThinError" 7 (λa=>(Az 4 (TR a 7 NV (AE (TV 7) AY))))
 TK))
 (Ac (Az 6 (AZ NW (AE (AI (AB 0)) (AE (AI (AB 1)) (AE (AI (AB 2)) (AE (AI (AB 3)) AY))))))
 (Au (HJ (AU (D_ false) (B8 DU (AF (AB 4) AT)) (B8 DU (AF (VY (AR (AU (G4 false) (AB 6) (wC D.non))) (wC (D.bl true)) (AB 6)) AT))) (AU (D_ false) (B8 DU (AF (BN (AF (AB 0) (AF (AB 2) (AF (AB 3) AT)))) AT)) (AB 5))))))))
def C_:Aj:=(Ac (BG (CG (AR (AU Uy (AB 2) (BN AT))) (AR (AU (D_ false) (AZ BA (AE (Aw 0) (AE (AI (wC (D.int 4))) AY))) (wC (D.int 0))))) (Au (AZ Kq (AE (Aw 0) (AE (AI (AB 2)) (AE (AI (wC (D.int 3))) AY))))) Av)
 (Ac (Az 3 (AZ BA (AE (Aw 0) (AE (AI (B8 Ce (AF (AB 2) AT))) AY))))
 (Ac (Az 4 (AU A8 (AB 2) (AB 3)))
 (Ac (Az 5 (DA (AF (Rc (AB 4) (Eg (wC (D.int 1)))) (AF (AU Aq (F5 CJ (AB 4) A6 (BK (wC (D.int 2)))) (AB 4)) (AF (AU Aq (AB 4) (F5 CJ (AB 4) (BK (Eg (wC (D.int 2)))) A6)) (AF (F5 CJ (AB 4) A6 (BK (Eg (wC (D.int 1))))) (AF (F5 CJ (AB 4) (BK (wC (D.int 1))) A6) (AF (B8 M6 (AF (AB 4) AT)) (AF (BN (AF (AU A8 (AB 4) (wC (D.int 0))) (AF (AU A8 (AB 4) (Eg (wC (D.int 1)))) AT))) (AF (wC D.non) (AF (BN AT) AT)))))))))))
 (Ac (Az 5 (AU Aq (AB 5) (DA (AF (AU A8 (AB 2) (AZ BA (AE (Aw 0) (AE (AI (B8 Ce (AF (AB 2) AT))) AY)))) (AF (AU Aq (AU Aq (F5 CJ (AB 4) A6 (BK (wC (D.int 1)))) (BN (AF (AU A8 (AU A8 (AB 1) (wC (D.int 0))) (AZ BA (AE (Aw 0) (AE (AI (B8 Ce (AF (AU A8 (AB 1) (wC (D.int 0))) AT))) AY)))) AT))) (F5 CJ (AB 4) (BK (wC (D.int 1))) A6)) AT)))))
 (Ac (Az 6 (AU A8 (AB 5) (AZ BA (AE (Aw 0) (AE (AI (B8 Ce (AF (AB 5) AT))) AY)))))
 (Ac (Az 7 (DA (AF (AU Aq (AU Aq (F5 CJ (AB 2) A6 (BK (AB 3))) (BN (AF (AB 6) AT))) (F5 CJ (AB 2) (BK (AU Aq (AB 3) (wC (D.int 1)))) A6)) (AF (AU Aq (F5 CJ (AB 2) A6 (BK (AB 3))) (F5 CJ (AB 2) (BK (AU Aq (AB 3) (wC (D.int 1)))) A6)) (AF (AU Aq (AB 2) (BN (AF (AB 4) AT))) (AF (Rc (AB 2) (Eg (wC (D.int 1)))) AT))))))
 (Au (AU A8 (AB 7) (AU A8 (DA (AF (wC (D.int 0)) (AF (wC (D.int 0)) (AF (wC (D.int 0)) (AF (wC (D.int 0)) (AF (wC (D.int 1)) (AF (wC (D.int 2)) (AF (wC (D.int 3)) AT)))))))) (AZ BA (AE (Aw 0) (AE (AI (wC (D.int 7))) AY)))))))))))))
def Ly:Aj:=(Ac (Az 2 (AZ Wj (AE (Aw 1) (AE (AI (wC (D.int 7))) (AE (AI (wC (D.int 12))) AY)))))
 (Ac (Az 3 (AZ NT (AE (Aw 1) AY)))
 (Ac (E6 (EJ (AF (wC (D.int 3)) AT)) (Af 4) (Ac (Az 5 (AZ NU (AE (Aw 1) (AE (AI (AB 2)) (AE (AI (AB 3)) AY)))))
 (Ac (Az 6 (AZ Dg (AE (AI (BR [some 5,none] (BI (AU A8 (AB 2) (wC (D.int 1)))) (Af 1) (AR (AU (DV true) (AB 1) (AU A8 (AB 0) (wC (D.int 1))))) (AB 1))) AY)))
 (Ac (Az 7 (B8 B6 (AF (BR [some 5,none] (BI (AB 6)) (Af 1) CW (AZ Kp (AE (AI (AB 0)) (AE (AI (AU A8 (AB 1) (wC (D.int 0)))) (AE (AI (AU A8 (AB 1) (wC (D.int 1)))) AY))))) AT)))
 (Ac (BG (Be (AR (AZ EH (AE (AI (AB 2)) (AE (AI (AB 3)) (AE (AI (AB 5)) (AE (AI (AB 7)) AY))))))) (Au (wC (D.bl false))) Av)
 (E6 (EJ (AF (wC (D.int 4)) AT)) (Af 8) (Ac (Az 9 (AZ RQ (AE (Aw 1) (AE (AI (AB 2)) (AE (AI (AB 7)) AY)))))
 (Ac (BG (AR (AU (D_ false) (AZ BA (AE (Aw 1) (AE (AI (wC (D.int 4))) AY))) (wC (D.int 0)))) (Az 9 (AZ Kq (AE (Aw 1) (AE (AI (AB 9)) (AE (AI (wC (D.int 3))) AY))))) Av)
 (Ac (BG (Be (AR (AZ EH (AE (AI (AB 2)) (AE (AI (AB 3)) (AE (AI (AB 5)) (AE (AI (AB 9)) AY))))))) (Au (wC (D.bl false))) Av)
 (BG (Be (AR (AZ EH (AE (AI (AB 2)) (AE (AI (AB 3)) (AE (AI (AZ Kq (AE (Aw 1) (AE (AI (AB 5)) (AE (AI (wC (D.int 4))) AY))))) (AE (AI (AB 7)) AY))))))) (Au (wC (D.bl false))) Av))))))))))
 (Ac (E6 (BI (DA (AF (wC D.non) (AF (wC (D.bl true)) (AF (BN AT) (AF (DA AT) (AF (wC (D.int 0)) (AF (BN (AF (BN AT) AT)) (AF (BN (AF (wC D.non) AT)) (AF (AB 2) AT)))))))))) (Af 10) (BG (CG (Be (AR (AZ EH (AE (AI (AB 2)) (AE (AI (AB 3)) (AE (AI (AB 10)) (AE (AI (BN AT)) AY))))))) (Be (AR (AZ EH (AE (AI (AB 2)) (AE (AI (AB 3)) (AE (AI (AB 2)) (AE (AI (AB 10)) AY)))))))) (Au (wC (D.bl false))) Av))
 (Au (wC (D.bl true)))))))
theorem La(M:Net)(d:D):Mr M d=.non\/∃(x:Str) (r:List Str) (l:Int),d=S8 (x::r)/\Mr M d=.int l:=by
 cases d with
 | tup g =>
  by_cases b:g.all Cq=true
  ·obtain⟨a,rfl⟩:=Gp b
   have e:Mr M (.tup (a.map .str))=Uj M a:=by
    show (if (a.map D.str).all Cq then Uj M (strsOf (a.map .str)) else .non)=_;rw [if_pos b,B9]
   rw [e];cases a with
   | nil=>exact .inl rfl
   | cons x r =>
    show (if x∈M.ps then Nt.MO (FS M.ts x r 0) else .non)=.non\/_
    by_cases f:x∈M.ps
    ·rw [if_pos f]
     cases c:FS M.ts x r 0 with
     | none=>exact .inl rfl
     | some l=>exact .inr ⟨x,r,l,rfl,by show (if x∈M.ps then Nt.MO (FS M.ts x r 0) else .non)=_; rw [if_pos f,c]; rfl⟩
    ·rw [if_neg f]; exact .inl rfl
  ·exact .inl (if_neg b)
 | _=>exact .inl rfl
theorem SO(M:Net)(a b:Str)(d:D):YU M a b d=.non\/∃l,YU M a b d=.int l:=by
 unfold YU
 split
 ·split
  ·exact .inr ⟨_,rfl⟩
  ·exact .inl rfl
 ·exact .inl rfl
theorem Q3{a:List D}(h:K9 (.tup a)){d:D}(hd:d∈a):K9 d:=by
 have b:B7 a<=160000:=h.2.1;have c:C9 a+1<=50:=h.2.2
 have:=MD hd
 have:=dps_le.mp (On (C9 a)) d hd
 exact⟨fines_iff.mp h.1 d hd,by omega,by omega⟩
theorem OV{N:Net}{a:List BP}:(N.ts.map Aa).filter (λd=>!((a.map Aa).any λy=>GA y d))=(OW N a).map Aa:=by
 unfold OW;rw [List.filter_map]
 congr 1
 refine List.filter_congr λt _=>?_;show (!((a.map Aa).any λy=>GA y (Aa t)))=decide (t∉a);rw [NP,decide_not]
section
variable {ss:List Slot}{n:Nat}{Pd:D->Nat->Prop}{Pr:PX}
theorem Vk(h:RT ss n Pd):DZ (EE Pd) n (ss++Uf 1 .no):=by
 obtain⟨M,a,b,d,rfl,c,k,p⟩:=h;unfold DZ;refine⟨M,d,rfl,c.1,by have:=c.2.1; omega,c.2.2,k,?_⟩;unfold YU at p
 rcases La M d with e | ⟨x,r,l,rfl,e⟩
 ·rw [e] at p ⊢
  exact⟨rfl,p⟩
 ·rw [e] at p ⊢
  have m:Vg (S8 (x::r))=x::r:=B9 _;simp only [m] at p;obtain⟨y,f⟩:∃y,(x::r).getLast?=some y:=⟨_,iU (by simp)⟩;refine⟨rfl,.str x,AO (j:=0) rfl,?_⟩;show if (!(x==a))=true then _ else _
  rw [f] at p;have p:Pd (if (some x==some a&&some y==some b)=true then .int l else .non) n:=p;rw [gX,gX] at p;cases g:x==a with
  | false=>rw [g] at p; exact Bi p
  | true =>
   rw [g] at p;refine BQ ⟨1,rfl,.str y,Ms f,?_⟩;show if (!(y==b))=true then _ else _
   cases i:y==b with
   | false=>rw [i] at p; exact Bi p
   | true=>rw [i] at p; exact BQ p
theorem Vi(h:PD ss n Pd):GB (EE Pd) n (ss++Uf 1 .no):=by
 obtain⟨M,t,b,u,d,rfl,f,⟨g,i,k,m⟩,o,p⟩:=h;unfold GB;unfold S7 at p;refine⟨_,AO (j:=0) rfl,_,AO (j:=1) rfl,M,u.a,u.b,d,rfl,f,o,?_⟩
 rcases SO M u.a u.b d with e | ⟨l,e⟩
 ·rw [e] at p ⊢
  exact⟨rfl,p⟩
 ·rw [e] at p ⊢
  refine⟨rfl,_,AO (j:=2) rfl,l,t,b,u.len,rfl,g,i,k,m,?_⟩;have p:Pd (if l*b<=u.len*t then .non else .str "far") n:=p;show if decide (l*b<=u.len*t)=true then _ else _
  by_cases c:l*b<=u.len*t
  ·rw [if_pos c] at p; rw [decide_eq_true c]; exact Bi p
  ·rw [if_neg c] at p; rw [decide_eq_false c]; exact BQ p
theorem RZ(M:Net)(t b:Int)(u:BP)(d:D):S7 M t b u d=.non\/∃w,S7 M t b u d=.str w:=by
 unfold S7
 split
 ·split
  ·exact .inl rfl
  ·exact .inr ⟨_,rfl⟩
 ·exact .inr ⟨_,rfl⟩
theorem Rv(h:JI ss n Pd Pr):EC Pr (EE Pd) n (ss++Uf 3 .no):=by
 obtain⟨N,t,b,d,p,rfl,a,A,L,⟨M,O,P⟩,Q,R,q⟩:=h;have B:=a.2.2;have S:=PySem.sizeLine_eq;unfold EC;refine⟨N,d,rfl,a.1,A,B,M,O,P,?_⟩;show if (!thinB N d)=true then _ else _
 cases c:thinB N d with
 | false=>exact Bi (.inr ⟨rfl,rfl,R (.inl c)⟩)
 | true =>
  obtain⟨j,rfl,r⟩:=thinB_iff.mp c;have r:thn N j:=r;have C:=r.okN a;refine BQ ⟨N,j,rfl,a.1,by omega,r.1,λf J K=>⟨_,_,rfl,rfl,?_⟩⟩;refine⟨_,_,rfl,?_⟩;have o:=q j f rfl r J K;show if (!(tupleOfB ((f.map Aa).length:Int) p))=true then _ else _
  have v:(f.map Aa).length=f.length:=Go ..;rw [v];cases p with
  | tup i =>
   have o:Tf (if i.length=f.length then Hl ⟨N.ps,j⟩ t b 0 f i else OG "shape" 0) Pd Pr n:=o;show if (!((i.length:Int)==(f.length:Int)))=true then _ else _
   by_cases z:i.length=f.length
   ·rw [if_pos z] at o
    rw [show ((i.length:Int)==(f.length:Int))=true by rw [z]; exact beq_self_eq_true _];refine BQ ⟨N,j,rfl,a.1,by omega,r.1,λT U V=>⟨_,rfl,?_⟩⟩;rw [Hv (U.trans J.symm) V K]
    have W:∀(s:List BP) (m k:List D) (E F G:Slot),m++k=i->k.length=s.length->Tf (Hl ⟨N.ps,j⟩ t b m.length s k) Pd Pr n ->
      Bm (E9 2 (Ay (Af 4) (Ay (Af 5) Cj))) (Ac (Az 6 (AZ PD (AE (AI (AB 2)) (AE (AI (AB 1)) (AE (AI (AB 5)) (AE (AI (AU A8 (AB 3) (AB 4))) AY))))))
 (BG (AR (AU (G4 true) (AB 6) (wC D.non))) (λY=>(L_ "NoPaper" ["word","number"] (AF (AB 6) (AF (AB 4) AT))) Y Pr) Av)) { EE Pd with nx:=Au (wC (D.bl true)) (EE Pd) } (FW m.length (s.map Aa)) n [.sh (enc N),.sh (.tup [.int t,.int b]),.sh (enc ⟨N.ps,j⟩),.sh (.tup i),E,F,G]:=by
     intro s
     induction s with
     | nil=>intro m k E F G _ g l; cases k with
      | nil=>exact l
      | cons _ _=>cases g
     | cons u s Z =>
      intro m k E F G e g l
      match k,g,l with
      | w::k,g,l =>
       have y:i[m.length]?=some w:=by rw [← e,eB (On _),Nat.sub_self]; rfl
       refine⟨rfl,rfl,_,AO y,⟨N.ps,j⟩,t,b,u,w,rfl,C,L,Q3 Q (dj y),?_⟩;unfold Hl at l
       rcases RZ ⟨N.ps,j⟩ t b u w with I | ⟨x,I⟩
       ·rw [I] at l ⊢
        refine⟨rfl,?_⟩
        have:=Z (m++[w]) k (.sh (.int (m.length:Int))) (.sh (Aa u)) (.sh .non) (by rw [eR]; exact e) (jy g)
        rw [XV,dB] at this;exact this l
       ·rw [I] at l ⊢
        exact⟨rfl,.inr ⟨rfl,rfl,l⟩⟩
    exact W f [] i _ _ _ rfl z o
   ·rw [if_neg z] at o
    rw [show ((i.length:Int)==(f.length:Int))=false by rw [beq_eq_false_iff_ne]; omega];exact Bi (.inr ⟨rfl,rfl,o⟩)
  | _=>exact Bi (.inr ⟨rfl,rfl,o⟩)
theorem Z9(d e:D):fR ("word":Str) ((["word","number"]:List Str).zip [d,e])=some d:=rfl
theorem Z8(d e:D):fR ("number":Str) ((["word","number"]:List Str).zip [d,e])=some e:=by simp [fR]; rw [show (("number":Str) == "word")=false by decide]
theorem Tv(h:NV ss n Pd):EZ (EE Pd) n (ss++Uf 1 .no):=by
 obtain⟨a,w,k,rfl,p⟩:=h;unfold EZ;exact⟨_,Z9 _ _,_,Z8 _ _,z2,p⟩
theorem Tx(h:NW ss n Pd):Dv (EE Pd) n (ss++Uf 4 .no):=by
 obtain⟨N,t,b,d,p,rfl,o,L,⟨b1,b2,t1,t2⟩,⟨f1,f2,f3⟩,fp,T,q⟩:=h;have M:=o.2.2;have a0:=PySem.sizeLine_eq;unfold Dv;refine⟨N,d,rfl,o.1,L,M,f1,f2,f3,?_⟩;show if (!thinB N d)=true then _ else _
 cases c:thinB N d with
 | false=>exact Bi ⟨z2,T (.inl c)⟩
 | true =>
  obtain⟨g,rfl,I⟩:=thinB_iff.mp c;have I:thn N g:=I;have G:=I.okN o;have O:∀i,p=.tup i->(Ac (Az 4 (AZ Dg (AE (AI (BR [some 2,none] (BI (AU A8 (AB 0) (wC (D.int 1)))) (Af 1) (AR (AU (DV true) (AB 1) (AU A8 (AB 0) (wC (D.int 1))))) (AB 1))) AY)))
 (Ac (BG (AR (AU (D_ true) (B8 Ce (AF (AB 3) AT)) (B8 Ce (AF (AB 4) AT)))) (Au (BN (AF (wC (D.str "shape")) (AF (wC (D.int 0)) AT)))) Av)
 (Ac (E6 (QV (AB 4)) (E9 2 (Ay (Af 5) (Ay (Af 6) Cj))) NL)
 (Au (wC D.non))))) (EE Pd) n [.sh (enc N),.sh (.tup [.int t,.int b]),.sh (enc ⟨N.ps,g⟩),.sh p,.no,.no,.no,.no]:=λi ep=>by
   refine⟨_,AO (j:=1) rfl,by show (N.ts.map Aa).length<=10000000; rw [Go]; omega,?_⟩;refine Cw (λd=>!((g.map Aa).any λy=>GA y d)) id (λU=>∃s,U=[.sh (enc ⟨N.ps,g⟩),s]) _ _ _ _ ?_ ⟨_,rfl⟩ ?_
   ·rintro d hd U m nx sk ⟨s,rfl⟩ h1 h2
    obtain⟨t,P,rfl⟩:=Rs.mp hd;refine⟨_,AO (j:=1) rfl,Iz o.1 P,(EQ o.1 I.1).1,_,rfl,?_⟩;exact B3 (λc=>h1 _ ⟨_,rfl⟩ c) λc=>h2 _ ⟨_,rfl⟩ (d7.mpr c)
   rw [cy,g_,OV];refine⟨_,OW N g,rfl,rfl,fD (eM _ _) (by omega),λE p1 p2=>?_⟩;have H:=q g E rfl I p1 p2;subst ep;have H:Pd (if i.length=E.length then Hl ⟨N.ps,g⟩ t b 0 E i else OG "shape" 0) n:=H;refine⟨_,_,rfl,rfl,_,_,rfl,rfl,?_⟩;show if (!((i.length:Int)==((E.map Aa).length:Int)))=true then _ else _
   rw [Go]
   by_cases K:i.length=E.length
   ·rw [if_pos K] at H
    rw [K,beq_self_eq_true];refine BQ ⟨_,rfl,?_⟩
    have go:∀(F:List BP) (k v:List D) (Q R V:Slot),k++v=i->v.length=F.length->Pd (Hl ⟨N.ps,g⟩ t b k.length F v) n ->
      Bm (E9 2 (Ay (Af 5) (Ay (Af 6) Cj))) NL { EE Pd with nx:=Au (wC D.non) (EE Pd) } (FW k.length (F.map Aa)) n [.sh (enc N),.sh (.tup [.int t,.int b]),.sh (enc ⟨N.ps,g⟩),.sh (.tup i),.sh (.lst (E.map Aa)),Q,R,V]:=by
     intro F
     induction F with
     | nil=>intro k v s4 Q R _ A f; cases v with
      | nil=>exact f
      | cons _ _=>cases A
     | cons u F ih =>
      intro k v Q R V e A f
      match v,A,f with
      | w::v,A,f =>
       have C:i[k.length]?=some w:=by rw [← e,eB (On _),Nat.sub_self]; rfl
       refine⟨rfl,rfl,_,AO C,⟨N.ps,g⟩,w,rfl,G.1,by have:=G.2.1; omega,G.2.2,Q3 fp (dj C),?_⟩;unfold Hl S7 YU at f
       rcases La ⟨N.ps,g⟩ w with S | ⟨x,r,l,rfl,S⟩
       ·rw [S] at f ⊢
        exact⟨rfl,z2,f⟩
       ·rw [S] at f ⊢
        have hs:Vg (S8 (x::r))=x::r:=B9 _;simp only [hs] at f;obtain⟨y,W⟩:∃y,(x::r).getLast?=some y:=⟨_,iU (by simp)⟩;rw [W,show ((x::r).head?==some u.a)=(x==u.a) from gX,show (some y==some u.b)=(y==u.b) from gX] at f;refine⟨rfl,_,AO C,.str x,AO (j:=0) rfl,_,AO (j:=0) rfl,?_⟩;show if (!(x==u.a))=true then _ else _
        cases X:x==u.a with
        | false=>rw [X] at f; exact Bi ⟨z2,f⟩
        | true =>
         rw [X] at f;refine BQ ⟨_,AO C,1,rfl,.str y,Ms W,_,AO (j:=1) rfl,?_⟩;show if (!(y==u.b))=true then _ else _
         cases Y:y==u.b with
         | false=>rw [Y] at f; exact Bi ⟨z2,f⟩
         | true =>
          rw [Y] at f;refine BQ ⟨_,AO (j:=1) rfl,.inr ⟨by omega,by omega⟩,_,AO (j:=2) rfl,_,AO (j:=0) rfl,.inr ⟨by omega,by omega⟩,?_⟩;show if decide (u.len*t<l*b)=true then _ else _
          by_cases Z:l*b<=u.len*t
          ·rw [decide_eq_false (by omega)]
           have f:Pd (match (if l*b<=u.len*t then D.non else .str "far") with | .str w=>OG w k.length | _=>Hl ⟨N.ps,g⟩ t b (k.length+1) F v) n:=f;rw [if_pos Z] at f
           have:=ih (k++[S8 (x::r)]) v (.sh (.int (k.length:Int))) (.sh (Aa u)) (.sh (.int l)) (by rw [eR]; exact e) (jy A)
           rw [XV,dB] at this;exact BQ (this f)
          ·rw [decide_eq_true (by omega)]
           have f:Pd (match (if l*b<=u.len*t then D.non else .str "far") with | .str w=>OG w k.length | _=>Hl ⟨N.ps,g⟩ t b (k.length+1) F v) n:=f;rw [if_neg Z] at f;exact Bi ⟨z2,f⟩
    exact go E [] i _ _ _ rfl K H
   ·rw [if_neg K] at H
    rw [show ((i.length:Int)==(E.length:Int))=false by rw [beq_eq_false_iff_ne]; omega];exact Bi ⟨z2,H⟩
  cases p with
  | tup i=>exact BQ (O i rfl)
  | _=>exact BQ ⟨z2,T (.inr λ_ z=>by cases z)⟩
end
theorem Q9(M:Net)(t b:Int):∀(a:List BP) (c:List D) (k:Nat),Hl M t b k a c=.non\/∃w j,Hl M t b k a c=OG w j/\(w = "way"\/w = "far")/\j<k+a.length
 | [],_,_=>.inl rfl
 | _::_,[],_=>.inl rfl
 | u::a,d::c,k=>by
  have e:S7 M t b u d=.non\/S7 M t b u d=.str "far"\/S7 M t b u d=.str "way":=by
   unfold S7
   split
   ·split
    ·exact .inl rfl
    ·exact .inr (.inl rfl)
   ·exact .inr (.inr rfl)
  unfold Hl
  rcases e with e | e | e
  ·rw [e]
   rcases Q9 M t b a c (k+1) with h | ⟨w,j,h,f,g⟩
   ·exact .inl h
   ·exact .inr ⟨w,j,h,f,by rw [ZB]; omega⟩
  ·rw [e]; exact .inr ⟨_,k,rfl,.inr rfl,by rw [ZB]; omega⟩
  ·rw [e]; exact .inr ⟨_,k,rfl,.inl rfl,by rw [ZB]; omega⟩
theorem Nq{w:Str}{k:Nat}(b:w = "way"\/w = "far"\/w = "shape")(c:k<=1000):Gr (OG w k):=by
 have a:item (.str w):=by rcases b with rfl | rfl | rfl <;> exact item_str (by decide) (by decide +kernel)
 refine Ip (B:=1000001) (by decide) ⟨a.1,by show (k:Int).natAbs<=1000001; omega,trivial⟩ ?_ ?_
 ·have:=a.2.2
  show max (Cr (.str w)) (max 0 0)+1<=100;omega
 ·have:=a.2.1
  show szD (.str w)+1+(200+1+0)<=200000;omega
theorem WK(M:Net)(t b:Int)(a:List BP)(p:D):QD M t b a p=.non\/∃w j,QD M t b a p=OG w j/\(w = "way"\/w = "far"\/w = "shape")/\j<=a.length:=by
 unfold QD
 split
 ·split
  ·rcases Q9 M t b a _ 0 with h | ⟨w,j,h,c,d⟩
   ·exact .inl h
   ·exact .inr ⟨w,j,h,by rcases c with c | c <;> simp [c],by omega⟩
  ·exact .inr ⟨_,0,rfl,.inr (.inr rfl),TM _⟩
 ·exact .inr ⟨_,0,rfl,.inr (.inr rfl),TM _⟩
theorem Nf:∀{d e:List BP},d.map Aa=e.map Aa->d=e
 | [],[],_=>rfl
 | t::d,u::e,h=>by
  have c:Aa t=Aa u:=by injection h
  have j:d.map Aa=e.map Aa:=by injection h
  rw [Nf j];obtain⟨a,b,l⟩:=t;obtain⟨k,m,n⟩:=u;unfold Aa at c;injection c with c
  injection c with f c
  injection c with g c
  injection c with i _
  injection f with f
  injection g with g
  injection i with i
  subst f g i;rfl
section
variable {ss:List Slot}{n:Nat}{Pd:D->Nat->Prop}
theorem Tz(h:EH ss n Pd):Fg (EE Pd) n (ss++Uf 4 .no):=by
 obtain⟨N,t,b,d,p,rfl,g,o,C,v,x,hs,q⟩:=h;have K:=PU g;have E:=g.2.2
 have F:Gr (.tup [enc N,d,p]):=by
  refine Np (B:=10 ^ 41) (by decide) ⟨K.1.mono (by decide),v.1,x.1.mono (by decide),trivial⟩ ?_ ?_
  ·have:=K.2.2
   have:=v.2.2
   have:=x.2.2
   show max (Cr (enc N)) (max (Cr d) (max (Cr p) 0))+1<=100;omega
  ·show szD (enc N)+1+(szD d+1+(szD p+1+0))<=270000
   omega
 unfold Fg;refine⟨(by decide:3<=sizeLine),_,rfl,F,?_⟩;generalize L:BF (.tup [enc N,d,p])=S
 have c:∀w k,Gr (OG w k)->(Au (HJ (AU (D_ false) (B8 DU (AF (AB 4) AT)) (B8 DU (AF (VY (AR (AU (G4 false) (AB 6) (wC D.non))) (wC (D.bl true)) (AB 6)) AT))) (AU (D_ false) (B8 DU (AF (BN (AF (AB 0) (AF (AB 2) (AF (AB 3) AT)))) AT)) (AB 5)))) (EE Pd) n [.sh (enc N),.sh (.tup [.int t,.int b]),.sh d,.sh p,.sh (OG w k),.sh (.str S),.sh (OG w k),.no]:=by
  intro w k y;refine⟨_,rfl,y,rfl,_,rfl,y,?_⟩;generalize BF (OG w k)=Z;show (match (.bl (Z==Z):D) with | .bl true=>_ | .bl false=>_ | _=>False);rw [beq_self_eq_true];refine⟨(by decide:3<=sizeLine),_,rfl,F,?_⟩;show Pd (.bl (BF (.tup [enc N,d,p])==S)) n;rw [L,beq_self_eq_true];exact q
 have s:(Au (HJ (AU (D_ false) (B8 DU (AF (AB 4) AT)) (B8 DU (AF (VY (AR (AU (G4 false) (AB 6) (wC D.non))) (wC (D.bl true)) (AB 6)) AT))) (AU (D_ false) (B8 DU (AF (BN (AF (AB 0) (AF (AB 2) (AF (AB 3) AT)))) AT)) (AB 5)))) (EE Pd) n [.sh (enc N),.sh (.tup [.int t,.int b]),.sh d,.sh p,.sh (.bl true),.sh (.str S),.sh .non,.no]:=by
  have y:Gr (.bl true):=Ip (B:=1) (by decide) trivial (TM _) (TM _);refine⟨_,rfl,y,rfl,_,rfl,y,?_⟩;generalize BF (.bl true)=Z;show (match (.bl (Z==Z):D) with | .bl true=>_ | .bl false=>_ | _=>False);rw [beq_self_eq_true];refine⟨(by decide:3<=sizeLine),_,rfl,F,?_⟩;show Pd (.bl (BF (.tup [enc N,d,p])==S)) n;rw [L,beq_self_eq_true];exact q
 have i:∀{j:List BP},d=enc ⟨N.ps,j⟩->thn N j->thinB N d=true:=λe h=>by rw [e]; exact h.thinB
 refine⟨N,t,b,d,p,rfl,g,o,C,v,x,λf=>?_,λj u A G H M=>?_⟩
 ·refine λa=>⟨⟨_,_,_,rfl⟩,a,_,_,rfl,?_⟩
  have O:=Nq (w := "shape") (k:=0) (.inr (.inr rfl)) (TM _);refine⟨N,t,b,d,p,rfl,g,o,C,v,x,λ_=>c _ _ O,λj u A G H M=>?_⟩
  rcases f with f | f
  ·rw [i A G] at f; cases f
  ·have e:QD ⟨N.ps,j⟩ t b u p=OG "shape" 0:=by
    cases p with
    | tup I=>exact absurd rfl (f I)
    | _=>rfl
   rw [e];exact c _ _ O
 ·have hl:u.length<=60:=by rw [H.length_eq]; exact cx (eM _ _) E
  have z:∀(r:D) (Q:D->Prop),r=QD ⟨N.ps,j⟩ t b u p->Q r->ZH N t b d p Q:=λr Q l P=>by
   refine⟨g,o,C,v,x,λf=>?_,λJ R m T U V=>?_⟩
   ·rcases f with f | f
    ·rw [i A G] at f; cases f
    ·have e:QD ⟨N.ps,j⟩ t b u p=OG "shape" 0:=by
      cases p with
      | tup I=>exact absurd rfl (f I)
      | _=>rfl
     rw [← e,← l];exact P
   ·have W:j.map Aa=J.map Aa:=by
     rw [A] at m;injection m with m; injection m with _ m; injection m with m; injection m
    have X:=Nf W;subst X;rw [Hv (U.trans H.symm) V M,← l];exact P
  rcases WK ⟨N.ps,j⟩ t b u p with l | ⟨w,k,l,Y,hk⟩
  ·rw [l]
   exact⟨N,t,b,d,p,rfl,z _ _ l.symm s⟩
  ·rw [l]
   refine λa=>⟨⟨_,_,_,rfl⟩,a,_,_,rfl,?_⟩;exact⟨N,t,b,d,p,rfl,z _ _ l.symm (c _ _ (Nq Y (by omega)))⟩
end
theorem Mq{M:Net}{y x:Str}:Mr M (.tup [.str y,.str x])=if y∈M.ps then Nt.MO ((look M.ts y x).map (0+·)) else .non:=by
 show (if y∈M.ps then Nt.MO (FS M.ts y [x] 0) else .non)=_;unfold FS;cases look M.ts y x <;> rfl
def ZJ(M:Net)(x:Str)(d:D):Bool:=!Oc (Mr M (.tup [d,.str x]))
def Yw(M:Net)(K:Kn)(x:Str)(a:Int):D->Bool
 | .str y=>match K y,look M.ts y x with
  | some b,some l=>b+(0+l)==a
  | _,_=>false
 | _=>false
theorem QI{M:Net}{K:Kn}{x y:Str}{b a:Int}(c:K y=some a):Yw M K x b (.str y)=match look M.ts y x with | some l=>a+(0+l)==b | none=>false:=by
 show (match K y,look M.ts y x with | some a,some l=>a+(0+l)==b | _,_=>false)=_;rw [c];cases look M.ts y x <;> rfl
theorem VP{M:Net}(ok:M.Ok){a x:Str}{K:Kn}(T:LTold M a K){c:Int}(e:K x=some c)(h:x≠a):∃y b l,K y=some b/\look M.ts y x=some l/\b+l=c:=by
 obtain⟨i,j⟩:=T.least x c e;cases i with
 | nil=>exact absurd rfl h
 | @snoc y _ d l w f =>
  have k:=T.all y d w;cases g:K y with
  | none=>exact absurd g k
  | some b =>
   obtain⟨m,n⟩:=T.least y b g;refine⟨y,b,l,g,V7 ok f,?_⟩
   have:=n d w
   have:=j _ (.snoc m f)
   omega
structure OwnI (M:Net) (K:Kn) (acc:List Str) (x:Str):Prop where
 lst:acc.getLast?=some x
 nd:acc.Nodup
 ins:∀u∈acc,u∈M.ps
 far:∀dx,K x=some dx->∀u∈acc,∃du,K u=some du/\dx<=du
theorem OwnI.step{M:Net}{a:Str}{K:Kn}(T:LTold M a K){c:List Str}{x y:Str}(J:OwnI M K c x){d i l:Int}(ex:K x=some d)(f:K y=some i)(p:1<=l)(e:i+l=d):OwnI M K (c++[y]) y:=by
 have m:y∉c:=λh=>by
  obtain⟨j,g,n⟩:=J.far d ex y h;rw [f] at g;cases g;omega
 refine⟨by simp,fL.mpr ⟨J.nd,by simp,λu b v o=>by rw [Tk.mp o]; exact λz=>m (z▸b)⟩,λu b=>?_,λd' k u b=>?_⟩
 ·rcases cu.mp b with b | b
  ·exact J.ins u b
  ·rw [Tk.mp b]; exact T.ins y (by rw [f]; simp)
 ·rw [f] at k
  cases k
  rcases cu.mp b with b | b
  ·obtain⟨j,g,n⟩:=J.far d ex u b
   exact⟨j,g,by omega⟩
  ·rw [Tk.mp b]; exact⟨i,f,Int.le_refl _⟩
theorem LM:∀{b:List Key} {c:List D} {k:Key} {d:D} {i:Nat},b.Nodup->b[i]?=some k->c[i]?=some d->Bv b c k=some d
 | [],_,_,_,_,_,h,_=>by simp at h
 | _::_,[],_,_,_,_,_,h=>by simp at h
 | a::b,e::c,k,d,0,_,f,g=>by
  show (if a=k then some e else Bv b c k)=some d;rw [if_pos (cv f)];exact g
 | a::b,e::c,k,d,i+1,j,f,g=>by
  show (if a=k then some e else Bv b c k)=some d;rw [if_neg λz=>(dM.mp j).1 (by rw [z]; exact dj f)];exact LM (dM.mp j).2 f g
theorem V_{c:List Key}{f:List D}{K:Kn}(M:Dmap c f D.int K):CT f=true:=by
 rw [P0,d9];intro d j;obtain⟨i,g⟩:=List.getElem?_of_mem j;have k:=(cr.mp g).1;have h:i<c.length:=by rw [M.len]; exact k
 obtain⟨x,ex⟩:=M.dom _ (dY h)
 obtain⟨a,l⟩:∃a,d=.int a:=by
  have b:=LM M.nd (by rw [No h,ex]) g;rw [M.at_] at b;cases e:K x with
  | none=>rw [e] at b; cases b
  | some a=>rw [e] at b; exact⟨a,(cv b).symm⟩
 rw [l];rfl
section
variable {ss:List Slot}{n:Nat}{Pd:D->Nat->Prop}
theorem Tw(h:Kp ss n Pd):Ea (EE Pd) n (ss++Uf 3 .no):=by
 obtain⟨M,a,b,rfl,g,ha,hb,l2,p⟩:=h;have a0:=PySem.sizeLine_eq;have a1:=g.2.1;unfold Ea;refine⟨_,AO (j:=1) rfl,M,a,_,M.ts,rfl,rfl,λ_=>Iff.rfl,g,ha,λt F K E T=>⟨t,F,rfl,V_ E,?_⟩⟩;refine⟨z1,?_⟩
 refine⟨λm R I=>R=n/\∃(i:List Str) (x:Str) (U:Slot),I=[.sh (enc M),.sh (.str a),.sh (.str b),.sh (.fdi t F),.ow (.lst (i.map .str)),U]/\OwnI M K i x/\m=((K x).getD 0).toNat,
  ⟨_,rfl,[b],b,_,rfl,⟨rfl,by simp,λu V=>by rw [Tk.mp V]; exact hb,λA e u V=>by rw [Tk.mp V]; exact⟨A,e,Int.le_refl _⟩⟩,rfl⟩,?_⟩
 rintro m R I ⟨rfl,i,x,U,rfl,J,rfl⟩;have P:i.length<=M.ps.length:=Xl J.nd J.ins;have f:=Ms J.lst;have W:x∈M.ps:=J.ins x (List.mem_of_getLast? J.lst);refine⟨1,rfl,.str x,f,?_⟩
 have done:(Au (VY (AR (AU (D_ false) (AU A8 (BE 4) (Eg (wC (D.int 1)))) (AB 1))) (B8 B6 (AF (Rc (BE 4) (Eg (wC (D.int 1)))) AT)) (BN (AF (AB 1) (AF (AB 2) AT))))) (EE Pd) R [.sh (enc M),.sh (.str a),.sh (.str b),.sh (.fdi t F),.ow (.lst (i.map .str)),U]:=by
  refine⟨1,rfl,.str x,f,?_⟩;show if (x==a)=true then _ else _
  cases c:x==a with
  | true =>
   refine Bi ⟨1,rfl,rfl,?_⟩;show Pd (.tup (i.map D.str).reverse) R;rw [← List.map_reverse]
   have L:i.reverse≠[]:=λz=>by
    have:=J.lst
    rw [List.reverse_eq_nil_iff.mp z] at this;cases this
   cases X:i.reverse with
   | nil=>exact absurd X L
   | cons z r=>exact p z r (by rw [← X,gg]; exact P) λy o=>J.ins y (gU.mp (by rw [X]; exact o))
  | false=>exact BQ ⟨z2,p a [b] l2 λy o=>by
    rcases T0.mp o with rfl | o
    ·exact ha
    ·rw [Tk.mp o]; exact hb⟩
 show if (!(x==a))=true then _ else _
 cases c:x==a with
 | true=>exact BQ done
 | false =>
  have ne:x≠a:=λz=>by rw [z,beq_self_eq_true] at c; cases c
  refine Bi ⟨1,rfl,.str x,f,t,F,_,rfl,Cd x,?_⟩;show if (Bv t F (.inr x)).isSome=true then _ else _
  rw [E.at_];cases ex:K x with
  | none=>exact BQ done
  | some A =>
   refine Bi ⟨_,λ_ _ z=>z,?_⟩
   have G:∀d∈t.map XX,∃y v,d=.str y/\K y=some v/\y∈M.ps:=λd N=>by
    obtain⟨k,G,rfl⟩:=Rs.mp N;obtain⟨y,rfl⟩:=E.dom k G;have O:=(E.mem y).mp G;cases q:K y with
    | none=>exact absurd q O
    | some v=>exact⟨y,v,rfl,q,T.ins y O⟩
   have f2:∀{y:Str},y∈M.ps->K9 (.tup [.str y,.str x]):=λo=>Ra g.1 (w:=[_,x]) (show 2<=1000 by decide) λz Y=>by
    rcases T0.mp Y with rfl | Y
    ·exact o
    ·rw [Tk.mp Y]; exact W
   have kl:=E.le λy o=>T.ins y o;refine⟨t,F,rfl,λk G=>?_,by rw [Go]; omega,?_⟩
   ·obtain⟨y,rfl⟩:=E.dom k G
    have:=(g.1.names y (T.ins y ((E.mem y).mp G))).2.1
    show y.length<=sizeLine;omega
   refine Cw (ZJ M x) id (λI=>∃s,I=[.sh (enc M),.br (.lst (i.map .str)),s]) _ _ _ _ ?_ ⟨_,rfl⟩ ?_
   ·rintro d N I m nx sk ⟨s,rfl⟩ O S
    obtain⟨y,v,rfl,q,o⟩:=G d N;refine⟨1,rfl,.str x,f,z2,M,.tup [.str y,.str x],rfl,g.1,by omega,g.2.2,f2 o,rfl,?_⟩;exact B3 (λc=>O _ ⟨_,rfl⟩ c) λc=>S _ ⟨_,rfl⟩ (d7.mpr c)
   rw [cy,g_];refine⟨cx (eM _ _) (by rw [Go]; omega),?_⟩;refine Cw (Yw M K x A) id (λI=>∃s,I=[.sh (.fdi t F),.sh (enc M),.br (.lst (i.map .str)),s]) _ _ _ _ ?_ ⟨_,rfl⟩ ?_
   ·rintro d N I m nx sk ⟨s,rfl⟩ O S
    obtain⟨N,Q⟩:=eU.mp N;obtain⟨y,v,rfl,q,o⟩:=G d N;have Q:(!Oc (Mr M (.tup [.str y,.str x])))=true:=Q
    have H:∃l,look M.ts y x=some l:=by
     rw [Mq,if_pos o] at Q;cases e:look M.ts y x with
     | none=>rw [e] at Q; cases Q
     | some l=>exact⟨l,rfl⟩
    obtain⟨l,H⟩:=H;have e2:Mr M (.tup [.str y,.str x])=.int (0+l):=by rw [Mq,if_pos o,H]; rfl
    refine⟨t,F,_,.int v,rfl,Cd y,by rw [E.at_,q]; rfl,1,rfl,.str x,f,z2,M,.tup [.str y,.str x],rfl,g.1,by omega,g.2.2,f2 o,?_⟩;rw [e2];refine⟨1,rfl,.str x,f,t,F,_,.int A,rfl,Cd x,by rw [E.at_,ex]; rfl,?_⟩;have ec:Yw M K x A (.str y)=(v+(0+l)==A):=by rw [QI q,H]
    rw [ec] at O S;exact B3 (λc=>O _ ⟨_,rfl⟩ c) λc=>S _ ⟨_,rfl⟩ (d7.mpr c)
   rw [cy,g_]
   have L:((t.map XX).filter (ZJ M x)).filter (Yw M K x A)≠[]:=λz=>by
    obtain⟨y,v,l,q,H,e⟩:=VP g.1 T ex ne;have Z:=T.ins y (by rw [q]; simp)
    have hm:D.str y∈((t.map XX).filter (ZJ M x)).filter (Yw M K x A):=by
     refine eU.mpr ⟨eU.mpr ⟨Rs.mpr ⟨.inr y,(E.mem y).mpr (by rw [q]; simp),rfl⟩,?_⟩,?_⟩
     ·unfold ZJ; rw [Mq,if_pos Z,H]; rfl
     ·rw [QI q,H]; show (v+(0+l)==A)=true; rw [beq_iff_eq]; omega
    rw [z] at hm;cases hm
   cases eL:((t.map XX).filter (ZJ M x)).filter (Yw M K x A) with
   | nil=>exact absurd eL L
   | cons z0 r0 =>
    have h0:z0∈((t.map XX).filter (ZJ M x)).filter (Yw M K x A):=by rw [eL]; exact Op
    obtain⟨h0,C⟩:=eU.mp h0;obtain⟨y,v,rfl,q,o⟩:=G z0 (eU.mp h0).1
    obtain⟨l,H,e⟩:∃l,look M.ts y x=some l/\v+(0+l)=A:=by
     rw [QI q] at C;cases e:look M.ts y x with
     | none=>rw [e] at C; cases C
     | some l=>rw [e] at C; exact⟨l,rfl,eq_of_beq C⟩
    have l1:=(Jw g.1 H).2.1;have a2:0<=v:=(T.least y v q).1.pos g.1;refine⟨_,rfl,rfl,_,AO (j:=0) rfl,_,_,rfl,rfl,by rw [Go]; omega,?_⟩;refine⟨_,?_,rfl,i++[y],y,.sh (.lst (.str y::r0)),?_,J.step T ex q l1 (by omega),rfl⟩
    ·rw [q]
     show v.toNat<A.toNat
     omega
    ·rw [df]
     rfl
end
def gW(d:D):Prop:=fine 1000001 d/\szD d<=6765/\Cr d<=2
theorem F9{a:List D}(h:∀i∈a,item i)(g:a.length<=15):gW (.tup a)/\gW (.lst a):=by
 have j:=GK (k:=451) λd b=>fw (h d b).2.1;have l:C9 a<=1:=dps_le.mpr λd b=>(h d b).2.2;have c:EU 1000001 a:=fines_iff.mpr λd b=>(h d b).1;have e:B7 a<=6765:=by omega
 have f:C9 a+1<=2:=by omega
 exact⟨⟨c,e,f⟩,c,e,f⟩
theorem isWy.szD{d:D}(h:isWy d):fine 1000001 d/\Nt.szD d+1<=3158/\Cr d<=2:=by
 obtain⟨b,rfl,a,e,f⟩:=h;have g:=(F9 a (by omega)).1;have i:=GK (k:=451) λd c=>fw (a d c).2.1;exact⟨g.1,by show B7 b+1<=3158; omega,g.2.2⟩
theorem N9{a:List D}(c:a.length<=12)(h:∀d∈a,isWy d):EU 1000001 a/\B7 a<=37896/\C9 a<=2:=by
 have e:=GK (k:=3158) λd b=>(h d b).szD.2.1;exact⟨fines_iff.mpr λd b=>(h d b).szD.1,by omega,dps_le.mpr λd b=>(h d b).szD.2.2⟩
section
variable {ss:List Slot}{n:Nat}{Pd:D->Nat->Prop}
theorem Vj(h:RQ ss n Pd):C_ (EE Pd) n (ss++Uf 5 .no):=by
 obtain⟨N,xs,rfl,ok,l1,l7,L,A,hn,p⟩:=h;have a4:=PySem.sizeLine_eq;obtain⟨Y,f2,f3⟩:=N9 L A;have H:(N.ps.map D.str).length=N.ps.length:=Go ..;have t:∀m:Nat,n - 1<=m->Kq [.fd,.sh (.tup xs),.sh (.int 3)] m Pd:=λm Z=>⟨.tup xs,2000000,3,rfl,by decide,(show fine 1000001 (.tup xs) from Y).mono (by decide),by decide,by decide,by show B7 xs<=80000; omega,by omega,λe n' e1 e2 e3 e4=>p e n' e1 (by have e2:szD e<=2*B7 xs+250:=e2; omega) (by have e3:Cr e<=C9 xs+1+1:=e3; omega) (by omega)⟩;unfold C_;refine⟨z0,CI (B:=1000001) (by decide) Y (by show C9 xs+1<=100; omega),CI (B:=0) (d:=.tup []) (by decide) trivial (by decide),?_⟩;cases xs with
 | nil=>exact t n (by omega)
 | cons x0 r0 =>
  refine B3 (λ_=>t n (by omega)) λ_=>?_;generalize eX:x0::r0=xs at *;have xl:1<=xs.length:=by rw [← eX,ZB]; omega
  refine⟨4,rfl,by decide,by decide,by omega,λr r0 r1=>?_⟩;refine B3 (λ_=>t (n - 1) (by omega)) λ_=>?_;refine⟨_,_,rfl,rfl,(xs.length:Int),rfl,by omega,by omega,by omega,λa a0 a1=>?_⟩;obtain⟨a,rfl⟩:∃k:Nat,a=(k:Int):=⟨a.toNat,by omega⟩;have M:a<xs.length:=by omega
  have C:xs[a]∈xs:=dY M;refine⟨xs[a],AO (No M),?_⟩;obtain⟨g,E,q,i1,i7⟩:=A _ C;have w0:=(A _ C).szD;rw [E]
  have F:∀(xs:List D) I q,(Dp.cutD xs I q).length<=xs.length:=λxs I q=>by
   unfold Dp.cutD;rw [eg,fu];omega
  have c1:=F g none (some 2);have c2:=F g (some (-2)) none;have c3:=F g none (some (-1));have c4:=F g (some 1) none;have c5:=F g none (some 1);have G:∀I q,∀d∈Dp.cutD g I q,item d:=λI a5 d l=>q d (BY l);have x:∀{xs w:List D},(∀d∈xs,item d)->(∀d∈w,item d)->∀d∈xs++w,item d:=λA i d l=>(cu.mp l).elim (A d) (i d);obtain⟨u0,J⟩:∃u,g[0]?=some u:=⟨_,No (by omega)⟩
  obtain⟨v0,O,P⟩:∃v,atI g (-1)=some v/\item v:=by
   refine⟨g[g.length - 1],?_,q _ (dY _)⟩;unfold atI S0;rw [if_neg (by decide),if_pos (by omega)];show g[((g.length:Int)+-1).toNat]?=_;rw [show ((g.length:Int)+-1).toNat=g.length - 1 by omega,No]
  refine⟨1,rfl,rfl,by omega,2,rfl,by omega,1,rfl,_,AO (j:=0) J,1,rfl,v0,O,z2,z0,(by decide:9<=sizeLine),?_⟩;refine⟨_,_,rfl,rfl,(xs.length:Int),rfl,by omega,by omega,by omega,λb b0 b1=>?_⟩;obtain⟨zb,R,S⟩:=Fh (p:=isWy) A b0 b1;refine⟨zb,R,.tup (N.ps.map .str),AO (j:=0) rfl,.tup (N.ps.map .str),AO (j:=0) rfl,_,_,rfl,rfl,(N.ps.length:Int),by rw [H],by omega,by omega,by omega,λc c0 cc=>?_⟩;obtain⟨T,U,ic⟩:=Fh (p:=item) (xs:=N.ps.map D.str) (o:=c) (Q0 ok) c0 (by rw [H]; exact cc);have a1:(Dp.cutD g none (some 1)++[T]).length=(Dp.cutD g none (some 1)).length+1:=XV;refine⟨T,U,z1,by show _+1<=sizeLine; omega,by omega,z2,(by decide:9+2<=sizeLine),?_⟩;refine⟨_,_,rfl,rfl,11,rfl,by decide,by decide,by omega,λo o0 o1=>?_⟩
  have hW:∀d∈([.tup g.reverse,.tup (Dp.cutD g none (some 2)++g),.tup (g++Dp.cutD g (some (-2)) none),.tup (Dp.cutD g none (some (-1))),.tup (Dp.cutD g (some 1) none),.lst g,.tup [u0,v0],.non,.tup []]++[zb,.tup (Dp.cutD g none (some 1)++[T]++Dp.cutD g (some 1) none)]:List D),gW d:=by
   intro d l;simp only [T0,f7,cy,c6,or_false] at l
   rcases l with rfl | rfl | rfl | rfl | rfl | rfl | rfl | rfl | rfl | rfl | rfl
   ·exact(F9 (λd l=>q d (gU.mp l)) (by rw [gg]; omega)).1
   ·exact(F9 (x (G _ _) q) (by rw [XV]; omega)).1
   ·exact(F9 (x q (G _ _)) (by rw [XV]; omega)).1
   ·exact(F9 (G _ _) (by omega)).1
   ·exact(F9 (G _ _) (by omega)).1
   ·exact(F9 q (by omega)).2
   ·exact(F9 (λd l=>by
     rcases T0.mp l with rfl | l
     ·exact q _ (dj J)
     ·rw [Tk.mp l]; exact P) (by show 2<=15; decide)).1
   ·exact⟨trivial,TM _,TM _⟩
   ·exact(F9 (λ_ h=>by cases h) (TM _)).1
   ·exact⟨S.szD.1,by have:=S.szD.2.1; omega,S.szD.2.2⟩
   ·exact(F9 (x (x (G _ _) λd l=>by rw [Tk.mp l]; exact ic) (G _ _)) (by rw [XV]; omega)).1
  obtain⟨K,V,W⟩:=Fh (p:=gW) hW o0 o1;refine⟨K,V,?_⟩;have m1:=F xs none (some (a:Int));have m2:=F xs (some ((a:Int)+1)) none;have a2:(Dp.cutD xs none (some (a:Int))++[K]).length=(Dp.cutD xs none (some (a:Int))).length+1:=XV;refine⟨z1,by show _+1<=sizeLine; omega,by omega,by omega,z1,by show _+1<=sizeLine; omega,1,rfl,rfl,(by decide:4<=sizeLine),(by decide:7<=sizeLine),7,rfl,by decide,by decide,by omega,λs s0 s1=>?_⟩;obtain⟨zs,X,es⟩:=Fh (p:=λd=>d=.int 0\/d=.int 1\/d=.int 2\/d=.int 3) (xs:=[.int 0,.int 0,.int 0,.int 0,.int 1,.int 2,.int 3]) (by simp) s0 s1;refine⟨zs,X,?_⟩
  have z:∀(w:List D) (m:Nat),(∀y∈w,y∈xs\/y=K)->B7 w<=77000->n - 14<=m->Pd (.tup w) m:=λw m i hs Z=>by
   have f:∀y∈w,fine 1000001 y/\Cr y<=2:=λy h=>(i y h).elim (λh=>⟨(A y h).szD.1,(A y h).szD.2.2⟩) λh=>by rw [h]; exact⟨W.1,W.2.2⟩
   have d1:C9 w<=2:=dps_le.mpr λy h=>(f y h).2;exact p _ m ((FV λy h=>(f y h).1).mono (by decide)) hs (by show C9 w+1<=10; omega) Z
  have a3:=Pl M K;have q1:=B5 xs none (some (a:Int));have q2:=B5 xs (some ((a:Int)+1)) none;have g2:=W.2.1
  rcases es with rfl | rfl | rfl | rfl
  ·refine⟨_,AO (j:=0) rfl,z _ _ (λy i=>?_) (by omega) (by omega)⟩
   rcases cu.mp i with i | i
   ·rcases cu.mp i with i | i
    ·exact .inl (BY i)
    ·exact .inr (Tk.mp i)
   ·exact .inl (BY i)
  ·exact⟨_,AO (j:=1) rfl,z _ _ (λy i=>.inl ((cu.mp i).elim BY BY)) (by rw [Bl]; omega) (by omega)⟩
  ·refine⟨_,AO (j:=2) rfl,z _ _ (λy i=>.inl ((cu.mp i).elim id λi=>?_)) ?_ (by omega)⟩
   ·rw [Tk.mp i,← E]; exact C
   ·rw [Bl,← E]
    show B7 xs+(szD xs[a]+1+0)<=77000
    have:=w0.2.1
    omega
  ·exact⟨_,AO (j:=3) rfl,z _ _ (λy i=>.inl (gU.mp i)) (by rw [Io]; omega) (by omega)⟩
end
theorem Pg:Ly { nx:=λ_ _=>False,rt:=λd _=>d=.bl true } 3000 (.no::.fd::Uf 9 .no):=by
 have a7:=PySem.sizeLine_eq;unfold Ly;refine⟨7,12,rfl,by decide,by decide,by decide,λN n0 ok l1 l7 a0 a8=>?_⟩;have n:okN N:=⟨ok,by omega,by omega⟩;have L:=PU n;refine⟨rfl,by omega,λt b a1 b0 bt tt a6=>?_⟩;have I:ZT t b:=⟨b0,by omega,by omega,tt⟩;have z:N.ps.length<=24:=by omega
 have ask:∀(d p:D),fine (10 ^ 30) d->szD d<=100000->Cr d<=40->fine (10 ^ 30) p->szD p<=160000->Cr p<=40->szD d+szD p<=210000->Yy d/\K9 p/\szD (enc N)+szD d+szD p<=260000 :=
  λd p d1 d2 d3 U V p3 s=>⟨⟨d1.mono (by decide),by omega,by omega⟩,⟨U,V,by omega⟩,by have:=L.2.1; omega⟩
 refine⟨_,rfl,⟨by decide,by decide⟩,?_⟩;refine Hf (λk m q=>300*k<=m/\∃W X Y Z C E l,q=[.no,.fd,.sh (enc N),.sh (.tup [.int t,.int b]),W,X,Y,Z,C,E,l]) ?_ ?_ _ _ _ ⟨by rw [By]; show 300*3<=a1; omega,_,_,_,_,_,_,_,rfl⟩
 ·rintro m q ⟨hm,W,X,Y,Z,C,E,l,rfl⟩
  refine⟨z0,z0,z0,z1,z1,(by decide:8<=sizeLine),?_⟩;refine LX (λk m q=>∃l,q=[.no,.fd,.sh (enc N),.sh (.tup [.int t,.int b]),W,X,Y,Z,C,E,l]) ?_ _ _ _ ?_ ⟨_,rfl⟩
  ·rintro m q ⟨l,rfl⟩
   rfl
  ·rintro k d m q nx A ⟨l,rfl⟩ G
   have hf:fine (10 ^ 30) d/\szD d<=48000/\Cr d<=3:=by
    simp only [T0,c6,or_false] at A
    rcases A with rfl | rfl | rfl | rfl | rfl | rfl | rfl | rfl
    ·exact⟨trivial,by decide,by decide⟩
    ·exact⟨trivial,by decide,by decide⟩
    ·exact⟨trivial,by decide,by decide⟩
    ·exact⟨trivial,by decide,by decide⟩
    ·exact⟨TM _,by decide,by decide⟩
    ·exact⟨⟨trivial,trivial⟩,by decide,by decide⟩
    ·exact⟨⟨trivial,trivial⟩,by decide,by decide⟩
    ·exact⟨L.1.mono (by decide),L.2.1,L.2.2⟩
   refine⟨z0,?_⟩;have a:=ask d (.tup []) hf.1 (by omega) (by omega) trivial (TM _) (by decide) (by have:szD (.tup [])=0:=rfl; omega);refine⟨N,t,b,_,_,rfl,n,z,I,a.1,a.2.1,a.2.2,?_⟩;refine BQ ?_;have a:=ask (enc N) d (L.1.mono (by decide)) (by omega) (by omega) hf.1 (by omega) (by omega) (by omega);refine⟨N,t,b,_,_,rfl,n,z,I,a.1,a.2.1,a.2.2,?_⟩;exact BQ (G _ _ ⟨_,rfl⟩)
 rintro k d m q nx ⟨hm,W,X,Y,Z,C,E,l,rfl⟩ G;refine⟨N,t,b,rfl,n,I,by omega,λB J ht a9=>?_⟩;have M:=ht.okN n;have F:=PU M;refine⟨_,AO (j:=1) rfl,by show (N.ts.map Aa).length<=10000000; rw [Go]; omega,?_⟩;refine Cw (λd=>!((B.map Aa).any λy=>GA y d)) id (λq=>∃s,q=[.sh (enc ⟨N.ps,B⟩),s]) _ _ _ _ ?_ ⟨_,rfl⟩ ?_
 ·rintro d A q m nx sk ⟨s,rfl⟩ O h2
  obtain⟨t,a2,rfl⟩:=Rs.mp A;refine⟨_,AO (j:=1) rfl,Iz n.1 a2,(EQ n.1 ht.1).1,_,rfl,?_⟩;exact B3 (λc=>O _ ⟨_,rfl⟩ c) λc=>h2 _ ⟨_,rfl⟩ (d7.mpr c)
 rw [cy,g_,OV];refine⟨_,OW N B,rfl,rfl,fD (eM _ _) (by omega),λH U V=>?_⟩;have b1:H.length<=12:=by rw [U.length_eq]; exact cx (eM _ _) a0
 refine⟨by show (H.map Aa).length<=10000000; rw [Go]; omega,?_⟩
 have go:∀(P:List D->Nat->Prop),(∀w:List D,w.length=H.length->(∀d∈w,isWy d)->P w J)->∀(g:List BP) (o:List D) (s:Slot),(∀u∈g,u∈N.ts)->(∀d∈o,isWy d)->o.length+g.length=H.length ->
   Ci (Af 1) CW (AZ Kp (AE (AI (AB 0)) (AE (AI (AU A8 (AB 1) (wC (D.int 0)))) (AE (AI (AU A8 (AB 1) (wC (D.int 1)))) AY)))) P (g.map Aa) o J [.sh (enc ⟨N.ps,B⟩),s]:=by
  intro P hP g
  induction g with
  | nil=>intro o s _ ha hl; exact hP o hl ha
  | cons u g ih =>
   intro o s hu ha hl;obtain⟨Q,R,lt,_⟩:=n.1.tin u (hu u Op)
   have V:2<=N.ps.length:=by
    match hps:N.ps with
    | []=>rw [hps] at Q; cases Q
    | [x] =>
     rw [hps] at Q R;rw [Tk.mp Q,Tk.mp R] at lt;exact absurd lt (by simp)
    | x::y::r=>exact Nat.le_add_left 2 _
   refine⟨_,AO (j:=0) rfl,_,AO (j:=1) rfl,⟨N.ps,B⟩,u.a,u.b,rfl,M,Q,R,V,λx r hr a3=>?_⟩;refine ih _ _ (λv hv=>hu v (Re _ hv)) (λd A=>?_) (by rw [XV]; rw [ZB] at hl; show o.length+1+g.length=_; omega)
   rcases cu.mp A with A | A
   ·exact ha d A
   ·rw [Tk.mp A]
    have hr:(x::r).length<=N.ps.length:=hr;refine⟨_,rfl,λi hi=>?_,by rw [Go,ZB]; omega,by rw [Go]; omega⟩;obtain⟨y,hy,rfl⟩:=Rs.mp hi;exact Cp (ok.names y (a3 y hy))
 refine go _ (λw xl hx=>?_) H [] _ (λu hu=>(eU.mp (U.mem_iff.mp hu)).1) (λ_ h=>by cases h) (Nat.zero_add _);obtain⟨f1,f2,f3⟩:=N9 (by omega) hx;have f1:fine (10 ^ 30) (.tup w):=(show fine 1000001 (.tup w) from f1).mono (by decide);have f2:szD (.tup w)<=37896:=f2;have f3:Cr (.tup w)<=3:=by show C9 w+1<=3; omega
 have a:=ask (enc ⟨N.ps,B⟩) (.tup w) (F.1.mono (by decide)) (by have:=F.2.1; omega) (by have:=F.2.2; omega) f1 (by omega) (by omega) (by have:=F.2.1; omega);refine⟨N,t,b,_,_,rfl,n,z,I,a.1,a.2.1,a.2.2,?_⟩;refine BQ ?_;refine⟨_,rfl,⟨by decide,by decide⟩,?_⟩;refine Hf (λk m q=>J - 200+40*k<=m/\∃C E l,q=[.no,.fd,.sh (enc N),.sh (.tup [.int t,.int b]),.sh d,.sh (enc ⟨N.ps,B⟩),.sh (.lst (H.map Aa)),.sh (.tup w),C,E,l]) ?_ ?_ _ _ _ ⟨by rw [By]; show J - 200+40*4<=J; omega,_,_,_,rfl⟩
 ·rintro R q ⟨a4,C,E,l,rfl⟩
  exact G _ _ ⟨by omega,_,_,_,_,_,_,_,rfl⟩
 rintro k2 d2 R q S ⟨a4,C,E,l,rfl⟩ T;refine⟨N,w,rfl,ok,l1,l7,by omega,hx,by omega,λe n2 e1 e2 e3 b2=>?_⟩
 have g:∀(K:D) (m':Nat),fine (10 ^ 30) K->szD K<=154250->Cr K<=11->J - 200+40*k2+12<=m' ->
   (Ac (BG (Be (AR (AZ EH (AE (AI (AB 2)) (AE (AI (AB 3)) (AE (AI (AB 5)) (AE (AI (AB 9)) AY))))))) (Au (wC (D.bl false))) Av)
 (BG (Be (AR (AZ EH (AE (AI (AB 2)) (AE (AI (AB 3)) (AE (AI (AZ Kq (AE (Aw 1) (AE (AI (AB 5)) (AE (AI (wC (D.int 4))) AY))))) (AE (AI (AB 7)) AY))))))) (Au (wC (D.bl false))) Av)) { nx:=S,rt:=λd _=>d=.bl true,ct:=S,bk:=nx } m' [.no,.fd,.sh (enc N),.sh (.tup [.int t,.int b]),.sh d,.sh (enc ⟨N.ps,B⟩),.sh (.lst (H.map Aa)),.sh (.tup w),.sh d2,.sh K,l]:=by
  intro K m' g1 g2 g3 b3;have t1:=F.2.1;have t2:=F.2.2;have a:=ask (enc ⟨N.ps,B⟩) K (F.1.mono (by decide)) (by omega) (by omega) g1 (by omega) (by omega) (by omega);refine⟨N,t,b,_,_,rfl,n,z,I,a.1,a.2.1,a.2.2,?_⟩;refine BQ ?_;refine⟨enc ⟨N.ps,B⟩,2000000,4,rfl,by decide,F.1.mono (by decide),by decide,by decide,by omega,by omega,λf n3 O h2 h3 a5=>?_⟩;have a:=ask f (.tup w) (O.mono (by decide)) (by omega) (by omega) f1 (by omega) (by omega) (by omega);refine⟨N,t,b,_,_,rfl,n,z,I,a.1,a.2.1,a.2.2,?_⟩;exact BQ (T _ _ ⟨by omega,_,_,_,rfl⟩)
 refine⟨4,rfl,by decide,by decide,by omega,λr r0 r1=>?_⟩;refine B3 (λ_=>?_) λ_=>?_
 ·exact⟨e,2000001,3,rfl,by decide,e1,by decide,by decide,by omega,by omega,λf n3 O h2 h3 a5=>g f n3 (O.mono (by decide)) (by omega) (by omega) (by omega)⟩
 ·exact g e (n2 - 1) (e1.mono (by decide)) (by omega) (by omega) (by omega)
end Nt
namespace K14
open L2 Dp Nt
section
variable (P:Program)(w:World)(K:Frag)(mg:Str->Option Value)(base:Heap)
abbrev Kl:Prop:=Got P w K mg base "is_whole" 1 ["thing"] .sh NS
abbrev ED:Prop:=Got P w K mg base "is_tuple_of" 1 ["count","thing"] .sh Fq
abbrev IQ:Prop:=Got P w K mg base "is_rising" 1 ["things"] .sh DB
abbrev L1:Prop:=Got P w K mg base "rank_of" 1 ["tie"] .sh RP
abbrev Kj:Prop:=Got P w K mg base "order_of" 4 ["ties"] .fr Dg
abbrev Ki:Prop:=Got P w K mg base "steps_of" 1 ["net"] .sh QQ
abbrev IP:Prop:=Got P w K mg base "is_tie_of" 2 ["net","thing"] .sh Wi
abbrev L3:Prop:=Got P w K mg base "is_thin" 3 ["net","thing"] .sh IS
abbrev Kk:Prop:=Got P w K mg base "left_out" 5 ["net","thin"] .fr PF
abbrev IM:Prop:=Got P w K mg base "length_of" 2 ["net","thing"] .sh LG
abbrev Ec:Prop:=Got P w K mg base "length_between" 3 ["net","a","b","thing"] .sh RT
abbrev IN:Prop:=Got P w K mg base "is_within" 1 ["length","times","number"] .sh JF
abbrev IK:Prop:=Got P w K mg base "way_fault" 4 ["net","times","tie","thing"] .sh PD
abbrev IL:Prop:=ZA P w K mg base "lets_ways" 6 ["net","times","thin","paper"] .sh JI
abbrev Bc:Prop:=Got P w K mg base "_law_next" 1 ["_law_feed_here","_law_many"] .sh BA
abbrev HC:Prop:=Got P w K mg base "_law_whole" 1 ["_law_thing","_law_least_here","_law_most"] .sh JH
abbrev GG:Prop:=Got P w K mg base "_law_places" 2 ["_law_feed_here","_law_many"] .fr JG
abbrev GH:Prop:=Got P w K mg base "_law_length" 2 ["_law_feed_here","_law_scale"] .sh Wl
abbrev Ko:Prop:=Got P w K mg base "_law_net" 3 ["_law_feed_here","_law_most","_law_ties"] .sh Wj
abbrev HD:Prop:=Got P w K mg base "_law_times" 2 ["_law_feed_here"] .sh NT
abbrev CQ:Prop:=Got P w K mg base "_law_in_order" 1 ["_law_ties"] .fr Dg
abbrev Et:Prop:=Got P w K mg base "_law_least" 1 ["_law_ties","_law_place"] .fr Dh
abbrev Fk:Prop:=Got P w K mg base "_law_thinned" 2 ["_law_net_here","_law_times_here"] .sh HF
abbrev Km:Prop:=Got P w K mg base "_law_odd" 2 ["_law_feed_here","_law_thing"] .sh VT
abbrev Fp:Prop:=Got P w K mg base "_law_bent" 7 ["_law_feed_here","_law_thing","_law_deep"] .sh (Hq 4)
abbrev Df:Prop:=Got P w K mg base "_law_is_name" 1 ["_law_thing"] .sh L4
abbrev GI:Prop:=Got P w K mg base "_law_is_tie" 2 ["_law_places_here","_law_thing"] .sh RS
abbrev IR:Prop:=Got P w K mg base "_law_rise" 1 ["_law_things"] .sh DB
abbrev GJ:Prop:=Got P w K mg base "_law_is_net" 3 ["_law_thing"] .sh RR
abbrev Fo:Prop:=Got P w K mg base "_law_is_thin" 4 ["_law_net_here","_law_thing"] .sh IS
abbrev EG:Prop:=Got P w K mg base "_law_walked" 1 ["_law_net_here","_law_way"] .sh LG
abbrev E4:Prop:=Got P w K mg base "_law_ways_due" 5 ["_law_net_here","_law_times_here","_law_thin","_law_paper"] .sh NW
abbrev Ee:Prop:=Got P w K mg base "_law_some_thin" 3 ["_law_feed_here","_law_net_here","_law_times_here"] .sh NU
abbrev Fl:Prop:=ZC P w K mg base "_law_refusal" 1 ["_law_e"] .sh NV
abbrev Fn:Prop:=Got P w K mg base "_law_own_way" 2 ["_law_thin","_law_one","_law_other"] .sh Kp
abbrev HE:Prop:=Got P w K mg base "_law_asked" 7 ["_law_net_here","_law_times_here","_law_thin","_law_paper"] .sh EH
abbrev Dw:Prop:=Got P w K mg base "_law_paper_bent" 8 ["_law_feed_here","_law_net_here","_law_paper"] .sh RQ
end
section
variable {P:Program}{w:World}{K:Frag}{mg:Str->Option Value}{base:Heap}
variable {f:Addr}{fd:FuncData}
theorem IW:Ai ["self","word","number"] ["self","word","number"] (AH B_):=by constructor <;> first | rfl | decide +kernel
theorem Ih{f C U:Ch}{fd:dU}(c:XC K "NoPaper" C U)(F:Fun K "__init__" "NoPaper.__init__" B_ f fd):BD P w K mg base CL 1 f fd ["self","word","number"] (HN C "word" "number"):=by
 refine F.ok IW (λj H Q E h=>by obtain⟨a,b,g,rfl,_⟩:=h; rfl) (λk A i s H j Q E o h=>?_);obtain⟨a,b,g,rfl,l,m⟩:=h;refine⟨_,BL (XA c c.nw (pv 0) (pv 1) rfl) (Cb (W_ c c.nn (pv 0) (pv 2) rfl)),?_⟩;refine⟨b,rfl,V.ref a,rfl,a,rfl,l,λd n e=>⟨g,rfl,V.ref a,rfl,a,d,[(("word":Str),b)],rfl,AX,?_,(by decide:1<1000),?_⟩⟩
 ·rw [AQ e,AX]
 ·rw [show EM "number" g [(("word":Str),b)]=[(("word":Str),b),(("number":Str),g)] from by unfold EM; rw [if_neg (by decide)]; rfl]
  exact m d n e
theorem Ja:Ai ["self","row","word"] ["self","row","word"] (AH CM):=by constructor <;> first | rfl | decide +kernel
theorem Js{f C U:Ch}{fd:dU}(c:XC K "NoLine" C U)(F:Fun K "__init__" "NoLine.__init__" CM f fd):BD P w K mg base CL 1 f fd ["self","row","word"] (HN C "row" "word"):=by
 refine F.ok Ja (λj H Q E h=>by obtain⟨a,b,g,rfl,_⟩:=h; rfl) (λk A i s H j Q E o h=>?_);obtain⟨a,b,g,rfl,l,m⟩:=h;refine⟨_,BL (XA c c.nr (pv 0) (pv 1) rfl) (Cb (W_ c c.nw (pv 0) (pv 2) rfl)),?_⟩;refine⟨b,rfl,V.ref a,rfl,a,rfl,l,λd n e=>⟨g,rfl,V.ref a,rfl,a,d,[(("row":Str),b)],rfl,AX,?_,(by decide:1<1000),?_⟩⟩
 ·rw [AQ e,AX]
 ·rw [show EM "word" g [(("row":Str),b)]=[(("row":Str),b),(("word":Str),g)] from by unfold EM; rw [if_neg (by decide)]; rfl]
  exact m d n e
theorem Nw:Ai ["thing"] ["thing"] (AH GQ):=by walk_at "s"
theorem OD(T:Txt K mg)(F:Fu K "is_whole" GQ f fd):BD P w K mg base CL 1 f fd ["thing"] (Di K .sh NS 1) :=
 F_ F Nw (λa=>(AJ (Ab (EB (Bx Mu (dv 0) rfl T.Gaa rfl T.Gal (by decide +kernel)) (Gd (VA (Bx OY (dv 0) rfl T.Gaa rfl T.Gam (by decide +kernel)))))))) N0
theorem JW:Ai ["count","thing"] ["count","thing"] (AH Dx):=by walk_at "s"
theorem Jm(T:Txt K mg)(F:Fu K "is_tuple_of" Dx f fd):BD P w K mg base CL 1 f fd ["count","thing"] (Di K .sh Fq 2) :=
 F_ F JW (λa=>(AJ (Ab (EB (Bx kit_tuple (dv 1) rfl T.Gaa rfl T.Gab (by decide +kernel)) (Gd (CF CB De (Ae As Bu rfl T.Gac PySem.boot_len (AM (dv 1) AV)) (dv 0) (Ag _))))))) Jg
theorem MJ:Ai ["things"] ["things"] (AH FJ):=by walk_at "s"
theorem Mi(T:Txt K mg)(F:Fu K "is_rising" FJ f fd):BD P w K mg base CL 1 f fd ["things"] (Di K .sh DB 1) :=
 F_ F MJ (λa=>(AJ (Ab (Ae (G_ rfl) RN rfl T.Gai gQ (AM (Ks [("ahead":Str),("behind":Str)] [none,none] (WS rfl T.Gan (AM (dv 0) (AM (Bq Cf Br (dv 0) (Ax AD) BC) AV))) (FZ rfl (BM (Ah (i:=0) (show dQ [("ahead":Str),("behind":Str)] by decide +kernel) rfl (TW rfl)) (BM (Ah (i:=1) (show dQ [("ahead":Str),("behind":Str)] by decide +kernel) rfl (TW rfl)) Du))) Bh (CF (D6 a) GF (dv 0) (dv 1) (Ag _)) (by kernel_rfl)) AV))))) MU
theorem Pb:Ai ["tie"] ["tie"] (AH HR):=by walk_at "s"
theorem Px(T:Txt K mg)(F:Fu K "rank_of" HR f fd):BD P w K mg base CL 1 f fd ["tie"] (Di K .sh RP 1) :=
 F_ F Pb (λa=>(AJ (Ab (Ar (AC (AW AL Ao (dv 0) AD) (AC (AW AL Ao (dv 0) AD) (AC (AW AL Ao (dv 0) AD) AS))))))) Pf
theorem Nu:Ai ["ties"] ["ties"] (AH GO):=by walk_at "s"
theorem OB(T:Txt K mg)(a:L1 P w K mg base)(F:Fu K "order_of" GO f fd):BD P w K mg base CL 4 f fd ["ties"] (Di K .fr Dg 1) :=
 F_ F Nu (λb=>(AJ (Ab (U_ a (b.mono (by decide)) rfl T.Gag rfl (dv 0))))) Nx
theorem j3:Ai ["net","steps","place","a","b","length"] ["net"] (AH GN):=⟨rfl,rfl,rfl,by decide +kernel,rfl,by decide +kernel,by decide +kernel⟩
theorem OA{f:Ch}{fd:dU}(F:Fun K "steps_of" "steps_of" GN f fd):BD P w K mg base CL 1 f fd ["net"] (Di K .sh QQ 1):=by
 refine F.ok (k:=0) j3 (λvs H Q E h=>h.1) (λc4 A b2 s H vs Q E hr h=>?_);obtain⟨hl,F0,U,V',M,n,ss,Pd,ra,⟨N,rfl,ok,lp,lt,p⟩,q⟩:=h;obtain⟨b3,fU,uV,vM,b4,pa⟩:=ra;cases pa with
 | cons r1 pa =>
 cases pa;obtain⟨v,e1,h1⟩:=r1.1;cases e1;obtain⟨an,vs,rfl,hn,v1,r,rfl,hp,v2,r2,rfl,ht,e2⟩:=h1;cases (show r2=[] from e2);obtain⟨ap,us,rfl,b5,a4⟩:=hp;obtain⟨a1,ws,rfl,b6,a5⟩:=ht;have nd:=j3.nd;have hu:=J9 hr;have c5:=PySem.sizeLine_eq;have a6:us.length=N.ps.length:=by rw [a4.length,Go]
 have a7:ws.length=N.ts.length:=by rw [a5.length,Go]
 refine⟨_,BL (FO (i:=1) nd rfl (TW rfl) N7)
  (BL (Jh dZ rfl (UJ (Eu ix_tup (pv 0) A_ (λ_ _=>rfl))) (Gx (i:=2) nd rfl (TW rfl)) (Cb (Ir hu (pv 1) (pv 2) N7 rfl)))
  (BL (Jh dZ rfl (UJ (Eu ix_tup (pv 0) A_ (λ_ _=>rfl))) (UK rfl (Gw (Gx (i:=3) nd rfl (TW rfl)) (Gw (Gx (i:=4) nd rfl (TW rfl)) (Gw (Gx (i:=5) nd rfl (TW rfl)) Qp))))
   (BL (Ir hu (MY hu (pv 1) (pv 3) (λ_ _=>rfl)) (pv 4) (pv 5) rfl) (Cb (Ir hu (MY hu (pv 1) (pv 4) (λ_ _=>rfl)) (pv 3) (pv 5) rfl))))
  (Cb (GV (UO (pv 1)))))),?_⟩
 refine λd hd=>?_;have B:∀b o,H b=some o->A4 H d (.dK []) b=some o:=λb o e=>by rw [AQ (A0 e hd)]; exact e
 have a8:∀c:Hp,(∀b o,H b=some o->c b=some o)->SqT K c an [.ref ap,.ref a1]:=λc o=>SqT.of (o _ _ hn);have a9:∀c:Hp,(∀b o,H b=some o->c b=some o)->SqT K c ap us:=λc o=>SqT.of (o _ _ b5);have b0:∀c:Hp,(∀b o,H b=some o->c b=some o)->SqT K c a1 ws:=λc o=>SqT.of (o _ _ b6);refine⟨_,rfl,an,_,0,_,rfl,rfl,a8 _ B,rfl,ap,rfl,⟨_,a9 _ B⟩,?_⟩;refine Q2 (xs:=us) (λi I c=>∃(u:List (Str×Ch)) (J L O R:Option V),I=[some (.ref an),some (.ref d),J,L,O,R]/\u.map (·.1)=N.ps.take i/\Stp H d u (λ_=>[]) c) ?_ (λi I c S ⟨u,J,L,O,R,e,G,j⟩=>a9 _ j.old) ?_ ?_
 ·exact⟨[],_,_,_,_,rfl,rfl,B,hd,AX,(λx C=>by cases C),e6,e6⟩
 ·rintro i x I c C ⟨u,J,L,O,R,rfl,G,j⟩
  have S:i<N.ps.length:=by rw [← a6]; exact(cr.mp C).1
  obtain⟨x',D,T⟩:=a4.get (i:=i) (d:=.str N.ps[i]) (by rw [dR,No S]; rfl);rw [C] at D;cases D;obtain⟨rfl,_⟩:=T;intro q hq;have c6:u.length<=i:=by have:=congrArg fo G; rw [Go,eg] at this; omega
  have nq:d≠q:=λe=>by rw [← e,j.top] at hq; cases hq
  have c3:(u.map λx=>((.inr x.1:Key),V.ref x.2)).length=u.length:=Go ..;refine⟨_,rfl,_,rfl,d,_,rfl,DPut.k (k:=.inr N.ps[i]) (by rw [AQ nq]; exact j.top) (by omega),?_⟩;refine⟨u++[(N.ps[i],q)],_,_,_,_,rfl,?_,j.more hq ?_ rfl⟩
  ·rw [df,G,List.take_succ,No S]; rfl
  ·rw [G]; exact Pz (MM ok.rise) S
 ·rintro I c ⟨u,J,L,O,R,rfl,G,j⟩
  rw [a6,hZ] at G;refine⟨_,rfl,an,_,1,_,rfl,rfl,a8 _ j.old,rfl,a1,rfl,⟨_,b0 _ j.old⟩,?_⟩;refine Q2 (xs:=ws) (λi I c=>∃(J L O R:Option V),I=[some (.ref an),some (.ref d),J,L,O,R]/\Stp H d u (λp=>(Ex (N.ts.take i) p).map kv) c) ⟨_,_,_,_,rfl,j⟩ (λi I c S ⟨J,L,O,R,e,j⟩=>b0 _ j.old) ?_ ?_
  ·rintro i x I c C ⟨J,L,O,R,rfl,j⟩
   have S:i<N.ts.length:=by rw [← a7]; exact(cr.mp C).1
   obtain⟨x',D,T⟩:=a5.get (i:=i) (d:=Aa N.ts[i]) (by rw [dR,No S]; rfl);rw [C] at D;cases D;have Y:N.ts[i]∈N.ts:=dY S;have l:N.ts.take (i+1)=N.ts.take i++[N.ts[i]]:=by rw [List.take_succ,No S]; rfl
   have Z:(N.ts.take (i+1)).Pairwise Bw:=ok.trise.sublist (List.take_sublist _ _);have a0:∀s∈N.ts.take (i+1),cs s.a<cs s.b:=λs hs=>(ok.tin s (iR hs)).2.2.1;rw [l] at Z a0;have z:=U2 Z a0;have b7:(N.ts.take i).length<=1000:=by rw [eg]; omega
   generalize N.ts[i]=t at T Y l z;generalize N.ts.take i=ts at l z j b7;obtain⟨m1,m2,m3,_⟩:=ok.tin t Y;have W:t.a≠t.b:=λe=>by rw [e] at m3; exact gN _ m3
   obtain⟨y,m,tl⟩:=t;obtain⟨tt,c7,rfl,b8,b9⟩:=T;obtain⟨va,r3,rfl,⟨rfl,_⟩,vb,r4,rfl,⟨rfl,_⟩,vl,r5,rfl,rfl,e5⟩:=b9;cases (show r5=[] from e5);rw [← G] at m1 m2;obtain⟨⟨xa,pa⟩,ha,ea⟩:=Rs.mp m1;obtain⟨⟨xb,pb⟩,hb,eb⟩:=Rs.mp m2;have c0:y=xa:=ea.symm;have c1:m=xb:=eb.symm;subst c0 c1;clear ea eb;replace W:y≠m:=W;replace z:m∉(Ex ts y).map (·.1)/\y∉(Ex ts m).map (·.1):=z;have ga:=DGet.k (k:=.inr y) j.top;rw [Il j.nms ha] at ga;have l1:=Qv ts y;refine⟨tt,_,rfl,SqT.of (j.old _ _ b8),rfl,_,_,rfl,_,_,rfl,_,_,rfl,rfl,?_⟩;refine⟨_,rfl,_,rfl,_,rfl,d,_,rfl,ga,_,rfl,pa,_,rfl,DPut.k (k:=.inr m) (j.inn _ ha).2.2 (by show ((Ex ts y).map kv).length<sizeLine; rw [Go]; omega),?_⟩;have X:=j.put (tb2:=λp=>(Ex ts p++if y=p then [(m,tl)] else []).map kv) ha (kvs:=putK ((Ex ts y).map kv) (.inr m) (.int tl)) (by rw [Qj z.1,if_pos rfl]) (λq hq=>by rw [if_neg (eF hq),dS]);have gb:=DGet.k (k:=.inr m) X.top;rw [Il X.nms hb] at gb;have l2:=Qv ts m;have ib:=(X.inn _ hb).2.2;simp only [if_neg W,dS] at ib;refine⟨_,rfl,_,rfl,_,rfl,d,_,rfl,gb,_,rfl,pb,_,rfl,DPut.k (k:=.inr y) ib (by rw [Go]; omega),?_⟩;refine⟨_,_,_,_,rfl,X.put hb ?_ λq hq=>?_⟩
   ·show (Ex (N.ts.take (i+1)) m).map kv=_
    rw [l,OH,Qj z.2];show ((Ex ts m++((if y=m then [(m,tl)] else [])++if m=m then [(y,tl)] else [])).map kv)=_;rw [if_neg W,if_pos rfl]; rfl
   ·show (Ex (N.ts.take (i+1)) q).map kv=_
    rw [l,OH];show ((Ex ts q++((if y=q then [(m,tl)] else [])++if m=q then [(y,tl)] else [])).map kv)=_;rw [if_neg (eF hq),dS]
  ·rintro I c ⟨J,L,O,R,rfl,j⟩
   rw [a7,hZ] at j
   have a2:∀(f:Ch->Obj) b o,H b=some o->F3 c (u.map (·.2)) f b=some o:=λf b o e=>by
    rw [DR (λG=>by obtain⟨x,C,e2⟩:=Rs.mp G; have:=(j.inn x C).1; rw [e2,e] at this; cases this)];exact j.old b o e
   refine⟨_,rfl,(u.map fun(x:Str×Ch)=>x.2),λb hb=>?_,λf=>q (.ref d) (F3 c (u.map fun(x:Str×Ch)=>x.2) f) (HM N) n (λb o e=>⟨o,a2 f b o e,λ_=>rfl,λ_ _=>rfl⟩) (λg hg=>?_) (show At K M (F3 c (u.map fun(x:Str×Ch)=>x.2) f) (HM N) (.ref d) from j.at_ b3 G f) p⟩
   ·obtain⟨x,C,rfl⟩:=Rs.mp hb
    exact⟨_,(j.inn x C).2.2⟩
   ·obtain⟨a,r,a3,hf,c2,hc,b1⟩:=b4 g hg
    exact⟨a,r,a3,a2 f _ _ hf,c2,⟨hc.1,a2 f _ _ hc.2⟩,b1⟩
theorem MI:Ai ["net","thing"] ["net","thing"] (AH FI):=by walk_at "s"
theorem Mh(T:Txt K mg)(c:Kl P w K mg base)(F:Fu K "is_tie_of" FI f fd):BD P w K mg base CL 2 f fd ["net","thing"] (Di K .sh Wi 2) :=
 F_ F MI (λa=>(AJ (Ab (EB (CF (C5 a) C1 (dv 1) (AW AL Ao (dv 0) AD) (by with_unfolding_all rfl)) (Gd (cg a c (AA (AN (AW AL Ao (dv 1) AD)) AK))))))) MT
theorem Pc:Ai ["net","thing"] ["net","thing"] (AH HS):=by walk_at "s"
theorem Py(T:Txt K mg)(b:IQ P w K mg base)(c:IP P w K mg base)(d:ED P w K mg base)(F:Fu K "is_thin" HS f fd):BD P w K mg base CL 3 f fd ["net","thing"] (Di K .sh IS 2) :=
 F_ F Pc (λa=>(AG (A9 (DTW.dt (Ba (BH (A2 (cg a d (AA (AN AD) (AA (AN (dv 1)) AK))))) (Bo (BH (A2 (Bx kit_tuple (AW AL Ao (dv 1) AD) rfl T.Gaa rfl T.Gab (by decide +kernel))))))) (AJ (Ab Bt)) Al)
 (AJ (Ab (EB (CF (Mb a) RM (AW AL Ao (dv 1) AD) (AW AL Ao (dv 0) AD) (Ag _)) (EB (Ae (G_ rfl) RN rfl T.Gai gQ (AM (Ks [("net":Str),("tie":Str)] [some 0,none] (BS (AW AL Ao (dv 1) AD)) (Ah (i:=1) (show dQ [("net":Str),("tie":Str)] by decide +kernel) rfl (TW rfl)) Bh (cg a c (AA (AN (dv 0)) (AA (AN (dv 1)) AK))) (by kernel_rfl)) AV)) (Gd (cg a b (AA (AN (AW AL Ao (dv 1) AD)) AK))))))))) Pj
theorem Nv:Ai ["net","thin"] ["net","thin"] (AH GP):=by walk_at "s"
theorem OC(T:Txt K mg)(c:Kj P w K mg base)(F:Fu K "left_out" GP f fd):BD P w K mg base CL 5 f fd ["net","thin"] (Di K .fr PF 2) :=
 F_ F Nv (λb=>(AJ (Ab (cg b c (AA (AN (Ks [("thin":Str),("tie":Str)] [some 1,none] (BS (AW AL Ao (dv 0) AD)) (Ah (i:=1) (show dQ [("thin":Str),("tie":Str)] by decide +kernel) rfl (TW rfl)) (Dt (Ad (EN b) C1 (dv 1) (AW AL Ao (dv 0) AD) (by with_unfolding_all rfl))) (dv 1) (by kernel_rfl))) AK))))) Ny
theorem j9:Ai ["net","thing","steps","length","here","there"] ["net","thing"] (AH FG):=by walk_at "s"
theorem Mf(T:Txt K mg)(b:Ki P w K mg base)(F:Fu K "length_of" FG f fd):BD P w K mg base CL 2 f fd ["net","thing"] (Di K .sh LG 2) :=
 F_ F j9 (λa=>(AG (A9 (DTW.dt (Ba (BH (A2 (Bx kit_tuple (dv 1) rfl T.Gaa rfl T.Gab (by decide +kernel)))) (Bo (Ad CB De (Ae As Bu rfl T.Gac PySem.boot_len (AM (dv 1) AV)) AD (Ag _))))) (AJ (Ab Bj)) Al)
 (AG (A9 (BH (A2 (Ae (G_ rfl) RN rfl T.Gai gQ (AM (Ks [("place":Str)] [none] (BS (dv 1)) (Ah (i:=0) (show dQ [("place":Str)] by decide +kernel) rfl (TW rfl)) Bh (Bx Mt (dv 0) rfl T.Gaa rfl T.Gaj (by decide +kernel)) (by kernel_rfl)) AV)))) (AJ (Ab Bj)) Al)
 (AG (An (i:=2) j9.nd rfl (TW rfl) (cg a b (AA (AN (dv 0)) AK)))
 (AG (A9 (Ad (LV a) PB (AW AL Ao (dv 1) AD) (dv 2) (by with_unfolding_all rfl)) (AJ (Ab Bj)) Al)
 (AG (An (i:=3) j9.nd rfl (TW rfl) AD)
 (AG (DX dZ rfl (Yk rfl T.Gan (AC (dv 1) (AC (Bq Cf Br (dv 1) (Ax AD) BC) AS))) (FZ rfl (BM (Ah (i:=4) j9.nd rfl (TW rfl)) (BM (Ah (i:=5) j9.nd rfl (TW rfl)) Du))) (AG (A9 (Ad (LV a) PB (dv 5) (Fz a (dv 2) (dv 4)) (by with_unfolding_all rfl)) (AJ (Ab Bj)) Al)
 (AJ (WR (i:=3) j9.nd rfl (TW rfl) (Fz a (Fz a (dv 2) (dv 4)) (dv 5))))))
 (AJ (Ab (dv 3)))))))))) MP
theorem kA:Ai ["net","a","b","thing","length"] ["net","a","b","thing"] (AH Ck):=by walk_at "s"
theorem Gy(T:Txt K mg)(a:IM P w K mg base)(F:Fu K "length_between" Ck f fd):BD P w K mg base CL 3 f fd ["net","a","b","thing"] (Di K .sh RT 4) :=
 F_ F kA (λb=>(AG (An (i:=4) kA.nd rfl (TW rfl) (cg b a (AA (AN (dv 0)) (AA (AN (dv 3)) AK))))
 (AG (A9 (DTW.dt (Ba (Ad Jk O9 (dv 4) Bj (Ag _)) (Ba (Ad F7 LF (AW AL Ao (dv 3) AD) (dv 1) (Ag _)) (Bo (Ad F7 LF (AW AL Ao (dv 3) (CK AD)) (dv 2) (Ag _)))))) (AJ (Ab Bj)) Al)
 (AJ (Ab (dv 4)))))) Vk
theorem MH:Ai ["length","times","number"] ["length","times","number"] (AH FH):=by walk_at "s"
theorem Mg(T:Txt K mg)(F:Fu K "is_within" FH f fd):BD P w K mg base CL 1 f fd ["length","times","number"] (Di K .sh JF 3) :=
 F_ F MH (λa=>(AJ (Ab (CF MZ RL (Am Do Fj (dv 0) (AW AL Ao (dv 1) AD)) (Am Do Fj (dv 2) (AW AL Ao (dv 1) AD)) (Ag _))))) MS
theorem kE:Ai ["net","times","tie","thing","length"] ["net","times","tie","thing"] (AH FE):=by walk_at "s"
theorem Md(T:Txt K mg)(b:IN P w K mg base)(c:Ec P w K mg base)(F:Fu K "way_fault" FE f fd):BD P w K mg base CL 4 f fd ["net","times","tie","thing"] (Di K .sh PD 4) :=
 F_ F kE (λa=>(AG (An (i:=4) kE.nd rfl (TW rfl) (cg a c (AA (AN (dv 0)) (AA (AN (AW AL Ao (dv 2) AD)) (AA (AN (AW AL Ao (dv 2) AD)) (AA (AN (dv 3)) AK))))))
 (AG (A9 (Ad Jk O9 (dv 4) Bj (Ag _)) (AJ (Ab BJ)) Al)
 (AJ (Ab (Lq (A2 (cg a b (AA (AN (dv 4)) (AA (AN (dv 1)) (AA (AN (AW AL Ao (dv 2) AD)) AK))))) Bj BJ)))))) Vi
theorem kH:Ai ["net","times","thin","paper","number","tie","fault"] ["net","times","thin","paper"] (AH FF):=by walk_at "s"
theorem Me(T:Txt K mg)(e:L3 P w K mg base)(g:ED P w K mg base)(d:Kk P w K mg base)(j:IK P w K mg base)(GX_NoPaper:Ij P w K mg base "NoPaper" ["word","number"] 1)(F:Fu K "lets_ways" FF f fd):BD P w K mg base (RX P w) 6 f fd ["net","times","thin","paper"] (am K .sh JI 4):=by
 exact fnX (wb:=λb=>EC b) F kH (by decide) (λk A c s H E b o U M l a=>(Hm (U6 (DTW.dt (Ba (BH (A2 (Bn e (a.mono (by decide)) rfl (AA (AN (dv 0)) (AA (AN (dv 2)) AK))))) (Bo (BH (A2 (Bn g (a.mono (by decide)) rfl (AA (AN (Ae As Bu rfl T.Gac PySem.boot_len (AM (Bn d (a.mono (by decide)) rfl (AA (AN (dv 0)) (AA (AN (dv 2)) AK))) AV))) (AA (AN (dv 3)) AK)))))))) (G5 (KI N8 l (λ_ h=>h) (Lo GX_NoPaper (a.mono (by decide)) rfl (AC BJ (AC AD AS))))) (Q_ Al))
 (Hm (WM (λ_ _ h=>h) Vv rfl (RA rfl T.Gah (Bn d (a.mono (by decide)) rfl (AA (AN (dv 0)) (AA (AN (dv 2)) AK)))) (FZ rfl (BM (Ah (i:=4) kH.nd rfl (TW rfl)) (BM (Ah (i:=5) kH.nd rfl (TW rfl)) Du))) (Hm (U5 (An (i:=6) kH.nd rfl (TW rfl) (Bn j (a.mono (by decide)) rfl (AA (AN (dv 2)) (AA (AN (dv 1)) (AA (AN (dv 5)) (AA (AN (AW AL Ao (dv 3) (dv 4))) AK)))))))
 (G5 (U6 (Ad Qu VQ (dv 6) Bj (Ag _)) (G5 (KI N8 l (λ_ h=>h) (Lo GX_NoPaper (a.mono (by decide)) rfl (AC (dv 6) (AC (dv 4) AS))))) (Q_ Al)))))
 (G5 (U5 (Ab Bt)))))) (λp n q b r m=>Rv m)
theorem Kv:Ai ["_law_thing","_law_least_here","_law_most"] ["_law_thing","_law_least_here","_law_most"] (AH Ei):=by walk_at "s"
theorem Kz(T:Txt K mg)(F:Fu K "_law_whole" Ei f fd):BD P w K mg base CL 1 f fd ["_law_thing","_law_least_here","_law_most"] (Di K .sh JH 3) :=
 F_ F Kv (λa=>(AJ (Ab (EB (Bx Mu (dv 0) rfl T.Gaa rfl T.Gal (by decide +kernel)) (EB (VA (Bx OY (dv 0) rfl T.Gaa rfl T.Gam (by decide +kernel))) (Gd (VD MZ RL MZ RL (dv 1) (dv 0) (dv 2)))))))) MQ
theorem kM:Ai ["_law_feed_here","_law_many","_law_way","_law_words","_law_first","_law_letters","_law_word","_law_at","_law_names","_law_k","_law_sign"] ["_law_feed_here","_law_many"] (AH Dz):=by walk_at "s"
theorem Jo(T:Txt K mg)(b:Bc P w K mg base)(F:Fu K "_law_places" Dz f fd):BD P w K mg base CL 2 f fd ["_law_feed_here","_law_many"] (Di K .fr JG 2) :=
 F_ F kM (λa=>(AG (An (i:=2) kM.nd rfl (TW rfl) (cg a b (AA (A5 0) (AA (AN AD) AK))))
 (AG (An (i:=3) kM.nd rfl (da rfl) (Bp (AC BJ (AC BJ (AC BJ (AC BJ (AC BJ (AC BJ (AC BJ (AC BJ (AC BJ (AC BJ (AC BJ (AC BJ AS))))))))))))))
 (AG (A9 (DTW.dt (Gc (Ad CB De (dv 2) AD (Ag _)) (Fx (Ad (D6 a) GF (dv 1) AD (Ag _))))) (AG (An (i:=4) kM.nd rfl (da rfl) (cg a b (AA (A5 0) (AA (AN AD) AK))))
 (AJ (Ab (Ae KY RJ rfl T.Gag ie (AM (Ks [("_law_words":Str),("_law_first":Str),("_law_k":Str)] [some 3,some 4,none] (DI.c (CU rfl T.Gad (AM (dv 1) AV))) (Ah (i:=2) (show dQ [("_law_words":Str),("_law_first":Str),("_law_k":Str)] by decide +kernel) rfl (TW rfl)) Bh (AW AL Ao (dv 0) (Am D5 C6 (Am Ak Ap (dv 1) (dv 2)) AD)) (by kernel_rfl)) AV))))) Al)
 (AG (An (i:=5) kM.nd rfl (da rfl) BJ)
 (AG (An (i:=6) kM.nd rfl (da rfl) (aN PySem.F.plainAttrs_str PySem.F.slot_str_join PySem.F.type_str_join V2 Y1 BJ (AM (Ks [("_law_letters":Str),("_law_feed_here":Str),("_law_k":Str)] [some 5,some 0,none] (DI.c (CU rfl T.Gad (AM AD AV))) (Ah (i:=2) (show dQ [("_law_letters":Str),("_law_feed_here":Str),("_law_k":Str)] by decide +kernel) rfl (TW rfl)) Bh (AW AL Ao (dv 0) (cg a b (AA (A5 1) (AA (AN AD) AK)))) (by kernel_rfl)) AV)))
 (AG (A9 (DTW.dt (Gc (Ad CB De (dv 2) AD (Ag _)) (Fx (Ad (D6 a) GF (dv 1) AD (Ag _))))) (AJ (Ab (Ks [("_law_word":Str),("_law_k":Str)] [some 6,none] (DI.c (CU rfl T.Gad (AM (dv 1) AV))) (Ah (i:=1) (show dQ [("_law_word":Str),("_law_k":Str)] by decide +kernel) rfl (TW rfl)) Bh (Bq Cf Br (dv 0) BC (Ax (Am Ak Ap AD (dv 1)))) (by kernel_rfl)))) Al)
 (AG (An (i:=7) kM.nd rfl (TW rfl) (cg a b (AA (A5 0) (AA (AN AD) AK))))
 (AG (An (i:=4) kM.nd rfl (da rfl) (cg a b (AA (A5 0) (AA (AN AD) AK))))
 (AG (Dr (i:=8) kM.nd rfl (TW rfl) (Bp AS))
 (AG (DX dZ rfl (CU rfl T.Gad (AM (dv 1) AV)) (Ah (i:=9) kM.nd rfl (TW rfl)) (AG (An (i:=10) kM.nd rfl (TW rfl) (AW AL Ao (dv 5) (Am D5 C6 (Am Ak Ap (dv 4) (dv 9)) AD)))
 (AJ (Om 8 PySem.F.plainAttrs_list PySem.F.slot_list_append PySem.F.type_list_append DC PC (pv 8) (AC (Am Ak Ap (Am Ak Ap (Am Ak Ap (Bq Cf Br (dv 6) BC (Ax (dv 7))) (dv 10)) (Bq Cf Br (dv 6) (Ax (Am Ak Ap (dv 7) AD)) (Ax AD))) (Am Do Fj BJ (Am D5 C6 (dv 9) AD))) AS)))))
 (AJ (Ab (Ae KY RJ rfl T.Gag ie (AM (Kr 8) AV))))))))))))))) Ru
theorem JX:Ai ["_law_feed_here","_law_scale"] ["_law_feed_here","_law_scale"] (AH D0):=by walk_at "s"
theorem Jp(T:Txt K mg)(a:Bc P w K mg base)(F:Fu K "_law_length" D0 f fd):BD P w K mg base CL 2 f fd ["_law_feed_here","_law_scale"] (Di K .sh Wl 2) :=
 F_ F JX (λb=>(AG (A9 (Ad CB De (dv 1) AD (Ag _)) (AJ (Ab (Am Ak Ap AD (cg b a (AA (A5 0) (AA (AN AD) AK)))))) Al)
 (AG (A9 (Ad CB De (dv 1) AD (Ag _)) (AJ (Ab (Am Ak Ap AD (cg b a (AA (A5 0) (AA (AN AD) AK)))))) Al)
 (AJ (Ab (Lq (Ad CB De (dv 1) AD (Ag _)) (Am En Ge (Am Eo C6 AD AD) (cg b a (AA (A5 0) (AA (AN AD) AK)))) (Am Ak Ap AD (cg b a (AA (A5 0) (AA (AN (Am Eo C6 AD AD)) AK)))))))))) Rw
theorem kO:Ai ["_law_feed_here","_law_most","_law_ties","_law_places_here","_law_few","_law_scale","_law_found","_law_one","_law_other"] ["_law_feed_here","_law_most","_law_ties"] (AH GS):=by walk_at "s"
theorem OF(T:Txt K mg)(c:GH P w K mg base)(b:Bc P w K mg base)(d:GG P w K mg base)(F:Fu K "_law_net" GS f fd):BD P w K mg base CL 3 f fd ["_law_feed_here","_law_most","_law_ties"] (Di K .sh Wj 3) :=
 F_ F kO (λa=>(AG (An (i:=3) kO.nd rfl (TW rfl) (cg a d (AA (A5 0) (AA (AN (Am Ak Ap AD (cg a b (AA (A5 0) (AA (AN (dv 1)) AK))))) AK))))
 (AG (An (i:=4) kO.nd rfl (TW rfl) (Am Ak Ap AD (cg a b (AA (A5 0) (AA (AN AD) AK)))))
 (AG (An (i:=5) kO.nd rfl (TW rfl) (cg a b (AA (A5 0) (AA (AN AD) AK))))
 (AG (Dr (i:=6) kO.nd rfl (TW rfl) (Bp AS))
 (AG (DX dZ rfl (CU rfl T.Gad (AM (Ae As Bu rfl T.Gac PySem.boot_len (AM (dv 3) AV)) AV)) (Ah (i:=7) kO.nd rfl (TW rfl)) (AJ (DX dZ rfl (Lp rfl T.Gad (AM (Am Ak Ap (dv 7) AD) (AM (Ae As Bu rfl T.Gac PySem.boot_len (AM (dv 3) AV)) AV))) (Ah (i:=8) kO.nd rfl (TW rfl)) (AJ (A9 (DTW.dt (Gc (Ad MZ RL (cg a b (AA (A5 0) (AA (AN AD) AK))) (dv 4) (Ag _)) (Fx (Ad (D6 a) GF (Ae As Bu rfl T.Gac PySem.boot_len (AM (Kr 6) AV)) (dv 2) (Ag _))))) (AJ (Om 6 PySem.F.plainAttrs_list PySem.F.slot_list_append PySem.F.type_list_append DC PC (pv 6) (AC (Ar (AC (AW AL Ao (dv 3) (dv 7)) (AC (AW AL Ao (dv 3) (dv 8)) (AC (cg a c (AA (A5 0) (AA (AN (dv 5)) AK))) AS)))) AS))) Al)))))
 (AJ (Ab (Ar (AC (Bs Bb Cz rfl T.Gab gY (AM (dv 3) AV)) (AC (Bs Bb Cz rfl T.Gab gY (AM (Kr 6) AV)) AS))))))))))) X6
theorem kR:Ai ["_law_feed_here","_law_some","_law_at","_law_bottom"] ["_law_feed_here"] (AH Ej):=by walk_at "s"
theorem K0(T:Txt K mg)(b:Bc P w K mg base)(F:Fu K "_law_times" Ej f fd):BD P w K mg base CL 2 f fd ["_law_feed_here"] (Di K .sh NT 1) :=
 F_ F kR (λa=>(AG (An (i:=1) kR.nd rfl (TW rfl) (Bp (AC (Ar (AC AD (AC AD AS))) (AC (Ar (AC AD (AC AD AS))) (AC (Ar (AC AD (AC AD AS))) (AC (Ar (AC AD (AC AD AS))) (AC (Ar (AC AD (AC AD AS))) (AC (Ar (AC AD (AC AD AS))) (AC (Ar (AC (Am Eo C6 AD AD) (AC AD AS))) (AC (Ar (AC (Am Eo C6 AD AD) (AC (Am Eo C6 AD AD) AS))) AS))))))))))
 (AG (An (i:=2) kR.nd rfl (TW rfl) (cg a b (AA (A5 0) (AA (AN AD) AK))))
 (AG (A9 (Ad (D6 a) GF (dv 2) AD (Ag _)) (AJ (Ab (AW AL Ao (dv 1) (dv 2)))) Al)
 (AG (An (i:=3) kR.nd rfl (TW rfl) (Am Ak Ap AD (cg a b (AA (A5 0) (AA (AN AD) AK)))))
 (AJ (Ab (Ar (AC (Am Ak Ap (dv 3) (cg a b (AA (A5 0) (AA (AN (Am Do Fj AD (dv 3))) AK)))) (AC (dv 3) AS)))))))))) MR
theorem HQ:Ai ["_law_ties"] ["_law_ties"] (AH C4):=by walk_at "s"
theorem Hb(T:Txt K mg)(F:Fu K "_law_in_order" C4 f fd):BD P w K mg base CL 1 f fd ["_law_ties"] (Di K .fr Dg 1) :=
 F_ F HQ (λa=>(AJ (Ab (Ks [("_law_length_here":Str),("_law_one":Str),("_law_other":Str)] [none,none,none] (BS (Ae KW RI rfl T.Gag ie (AM (Ks [("_law_tie":Str)] [none] (BS (dv 0)) (Ah (i:=0) (show dQ [("_law_tie":Str)] by decide +kernel) rfl (TW rfl)) Bh (Ar (AC (AW AL Ao (dv 0) AD) (AC (AW AL Ao (dv 0) AD) (AC (AW AL Ao (dv 0) AD) AS)))) (by kernel_rfl)) AV))) (FZ rfl (BM (Ah (i:=0) (show dQ [("_law_length_here":Str),("_law_one":Str),("_law_other":Str)] by decide +kernel) rfl (TW rfl)) (BM (Ah (i:=1) (show dQ [("_law_length_here":Str),("_law_one":Str),("_law_other":Str)] by decide +kernel) rfl (TW rfl)) (BM (Ah (i:=2) (show dQ [("_law_length_here":Str),("_law_one":Str),("_law_other":Str)] by decide +kernel) rfl (TW rfl)) Du)))) Bh (Ar (AC (dv 1) (AC (dv 2) (AC (dv 0) AS)))) (by kernel_rfl))))) IX
theorem kT:Ai ["_law_ties","_law_place","_law_known","_law_going","_law_one","_law_other","_law_length_here","_law_here","_law_there","_law_reach"] ["_law_ties","_law_place"] (AH Ek):=by walk_at "s"
theorem K3(T:Txt K mg)(F:Fu K "_law_least" Ek f fd):BD P w K mg base CL 1 f fd ["_law_ties","_law_place"] (Di K .fr Dh 2) :=
 F_ F kT (λc=>(AG (Dr (i:=2) kT.nd rfl (TW rfl) (VC (dv 1) AD))
 (AG (An (i:=3) kT.nd rfl (TW rfl) Bt)
 (AG (Ol dZ (A2 (dv 3)) (AG (An (i:=3) kT.nd rfl (TW rfl) Bt)
 (AJ (WP dZ rfl (pv 0) (FZ rfl (BM (Ah (i:=4) kT.nd rfl (TW rfl)) (BM (Ah (i:=5) kT.nd rfl (TW rfl)) (BM (Ah (i:=6) kT.nd rfl (TW rfl)) Du)))) (AJ (DX dZ rfl (QF (Bp (AC (Ar (AC (dv 4) (AC (dv 5) AS))) (AC (Ar (AC (dv 5) (AC (dv 4) AS))) AS)))) (FZ rfl (BM (Ah (i:=7) kT.nd rfl (TW rfl)) (BM (Ah (i:=8) kT.nd rfl (TW rfl)) Du))) (AJ (A9 (Ad (UW c) Xb (dv 7) (Kr 2) (by with_unfolding_all rfl)) (AG (An (i:=9) kT.nd rfl (TW rfl) (Am Ak Ap (Fz c (Kr 2) (dv 7)) (dv 6)))
 (AJ (A9 (Ad (D6 c) GF (dv 9) (WZ c (Kr 2) (dv 8) (Am Ak Ap (dv 9) AD)) (Ag _)) (AG (WQ (i:=2) c (pv 2) (dv 8) (dv 9))
 (AJ (An (i:=3) kT.nd rfl (TW rfl) Bt))) Al))) Al))))))))
 (AJ (WN 2 (pv 2))))))) Je
theorem kU:Ai ["_law_net_here","_law_times_here","_law_kept","_law_tie","_law_least_here"] ["_law_net_here","_law_times_here"] (AH DF):=by walk_at "s"
theorem IZ(T:Txt K mg)(b:CQ P w K mg base)(c:Et P w K mg base)(F:Fu K "_law_thinned" DF f fd):BD P w K mg base CL 2 f fd ["_law_net_here","_law_times_here"] (Di K .sh HF 2) :=
 F_ F kU (λa=>(AG (Dr (i:=2) kU.nd rfl (TW rfl) (Bp AS))
 (AG (DX dZ rfl (QF (cg a b (AA (AN (AW AL Ao (dv 0) AD)) AK))) (Ah (i:=3) kU.nd rfl (TW rfl)) (AG (An (i:=4) kU.nd rfl (TW rfl) (Wa a (cg a c (AA (XW (Kr 2)) (AA (AN (AW AL Ao (dv 3) AD)) AK))) (AW AL Ao (dv 3) AD)))
 (AJ (A9 (DTW.dt (Ba (Ad Jk O9 (dv 4) Bj (Ag _)) (Bo (Ad Jl O_ (Am Do Fj (dv 4) (AW AL Ao (dv 1) AD)) (Am Do Fj (AW AL Ao (dv 3) AD) (AW AL Ao (dv 1) AD)) (Ag _))))) (AJ (Om 2 PySem.F.plainAttrs_list PySem.F.slot_list_append PySem.F.type_list_append DC PC (pv 2) (AC (dv 3) AS))) Al))))
 (AJ (Ab (Ar (AC (AW AL Ao (dv 0) AD) (AC (Bs Bb Cz rfl T.Gab gY (AM (Ae KW RI rfl T.Gag ie (AM (Kr 2) AV)) AV)) AS)))))))) HV
theorem kY:Ai ["_law_feed_here","_law_thing","_law_some","_law_at"] ["_law_feed_here","_law_thing"] (AH GR):=by walk_at "s"
theorem OE(T:Txt K mg)(b:Bc P w K mg base)(F:Fu K "_law_odd" GR f fd):BD P w K mg base CL 2 f fd ["_law_feed_here","_law_thing"] (Di K .sh VT 2) :=
 F_ F kY (λa=>(AG (Dr (i:=2) kY.nd rfl (TW rfl) (Bp (AC Bj (AC Bt (AC AD (AC AD (AC (CK AD) (AC BJ (AC BJ (AC (Ar AS) (AC (Bp AS) (AC (Am Eo C6 AD AD) (AC (Am Ak Ap (Am Eo C6 AD AD) AD) (AC BJ (AC BJ (AC (dv 1) AS))))))))))))))))
 (AG (A9 (A2 (ND kit_tuple FU (dv 1) rfl T.Gaa rfl T.Gab (by decide +kernel) rfl T.Gae (by decide +kernel))) (AG (An (i:=3) kY.nd rfl (TW rfl) (cg a b (AA (A5 0) (AA (AN (Am Ak Ap (Ae As Bu rfl T.Gac PySem.boot_len (AM (dv 1) AV)) AD)) AK))))
 (AG (Dr (i:=2) kY.nd rfl (TW rfl) (Am Mc Ho (Kr 2) (Bp (AC (Bs Es RK rfl T.Gae boot_list (AM (dv 1) AV)) (AC (Bs Bb Cz rfl T.Gab gY (AM (dv 1) AV)) (AC (NC (dv 1) (CK AD)) (AC (Am Ak Ap (Bq Cf Br (dv 1) BC (Ax (dv 3))) (Bq Cf Br (dv 1) (Ax (Am Ak Ap (dv 3) AD)) BC)) AS)))))))
 (AJ (Om 2 PySem.F.plainAttrs_list PySem.F.slot_list_append PySem.F.type_list_append DC PC (pv 2) (AC (Am Ak Ap (Am Ak Ap (Bq Cf Br (dv 1) BC (Ax (dv 3))) (Bq Cf Br (dv 1) (Ax (dv 3)) (Ax (Am Ak Ap (dv 3) AD)))) (Bq Cf Br (dv 1) (Ax (dv 3)) BC)) AS))))) Al)
 (AG (A9 (A2 (Bx Mu (dv 1) rfl T.Gaa rfl T.Gal (by decide +kernel))) (AJ (Dr (i:=2) kY.nd rfl (TW rfl) (Am Mc Ho (Kr 2) (Bp (AC (Am Ak Ap (dv 1) AD) (AC (Am En Ge (dv 1) AD) (AC (CF (Mb a) RM (dv 1) AD (Ag _)) (AC (Bs Sq Y0 rfl T.Gaj boot_str (AM (dv 1) AV)) (AC (Am En Ge AD (dv 1)) AS))))))))) Al)
 (AJ (Ab (AW AL Ao (Kr 2) (cg a b (AA (A5 0) (AA (AN (Ae As Bu rfl T.Gac PySem.boot_len (AM (Kr 2) AV))) AK)))))))))) X5
theorem kZ:Ai ["_law_feed_here","_law_thing","_law_deep","_law_at","_law_part"] ["_law_feed_here","_law_thing","_law_deep"] (AH FN):=by walk_at "s"
theorem G0(T:Txt K mg)(d:Bc P w K mg base)(o:Km P w K mg base)(F:Fu K "_law_bent" FN f fd)(m:mg "_law_bent"=some (.ref f))(b:Binds K fd ["_law_feed_here","_law_thing","_law_deep"] []):∀j,BD P w K mg base CL (3+j) f fd ["_law_feed_here","_law_thing","_law_deep"] (Di K .sh (Hq j) 3)
 | 0=>by
  have p:Got P w K mg base "_law_bent" 2 ["_law_feed_here","_law_thing","_law_deep"] .sh (λ_ _ _=>False):=QC F m b (λ_ _ _ h=>h.elim) (F.ok (k:=1) kZ (λq H Q E h=>h.1) (λg A a s H q Q E c h=>by obtain⟨_,_,_,_,_,_,_,_,_,l,_⟩:=h; exact l.elim));exact be (k:=2) F kZ (by decide) (λg A a s H E c=>(AG (A9 (DTW.dt (Ba (BH (A2 (ND kit_tuple FU (dv 1) rfl T.Gaa rfl T.Gab (by decide +kernel) rfl T.Gae (by decide +kernel)))) (Ba (Ad CB De (Ae As Bu rfl T.Gac PySem.boot_len (AM (dv 1) AV)) AD (Ag _)) (Ba (Ad CB De (dv 2) AD (Ag _)) (Bo (Ad CB De (Bn d (c.mono (by omega)) rfl (AA (A5 0) (AA (AN AD) AK))) AD (Ag _))))))) (AJ (Ab (Bn o (c.mono (by omega)) rfl (AA (A5 0) (AA (AN (dv 1)) AK))))) Al)
 (AG (An (i:=3) kZ.nd rfl (TW rfl) (Bn d (c.mono (by omega)) rfl (AA (A5 0) (AA (AN (Ae As Bu rfl T.Gac PySem.boot_len (AM (dv 1) AV))) AK))))
 (AG (An (i:=4) kZ.nd rfl (TW rfl) (Bn p (c.mono (On _)) rfl (AA (A5 0) (AA (AN (AW AL Ao (dv 1) (dv 3))) (AA (AN (Am En Ge (dv 2) AD)) AK)))))
 (AJ (Ab (Am Ak Ap (Am Ak Ap (Bq Cf Br (dv 1) BC (Ax (dv 3))) (Lq (A2 (Bx FU (dv 1) rfl T.Gaa rfl T.Gae (by decide +kernel))) (DE.sh (Bp (AC (dv 4) AS))) (Ar (AC (dv 4) AS)))) (Bq Cf Br (dv 1) (Ax (Am Ak Ap (dv 3) AD)) BC)))))))) (λr n t u l=>Qf (λ_ _ _ h _=>absurd rfl h) l)
 | j+1=>by
  have p:Got P w K mg base "_law_bent" (3+j) ["_law_feed_here","_law_thing","_law_deep"] .sh (Hq j):=QC F m b (λ_ _ _ h=>by obtain⟨_,_,_,e,_⟩:=h; rw [e]; rfl) (G0 T d o F m b j);exact be (k:=3+j) F kZ (by decide) (λg A a s H E c=>(AG (A9 (DTW.dt (Ba (BH (A2 (ND kit_tuple FU (dv 1) rfl T.Gaa rfl T.Gab (by decide +kernel) rfl T.Gae (by decide +kernel)))) (Ba (Ad CB De (Ae As Bu rfl T.Gac PySem.boot_len (AM (dv 1) AV)) AD (Ag _)) (Ba (Ad CB De (dv 2) AD (Ag _)) (Bo (Ad CB De (Bn d (c.mono (by omega)) rfl (AA (A5 0) (AA (AN AD) AK))) AD (Ag _))))))) (AJ (Ab (Bn o (c.mono (by omega)) rfl (AA (A5 0) (AA (AN (dv 1)) AK))))) Al)
 (AG (An (i:=3) kZ.nd rfl (TW rfl) (Bn d (c.mono (by omega)) rfl (AA (A5 0) (AA (AN (Ae As Bu rfl T.Gac PySem.boot_len (AM (dv 1) AV))) AK))))
 (AG (An (i:=4) kZ.nd rfl (TW rfl) (Bn p (c.mono (On _)) rfl (AA (A5 0) (AA (AN (AW AL Ao (dv 1) (dv 3))) (AA (AN (Am En Ge (dv 2) AD)) AK)))))
 (AJ (Ab (Am Ak Ap (Am Ak Ap (Bq Cf Br (dv 1) BC (Ax (dv 3))) (Lq (A2 (Bx FU (dv 1) rfl T.Gaa rfl T.Gae (by decide +kernel))) (DE.sh (Bp (AC (dv 4) AS))) (Ar (AC (dv 4) AS)))) (Bq Cf Br (dv 1) (Ax (Am Ak Ap (dv 3) AD)) BC)))))))) (λr n t u l=>Qf (j:=j+1) (λ_ _ _ _ h=>h) l)
theorem IV:Ai ["_law_thing"] ["_law_thing"] (AH DM):=by walk_at "s"
theorem Ig(T:Txt K mg)(F:Fu K "_law_is_name" DM f fd):BD P w K mg base CL 1 f fd ["_law_thing"] (Di K .sh L4 1) :=
 F_ F IV (λa=>(AG (A9 (DTW.dt (Ba (BH (A2 (Bx Mt (dv 0) rfl T.Gaa rfl T.Gaj (by decide +kernel)))) (Bo (BH (U3 (D6 a) GF (D6 a) GF AD (Ae As Bu rfl T.Gac PySem.boot_len (AM (dv 0) AV)) AD))))) (AJ (Ab Bt)) Al)
 (AJ (Ab (Ae (G_ rfl) RN rfl T.Gai gQ (AM (Ks [("_law_sign":Str)] [none] (BS (dv 0)) (Ah (i:=0) (show dQ [("_law_sign":Str)] by decide +kernel) rfl (TW rfl)) Bh (CF YO aR (dv 0) BJ (by with_unfolding_all rfl)) (by kernel_rfl)) AV)))))) Jf
theorem JY:Ai ["_law_places_here","_law_thing"] ["_law_places_here","_law_thing"] (AH D1):=by walk_at "s"
theorem Jq(T:Txt K mg)(c:Df P w K mg base)(d:HC P w K mg base)(F:Fu K "_law_is_tie" D1 f fd):BD P w K mg base CL 2 f fd ["_law_places_here","_law_thing"] (Di K .sh RS 2) :=
 F_ F JY (λb=>(AG (A9 (DTW.dt (Ba (BH (A2 (Bx kit_tuple (dv 1) rfl T.Gaa rfl T.Gab (by decide +kernel)))) (Ba (Ad F7 LF (Ae As Bu rfl T.Gac PySem.boot_len (AM (dv 1) AV)) AD (Ag _)) (Bo (BH (A2 (cg b d (AA (AN (AW AL Ao (dv 1) AD)) (AA (AN AD) (AA (AN (Am Eo C6 AD AD)) AK)))))))))) (AJ (Ab Bt)) Al)
 (AG (A9 (DTW.dt (Ba (BH (A2 (cg b c (AA (AN (AW AL Ao (dv 1) AD)) AK)))) (Bo (BH (A2 (cg b c (AA (AN (AW AL Ao (dv 1) AD)) AK))))))) (AJ (Ab Bt)) Al)
 (AJ (Ab (EB (CF (C5 b) C1 (AW AL Ao (dv 1) AD) (dv 0) (by with_unfolding_all rfl)) (EB (CF (C5 b) C1 (AW AL Ao (dv 1) AD) (dv 0) (by with_unfolding_all rfl)) (Gd (CF (D6 b) GF (AW AL Ao (dv 1) AD) (AW AL Ao (dv 1) AD) (Ag _)))))))))) Kw
theorem MK:Ai ["_law_things"] ["_law_things"] (AH FK):=by walk_at "s"
theorem Mj(T:Txt K mg)(F:Fu K "_law_rise" FK f fd):BD P w K mg base CL 1 f fd ["_law_things"] (Di K .sh DB 1) :=
 F_ F MK (λa=>(AJ (Ab (CF (EN a) C1 Bt (Ks [("_law_things":Str),("_law_k":Str)] [some 0,none] (DI.c (CU rfl T.Gad (AM (Am En Ge (Ae As Bu rfl T.Gac PySem.boot_len (AM (dv 0) AV)) AD) AV))) (Ah (i:=1) (show dQ [("_law_things":Str),("_law_k":Str)] by decide +kernel) rfl (TW rfl)) Bh (CF (D6 a) GF (AW AL Ao (dv 0) (dv 1)) (AW AL Ao (dv 0) (Am Ak Ap (dv 1) AD)) (Ag _)) (by kernel_rfl)) (by with_unfolding_all rfl))))) Nz
theorem JZ:Ai ["_law_thing"] ["_law_thing"] (AH D4):=by walk_at "s"
theorem Jr(T:Txt K mg)(e:Df P w K mg base)(g:GI P w K mg base)(d:IR P w K mg base)(F:Fu K "_law_is_net" D4 f fd):BD P w K mg base CL 3 f fd ["_law_thing"] (Di K .sh RR 1) :=
 F_ F JZ (λb=>(AG (A9 (DTW.dt (Ba (BH (A2 (Bx kit_tuple (dv 0) rfl T.Gaa rfl T.Gab (by decide +kernel)))) (Ba (Ad F7 LF (Ae As Bu rfl T.Gac PySem.boot_len (AM (dv 0) AV)) AD (Ag _)) (Bo (BH (A2 (Bx kit_tuple (AW AL Ao (dv 0) AD) rfl T.Gaa rfl T.Gab (by decide +kernel)))))))) (AJ (Ab Bt)) Al)
 (AG (A9 (DTW.dt (Ba (BH (A2 (Bx kit_tuple (AW AL Ao (dv 0) AD) rfl T.Gaa rfl T.Gab (by decide +kernel)))) (Ba (Ad Jl O_ (Ae As Bu rfl T.Gac PySem.boot_len (AM (AW AL Ao (dv 0) AD) AV)) AD (Ag _)) (Bo (Ad Jl O_ (Ae As Bu rfl T.Gac PySem.boot_len (AM (AW AL Ao (dv 0) AD) AV)) AD (Ag _)))))) (AJ (Ab Bt)) Al)
 (AG (A9 (DTW.dt (Ba (Ad (C5 b) C1 Bt (Ks [("_law_one":Str)] [none] (BS (AW AL Ao (dv 0) AD)) (Ah (i:=0) (show dQ [("_law_one":Str)] by decide +kernel) rfl (TW rfl)) Bh (cg b e (AA (AN (dv 0)) AK)) (by kernel_rfl)) (by with_unfolding_all rfl)) (Bo (BH (A2 (cg b d (AA (AN (AW AL Ao (dv 0) AD)) AK))))))) (AJ (Ab Bt)) Al)
 (AG (A9 (Ad (C5 b) C1 Bt (Ks [("_law_thing":Str),("_law_tie":Str)] [some 0,none] (BS (AW AL Ao (dv 0) AD)) (Ah (i:=1) (show dQ [("_law_thing":Str),("_law_tie":Str)] by decide +kernel) rfl (TW rfl)) Bh (cg b g (AA (AN (AW AL Ao (dv 0) AD)) (AA (AN (dv 1)) AK))) (by kernel_rfl)) (by with_unfolding_all rfl)) (AJ (Ab Bt)) Al)
 (AJ (Ab (cg b d (AA (AN (Ks [("_law_tie":Str)] [none] (BS (AW AL Ao (dv 0) AD)) (Ah (i:=0) (show dQ [("_law_tie":Str)] by decide +kernel) rfl (TW rfl)) Bh (Bq Cf Br (dv 0) BC (Ax AD)) (by kernel_rfl))) AK))))))))) Kx
theorem kj:Ai ["_law_net_here","_law_thing","_law_there"] ["_law_net_here","_law_thing"] (AH DL):=by walk_at "s"
theorem Ie(T:Txt K mg)(b:GJ P w K mg base)(F:Fu K "_law_is_thin" DL f fd):BD P w K mg base CL 4 f fd ["_law_net_here","_law_thing"] (Di K .sh IS 2) :=
 F_ F kj (λa=>(AG (A9 (DTW.dt (Ba (BH (A2 (cg a b (AA (AN (dv 1)) AK)))) (Bo (Ad F7 LF (Ae (CV a) Fi rfl T.Gaf gp (AM (AW AL Ao (dv 1) AD) AV)) (Ae (CV a) Fi rfl T.Gaf gp (AM (AW AL Ao (dv 0) AD) AV)) (Ag _))))) (AJ (Ab Bt)) Al)
 (AG (An (i:=2) kj.nd rfl (da rfl) (Ks [("_law_tie":Str)] [none] (BS (AW AL Ao (dv 0) AD)) (Ah (i:=0) (show dQ [("_law_tie":Str)] by decide +kernel) rfl (TW rfl)) Bh (Ae (CV a) Fi rfl T.Gaf gp (AM (dv 0) AV)) (by kernel_rfl)))
 (AJ (Ab (CF (EN a) C1 Bt (Ks [("_law_there":Str),("_law_tie":Str)] [some 2,none] (BS (AW AL Ao (dv 1) AD)) (Ah (i:=1) (show dQ [("_law_there":Str),("_law_tie":Str)] by decide +kernel) rfl (TW rfl)) Bh (CF (C5 a) C1 (Ae (CV a) Fi rfl T.Gaf gp (AM (dv 1) AV)) (dv 0) (by with_unfolding_all rfl)) (by kernel_rfl)) (by with_unfolding_all rfl))))))) HW
theorem kn:Ai ["_law_net_here","_law_way","_law_sum_of","_law_k","_law_here","_law_there","_law_steps"] ["_law_net_here","_law_way"] (AH Dy):=by walk_at "s"
theorem Jn(T:Txt K mg)(F:Fu K "_law_walked" Dy f fd):BD P w K mg base CL 1 f fd ["_law_net_here","_law_way"] (Di K .sh LG 2) :=
 F_ F kn (λb=>(AG (A9 (DTW.dt (Ba (BH (A2 (Bx kit_tuple (dv 1) rfl T.Gaa rfl T.Gab (by decide +kernel)))) (Ba (Ad CB De (Ae As Bu rfl T.Gac PySem.boot_len (AM (dv 1) AV)) AD (Ag _)) (Bo (Ad (C5 b) C1 Bt (Ks [("_law_one":Str)] [none] (BS (dv 1)) (Ah (i:=0) (show dQ [("_law_one":Str)] by decide +kernel) rfl (TW rfl)) Bh (Bx Mt (dv 0) rfl T.Gaa rfl T.Gaj (by decide +kernel)) (by kernel_rfl)) (by with_unfolding_all rfl)))))) (AJ (Ab Bj)) Al)
 (AG (A9 (Ad (C5 b) C1 Bt (Ks [("_law_net_here":Str),("_law_one":Str)] [some 0,none] (BS (dv 1)) (Ah (i:=1) (show dQ [("_law_net_here":Str),("_law_one":Str)] by decide +kernel) rfl (TW rfl)) Bh (CF (C5 b) C1 (dv 1) (AW AL Ao (dv 0) AD) (by with_unfolding_all rfl)) (by kernel_rfl)) (by with_unfolding_all rfl)) (AJ (Ab Bj)) Al)
 (AG (An (i:=2) kn.nd rfl (TW rfl) AD)
 (AG (DX dZ rfl (Lp rfl T.Gad (AM AD (AM (Ae As Bu rfl T.Gac PySem.boot_len (AM (dv 1) AV)) AV))) (Ah (i:=3) kn.nd rfl (TW rfl)) (AG (Yj (Bq Cf Br (dv 1) (Ax (Am En Ge (dv 3) AD)) (Ax (Am Ak Ap (dv 3) AD))) (FZ rfl (BM (Ah (i:=4) kn.nd rfl (da rfl)) (BM (Ah (i:=5) kn.nd rfl (da rfl)) Du))))
 (AG (M_ (i:=6) kn.nd rfl (TW rfl) rfl [("_law_here":Str),("_law_there":Str),("_law_tie":Str)] [some 4,some 5,none] (BS (AW AL Ao (dv 0) AD)) (λ_ _ _ _ _=>(Ah (i:=2) (show dQ [("_law_here":Str),("_law_there":Str),("_law_tie":Str)] by decide +kernel) rfl (TW rfl))) (λ_ _ _ _ _=>(Dt (DTW.dt (Gc (Ad F7 LF (dv 0) (dv 1) (Ag _)) (Gc (Ad (C5 b) C1 (dv 0) (Bq Cf Br (dv 2) BC (Ax AD)) (by with_unfolding_all rfl)) (Fx (Ad (C5 b) C1 (dv 1) (Bq Cf Br (dv 2) BC (Ax AD)) (by with_unfolding_all rfl)))))))) (λ_ _ _ _ _=>(AW AL Ao (dv 2) AD)) (by kernel_rfl))
 (AG (A9 (Ad (Mb b) RM (dv 6) (Bp AS) (Ag _)) (AJ (Ab Bj)) Al)
 (AJ (An (i:=2) kn.nd rfl (TW rfl) (Am Ak Ap (dv 2) (AW AL Ao (dv 6) AD))))))))
 (AJ (Ab (dv 2)))))))) Ph
theorem ko:Ai ["_law_net_here","_law_times_here","_law_thin","_law_paper","_law_left","_law_number","_law_tie","_law_length_here"] ["_law_net_here","_law_times_here","_law_thin","_law_paper"] (AH C3):=by walk_at "s"
theorem HZ(T:Txt K mg)(c:CQ P w K mg base)(d:Fo P w K mg base)(e:EG P w K mg base)(F:Fu K "_law_ways_due" C3 f fd):BD P w K mg base CL 5 f fd ["_law_net_here","_law_times_here","_law_thin","_law_paper"] (Di K .sh NW 4) :=
 F_ F ko (λb=>(AG (A9 (DTW.dt (Ba (BH (A2 (cg b d (AA (AN (dv 0)) (AA (AN (dv 2)) AK))))) (Bo (BH (A2 (Bx kit_tuple (dv 3) rfl T.Gaa rfl T.Gab (by decide +kernel))))))) (AJ (Ab (Ar (AC BJ (AC AD AS))))) Al)
 (AG (An (i:=4) ko.nd rfl (TW rfl) (cg b c (AA (AN (Ks [("_law_thin":Str),("_law_tie":Str)] [some 2,none] (BS (AW AL Ao (dv 0) AD)) (Ah (i:=1) (show dQ [("_law_thin":Str),("_law_tie":Str)] by decide +kernel) rfl (TW rfl)) (Dt (Ad (EN b) C1 (dv 1) (AW AL Ao (dv 0) AD) (by with_unfolding_all rfl))) (dv 1) (by kernel_rfl))) AK)))
 (AG (A9 (Ad F7 LF (Ae As Bu rfl T.Gac PySem.boot_len (AM (dv 3) AV)) (Ae As Bu rfl T.Gac PySem.boot_len (AM (dv 4) AV)) (Ag _)) (AJ (Ab (Ar (AC BJ (AC AD AS))))) Al)
 (AG (DX dZ rfl (RA rfl T.Gah (dv 4)) (FZ rfl (BM (Ah (i:=5) ko.nd rfl (TW rfl)) (BM (Ah (i:=6) ko.nd rfl (TW rfl)) Du))) (AG (An (i:=7) ko.nd rfl (TW rfl) (cg b e (AA (AN (dv 2)) (AA (AN (AW AL Ao (dv 3) (dv 5))) AK))))
 (AG (A9 (DTW.dt (Ba (Ad Jk O9 (dv 7) Bj (Ag _)) (Ba (Ad F7 LF (AW AL Ao (AW AL Ao (dv 3) (dv 5)) AD) (AW AL Ao (dv 6) AD) (Ag _)) (Bo (Ad F7 LF (AW AL Ao (AW AL Ao (dv 3) (dv 5)) (CK AD)) (AW AL Ao (dv 6) AD) (Ag _)))))) (AJ (Ab (Ar (AC BJ (AC (dv 5) AS))))) Al)
 (AJ (A9 (Ad Jl O_ (Am Do Fj (dv 7) (AW AL Ao (dv 1) AD)) (Am Do Fj (AW AL Ao (dv 6) AD) (AW AL Ao (dv 1) AD)) (Ag _)) (AJ (Ab (Ar (AC BJ (AC (dv 5) AS))))) Al)))))
 (AJ (Ab Bj))))))) Tx
theorem kx:Ai ["_law_feed_here","_law_net_here","_law_times_here","_law_thin","_law_way","_law_more"] ["_law_feed_here","_law_net_here","_law_times_here"] (AH Cm):=by walk_at "s"
theorem Gz(T:Txt K mg)(b:Bc P w K mg base)(d:Fk P w K mg base)(F:Fu K "_law_some_thin" Cm f fd):BD P w K mg base CL 3 f fd ["_law_feed_here","_law_net_here","_law_times_here"] (Di K .sh NU 3) :=
 F_ F kx (λa=>(AG (An (i:=3) kx.nd rfl (da rfl) (cg a d (AA (AN (dv 1)) (AA (AN (dv 2)) AK))))
 (AG (An (i:=4) kx.nd rfl (TW rfl) (cg a b (AA (A5 0) (AA (AN AD) AK))))
 (AG (A9 (Ad CB De (dv 4) AD (Ag _)) (AJ (Ab (Ar (AC (AW AL Ao (dv 1) AD) (AC (Bs Bb Cz rfl T.Gab gY (AM (Ks [("_law_feed_here":Str),("_law_tie":Str)] [some 0,none] (BS (AW AL Ao (dv 1) AD)) (Ah (i:=1) (show dQ [("_law_feed_here":Str),("_law_tie":Str)] by decide +kernel) rfl (TW rfl)) (Dt (Ad Jl O_ (cg a b (AA (A5 0) (AA (AN AD) AK))) AD (Ag _))) (dv 1) (by kernel_rfl)) AV)) AS))))) Al)
 (AG (U7 (i:=5) kx.nd rfl (TW rfl) rfl [("_law_thin":Str),("_law_feed_here":Str),("_law_tie":Str)] [some 3,some 0,none] (BS (AW AL Ao (dv 1) AD)) (λ_ _ _ _ _=>(Ah (i:=2) (show dQ [("_law_thin":Str),("_law_feed_here":Str),("_law_tie":Str)] by decide +kernel) rfl (TW rfl))) (λ_ _ _ _ _=>(Dt (DTW.dt (Ba (Ad (C5 a) C1 (dv 2) (AW AL Ao (dv 0) AD) (by with_unfolding_all rfl)) (Bo (Ad CB De (cg a b (AA (A5 1) (AA (AN AD) AK))) AD (Ag _))))))) (λ_ _ _ _ _=>(dv 2)) (by kernel_rfl))
 (AG (A9 (DTW.dt (Gc (Ad CB De (dv 4) AD (Ag _)) (Fx (Ad (YM a) aQ (Kr 5) (Bp AS) (Ag _))))) (AJ (WO (i:=5) (pv 5) (cg a b (AA (A5 0) (AA (AN (Ae As Bu rfl T.Gac PySem.boot_len (AM (Kr 5) AV))) AK))))) Al)
 (AJ (Ab (Ar (AC (AW AL Ao (dv 1) AD) (AC (Bs Bb Cz rfl T.Gab gY (AM (Kr 5) AV)) AS))))))))))) GU
theorem kz:Ai ["_law_e","_law_strange"] ["_law_e"] (AH DJ):=by walk_at "s"
theorem Ib(T:Txt K mg)(F:Fu K "_law_refusal" DJ f fd):L7 P w K mg base 1 f fd ["_law_e"] (Di K .sh NV 1):=by
 obtain⟨C_NoLine,U_NoLine,h,j⟩:=T.x_NoLine;obtain⟨C_NoPaper,U_NoPaper,a,b⟩:=T.x_NoPaper;obtain⟨C_NoPlace,U_NoPlace,c,d⟩:=T.x_NoPlace;obtain⟨C_NoRow,U_NoRow,k,l⟩:=T.x_NoRow;obtain⟨C_NoTie,U_NoTie,m,o⟩:=T.x_NoTie;obtain⟨C_TooMany,U_TooMany,e,g⟩:=T.x_TooMany;obtain⟨C_Twice,U_Twice,p,q⟩:=T.x_Twice;exact bd F kz (by decide) (λt A r s H E v x=>(AG (An (i:=1) kz.nd rfl (TW rfl) (WW (i:=0) (F1 (by decide) h rfl j (F1 (by decide) c rfl d (F1 (by decide) k rfl l (F1 (by decide) m rfl o (F1 (by decide) e rfl g (F1 (by decide) p rfl q Yv)))))) (by decide) rfl T.Gaa))
 (AG (A9 (DTW.dt (Ba (A2 (dv 1)) (Ba (BH (A2 (Ym (i:=0) (by decide) a rfl b rfl T.Gaa))) (Bo (BH (A2 (WY (i:=0) rfl T.Gak rfl T.Gaa))))))) (AJ (Ab (Ar (AC BJ (AC AD AS))))) Al)
 (AJ (Ab (Ar (AC (XU (i:=0) (by decide)) (AC (XU (i:=0) (by decide)) AS)))))))) (λy n z B u=>Tv u)
theorem k4:Ai ["_law_thin","_law_one","_law_other","_law_known","_law_way","_law_ahead"] ["_law_thin","_law_one","_law_other"] (AH DK):=by walk_at "s"
theorem Ic(T:Txt K mg)(g:Et P w K mg base)(e:EG P w K mg base)(F:Fu K "_law_own_way" DK f fd):BD P w K mg base CL 2 f fd ["_law_thin","_law_one","_law_other"] (Di K .sh Kp 3) :=
 F_ F k4 (λb=>(AG (An (i:=3) k4.nd rfl (da rfl) (Yn (cg b g (AA (XW (AW AL Ao (dv 0) AD)) (AA (AN (dv 1)) AK)))))
 (AG (Dr (i:=4) k4.nd rfl (da rfl) (Bp (AC (dv 2) AS)))
 (AG (Ol dZ (DTW.dt (Gc (Ad F7 LF (AW AL Ao (Kr 4) (CK AD)) (dv 1) (Ag _)) (Fx (Ad (UW b) Xb (AW AL Ao (Kr 4) (CK AD)) (dv 3) (by with_unfolding_all rfl))))) (AG (M_ (i:=5) k4.nd rfl (TW rfl) rfl [("_law_thin":Str),("_law_way":Str),("_law_here":Str)] [some 0,some 4,none] (DI.c (WT (dv 3))) (λ_ _ _ _ _=>(Ah (i:=2) (show dQ [("_law_thin":Str),("_law_way":Str),("_law_here":Str)] by decide +kernel) rfl (TW rfl))) (λ_ _ _ _ _=>(Dt (Ad Qu VQ (cg b e (AA (AN (dv 0)) (AA (AN (Ar (AC (dv 2) (AC (AW AL Ao (Kr 1) (CK AD)) AS)))) AK))) Bj (Ag _)))) (λ_ _ _ _ _=>(dv 2)) (by kernel_rfl))
 (AG (M_ (i:=5) k4.nd rfl (TW rfl) rfl [("_law_known":Str),("_law_thin":Str),("_law_way":Str),("_law_here":Str)] [some 3,some 0,some 4,none] (BS (dv 5)) (λ_ _ _ _ _=>(Ah (i:=3) (show dQ [("_law_known":Str),("_law_thin":Str),("_law_way":Str),("_law_here":Str)] by decide +kernel) rfl (TW rfl))) (λ_ _ _ _ _=>(Dt (Ad CB De (Am Ak Ap (Fz b (dv 0) (dv 3)) (cg b e (AA (AN (dv 1)) (AA (AN (Ar (AC (dv 3) (AC (AW AL Ao (Kr 2) (CK AD)) AS)))) AK)))) (Fz b (dv 0) (AW AL Ao (Kr 2) (CK AD))) (Ag _)))) (λ_ _ _ _ _=>(dv 3)) (by kernel_rfl))
 (AJ (Om 4 PySem.F.plainAttrs_list PySem.F.slot_list_append PySem.F.type_list_append DC PC (pv 4) (AC (AW AL Ao (dv 5) AD) AS))))))
 (AJ (Ab (Lq (Ad CB De (AW AL Ao (Kr 4) (CK AD)) (dv 1) (Ag _)) (Bs Bb Cz rfl T.Gab gY (AM (NC (Kr 4) (CK AD)) AV)) (Ar (AC (dv 1) (AC (dv 2) AS)))))))))) Tw
theorem k6:Ai ["_law_net_here","_law_times_here","_law_thin","_law_paper","_law_found","_law_stays","_law_due","_law_e"] ["_law_net_here","_law_times_here","_law_thin","_law_paper"] (AH El):=by walk_at "s"
theorem K4(T:Txt K mg)(g:Fl P w K mg base)(j:E4 P w K mg base)(GR_lets_ways:IL P w K mg base)(F:Fu K "_law_asked" El f fd):BD P w K mg base CL 7 f fd ["_law_net_here","_law_times_here","_law_thin","_law_paper"] (Di K .sh EH 4):=by
 obtain⟨C_ThinError,b,c,d⟩:=T.x_ThinError;exact F_ F k6 (λe=>(AG (An (i:=4) k6.nd rfl (TW rfl) Bj)
 (AG (An (i:=5) k6.nd rfl (TW rfl) (Ae (CV e) Fi rfl T.Gaf gp (AM (Ar (AC (dv 0) (AC (dv 2) (AC (dv 3) AS)))) AV)))
 (AG (Yi rfl rfl (λ_ _ h=>h) (U4 (WL (i:=4) k6.nd rfl (TW rfl) (U9 GR_lets_ways (e.mono (by decide)) rfl (AA (AN (dv 0)) (AA (AN (dv 1)) (AA (AN (dv 2)) (AA (AN (dv 3)) AK)))))))
 (WU (i:=7) k6.nd rfl rfl rfl c d (TW ⟨rfl,b⟩) rfl rfl (λa=>(AJ (An (i:=4) k6.nd rfl (TW rfl) (VE (a:=a) 7 rfl g ((e.held (some (.ref a))).mono (by decide)) rfl (AA (aO 7) AK)))))
 Yl))
 (AG (An (i:=6) k6.nd rfl (TW rfl) (cg e j (AA (AN (dv 0)) (AA (AN (dv 1)) (AA (AN (dv 2)) (AA (AN (dv 3)) AK))))))
 (AJ (Ab (EB (CF CB De (Ae (CV e) Fi rfl T.Gaf gp (AM (dv 4) AV)) (Ae (CV e) Fi rfl T.Gaf gp (AM (Lq (Ad Jk O9 (dv 6) Bj (Ag _)) Bt (dv 6)) AV)) (Ag _)) (Gd (CF CB De (Ae (CV e) Fi rfl T.Gaf gp (AM (Ar (AC (dv 0) (AC (dv 2) (AC (dv 3) AS)))) AV)) (dv 5) (Ag _))))))))))) Tz
theorem k9:Ai ["_law_feed_here","_law_net_here","_law_paper","_law_at","_law_way","_law_more","_law_other","_law_some"] ["_law_feed_here","_law_net_here","_law_paper"] (AH CY):=by walk_at "s"
theorem GW(T:Txt K mg)(c:Fp P w K mg base)(b:Bc P w K mg base)(F:Fu K "_law_paper_bent" CY f fd):BD P w K mg base CL 8 f fd ["_law_feed_here","_law_net_here","_law_paper"] (Di K .sh RQ 3) :=
 F_ F k9 (λa=>(AG (A9 (DTW.dt (Ba (Ad (Mb a) RM (dv 2) (Ar AS) (Ag _)) (Bo (Ad CB De (cg a b (AA (A5 0) (AA (AN AD) AK))) AD (Ag _))))) (AJ (Ab (cg a c (AA (A5 0) (AA (AN (dv 2)) (AA (AN AD) AK)))))) Al)
 (AG (An (i:=3) k9.nd rfl (TW rfl) (cg a b (AA (A5 0) (AA (AN (Ae As Bu rfl T.Gac PySem.boot_len (AM (dv 2) AV))) AK))))
 (AG (An (i:=4) k9.nd rfl (TW rfl) (AW AL Ao (dv 2) (dv 3)))
 (AG (An (i:=5) k9.nd rfl (TW rfl) (Bp (AC (NC (dv 4) (CK AD)) (AC (Am Ak Ap (Bq Cf Br (dv 4) BC (Ax AD)) (dv 4)) (AC (Am Ak Ap (dv 4) (Bq Cf Br (dv 4) (Ax (CK AD)) BC)) (AC (Bq Cf Br (dv 4) BC (Ax (CK AD))) (AC (Bq Cf Br (dv 4) (Ax AD) BC) (AC (Bs Es RK rfl T.Gae boot_list (AM (dv 4) AV)) (AC (Ar (AC (AW AL Ao (dv 4) AD) (AC (AW AL Ao (dv 4) (CK AD)) AS))) (AC Bj (AC (Ar AS) AS)))))))))))
 (AG (An (i:=5) k9.nd rfl (TW rfl) (Am Ak Ap (dv 5) (Bp (AC (AW AL Ao (dv 2) (cg a b (AA (A5 0) (AA (AN (Ae As Bu rfl T.Gac PySem.boot_len (AM (dv 2) AV))) AK)))) (AC (Am Ak Ap (Am Ak Ap (Bq Cf Br (dv 4) BC (Ax AD)) (Ar (AC (AW AL Ao (AW AL Ao (dv 1) AD) (cg a b (AA (A5 0) (AA (AN (Ae As Bu rfl T.Gac PySem.boot_len (AM (AW AL Ao (dv 1) AD) AV))) AK)))) AS))) (Bq Cf Br (dv 4) (Ax AD) BC)) AS)))))
 (AG (An (i:=6) k9.nd rfl (TW rfl) (AW AL Ao (dv 5) (cg a b (AA (A5 0) (AA (AN (Ae As Bu rfl T.Gac PySem.boot_len (AM (dv 5) AV))) AK)))))
 (AG (An (i:=7) k9.nd rfl (TW rfl) (Bp (AC (Am Ak Ap (Am Ak Ap (Bq Cf Br (dv 2) BC (Ax (dv 3))) (Ar (AC (dv 6) AS))) (Bq Cf Br (dv 2) (Ax (Am Ak Ap (dv 3) AD)) BC)) (AC (Am Ak Ap (Bq Cf Br (dv 2) BC (Ax (dv 3))) (Bq Cf Br (dv 2) (Ax (Am Ak Ap (dv 3) AD)) BC)) (AC (Am Ak Ap (dv 2) (Ar (AC (dv 4) AS))) (AC (NC (dv 2) (CK AD)) AS))))))
 (AJ (Ab (AW AL Ao (dv 7) (AW AL Ao (Bp (AC AD (AC AD (AC AD (AC AD (AC AD (AC AD (AC AD AS)))))))) (cg a b (AA (A5 0) (AA (AN AD) AK))))))))))))))) Vj
end
section
variable {P:Program}{w:World}{K:Frag}{mg:Str->Option Value}{base:Heap}
theorem ML:Ai ["_law_script"] ["_law_script"] (AH FL):=by constructor <;> first | rfl | decide +kernel
theorem Ml{f:Ch}{fd:dU}(T:Txt K mg)(F:Fun K "_law_feed" "_law_feed" FL f fd):BD P w K mg base CL 1 f fd ["_law_script"] (ME K):=by
 refine F.ok ML (λi H Q E h=>?_) (λj A d s H i Q E n h=>?_)
 ·obtain⟨a,k,rfl,_⟩:=h
  rfl
 ·obtain⟨a,k,rfl,⟨l,m⟩,q⟩:=h
  refine⟨_,Cb (GV (Pu (BB (LU Es rfl T.Gae boot_list (BB (N5 sl_list (pv 0) Qo (Qn A_)) B0)) (BB A_ (BB A_ B0))))),?_⟩;refine⟨_,rfl,63,rfl,a,_,rfl,m,λp o=>⟨p,_,rfl,.inl (SqL.of AX),λc r=>⟨by show 3<=sizeLine; decide,λg e=>?_⟩⟩⟩;rw [aP l] at e ⊢;have b:c≠g:=λz=>by rw [← z,AX] at e; cases e
  exact q c g _ b (by rw [AQ b,AX]) AX
theorem k_:Ai ["_law_script","_law_feed_here","_law_net_here","_law_times_here","_law_k","_law_thin","_law_left","_law_paper","_law_turn","_law_bent_here","_law_odd_here"] ["_law_script"] (AH Jb):=by walk_at "s"
theorem YQ{f g:Ch}{fd d:dU}(T:Txt K mg)(k:BD P w K mg base CL 1 g d ["_law_script"] (ME K))(l:mg "_law_feed"=some (.ref g))(m:keepIn K (.ref g)=true)(n:Binds K d ["_law_script"] [])
  (e:HE P w K mg base) (j:Fp P w K mg base) (o:CQ P w K mg base) (p:Ko P w K mg base) (q:Bc P w K mg base) (r:Fn P w K mg base) (t:Dw P w K mg base) (u:Ee P w K mg base) (v:HD P w K mg base) (F:Fun K "law" "law" Jb f fd):BD P w K mg base CL 9 f fd ["_law_script"] (Nn K):=by
 exact aF (n0:=3000) F k_ rfl (by decide) (λh A c s H E b=>FO (i:=1) k_.nd rfl (TW rfl) (Qr k (b.mono (by decide)) rfl l m n .nil XB (BB (pv 0) B0)))
  (λh A c s H E b=>(AG (An (i:=2) k_.nd rfl (TW rfl) (cg b p (AA (A5 1) (AA (AN AD) (AA (AN AD) AK)))))
 (AG (An (i:=3) k_.nd rfl (TW rfl) (cg b v (AA (A5 1) AK)))
 (AG (DX dZ rfl (CU rfl T.Gad (AM AD AV)) (Ah (i:=4) k_.nd rfl (TW rfl)) (AG (An (i:=5) k_.nd rfl (da rfl) (cg b u (AA (A5 1) (AA (AN (dv 2)) (AA (AN (dv 3)) AK)))))
 (AG (An (i:=6) k_.nd rfl (TW rfl) (cg b o (AA (AN (Ks [("_law_thin":Str),("_law_tie":Str)] [some 5,none] (BS (AW AL Ao (dv 2) AD)) (Ah (i:=1) (show dQ [("_law_thin":Str),("_law_tie":Str)] by decide +kernel) rfl (TW rfl)) (Dt (Ad (EN b) C1 (dv 1) (AW AL Ao (dv 0) AD) (by with_unfolding_all rfl))) (dv 1) (by kernel_rfl))) AK)))
 (AG (An (i:=7) k_.nd rfl (TW rfl) (Bs Bb Cz rfl T.Gab gY (AM (Ks [("_law_thin":Str),("_law_tie":Str)] [some 5,none] (BS (dv 6)) (Ah (i:=1) (show dQ [("_law_thin":Str),("_law_tie":Str)] by decide +kernel) rfl (TW rfl)) Bh (cg b r (AA (AN (dv 0)) (AA (AN (AW AL Ao (dv 1) AD)) (AA (AN (AW AL Ao (dv 1) AD)) AK)))) (by kernel_rfl)) AV)))
 (AG (A9 (BH (A2 (cg b e (AA (AN (dv 2)) (AA (AN (dv 3)) (AA (AN (dv 5)) (AA (AN (dv 7)) AK))))))) (AJ (Ab Bt)) Al)
 (AJ (DX dZ rfl (CU rfl T.Gad (AM AD AV)) (Ah (i:=8) k_.nd rfl (TW rfl)) (AG (An (i:=9) k_.nd rfl (TW rfl) (cg b t (AA (A5 1) (AA (AN (dv 2)) (AA (AN (dv 7)) AK)))))
 (AG (A9 (Ad CB De (cg b q (AA (A5 1) (AA (AN AD) AK))) AD (Ag _)) (AJ (An (i:=9) k_.nd rfl (TW rfl) (cg b j (AA (A5 1) (AA (AN (dv 9)) (AA (AN AD) AK)))))) Al)
 (AG (A9 (BH (A2 (cg b e (AA (AN (dv 2)) (AA (AN (dv 3)) (AA (AN (dv 5)) (AA (AN (dv 9)) AK))))))) (AJ (Ab Bt)) Al)
 (AJ (A9 (BH (A2 (cg b e (AA (AN (dv 2)) (AA (AN (dv 3)) (AA (AN (cg b j (AA (A5 1) (AA (AN (dv 5)) (AA (AN AD) AK))))) (AA (AN (dv 7)) AK))))))) (AJ (Ab Bt)) Al))))))))))))
 (AG (DX dZ rfl (QF (Bp (AC Bj (AC Bt (AC (Ar AS) (AC (Bp AS) (AC AD (AC (Ar (AC (Ar AS) AS)) (AC (Ar (AC Bj AS)) (AC (dv 2) AS)))))))))) (Ah (i:=10) k_.nd rfl (TW rfl)) (AJ (A9 (DTW.dt (Ba (BH (A2 (cg b e (AA (AN (dv 2)) (AA (AN (dv 3)) (AA (AN (dv 10)) (AA (AN (Ar AS)) AK))))))) (Bo (BH (A2 (cg b e (AA (AN (dv 2)) (AA (AN (dv 3)) (AA (AN (dv 2)) (AA (AN (dv 10)) AK)))))))))) (AJ (Ab Bt)) Al)))
 (AJ (Ab Bt))))))) Pg
end
theorem K8{d:Type}{n:Nat}(g k:List Cn->d)(b:List Cn)(h:b.length=n+1)(c:∀(a:Cn) (r:List Cn),r.length=n->g (a::r)=k (a::r)):g b=k b:=by
 cases b with
 | nil=>cases h
 | cons a r=>exact c a r (jy h)
theorem len0{d:Type}(g k:List Cn->d)(b:List Cn)(h:b.length=0)(c:g []=k []):g b=k b:=by
 cases b with
 | nil=>exact c
 | cons a r=>cases h
theorem cB{d:dU}{b:List Str}(c:∀a:Cn,bindArgs d ⟨[a],[]⟩=pure (b.zip [a]))(e:List Cn)(h:e.length=1):bindArgs d ⟨e,[]⟩=pure (b.zip e):=K8 (λr=>bindArgs d ⟨r,[]⟩) (λr=>pure (b.zip (r))) e h λa r h=>len0 (λr=>bindArgs d ⟨a::r,[]⟩) (λr=>pure (b.zip (a::r))) r h (c a)
theorem cX{d:dU}{e:List Str}(c:∀a b:Cn,bindArgs d ⟨[a,b],[]⟩=pure (e.zip [a,b]))(f:List Cn)(h:f.length=2):bindArgs d ⟨f,[]⟩=pure (e.zip f):=K8 (λr=>bindArgs d ⟨r,[]⟩) (λr=>pure (e.zip (r))) f h λa r h=>K8 (λr=>bindArgs d ⟨a::r,[]⟩) (λr=>pure (e.zip (a::r))) r h λb r h=>len0 (λr=>bindArgs d ⟨a::b::r,[]⟩) (λr=>pure (e.zip (a::b::r))) r h (c a b)
theorem bn{d:dU}{e:List Str}(c:∀a b f:Cn,bindArgs d ⟨[a,b,f],[]⟩=pure (e.zip [a,b,f]))(g:List Cn)(h:g.length=3):bindArgs d ⟨g,[]⟩=pure (e.zip g):=K8 (λr=>bindArgs d ⟨r,[]⟩) (λr=>pure (e.zip (r))) g h λa r h=>K8 (λr=>bindArgs d ⟨a::r,[]⟩) (λr=>pure (e.zip (a::r))) r h λb r h=>K8 (λr=>bindArgs d ⟨a::b::r,[]⟩) (λr=>pure (e.zip (a::b::r))) r h λf r h=>len0 (λr=>bindArgs d ⟨a::b::f::r,[]⟩) (λr=>pure (e.zip (a::b::f::r))) r h (c a b f)
theorem cW{d:dU}{f:List Str}(c:∀a b e g:Cn,bindArgs d ⟨[a,b,e,g],[]⟩=pure (f.zip [a,b,e,g]))(i:List Cn)(h:i.length=4):bindArgs d ⟨i,[]⟩=pure (f.zip i):=K8 (λr=>bindArgs d ⟨r,[]⟩) (λr=>pure (f.zip (r))) i h λa r h=>K8 (λr=>bindArgs d ⟨a::r,[]⟩) (λr=>pure (f.zip (a::r))) r h λb r h=>K8 (λr=>bindArgs d ⟨a::b::r,[]⟩) (λr=>pure (f.zip (a::b::r))) r h λe r h=>K8 (λr=>bindArgs d ⟨a::b::e::r,[]⟩) (λr=>pure (f.zip (a::b::e::r))) r h λg r h=>len0 (λr=>bindArgs d ⟨a::b::e::g::r,[]⟩) (λr=>pure (f.zip (a::b::e::g::r))) r h (c a b e g)
def Ht(K:Frag)(x:Str)(a:dE):Prop:=∃(f:Ch) (c:Cn) (d e:Option Ch) (g:Array (Option Cn)) (kV h i b j:Cn),nsIn K mainGlobals x=some (some (.ref f))/\K.lookup f=some ⟨c,d,.func (fnOf x x (CP a) (BX a) (AH a) .none kV h i e b j),g⟩/\codeIn K b x=true/\keepIn K (.ref f)=true
def Hn(K:Frag)(x:Str):Prop:=nsIn K mainGlobals x=some none
theorem Ht.mk{K:Frag}{x:Str}{b:dE}{f:Ch}{e:Cn}{g h:Option Ch}{i:Array (Option Cn)}{kV j m d n:Cn}(a:nsIn K mainGlobals x=some (some (.ref f)))(l:K.lookup f=some ⟨e,g,.func (fnOf x x (CP b) (BX b) (AH b) .none kV j m h d n),i⟩)(c:codeIn K d x=true)(k:keepIn K (.ref f)=true):Ht K x b:=⟨f,e,g,h,i,kV,j,m,d,n,a,l,c,k⟩
theorem Hn.mk{K:Frag}{x:Str}(a:nsIn K mainGlobals x=some none):Hn K x:=a
section
variable {P:Program}{w:World}{K:Frag}{mg:Str->Option Value}{h base:Heap}{x:Str}{st:Stmt}
theorem Ht.fn(X:K.In h)(G:h.Ns mainGlobals mg)(H:Ht K x st):∃f fd,mg x=some (.ref f)/\Fun K x x st f fd:=by
 obtain⟨f,b,d,e,g,i,j,m,n,o,a,l,c,k⟩:=H;exact⟨f,_,mg_of X G a,Mx (st:=st) l c k⟩
theorem Ht.got{k:Nat}{a:List Str}{g:Kd}{W:W2}(X:K.In h)(G:h.Ns mainGlobals mg)(H:Ht K x st)(j:∀i n P,W i n P->i.length=a.length)
  (l:∀(kV c o:Cn) (p:Option Ch) (d q:Cn) (e:List Cn),e.length=a.length->bindArgs (fnOf x x (CP st) (BX st) (AH st) .none kV c o p d q) ⟨e,[]⟩=pure (a.zip e))
  (ok:∀{f:Ch} {fd:dU},Fun K x x st f fd->mg x=some (.ref f)->Binds K fd a []->BD P w K mg base CL k f fd a (Di K g W a.length)):Got P w K mg base x k a g W:=by
 obtain⟨f,fd,m,F⟩:=H.fn X G;have b:=F.binds l;exact QC F m b j (ok F m b)
end
theorem xc_mk{K:Frag}{i q k:Str}{C U N l:Ch}{bs c sub a:List Cn}{m d:List Str}{n e f:Bool}{g b:Option Bool}{p h:Option Ch}{r s t v w x y z A B:Option Cn}(at_:nsIn K mainGlobals i=some (some (.ref C)))(j:nsIn K mainGlobals "ThinError"=some (some (.ref U)))
  (o:K.lookup C=some (excClassObj i q C N bs (.ref U::[.type "ValueError",.type "Exception",.type "BaseException",.type "object"]) true m sub n g p r s t v w "ValueError.__new__"))
  (u:K.lookup U=some (excClassObj "ThinError" k U l c [.type "ValueError",.type "Exception",.type "BaseException",.type "object"] f d a e b h x y z A B "ValueError.__new__"))
  (D:keepIn K (.ref C)=true) (E:PySem.W.findIn K (.ref C) "__getattribute__"=some (some (.builtin "BaseException.__getattribute__"))) (F:PySem.W.findIn K (.ref C) "__getattr__"=some none) (G:PySem.W.findIn K (.ref C) "__setattr__"=some (some (.builtin "object.__setattr__"))) (H:PySem.W.findIn K (.ref C) "__class__"=some (some (.builtin "object.__class__")))
  (I:PySem.W.findIn K (.ref C) "word"=some none) (J:PySem.W.findIn K (.ref C) "number"=some none) (L:PySem.W.findIn K (.ref C) "row"=some none):XC K i C U :=
 ⟨⟨q,N,bs,m,sub,n,g,p,r,s,t,v,w,o⟩,⟨k,l,c,d,a,e,b,h,x,y,z,A,B,f,u⟩,D,E,F,G,at_,j,H,I,J,L⟩
def H0(K:Frag)(a:Str):Prop:=∃C U,XC K a C U/\PySem.W.findIn K (.ref C) "__init__"=some (some (.builtin "ValueError.__init__"))
def H2(K:Frag)(d a:Str)(b:dE):Prop:=∃C U,XC K d C U/\∃(f:Ch) (e:Cn) (g h:Option Ch) (i:Array (Option Cn)) (kV j k c l:Cn),PySem.W.findIn K (.ref C) "__init__"=some (some (.ref f))/\PySem.W.typeIn K (.ref f)=some (.type "function")/\K.lookup f=some ⟨e,g,.func (fnOf "__init__" a (CP b) (BX b) (AH b) .none kV j k h c l),i⟩/\codeIn K c a=true/\keepIn K (.ref f)=true
theorem H0.mk{K:Frag}{a:Str}{C U:Ch}(c:XC K a C U)(i:PySem.W.findIn K (.ref C) "__init__"=some (some (.builtin "ValueError.__init__"))):H0 K a:=⟨C,U,c,i⟩
theorem H2.mk{K:Frag}{e a:Str}{b:dE}{C U f:Ch}{g:Cn}{h j:Option Ch}{m:Array (Option Cn)}{kV n o d p:Cn}(c:XC K e C U)(i:PySem.W.findIn K (.ref C) "__init__"=some (some (.ref f)))(ty:PySem.W.typeIn K (.ref f)=some (.type "function"))
  (l:K.lookup f=some ⟨g,h,.func (fnOf "__init__" a (CP b) (BX b) (AH b) .none kV n o j d p),m⟩) (q:codeIn K d a=true) (k:keepIn K (.ref f)=true):H2 K e a b:=⟨C,U,c,f,g,h,j,m,kV,n,o,d,p,i,ty,l,q,k⟩
section
variable {P:Program}{w:World}{K:Frag}{mg:Str->Option Value}{h base:Heap}{x:Str}{st:Stmt}
theorem H0.xm{a:Str}(X:K.In h)(G:h.Ns mainGlobals mg)(H:H0 K a):∃C U,XC K a C U/\mg a=some (.ref C):=let ⟨C,U,c,_⟩:=H; ⟨C,U,c,mg_of X G c.at_⟩
theorem H2.xm{b a:Str}(X:K.In h)(G:h.Ns mainGlobals mg)(H:H2 K b a st):∃C U,XC K b C U/\mg b=some (.ref C):=let ⟨C,U,c,_⟩:=H; ⟨C,U,c,mg_of X G c.at_⟩
theorem H2.u{b a:Str}(X:K.In h)(G:h.Ns mainGlobals mg)(H:H2 K b a st):∃U,ZO K U/\mg "ThinError"=some (.ref U)/\nsIn K mainGlobals "ThinError"=some (some (.ref U)):=let ⟨C,U,c,_⟩:=H; ⟨U,c.isU,mg_of X G c.atU,c.atU⟩
theorem H0.g{a:Str}(X:K.In h)(G:h.Ns mainGlobals mg)(H:H0 K a):Ij P w K mg base a [] 1:=let ⟨C,U,c,i⟩:=H; ⟨C,U,c,mg_of X G c.at_,.inl ⟨rfl,i⟩⟩
theorem Ht.gotH{k:Nat}{a:List Str}{e:Kd}{W:W2}(X:K.In h)(G:h.Ns mainGlobals mg)(H:Ht K x st)(i:∀g n P,W g n P->g.length=a.length)
  (j:∀(kV b l:Cn) (o:Option Ch) (c p:Cn) (d:List Cn),d.length=a.length->bindArgs (fnOf x x (CP st) (BX st) (AH st) .none kV b l o c p) ⟨d,[]⟩=pure (a.zip d))
  (ok:∀{f:Ch} {fd:dU},Fun K x x st f fd->L7 P w K mg base k f fd a (Di K e W a.length)):ZC P w K mg base x k a e W:=by
 obtain⟨f,fd,m,F⟩:=H.fn X G;exact⟨f,fd,ok F,m,F.kp,F.binds j,i⟩
theorem Ht.gotR{k:Nat}{a:List Str}{e:Kd}{W:WX}(X:K.In h)(G:h.Ns mainGlobals mg)(H:Ht K x st)(i:∀g n P j,W g n P j->g.length=a.length)
  (l:∀(kV b o:Cn) (p:Option Ch) (c q:Cn) (d:List Cn),d.length=a.length->bindArgs (fnOf x x (CP st) (BX st) (AH st) .none kV b o p c q) ⟨d,[]⟩=pure (a.zip d))
  (ok:∀{f:Ch} {fd:dU},Fun K x x st f fd->BD P w K mg base (RX P w) k f fd a (am K e W a.length)):ZA P w K mg base x k a e W:=by
 obtain⟨f,fd,m,F⟩:=H.fn X G;exact⟨f,fd,ok F,m,F.kp,F.binds l,i⟩
end
theorem QB{P:cz}{w:dC}{K:Frag}{b:Str->Option Cn}{h a:cw}(X:K.In h)(G:h.Ns mainGlobals b)(H:H2 K "NoPaper" "NoPaper.__init__" B_):Ij P w K b a "NoPaper" ["word","number"] 1:=by
 obtain⟨C,U,c,f,e,g,j,m,n,o,p,q,r,i,ty,l,d,k⟩:=H;have F:=Mx (st:=B_) l d k;exact⟨C,U,c,mg_of X G c.at_,.inr ⟨_,_,f,_,_,_,_,rfl,i,ty,Ih c F,F.binds λ_ _ _ _ _ _=>bn λ_ _ _=>rfl⟩⟩
theorem Sd{P:cz}{w:dC}{K:Frag}{b:Str->Option Cn}{h a:cw}(X:K.In h)(G:h.Ns mainGlobals b)(H:H2 K "NoLine" "NoLine.__init__" CM):Ij P w K b a "NoLine" ["row","word"] 1:=by
 obtain⟨C,U,c,f,e,g,j,m,n,o,p,q,r,i,ty,l,d,k⟩:=H;have F:=Mx (st:=CM) l d k;exact⟨C,U,c,mg_of X G c.at_,.inr ⟨_,_,f,_,_,_,_,rfl,i,ty,Js c F,F.binds λ_ _ _ _ _ _=>bn λ_ _ _=>rfl⟩⟩
local macro_rules | `(tactic| walk_at "l")=>`(tactic| (intro _ _ _ h; repeat (first | (obtain⟨e,_⟩:=h; subst e; rfl) | (obtain⟨_,h⟩:=h))))
local macro_rules | `(tactic| walk_at "b")=>`(tactic| (intro _ _ _ _ _ _; first | exact cB λ_=>rfl | exact cX λ_ _=>rfl | exact bn λ_ _ _=>rfl | exact cW λ_ _ _ _=>rfl))
theorem all_mk{l:PySem.W.OpenLaw}{w:dC}{K:Frag}{h:cw}{d:Str->Option Cn}{fa:Ch}(X:K.In h)(G:h.Ns mainGlobals d)(j:d "law"=some (.ref fa))
  (h0:Ht K "is_whole" GQ) (h1:Ht K "is_tuple_of" Dx) (h2:Ht K "is_rising" FJ) (h3:Ht K "rank_of" HR) (h4:Ht K "order_of" GO) (h5:Ht K "steps_of" GN) (h6:Ht K "is_tie_of" FI) (h7:Ht K "is_thin" HS) (h8:Ht K "left_out" GP) (h9:Ht K "length_of" FG) (n:Ht K "length_between" Ck) (o:Ht K "is_within" FH) (p:Ht K "way_fault" FE) (q:Ht K "lets_ways" FF) (r:Ht K "_law_feed" FL) (t:Ht K "_law_next" Dl) (x:Ht K "_law_whole" Ei) (y:Ht K "_law_places" Dz) (z:Ht K "_law_length" D0) (A:Ht K "_law_net" GS) (B:Ht K "_law_times" Ej) (C:Ht K "_law_in_order" C4) (D:Ht K "_law_least" Ek) (E:Ht K "_law_thinned" DF) (H:Ht K "_law_odd" GR) (I:Ht K "_law_bent" FN) (J:Ht K "_law_is_name" DM) (L:Ht K "_law_is_tie" D1) (M:Ht K "_law_rise" FK) (N:Ht K "_law_is_net" D4) (O:Ht K "_law_is_thin" DL) (Q:Ht K "_law_walked" Dy) (R:Ht K "_law_ways_due" C3) (S:Ht K "_law_some_thin" Cm) (U:Ht K "_law_refusal" DJ) (V:Ht K "_law_own_way" DK) (Y:Ht K "_law_asked" El) (Z:Ht K "_law_paper_bent" CY) (a0:Ht K "law" Jb)
  (z0:Hn K "ValueError") (z1:Hn K "all") (z2:Hn K "bool") (z3:Hn K "enumerate") (z4:Hn K "int") (z5:Hn K "isinstance") (z6:Hn K "len") (z7:Hn K "list") (z8:Hn K "range") (z9:Hn K "repr") (a1:Hn K "sorted") (a2:Hn K "str") (a3:Hn K "tuple") (a4:Hn K "zip") 
  (y0:H2 K "NoPaper" "NoPaper.__init__" B_) (y1:H2 K "NoLine" "NoLine.__init__" CM) (y2:H0 K "TooMany") (y3:H0 K "Twice") (y4:H0 K "NoPlace") (y5:H0 K "NoTie") (y6:H0 K "NoRow")
  : ∃fd:dU,(∀(s:FM) (v:Cn),iX s fd ⟨[v],[]⟩ [("_law_script",v)])/\∀base:cw,K.In base->base.Ns mainGlobals d->BD l.prog w K d base CL 9 fa fd ["_law_script"] (Nn K):=by
 have T:Txt K d:=⟨mg_none_of X G z0,mg_none_of X G z1,mg_none_of X G z2,mg_none_of X G z3,mg_none_of X G z4,mg_none_of X G z5,mg_none_of X G z6,mg_none_of X G z7,mg_none_of X G z8,mg_none_of X G z9,mg_none_of X G a1,mg_none_of X G a2,mg_none_of X G a3,mg_none_of X G a4,y0.xm X G,y1.xm X G,y2.xm X G,y3.xm X G,y4.xm X G,y5.xm X G,y6.xm X G,y0.u X G⟩;obtain⟨ff,a5,mf,Ff⟩:=r.fn X G;have bf:=Ff.binds (ps:=["_law_script"]) λ_ _ _ _ _ _=>cB λ_=>rfl;obtain⟨f,oc,od,an,sl,kV,dc,pm,cd,ct,a,l',c,k⟩:=a0;have e:=j.symm.trans (mg_of X G a);cases e;refine⟨fnOf "law" "law" (CP Jb) (BX Jb) (AH Jb) .none kV dc pm an cd ct,λs v=>.of_eq rfl,λbase _ _=>?_⟩;have GX_NoPaper:Ij l.prog w K d base "NoPaper" ["word","number"] 1:=QB X G y0;have GX_NoLine:Ij l.prog w K d base "NoLine" ["row","word"] 1:=Sd X G y1;have GX_TooMany:Ij l.prog w K d base "TooMany" [] 1:=y2.g X G;have GX_Twice:Ij l.prog w K d base "Twice" [] 1:=y3.g X G;have GX_NoPlace:Ij l.prog w K d base "NoPlace" [] 1:=y4.g X G;have GX_NoTie:Ij l.prog w K d base "NoTie" [] 1:=y5.g X G;have GX_NoRow:Ij l.prog w K d base "NoRow" [] 1:=y6.g X G;have j4:Kl l.prog w K d base:=h0.got X G (λ_ _ _ h=>HY h) (by walk_at "b") λF m b=>OD T   F;have j7:ED l.prog w K d base:=h1.got X G (by walk_at "l") (by walk_at "b") λF m b=>Jm T   F;have j5:IQ l.prog w K d base:=h2.got X G (by walk_at "l") (by walk_at "b") λF m b=>Mi T   F;have j2:L1 l.prog w K d base:=h3.got X G (by walk_at "l") (by walk_at "b") λF m b=>Px T   F;have j8:Kj l.prog w K d base:=h4.got X G (by walk_at "l") (by walk_at "b") λF m b=>OB T j2  F;have j_:Ki l.prog w K d base:=h5.got X G (by walk_at "l") (by walk_at "b") λF m b=>OA F;have j6:IP l.prog w K d base:=h6.got X G (by walk_at "l") (by walk_at "b") λF m b=>Mh T j4  F;have kI:L3 l.prog w K d base:=h7.got X G (by walk_at "l") (by walk_at "b") λF m b=>Py T j5 j6 j7  F;have kJ:Kk l.prog w K d base:=h8.got X G (by walk_at "l") (by walk_at "b") λF m b=>OC T j8  F;have kC:IM l.prog w K d base:=h9.got X G (by walk_at "l") (by walk_at "b") λF m b=>Mf T j_  F;have kG:Ec l.prog w K d base:=n.got X G (by walk_at "l") (by walk_at "b") λF m b=>Gy T kC  F;have kF:IN l.prog w K d base:=o.got X G (by walk_at "l") (by walk_at "b") λF m b=>Mg T   F;have kL:IK l.prog w K d base:=p.got X G (by walk_at "l") (by walk_at "b") λF m b=>Md T kF kG  F;have GR_lets_ways:IL l.prog w K d base:=q.gotR X G (λ_ _ _ _ h=>by obtain⟨_,_,_,_,_,e,_⟩:=h; rw [e]; rfl) (by walk_at "b") λF=>Me T kI j7 kJ kL GX_NoPaper F;have Gf:=Ml (P:=l.prog) (w:=w) (base:=base) T Ff;have i:Bc l.prog w K d base:=t.got X G (by walk_at "l") (by walk_at "b") λF m b=>Vz F T.Gac;have kg:HC l.prog w K d base:=x.got X G (by walk_at "l") (by walk_at "b") λF m b=>Kz T   F;have kQ:GG l.prog w K d base:=y.got X G (by walk_at "l") (by walk_at "b") λF m b=>Jo T i  F;have kP:GH l.prog w K d base:=z.got X G (by walk_at "l") (by walk_at "b") λF m b=>Jp T i  F;have lB:Ko l.prog w K d base:=A.got X G (by walk_at "l") (by walk_at "b") λF m b=>OF T kP i kQ  F;have lF:HD l.prog w K d base:=B.got X G (by walk_at "l") (by walk_at "b") λF m b=>K0 T i  F;have kW:CQ l.prog w K d base:=C.got X G (by walk_at "l") (by walk_at "b") λF m b=>Hb T   F;have kX:Et l.prog w K d base:=D.got X G (by walk_at "l") (by walk_at "b") λF m b=>K3 T   F;have ky:Fk l.prog w K d base:=E.got X G (by walk_at "l") (by walk_at "b") λF m b=>IZ T kW kX  F;have kc:Km l.prog w K d base:=H.got X G (by walk_at "l") (by walk_at "b") λF m b=>OE T i  F;have kd:Fp l.prog w K d base:=I.got X G (by walk_at "l") (by walk_at "b") λF m b=>G0 T i kc F m b 4;have ke:Df l.prog w K d base:=J.got X G (λ_ _ _ h=>HY h) (by walk_at "b") λF m b=>Ig T   F;have kh:GI l.prog w K d base:=L.got X G (by walk_at "l") (by walk_at "b") λF m b=>Jq T ke kg  F;have ki:IR l.prog w K d base:=M.got X G (by walk_at "l") (by walk_at "b") λF m b=>Mj T   F;have km:GJ l.prog w K d base:=N.got X G (λ_ _ _ h=>HY h) (by walk_at "b") λF m b=>Jr T ke kh ki  F;have kr:Fo l.prog w K d base:=O.got X G (by walk_at "l") (by walk_at "b") λF m b=>Ie T km  F;have ku:EG l.prog w K d base:=Q.got X G (by walk_at "l") (by walk_at "b") λF m b=>Jn T   F;have k8:E4 l.prog w K d base:=R.got X G (by walk_at "l") (by walk_at "b") λF m b=>HZ T kW kr ku  F;have lE:Ee l.prog w K d base:=S.got X G (by walk_at "l") (by walk_at "b") λF m b=>Gz T i ky  F;have k7:Fl l.prog w K d base:=U.gotH X G (by walk_at "l") (by walk_at "b") λF=>Ib T   F;have lC:Fn l.prog w K d base:=V.got X G (by walk_at "l") (by walk_at "b") λF m b=>Ic T kX ku  F;have lA:HE l.prog w K d base:=Y.got X G (by walk_at "l") (by walk_at "b") λF m b=>K4 T k7 k8 GR_lets_ways  F;have lD:Dw l.prog w K d base:=Z.got X G (by walk_at "l") (by walk_at "b") λF m b=>GW T kd i  F;exact YQ T Gf mf Ff.kp bf lA kd kW lB i lC lD lE lF (Mx (st:=Jb) l' c k)
theorem walk{l:PySem.W.OpenLaw}{q:cz}{c:List Str}{m:(Str->Option Cn)->cw->Prop}{i:dC->cw->Prop}{d:DefRec}{K:Params->Frag}(o:l.most=some 63)(g:d.params.defaults=[])
  (p:∀(w:dC) (h:cw),i w h->(K w.params).In h)
  (F:∀(w:dC) (e:Str->Option Cn) (j:Ch) (h:cw),(K w.params).In h->h.Ns mainGlobals e->e d.name=some (.ref j) ->
   ∃fd:dU,(∀(s:FM) (u:Cn),iX s fd ⟨[u],[]⟩ [("_law_script",u)])/\∀b:cw,(K w.params).In b->b.Ns mainGlobals e->BD l.prog w (K w.params) e b CL 9 j fd ["_law_script"] (Nn (K w.params))) :
  PySem.W.WalkO q c m i l.row.toRowW d [] (λf r=>PySem.call f r) :=
 L2.QS (n:=63) (k:=9) (x := "_law_script") (CX:=λ_=>CL) (sp:=λw=>Nn (K w.params)) o (by decide) g ⟨rfl,by decide,by decide,rfl⟩ p F (λ_ _ a t v _ y=>⟨a,t,rfl,⟨v,y⟩,λ_=>rfl⟩) λ_ _ _ _ _ z=>z
end K14
end _p
namespace PySem.W.Fast
theorem tw4231753100146204136:True:=⟨⟩
theorem tw11027855337460458591:True:=⟨⟩
theorem tw6753096401212991360:True:=⟨⟩
theorem tw265300609754517369:True:=⟨⟩
theorem tw6177657577556961422:True:=⟨⟩
theorem tw15154331589473716226:True:=⟨⟩
theorem tw6170852287392513767:True:=⟨⟩
theorem tw3056582209037262463:True:=⟨⟩
theorem tw9839649929579020736:True:=⟨⟩
theorem tw5154801705660338491:True:=⟨⟩
theorem tw1311594562579065026:True:=⟨⟩
theorem tw12732406508782138509:True:=⟨⟩
theorem tw5338331070489429912:True:=⟨⟩
theorem tw12027329136132054428:True:=⟨⟩
theorem tw11117708805149995110:True:=⟨⟩
theorem tw11554188197036679956:True:=⟨⟩
theorem tw616731747926742892:True:=⟨⟩
theorem tw1968023929686470379:True:=⟨⟩
theorem tw15176164609458934343:True:=⟨⟩
theorem tw16262267348310684747:True:=⟨⟩
theorem tw11612743433834823246:True:=⟨⟩
theorem tw8904845710594094475:True:=⟨⟩
theorem tw12619420585013953634:True:=⟨⟩
theorem tw3112003496526516291:True:=⟨⟩
theorem tw10966982587091935691:True:=⟨⟩
theorem tw16228948685602489134:True:=⟨⟩
theorem tw7640822036224888243:True:=⟨⟩
theorem tw2869595660739267169:True:=⟨⟩
theorem tw7015907492271740179:True:=⟨⟩
theorem tw2795946464432715004:True:=⟨⟩
theorem tw14017859383124597299:True:=⟨⟩
theorem tw14876879166182077969:True:=⟨⟩
theorem tw7974246256331534465:True:=⟨⟩
theorem tw2161075416997060164:True:=⟨⟩
theorem tw15826156805768762481:True:=⟨⟩
theorem tw6067088754116439874:True:=⟨⟩
theorem tw7865410752604769553:True:=⟨⟩
theorem tw13326214797554690934:True:=⟨⟩
theorem tw2881176635766435920:True:=⟨⟩
theorem tw15204110369134870338:True:=⟨⟩
theorem tw5601346397435438024:True:=⟨⟩
theorem tw1517496598786304119:True:=⟨⟩
theorem tw3378402564727584984:True:=⟨⟩
theorem tw6019591242409921671:True:=⟨⟩
theorem tw1455019617379906620:True:=⟨⟩
theorem tw16107755473189417739:True:=⟨⟩
theorem tw9892508124808597419:True:=⟨⟩
theorem tw4259466964788960962:True:=⟨⟩
theorem tw10909258488748097557:True:=⟨⟩
theorem tw10989179676310669199:True:=⟨⟩
theorem tw2000681246283087988:True:=⟨⟩
theorem tw33240202852513114:True:=⟨⟩
theorem tw15945763827434065222:True:=⟨⟩
theorem tw7070880632892693770:True:=⟨⟩
theorem tw1702691443108184961:True:=⟨⟩
theorem tw2750458506687546865:True:=⟨⟩
theorem tw483608236262233807:True:=⟨⟩
theorem tw4535976586492505310:True:=⟨⟩
theorem tw16966296539235701350:True:=⟨⟩
theorem tw11144112565939634513:True:=⟨⟩
theorem tw11760925276017815172:True:=⟨⟩
theorem tw14653007873779227490:True:=⟨⟩
theorem tw13822737707928048183:True:=⟨⟩
theorem tw2671677245120831384:True:=⟨⟩
theorem tw16970050441617391572:True:=⟨⟩
theorem tw11914148448722629382:True:=⟨⟩
theorem tw12869957594163614573:True:=⟨⟩
theorem tw5161356866409008366:True:=⟨⟩
end PySem.W.Fast
open _p
open PySem.W
set_option maxRecDepth 100000 in
set_option maxHeartbeats 0 in
theorem PySem.Challenge.cw_thinnet_k14_papers_of_ways_bent_holds : PySem.Challenge.rw_thinnet_k14_papers_of_ways_bent.Holds := by
 w_on; o_law; k_head; (case hw=>w_witness2)
 k_fill
 refine K14.walk (l:=PySem.Challenge.rw_thinnet_k14_papers_of_ways_bent) rfl rfl (λw h Y=>PySem.W.kIn_of Y) ?F
 case F =>
  intro w mg fa h KX G hmg
  refine' K14.all_mk KX G hmg ?_ ?_ ?_ ?_ ?_ ?_ ?_ ?_ ?_ ?_ ?_ ?_ ?_ ?_ ?_ ?_ ?_ ?_ ?_ ?_ ?_ ?_ ?_ ?_ ?_ ?_ ?_ ?_ ?_ ?_ ?_ ?_ ?_ ?_ ?_ ?_ ?_ ?_ ?_ ?_ ?_ ?_ ?_ ?_ ?_ ?_ ?_ ?_ ?_ ?_ ?_ ?_ ?_ ?_ ?_ ?_ ?_ ?_ ?_ ?_
  all_goals first
   | (refine' K14.Ht.mk ?a ?l ?c ?k; (case a=>k_is); (case l=>k_is); (case c=>k_is); (case k=>k_is))
   | (refine' K14.Hi.mk ?a; (case a=>k_is))
   | (refine' K14.Hn.mk ?a; (case a=>k_is))
   | skip
  ·(refine' K14.H2.mk ?c ?i ?ty ?l ?cc ?k; (case c=>(refine' K14.xc_mk ?at_ ?atU ?o ?u ?kp ?ga ?gt ?sa ?ca ?nw ?nn ?nr; (case at_=>k_is); (case atU=>k_is); (case o=>k_is); (case u=>k_is); (case kp=>k_is); (case ga=>k_is); (case gt=>k_is); (case sa=>k_is); (case ca=>k_is); (case nw=>k_is); (case nn=>k_is); (case nr=>k_is))); (case i=>k_is); (case ty=>k_is); (case l=>k_is); (case cc=>k_is); (case k=>k_is))
  ·(refine' K14.H2.mk ?c ?i ?ty ?l ?cc ?k; (case c=>(refine' K14.xc_mk ?at_ ?atU ?o ?u ?kp ?ga ?gt ?sa ?ca ?nw ?nn ?nr; (case at_=>k_is); (case atU=>k_is); (case o=>k_is); (case u=>k_is); (case kp=>k_is); (case ga=>k_is); (case gt=>k_is); (case sa=>k_is); (case ca=>k_is); (case nw=>k_is); (case nn=>k_is); (case nr=>k_is))); (case i=>k_is); (case ty=>k_is); (case l=>k_is); (case cc=>k_is); (case k=>k_is))
  ·(refine' K14.H0.mk ?c ?i; (case c=>(refine' K14.xc_mk ?at_ ?atU ?o ?u ?kp ?ga ?gt ?sa ?ca ?nw ?nn ?nr; (case at_=>k_is); (case atU=>k_is); (case o=>k_is); (case u=>k_is); (case kp=>k_is); (case ga=>k_is); (case gt=>k_is); (case sa=>k_is); (case ca=>k_is); (case nw=>k_is); (case nn=>k_is); (case nr=>k_is))); (case i=>k_is))
  ·(refine' K14.H0.mk ?c ?i; (case c=>(refine' K14.xc_mk ?at_ ?atU ?o ?u ?kp ?ga ?gt ?sa ?ca ?nw ?nn ?nr; (case at_=>k_is); (case atU=>k_is); (case o=>k_is); (case u=>k_is); (case kp=>k_is); (case ga=>k_is); (case gt=>k_is); (case sa=>k_is); (case ca=>k_is); (case nw=>k_is); (case nn=>k_is); (case nr=>k_is))); (case i=>k_is))
  ·(refine' K14.H0.mk ?c ?i; (case c=>(refine' K14.xc_mk ?at_ ?atU ?o ?u ?kp ?ga ?gt ?sa ?ca ?nw ?nn ?nr; (case at_=>k_is); (case atU=>k_is); (case o=>k_is); (case u=>k_is); (case kp=>k_is); (case ga=>k_is); (case gt=>k_is); (case sa=>k_is); (case ca=>k_is); (case nw=>k_is); (case nn=>k_is); (case nr=>k_is))); (case i=>k_is))
  ·(refine' K14.H0.mk ?c ?i; (case c=>(refine' K14.xc_mk ?at_ ?atU ?o ?u ?kp ?ga ?gt ?sa ?ca ?nw ?nn ?nr; (case at_=>k_is); (case atU=>k_is); (case o=>k_is); (case u=>k_is); (case kp=>k_is); (case ga=>k_is); (case gt=>k_is); (case sa=>k_is); (case ca=>k_is); (case nw=>k_is); (case nn=>k_is); (case nr=>k_is))); (case i=>k_is))
  ·(refine' K14.H0.mk ?c ?i; (case c=>(refine' K14.xc_mk ?at_ ?atU ?o ?u ?kp ?ga ?gt ?sa ?ca ?nw ?nn ?nr; (case at_=>k_is); (case atU=>k_is); (case o=>k_is); (case u=>k_is); (case kp=>k_is); (case ga=>k_is); (case gt=>k_is); (case sa=>k_is); (case ca=>k_is); (case nw=>k_is); (case nn=>k_is); (case nr=>k_is))); (case i=>k_is))
#print axioms PySem.Challenge.cw_thinnet_k14_papers_of_ways_bent_holds
